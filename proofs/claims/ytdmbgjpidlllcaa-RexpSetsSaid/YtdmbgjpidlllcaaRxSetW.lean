/- RexpSets' walk. Conditions: the program's Parse answers parseT, in memory; the runes lie in memory. -/
import Derived.Test.YtdmbgjpidlllcaaRxParses
import Derived.Test.YtdmbgjpidlllcaaRxRis
import Derived.Test.YtdmbgjpidlllcaaRxWants
import Derived.Deep.CutBlock
namespace Go.Proofs.Ytdmbgjpidlllcaa.RxSetW
open Go Go.RowKit Words AppN Km Mo_ RxSpec RxTree RxEq RxMem RxPeek RxCln RxHas RxNode RxClean RxPost RxAll RxSize RxSmall RxText RxParse RxSame RxAwake RxLaw RxJoinP RxSetP RxRis RxMvd

theorem and511 (z : Int) (_h1 : -2147483648 ≤ z) (_h2 : z ≤ 2147483647) : bits .and .i32 z 511 = z % 512 := by
  have e1 : (BitVec.ofInt 32 z).toNat = (z % 4294967296).toNat := by rw [BitVec.toNat_ofInt]; rfl
  have e2 : (BitVec.ofInt 32 511).toNat = 2 ^ 9 - 1 := by decide
  show IntKind.i32.wrap ((BitVec.ofInt 32 z &&& BitVec.ofInt 32 511).toNat : Int) = _
  rw [BitVec.toNat_and, e1, e2, Nat.and_two_pow_sub_one_eq_mod, IntKind.wrap_i32]
  omega
theorem enc_small {r : Nat} (h : r < 2048) : (Utf8.encode (r : Int)).data.toList = UtSpec.enc r := by
  have hs : UtSpec.sc r := .inl (by omega)
  have hv : Utf8.valid (r : Int) = true := by rw [UtSpec.valid_okr]; exact UtSpec.sc_okr hs
  unfold Utf8.encode
  simp only [hv, if_true, Int.toNat_natCast]
  by_cases h8 : r < 128
  · rw [if_pos h8, UtSpec.enc_one h8 (UtSpec.toNat_ofNat (by omega))]
  · rw [if_neg h8, if_pos h, UtSpec.enc_two (by omega) h (UtSpec.toNat_ofNat (n := 192 + r / 64) (by omega)) (UtSpec.toNat_ofNat (n := 128 + r % 64) (by omega))]
/-- A rune of the class. -/
def X (z : Int) : Nat := 97 + (z % 512).toNat
theorem X_ge (z : Int) : 97 ≤ X z := by unfold X; omega
theorem X_le (z : Int) : X z ≤ 608 := by unfold X; omega
theorem X_int (z : Int) : ((X z : Nat) : Int) = 97 + z % 512 := by unfold X; omega
def xsT (rs : List Int) (i : Nat) : List Nat := (rs.take i).map X
theorem xsT_succ {rs : List Int} {i : Nat} (h : i < rs.length) : xsT rs (i + 1) = xsT rs i ++ [X rs[i]] := by
  unfold xsT
  rw [List.take_succ_eq_append_getElem h, List.map_append]
  rfl
theorem memT_app (a b : List Nat) : memT (a ++ b) = memT a ++ memT b := by simp [memT]
/-- The loop: the text so far, whether the rune was among them. -/
def LRel (W : World) (rs : List Int) (r : Int) (vs vh vi : Value) (wr : World) : Prop := ∃ (i : Nat) (st : ByteArray), i ≤ rs.length ∧ i ≤ 20 ∧ vi = .int .i64 (i : Int) ∧ vs = .string st ∧ Hid (st.data.toList = UtSpec.encs (memT (xsT rs i))) ∧ (∃ hb : Bool, vh = .bool hb ∧ Hid (hb = decide (r ∈ (xsT rs i).map fun (n : Nat) => (n : Int)))) ∧ Hid (Below W.heap.size W wr)
set_option maxHeartbeats 3200000 in
set_option maxRecDepth 100000 in
theorem sets_any (P : RexpC) (w : World) (A : Option Addr) (c : Nat) (rs : List Int) (r : Int) (hr : Rd w w.heap.size A (rs.map I32)) (_hc : rs.length ≤ c) (_hm : c ≤ maxLen) (hrs : ∀ z ∈ rs, -2147483648 ≤ z ∧ z ≤ 2147483647) (hr1 : -2147483648 ≤ r) (hr2 : r ≤ 2147483647) :
    Calls Try.prog 5 #[.slice A rs.length c, .int .i32 r] w fun e w' => e = .returned (.bool true) ∧ Below w.heap.size w w' := by
  have HAW := awake_any P
  have HR := Lib.hid hr
  have HRS := Lib.hid hrs
  unfold maxLen at _hm
  clear hr hrs
  go_enter Try.func5, Try.ntmps5
  go_wp2_with fail
  refine (HAW _).mono ?_
  rintro _ w1 ⟨rfl, hb1⟩
  have HB1 := Lib.hid hb1
  clear HAW hb1
  go_wp2_with fail
  go_loopw [5, 6, 7] (fun vs vh vi wr => LRel w1 rs r vs vh vi wr) (fun _ _ vi _ => rs.length - (intOf vi).toNat)
  case atStart => exact ⟨0, ⟨#[]⟩, Nat.zero_le _, Nat.zero_le _, rfl, rfl, Lib.hid rfl, ⟨false, rfl, Lib.hid rfl⟩, Lib.hid (Below.refl _ _)⟩
  case round =>
    obtain ⟨i, st, hi, hi20, rfl, rfl, HST, ⟨hb, rfl, HHB⟩, HBr⟩ := hrel
    by_cases hlt : i < rs.length ∧ i < 20
    case neg =>
      have hsz : st.size ≤ 40 := by
        have h1 := memT_len (xs := xsT rs i) (fun x hx => by unfold xsT at hx; obtain ⟨q, _, rfl⟩ := List.mem_map.1 hx; exact X_le q)
        rw [← HST.out] at h1
        have h2 : (xsT rs i).length ≤ i := by unfold xsT; simp; omega
        have h3 : st.data.toList.length = st.size := by simp
        omega
      have hin : i = rs.length ∨ (i = 20 ∧ i < rs.length) := by omega
      have HX1 : Hid ((⟨#[91]⟩ ++ st ++ ⟨#[93]⟩ : ByteArray).data.toList = 91 :: (UtSpec.encs (memT (xsT rs i)) ++ [93])) := Lib.hid (by rw [← HST.out]; simp [ByteArray.data_append])
      have HX2 : Hid ((⟨#[91, 94]⟩ ++ st ++ ⟨#[93]⟩ : ByteArray).data.toList = 91 :: 94 :: (UtSpec.encs (memT (xsT rs i)) ++ [93])) := Lib.hid (by rw [← HST.out]; simp [ByteArray.data_append])
      have HZ1 : Hid ((⟨#[91]⟩ ++ st ++ ⟨#[93]⟩ : ByteArray).size ≤ 9223372036854775807) := Lib.hid (by rw [ByteArray.size_append, ByteArray.size_append]; show 1 + st.size + 1 ≤ _; omega)
      have HZ2 : Hid ((⟨#[91, 94]⟩ ++ st ++ ⟨#[93]⟩ : ByteArray).size ≤ 9223372036854775807) := Lib.hid (by rw [ByteArray.size_append, ByteArray.size_append]; show 2 + st.size + 1 ≤ _; omega)
      have HLX : Hid (i = 0 ↔ rs.length = 0) := Lib.hid (by omega)
      have HXL : Hid ((xsT rs i).length ≤ 20) := Lib.hid (by unfold xsT; simp; omega)
      have HXN : Hid (0 < i → xsT rs i ≠ []) := Lib.hid (fun h e => by
        have h1 := congrArg List.length e
        have h2 : (xsT rs i).length = i := by unfold xsT; rw [List.length_map, List.length_take]; omega
        rw [h2] at h1
        simp at h1
        omega)
      have HXG : Hid (∀ x ∈ xsT rs i, 97 ≤ x) := Lib.hid (fun x hx => by unfold xsT at hx; obtain ⟨q, _, rfl⟩ := List.mem_map.1 hx; exact X_ge q)
      have HXH : Hid (∀ x ∈ xsT rs i, x ≤ 608) := Lib.hid (fun x hx => by unfold xsT at hx; obtain ⟨q, _, rfl⟩ := List.mem_map.1 hx; exact X_le q)
      have dd : (decide ((i : Int) < (rs.length : Int)) = false ∧ decide (i < rs.length) = false) ∨ (decide ((i : Int) < (rs.length : Int)) = true ∧ decide (i < rs.length) = true ∧ decide ((i : Int) < 20) = false ∧ decide (i < 20) = false) := by
        rcases hin with h | h
        · exact .inl ⟨decide_eq_false (by omega), decide_eq_false (by omega)⟩
        · exact .inr ⟨decide_eq_true (by omega), decide_eq_true (by omega), decide_eq_false (by omega), decide_eq_false (by omega)⟩
      clear hin hlt
      go_upto_region 6 with (fail)
      obtain ⟨wq, hwq⟩ : ∃ X, X = wr := ⟨wr, rfl⟩
      subst hwq
      go_cut [22] from 15 to 22 (fun s22 wx => s22 = .bool false ∧ wx = wq)
      case first =>
        rcases dd with ⟨d1, d1n⟩ | ⟨d1, d1n, d2, d2n⟩
        · go_wp2
          go_meet
          exact ⟨rfl, rfl⟩
        · go_wp2
          go_meet
          exact ⟨rfl, rfl⟩
      case rest =>
      obtain ⟨hc1, hc2⟩ := hcut
      have hc2 := hc2.symm
      subst hc1 hc2
      clear dd
      go_wp2_with fail
      refine (P _ _ HZ1.out).mono ?_
      rintro _ w2 ⟨A2, c2, ms, x, rfl, hp, hta, hb2⟩
      rw [HX1.out] at hp
      have HPA := Lib.hid hp
      have HTA := Lib.hid hta
      have HBb := Lib.hid (bt (bt HB1.out HBr.out) hb2)
      clear hp hta hb2
      go_wp2_with fail
      refine (P _ _ HZ2.out).mono ?_
      rintro _ w3 ⟨A3, c3, ns, y, rfl, hp, htb, hb3⟩
      rw [HX2.out] at hp
      have HPB := Lib.hid hp
      have HTB := Lib.hid htb
      have HTA3 : Hid (Tr w3 A2 c2 ms) := Lib.hid (HTA.out.up hb3)
      have HBc := Lib.hid (bt HBb.out hb3)
      clear HBb
      clear hp htb hb3 HTA HX1 HX2 HZ1 HZ2
      by_cases h0 : i = 0
      · have e1 := HPA.out
        have e2 := HPB.out
        have hxs : xsT rs i = [] := by rw [h0]; rfl
        rw [hxs] at e1 e2
        have t1 := e1.symm.trans (show parseT (91 :: (UtSpec.encs (memT []) ++ [93])) = (40, []) from text_class_none.1)
        have t2 := e2.symm.trans (show parseT (91 :: 94 :: (UtSpec.encs (memT []) ++ [93])) = (40, []) from text_class_none.2)
        injection t1 with t1 _
        injection t2 with t2 _
        subst t1 t2
        have d3 : ((rs.length : Int) == 0) = true := by rw [HLX.out.1 h0]; rfl
        rw [show ((40 : Nat) : Int) = 40 from rfl]
        clear e1 e2 hxs h0
        go_wp2
        go_ret
        exact ⟨rfl, HBc.out⟩
      · obtain ⟨t1, t2⟩ := text_class HXG.out HXH.out HXL.out (HXN.out (by omega))
        have e1 := HPA.out.symm.trans t1
        have e2 := HPB.out.symm.trans t2
        injection e1 with e1 n1
        injection e2 with e2 n2
        subst e1 e2
        have d3 : ((rs.length : Int) == 0) = false := beq_eq_false_iff_ne.2 (by have := HLX.out; omega)
        have hl1 : ms.length = 1 := by have := congrArg List.length n1; rw [nds_len] at this; simpa using this
        have hl2 : ns.length = 1 := by have := congrArg List.length n2; rw [nds_len] at this; simpa using this
        obtain ⟨k3, q3⟩ := nd_at n1 (k := 0) rfl
        obtain ⟨k4, q4⟩ := nd_at n2 (k := 0) rfl
        have HC1 := Lib.hid (clean_all (dbl (xsT rs i)) false)
        have HC2 := Lib.hid (clean_all (dbl (xsT rs i)) true)
        generalize clean (dbl (xsT rs i)) false = l1 at *
        generalize clean (dbl (xsT rs i)) true = l2 at *
        obtain ⟨C1, F1, R1⟩ := HC1.out
        obtain ⟨C2, F2, R2⟩ := HC2.out
        have HH1 : Hid (hasZ l1 r = hb) := Lib.hid (by
          rw [HHB.out, Bool.eq_iff_iff, hasZ_iff, C1]
          simp only [ne_eq, Bool.not_eq_false, decide_eq_true_eq]
          rw [has_dbl, List.mem_map]
          constructor
          · rintro ⟨h1, h2, h3⟩
            exact ⟨_, h3, by omega⟩
          · rintro ⟨n, h1, h2⟩
            have := HXH.out n h1
            subst h2
            exact ⟨by omega, by omega, by simpa using h1⟩)
        have HH2 : Hid (0 ≤ r → r ≤ 1114111 → hasZ l2 r = !hb) := Lib.hid (fun h0 h9 => by
          rw [HHB.out, Bool.eq_iff_iff, hasZ_iff, C2]
          simp only [ne_eq, Bool.not_eq_true, Bool.not_eq_true', decide_eq_false_iff_not]
          rw [← Bool.not_eq_true, has_dbl, List.mem_map]
          constructor
          · rintro ⟨h1, h2, h3⟩ ⟨n, h4, h5⟩
            subst h5
            exact h3 (by simpa using h4)
          · intro h1
            exact ⟨h0, by omega, fun h2 => h1 ⟨_, h2, by omega⟩⟩)
        obtain ⟨g1, o1, B1, b1, D1, e1, hA2, hg1, -, -, -, -, x4, -, -, s1, s2, -, r1, -, -, -⟩ := node_full HTA3.out k3 q3
        obtain ⟨g2, o2, B2, b2, D2, e2, hA3, hg2, -, -, -, -, y4, -, -, s3, s4, -, r2, -, -, -⟩ := node_full HTB.out k4 q4
        subst hA2 hA3
        simp only [Nat.zero_mul, Nat.add_zero, List.length_map] at x4 y4 s1 s3
        have hmm : ∀ l : List Nat, (l.map fun (n : Nat) => (n : Int)).map I32 = l.map R32 := fun l => by rw [List.map_map]; rfl
        simp only at r1 r2
        rw [hmm] at r1 r2
        have HAS1 := Lib.hid (has_any w3 D1 e1 l1 r r1 s1 s2 (by omega))
        have HAS2 := Lib.hid (has_any w3 D2 e2 l2 r r2 s3 s4 (by omega))
        have RS1 := Lib.hid (rising_any w3 D1 e1 l1 r1 s1 s2 F1)
        have RS2 := Lib.hid (fun (wz : World) (hz : Below w3.heap.size w3 wz) => rising_any wz D2 e2 l2 (rd_up r2 hz) s3 s4 F2)
        have HY4 := Lib.hid y4
        have HG2 := Lib.hid hg2
        rw [hl1, hl2, show ((0 : Nat) : Int) = 0 from rfl]
        clear hl1 hl2 k3 q3 k4 q4 HC1 HC2 C1 C2 F1 F2 R1 R2 r1 r2 s1 s2 s3 s4 n1 n2 hmm t1 t2 h0 hg1 hg2
        go_upto_region 19 with (fail)
        go_cut [130] from 105 to 130 (fun s130 wx => s130 = .bool false ∧ wx = w3)
        case first =>
          go_wp2_with fail
          refine HAS1.out.mono ?_
          rintro _ wa ⟨rfl, rfl⟩
          rw [HH1.out]
          by_cases g0 : 0 ≤ r
          · have f0 : decide ((0 : Int) ≤ r) = true := decide_eq_true g0
            by_cases g9 : r ≤ 1114111
            · have f9 : decide (r ≤ (1114111 : Int)) = true := decide_eq_true g9
              have HH3 := Lib.hid (HH2.out g0 g9)
              cases hb with
              | true =>
                go_wp2_with fail
                refine HAS2.out.mono ?_
                rintro _ wb ⟨rfl, rfl⟩
                rw [HH3.out]
                go_wp2
                go_meet
                exact ⟨rfl, rfl⟩
              | false =>
                go_wp2_with fail
                refine HAS2.out.mono ?_
                rintro _ wb ⟨rfl, rfl⟩
                rw [HH3.out]
                go_wp2
                go_meet
                exact ⟨rfl, rfl⟩
            · have f9 : decide (r ≤ (1114111 : Int)) = false := decide_eq_false g9
              cases hb with
              | true =>
                go_wp2
                go_meet
                exact ⟨rfl, rfl⟩
              | false =>
                go_wp2
                go_meet
                exact ⟨rfl, rfl⟩
          · have f0 : decide ((0 : Int) ≤ r) = false := decide_eq_false g0
            cases hb with
            | true =>
              go_wp2
              go_meet
              exact ⟨rfl, rfl⟩
            | false =>
              go_wp2
              go_meet
              exact ⟨rfl, rfl⟩
        case rest =>
        obtain ⟨hc1, hc2⟩ := hcut
        have hc2 := hc2.symm
        subst hc1 hc2
        clear HAS1 HAS2 HH1 HH2
        go_wp2_with fail
        refine RS1.out.mono ?_
        rintro _ w4 ⟨rfl, hb4⟩
        have y4 := cell_up hb4 (p := ⟨g2, o2 + 4, none⟩) HG2.out HY4.out
        have HC4 := Lib.hid (RS2.out w4 hb4)
        have HBd := Lib.hid (bt HBc.out hb4)
        clear hb4 RS1 RS2 x4
        go_wp2_with fail
        refine HC4.out.mono ?_
        rintro _ w5 ⟨rfl, hb5⟩
        have HBe := Lib.hid (bt HBd.out hb5)
        clear HC4 hb5
        go_wp2
        go_ret
        exact ⟨rfl, HBe.out⟩
    case pos =>
      obtain ⟨hlt, hlt2⟩ := hlt
      have d1 : decide ((i : Int) < (rs.length : Int)) = true := decide_eq_true (by omega)
      have d2 : decide ((i : Int) < 20) = true := decide_eq_true (by omega)
      have i0 : (0 : Int) ≤ (i : Int) := by omega
      have i1 : (i : Int) < (rs.length : Int) := by omega
      obtain ⟨g, off, rfl, hg, hcs⟩ := HR.out (by simp; omega)
      have k1 := cell_up (HB1.out.trans (HBr.out.mono HB1.out.size)) (p := ⟨g, off + i, none⟩) hg (hcs i (.int .i32 rs[i]) (by simp [hlt, I32]))
      have hz := HRS.out _ (List.getElem_mem hlt)
      have HXS := Lib.hid (xsT_succ hlt)
      clear hcs
      generalize rs[i] = z at *
      have a1 := and511 z hz.1 hz.2
      have a2 : IntKind.i32.wrap (97 + z % 512) = ((X z : Nat) : Int) := by rw [X_int]; exact IntWalk.i32_in _ (by omega)
      have hxg := X_ge z
      have hxl := X_le z
      obtain ⟨e, he⟩ : ∃ e, Utf8.encode ((X z : Nat) : Int) = e := ⟨_, rfl⟩
      have HE : Hid (e.data.toList = UtSpec.enc (X z)) := Lib.hid (by rw [← he]; exact enc_small (by omega))
      have hez : e.size ≤ 4 := by
        have h1 := (UtSpec.enc_len (r := X z) (.inl (by omega))).2.1
        rw [← HE.out] at h1
        simpa using h1
      have hsz : st.size ≤ 40 := by
        have h1 := memT_len (xs := xsT rs i) (fun x hx => by unfold xsT at hx; obtain ⟨q, _, rfl⟩ := List.mem_map.1 hx; exact X_le q)
        rw [← HST.out] at h1
        have h2 : (xsT rs i).length ≤ i := by unfold xsT; simp; omega
        have h3 : st.data.toList.length = st.size := by simp
        omega
      generalize X z = x at *
      clear hz
      have HC : Hid (xsT rs (i + 1) = xsT rs i ++ [x]) := HXS
      have HH2 : Hid ((hb || ((x : Int) == r)) = decide (r ∈ (xsT rs (i + 1)).map fun (n : Nat) => (n : Int))) := Lib.hid (by
        rw [HC.out, HHB.out, List.map_append, Bool.eq_iff_iff]
        simp only [Bool.or_eq_true, decide_eq_true_eq, beq_iff_eq, List.mem_append, List.map_cons, List.map_nil, List.mem_singleton]
        exact or_congr_right eq_comm)
      have HM2 : Hid (UtSpec.encs (memT (xsT rs (i + 1))) = UtSpec.encs (memT (xsT rs i)) ++ UtSpec.encs (mem1 x)) := Lib.hid (by
        rw [HC.out, memT_app, UtSpec.encs_append]
        simp [memT])
      clear HC HXS HHB
      obtain ⟨q, hq⟩ : ∃ q, st ++ e = q := ⟨_, rfl⟩
      have HQ : Hid (st ++ e = q) := Lib.hid hq
      go_upto_region 10 with (fail)
      clear hq a1 a2 k1
      obtain ⟨wq, hwq⟩ : ∃ X, X = wr := ⟨wr, rfl⟩
      subst hwq
      go_cut [44] from 35 to 44 (fun s44 wx => s44 = .bool (decide (x = 123 ∨ x = 124 ∨ x = 125)) ∧ wx = wq)
      case first =>
        by_cases x1 : x = 123
        · have f1 : ((x : Int) == 123) = true := by simp; omega
          have HE1 : Hid (decide (x = 123 ∨ x = 124 ∨ x = 125) = true) := Lib.hid (by simp; omega)
          clear x1
          go_wp2
          go_meet
          rw [HE1.out]
          exact ⟨rfl, rfl⟩
        · have f1 : ((x : Int) == 123) = false := by simp; omega
          by_cases x2 : x = 124
          · have f2 : ((x : Int) == 124) = true := by simp; omega
            have HE1 : Hid (decide (x = 123 ∨ x = 124 ∨ x = 125) = true) := Lib.hid (by simp; omega)
            clear x1 x2
            go_wp2
            go_meet
            rw [HE1.out]
            exact ⟨rfl, rfl⟩
          · have f2 : ((x : Int) == 124) = false := by simp; omega
            by_cases x3 : x = 125
            · have f3 : ((x : Int) == 125) = true := by simp; omega
              have HE1 : Hid (decide (x = 123 ∨ x = 124 ∨ x = 125) = true) := Lib.hid (by simp; omega)
              clear x1 x2 x3
              go_wp2
              go_meet
              rw [HE1.out]
              exact ⟨rfl, rfl⟩
            · have f3 : ((x : Int) == 125) = false := by simp; omega
              have HE1 : Hid (decide (x = 123 ∨ x = 124 ∨ x = 125) = false) := Lib.hid (by simp; omega)
              clear x1 x2 x3
              go_wp2
              go_meet
              rw [HE1.out]
              exact ⟨rfl, rfl⟩
      case rest =>
      obtain ⟨hc1, hc2⟩ := hcut
      have hc2 := hc2.symm
      subst hc1 hc2
      have HB2 : Hid (Below w1.heap.size w1 wq) := HBr
      by_cases hx : x = 123 ∨ x = 124 ∨ x = 125
      · have HMM : Hid (mem1 x = [92, x]) := Lib.hid (by unfold mem1; rw [if_pos hx])
        have hx1 : x < 128 := by omega
        have he1 : e.size = 1 := by
          have h1 := HE.out
          rw [enc_low hx1] at h1
          have := congrArg List.length h1
          simpa using this
        have hqs : q.size = st.size + 1 := by rw [← HQ.out, ByteArray.size_append, he1]
        have hqe : q.extract 0 st.size = st := by
          rw [← HQ.out]
          apply ByteArray.ext
          simp [ByteArray.data_extract, ByteArray.data_append]
        rw [decide_eq_true hx]
        have l1 : IntKind.i64.wrap ((st.size : Int) + 1 - 1) = (st.size : Int) := by rw [show (st.size : Int) + 1 - 1 = (st.size : Int) by omega]; exact IntWalk.i64_in _ (by omega)
        have l2 : IntKind.i64.wrap (st.size : Int) = (st.size : Int) := IntWalk.i64_in _ (by omega)
        have l3 : (0 : Int) ≤ (st.size : Int) := by omega
        have l4 : (st.size : Int) ≤ (q.size : Int) := by omega
        clear hx
        have HN : Hid ((st ++ ⟨#[92]⟩ ++ e : ByteArray).data.toList = UtSpec.encs (memT (xsT rs (i + 1)))) := Lib.hid (by
          rw [HM2.out, HMM.out, UtSpec.encs_cons, UtSpec.encs_cons, enc_low (r := 92) (by decide), ← HE.out, ← HST.out]
          simp [ByteArray.data_append, UtSpec.encs])
        clear HM2 HMM HE HST HQ
        cases hb with
        | true =>
          have HH3 : Hid (true = decide (r ∈ (xsT rs (i + 1)).map fun (n : Nat) => (n : Int))) := Lib.hid (by rw [← HH2.out]; rfl)
          go_wp2
          exact ⟨⟨i + 1, _, by omega, by omega, by go_num, rfl, HN, ⟨true, rfl, HH3⟩, HB2⟩, by simp [intOf]; omega⟩
        | false =>
          have HH3 : Hid (((x : Int) == r) = decide (r ∈ (xsT rs (i + 1)).map fun (n : Nat) => (n : Int))) := Lib.hid (by rw [← HH2.out]; rfl)
          obtain ⟨b2, hb2⟩ : ∃ b, ((x : Int) == r) = b := ⟨_, rfl⟩
          rw [hb2] at HH3
          go_wp2
          exact ⟨⟨i + 1, _, by omega, by omega, by go_num, rfl, HN, ⟨b2, rfl, HH3⟩, HB2⟩, by simp [intOf]; omega⟩
      · have HMM : Hid (mem1 x = [x]) := Lib.hid (by unfold mem1; rw [if_neg hx])
        rw [decide_eq_false hx]
        have HN : Hid (q.data.toList = UtSpec.encs (memT (xsT rs (i + 1)))) := Lib.hid (by
          rw [← HQ.out, HM2.out, HMM.out, UtSpec.encs_cons, ← HE.out, ← HST.out]
          simp [ByteArray.data_append, UtSpec.encs])
        clear HM2 HMM HE HST HQ hx
        cases hb with
        | true =>
          have HH3 : Hid (true = decide (r ∈ (xsT rs (i + 1)).map fun (n : Nat) => (n : Int))) := Lib.hid (by rw [← HH2.out]; rfl)
          go_wp2
          exact ⟨⟨i + 1, _, by omega, by omega, by go_num, rfl, HN, ⟨true, rfl, HH3⟩, HB2⟩, by simp [intOf]; omega⟩
        | false =>
          have HH3 : Hid (((x : Int) == r) = decide (r ∈ (xsT rs (i + 1)).map fun (n : Nat) => (n : Int))) := Lib.hid (by rw [← HH2.out]; rfl)
          obtain ⟨b2, hb2⟩ : ∃ b, ((x : Int) == r) = b := ⟨_, rfl⟩
          rw [hb2] at HH3
          go_wp2
          exact ⟨⟨i + 1, _, by omega, by omega, by go_num, rfl, HN, ⟨b2, rfl, HH3⟩, HB2⟩, by simp [intOf]; omega⟩
end Go.Proofs.Ytdmbgjpidlllcaa.RxSetW
