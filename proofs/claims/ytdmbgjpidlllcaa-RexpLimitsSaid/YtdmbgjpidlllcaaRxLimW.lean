/- RexpLimits' walk. Conditions: the program's Parse answers parseT, in new memory that can be written; the text is shorter than 2^40. -/
import Derived.Test.YtdmbgjpidlllcaaRxWants
import Derived.Test.YtdmbgjpidlllcaaRxLimP
import Derived.Deep.CutBlock
namespace Go.Proofs.Ytdmbgjpidlllcaa.RxLimW
open Go Go.RowKit Words AppN Km Mo_ RxSpec RxTree RxEq RxMem RxPeek RxHas RxNode RxClean RxPost RxAll RxSize RxSmall RxText RxParse RxSame RxAwake RxLaw RxJoinP RxWant RxMvd RxNewC RxLimP

/-- Only cells of blocks from lo to hi, beside g, have other values. -/
structure Dm (W wr : World) (lo hi g : Nat) : Prop where
  os : wr.os = W.os
  tape : wr.tape = W.tape
  output : wr.output = W.output
  size : wr.heap.size = W.heap.size
  same : ∀ i, i < lo ∨ hi ≤ i ∨ i = g → wr.heap[i]? = W.heap[i]?
  cell : ∀ p, (∃ u, W.cell? p = some u) → ∃ u, wr.cell? p = some u
  frz : ∀ p, wr.frozen? p = W.frozen? p
theorem Dm.refl (W : World) (lo hi g : Nat) : Dm W W lo hi g := ⟨rfl, rfl, rfl, rfl, fun _ _ => rfl, fun _ h => h, fun _ => rfl⟩
theorem Dm.store {W wr : World} {lo hi g : Nat} (h : Dm W wr lo hi g) {p : Addr} (u : Value) (h1 : lo ≤ p.block) (h2 : p.block < hi) (h3 : p.block ≠ g) (hc : ∃ v, wr.cell? p = some v) : Dm W (wr.setCell p u) lo hi g := by
  refine ⟨h.os, h.tape, h.output, by rw [World.size_setCell]; exact h.size, fun i hi' => (heap_setCell_other _ _ _ _ (by omega)).trans (h.same i hi'), fun q hq => ?_, fun q => ?_⟩
  · by_cases e : q = p
    · subst e
      obtain ⟨v, hv⟩ := hc
      exact ⟨u, World.cell?_setCell_same wr q u hv⟩
    · rw [World.cell?_setCell_other wr p q u (by first | exact e | exact fun e2 => e e2.symm)]
      exact h.cell q hq
  · rw [← h.frz q]
    simp
theorem rd_dm {W wr : World} {lo hi g : Nat} {A : Option Addr} {vs : List Value} (h : Dm W wr lo hi g) (hr : Rd W W.heap.size A vs) (hn : ∀ b off, A = some ⟨b, off, none⟩ → 0 < vs.length → b < lo ∨ hi ≤ b ∨ b = g) : Rd wr wr.heap.size A vs := fun hl => by
  obtain ⟨b, off, e, hb, hc⟩ := hr hl
  exact ⟨b, off, e, by rw [h.size]; exact hb, fun j u hj => (World.cell?_of_block (a := ⟨b, off + j, none⟩) (h.same b (hn b off e hl))).trans (hc j u hj)⟩
theorem tr_dm {W wr : World} {lo hi g : Nat} {A : Option Addr} {c : Nat} {ms : List NM} (h : Dm W wr lo hi g) (ht : Tr W A c ms) (hN : NewTr hi W A ms) : Tr wr A c ms := by
  refine ⟨rd_dm h ht.rd (fun b off e hl => .inr (.inl (hN.row b off e (by rw [flatN_len] at hl; omega)))), ht.le, ht.cap, fun m hm => ?_, fun m hm => ?_, ht.small⟩
  · obtain ⟨Q, q, e, hr, h1, h2⟩ := ht.each m hm
    exact ⟨Q, q, e, rd_dm h hr (fun b off e2 hl => .inr (.inl (hN.kids m hm b off (by rw [e]; exact e2) (by simpa using hl)).1)), h1, h2⟩
  · obtain ⟨Q, q, e, hr, h1, h2⟩ := ht.sets m hm
    exact ⟨Q, q, e, rd_dm h hr (fun b off e2 hl => .inr (.inl (hN.sets m hm b off (by rw [e]; exact e2) (by simpa using hl)).1)), h1, h2⟩
def L1 (W : World) (k : Nat) (vt vu vi : Value) (wr : World) : Prop := ∃ (i : Nat) (st su : ByteArray), i ≤ k ∧ vi = .int .i64 (i : Int) ∧ vt = .string st ∧ vu = .string su ∧ Hid (st.data.toList = List.replicate i 40) ∧ Hid (su.data.toList = List.replicate i 41) ∧ Hid (wr = W)
def L2 (W : World) (vt vi : Value) (wr : World) : Prop := ∃ (i : Nat) (st : ByteArray), i ≤ 128 ∧ vi = .int .i64 (i : Int) ∧ vt = .string st ∧ Hid (st.data.toList = List.replicate i 97) ∧ Hid (wr = W)
def L3 (W : World) (lo hi g n : Nat) (vi : Value) (wr : World) : Prop := ∃ i : Nat, i ≤ n ∧ vi = .int .i64 (i : Int) ∧ Hid (Dm W wr lo hi g)
set_option maxHeartbeats 6400000 in
set_option maxRecDepth 100000 in
theorem limits_any (PN : RexpN) (w : World) (n : UInt8) (s : ByteArray) (hs : s.size ≤ 9223372036854775807) : Calls Try.prog 6 #[.int .u8 (n.toNat : Int), .string s] w fun e w' => e = .returned (.bool true) ∧ Below w.heap.size w w' := by
  have P := rexpC_of PN
  have HAW := awake_any P
  generalize hk : n.toNat % 20 = k
  have m1 : ((n.toNat : Int)).tmod 20 = (k : Int) := by rw [Int.tmod_eq_emod_of_nonneg (by omega)]; omega
  have m3 : ((n.toNat : Int)) % 20 = (k : Int) := by omega
  have hk20 : k < 20 := by omega
  clear hk
  go_enter Try.func6, Try.ntmps6
  go_wp2_with fail
  refine (HAW _).mono ?_
  rintro _ w1 ⟨rfl, hb1⟩
  have HBa := Lib.hid hb1
  clear HAW hb1
  go_wp2_with fail
  clear m1 m3
  go_loopw [6, 7, 8] (fun vt vu vi wr => L1 w1 k vt vu vi wr) (fun _ _ vi _ => k - (intOf vi).toNat)
  case atStart => exact ⟨0, ⟨#[]⟩, ⟨#[]⟩, Nat.zero_le _, rfl, rfl, rfl, Lib.hid rfl, Lib.hid rfl, Lib.hid rfl⟩
  case round =>
    obtain ⟨i, st, su, hi, rfl, rfl, rfl, HST, HSU, HW⟩ := hrel
    obtain rfl := HW.out
    have hs1 : st.size ≤ 20 := by
      have h1 := congrArg List.length HST.out
      rw [List.length_replicate] at h1
      have h3 : st.data.toList.length = st.size := by simp
      omega
    have hs2 : su.size ≤ 20 := by
      have h1 := congrArg List.length HSU.out
      rw [List.length_replicate] at h1
      have h3 : su.data.toList.length = su.size := by simp
      omega
    by_cases hlt : i < k
    case pos =>
      have d1 : decide ((i : Int) < (k : Int)) = true := decide_eq_true (by omega)
      have HS1 : Hid ((st ++ ⟨#[40]⟩ : ByteArray).data.toList = List.replicate (i + 1) 40) := Lib.hid (by rw [List.replicate_succ', ← HST.out]; simp [ByteArray.data_append])
      have HS2 : Hid ((su ++ ⟨#[41]⟩ : ByteArray).data.toList = List.replicate (i + 1) 41) := Lib.hid (by rw [List.replicate_succ', ← HSU.out]; simp [ByteArray.data_append])
      go_wp2
      exact ⟨⟨i + 1, _, _, hlt, by go_num, rfl, rfl, HS1, HS2, Lib.hid rfl⟩, by simp [intOf]; omega⟩
    case neg =>
    obtain rfl : i = k := by omega
    have d1 : decide ((i : Int) < (i : Int)) = false := decide_eq_false (by omega)
    have HX : Hid ((st ++ ⟨#[97]⟩ ++ su : ByteArray).data.toList = List.replicate i 40 ++ 97 :: List.replicate i 41) := Lib.hid (by rw [← HST.out, ← HSU.out]; simp [ByteArray.data_append])
    have HZ : Hid ((st ++ ⟨#[97]⟩ ++ su : ByteArray).size ≤ 9223372036854775807) := Lib.hid (by rw [ByteArray.size_append, ByteArray.size_append]; show st.size + 1 + su.size ≤ _; omega)
    clear hlt HST HSU hi
    go_wp2_with fail
    refine (P _ _ HZ.out).mono ?_
    rintro _ w2 ⟨A1, c1, os, x, rfl, hp, -, hb2⟩
    have HBb := Lib.hid (bt HBa.out hb2)
    clear hb2
    rw [HX.out, text_nest hk20] at hp
    have HP := Lib.hid hp
    clear hp HX HZ
    go_upto_region 12 with (fail)
    go_cut [65] from 47 to 65 (fun s65 wx => s65 = .bool false ∧ wx = w2)
    case first =>
      by_cases h16 : 16 < i
      · have hp := HP.out
        rw [if_pos h16] at hp
        injection hp with h1 h2
        have f1 : decide ((i : Int) ≤ 16) = false := decide_eq_false (by omega)
        have f2 : decide ((16 : Int) < (i : Int)) = true := decide_eq_true (by omega)
        have f3 : ((x : Int) != 9) = false := by rw [← h1]; rfl
        clear HP h16 h2 h1
        go_wp2
        go_meet
        exact ⟨rfl, rfl⟩
      · have hp := HP.out
        rw [if_neg h16] at hp
        injection hp with h1 h2
        have hl1 : os.length = 1 := by have := congrArg List.length h2; rw [nds_len] at this; simpa using this.symm
        have f1 : decide ((i : Int) ≤ 16) = true := decide_eq_true (by omega)
        have f2 : decide ((16 : Int) < (i : Int)) = false := decide_eq_false (by omega)
        have f3 : ((x : Int) != 0) = false := by rw [← h1]; rfl
        have f4 : ((os.length : Int) != 1) = false := by rw [hl1]; rfl
        clear HP h16 h2 hl1 h1
        go_wp2
        go_meet
        exact ⟨rfl, rfl⟩
    case rest =>
    obtain ⟨hc1, hc2⟩ := hcut
    have hc2 := hc2.symm
    subst hc1 hc2
    clear HP d1 hs1 hs2
    go_wp2_with fail
    go_loopw [11, 12] (fun vt vi wr => L2 w2 vt vi wr) (fun _ vi _ => 128 - (intOf vi).toNat)
    case atStart => exact ⟨0, ⟨#[]⟩, Nat.zero_le _, rfl, rfl, Lib.hid rfl, Lib.hid rfl⟩
    case round =>
    obtain ⟨q, sl, hq, rfl, rfl, HSL, HW⟩ := hrel
    obtain rfl := HW.out
    have hs3 : sl.size ≤ 128 := by
      have h1 := congrArg List.length HSL.out
      rw [List.length_replicate] at h1
      have h3 : sl.data.toList.length = sl.size := by simp
      omega
    by_cases hlt : q < 128
    case pos =>
      have d1 : decide ((q : Int) < 128) = true := decide_eq_true (by omega)
      have HS1 : Hid ((sl ++ ⟨#[97]⟩ : ByteArray).data.toList = List.replicate (q + 1) 97) := Lib.hid (by rw [List.replicate_succ', ← HSL.out]; simp [ByteArray.data_append])
      go_wp2
      exact ⟨⟨q + 1, _, hlt, by go_num, rfl, HS1, Lib.hid rfl⟩, by simp [intOf]; omega⟩
    case neg =>
    obtain rfl : q = 128 := by omega
    have d1 : decide (((128 : Nat) : Int) < 128) = false := by decide
    have HLB : Hid (128 < (sl ++ ⟨#[97]⟩ : ByteArray).data.toList.length) := Lib.hid (by
      have h1 := congrArg List.length HSL.out
      rw [List.length_replicate] at h1
      simp [ByteArray.data_append]
      simp at h1
      omega)
    have HZ1 : Hid (sl.size ≤ 9223372036854775807) := Lib.hid (by omega)
    have HZ2 : Hid ((sl ++ ⟨#[97]⟩ : ByteArray).size ≤ 9223372036854775807) := Lib.hid (by rw [ByteArray.size_append]; show sl.size + 1 ≤ _; omega)
    rw [show ((128 : Nat) : Int) = 128 from rfl] at *
    clear hlt hq
    go_wp2_with fail
    refine (P _ _ HZ1.out).mono ?_
    rintro _ w3 ⟨A2, c2, bs, y, rfl, hp, -, hb3⟩
    have HBc := Lib.hid (bt HBb.out hb3)
    clear hb3
    rw [HSL.out] at hp
    obtain ⟨ll, hll, hl129⟩ := text_long
    rw [hll] at hp
    injection hp with h1 h2
    subst h1
    have hl3 : bs.length = 129 := by rw [← nds_len, ← h2]; exact hl129
    clear h2 hll hl129 HSL
    rw [show ((0 : Nat) : Int) = 0 from rfl, hl3]
    clear hl3
    go_wp2_with fail
    refine (P _ _ HZ2.out).mono ?_
    rintro _ w4 ⟨A3, c3, es, z, rfl, hp, -, hb4⟩
    have HBd := Lib.hid (bt HBc.out hb4)
    clear hb4
    rw [text_longer _ HLB.out] at hp
    injection hp with h1 h2
    subst h1
    rw [show ((4 : Nat) : Int) = 4 from rfl]
    clear h2 HLB HZ1 HZ2 hs3
    go_wp2_with fail
    refine (PN _ _ (by omega)).mono ?_
    rintro _ Wc ⟨A, c, ms, x1, rfl, hp1, htc, hbc, hnc⟩
    have HTC := Lib.hid htc
    have HNC := Lib.hid hnc
    have HBe := Lib.hid (bt HBd.out hbc)
    obtain ⟨lo, hlo⟩ : ∃ l, w4.heap.size = l := ⟨_, rfl⟩
    have HLO : Hid (w.heap.size ≤ lo) := Lib.hid (by have := HBd.out.size; omega)
    rw [hlo] at HNC
    clear htc hbc hnc hp1 hlo
    go_wp2_with fail
    refine (PN _ _ (by omega)).mono ?_
    rintro _ Wd ⟨B, cb, ns, x2, rfl, hp2, htd, hbd, hnd⟩
    have HTD := Lib.hid htd
    have HND := Lib.hid hnd
    have HBcd := Lib.hid hbd
    have HPD := Lib.hid hp2
    obtain ⟨hi, hhi⟩ : ∃ l, Wc.heap.size = l := ⟨_, rfl⟩
    have HHI := Lib.hid hhi
    rw [hhi] at HND
    have HBf := Lib.hid (bt HBe.out hbd)
    clear htd hbd hnd hp2 hhi
    obtain ⟨g, HGA⟩ : ∃ g, Hid (0 < ms.length → ∃ o, A = some ⟨g, o, none⟩ ∧ g < Wc.heap.size) := by
      by_cases h0 : 0 < ms.length
      · obtain ⟨b, o, e, hb, _⟩ := HTC.out.rd (by rw [flatN_len]; omega)
        exact ⟨b, Lib.hid fun _ => ⟨o, e, hb⟩⟩
      · exact ⟨0, Lib.hid fun h => absurd h h0⟩
    have hle := HTC.out.le
    have hcap := HTC.out.cap
    unfold maxLen at hcap
    go_wp2_with fail
    go_loopw [20] (fun vi wr => L3 Wd lo hi g ms.length vi wr) (fun vi _ => ms.length - (intOf vi).toNat)
    case atStart => exact ⟨0, Nat.zero_le _, rfl, Lib.hid (Dm.refl _ _ _ _)⟩
    case round =>
    obtain ⟨i, hin, rfl, HDi⟩ := hrel
    by_cases hlt : i < ms.length
    case neg =>
      have d2 : decide ((i : Int) < (ms.length : Int)) = false := decide_eq_false (by omega)
      have d2n : decide (i < ms.length) = false := decide_eq_false hlt
      have HTD2 : Hid (Tr wr B cb ns) := Lib.hid (tr_dm HDi.out HTD.out HND.out)
      have HBg : Hid (Below w.heap.size w wr) := Lib.hid ⟨HDi.out.os.trans HBf.out.os, HDi.out.tape.trans HBf.out.tape, HDi.out.output.trans HBf.out.output, by have := HDi.out.size; have := HBf.out.size; omega, fun j hj => (HDi.out.same j (.inl (by have := HLO.out; omega))).trans (HBf.out.block j hj)⟩
      clear hlt
      go_wp2_with fail
      refine (P _ _ (by omega)).mono ?_
      rintro _ w9 ⟨C, cc, ls, x3, rfl, hp3, hte, hbe⟩
      have heq := HPD.out.symm.trans hp3
      injection heq with _ hnds
      have HSM := same_any (HTD2.out.up hbe) hte hnds
      have HBh := Lib.hid (bt HBg.out hbe)
      clear hp3 hte hbe hnds
      go_wp2_with fail
      refine HSM.mono ?_
      rintro _ wz ⟨rfl, hbz⟩
      have HBi := Lib.hid (bt HBh.out hbz)
      clear HSM hbz
      go_wp2
      go_ret
      exact ⟨rfl, HBi.out⟩
    case pos =>
      have d1' : decide ((i : Int) < (ms.length : Int)) = true := decide_eq_true (by omega)
      have i0 : (0 : Int) ≤ (i : Int) := by omega
      have i1 : (i : Int) < (ms.length : Int) := by omega
      obtain ⟨nd, hnd⟩ : ∃ nd, (ms[i]).nd = nd := ⟨_, rfl⟩
      obtain ⟨g1, o1, D1, e1, D4, e4, hA, hg1, y0, y1, y2, y3, y4, s1, s2, s3, s4, r1, r4, -, -, hss⟩ := node_full HTC.out hlt hnd
      have hga := HGA.out (by omega)
      obtain ⟨o9, ho9, hg9⟩ := hga
      have hgg : g1 = g ∧ o1 = o9 := by rw [hA] at ho9; injection ho9 with ho9; injection ho9 with e1 e2; exact ⟨e1, e2⟩
      obtain ⟨rfl, rfl⟩ := hgg
      have hnk := HNC.out.kids _ (List.getElem_mem hlt)
      have hns := HNC.out.sets _ (List.getElem_mem hlt)
      obtain ⟨D1', e1', hks, -⟩ := HTC.out.each _ (List.getElem_mem hlt)
      have hrow := (flatN_at hlt).2.1
      obtain ⟨g5, o5, he5, hg5, hc5⟩ := HTC.out.rd (by rw [flatN_len]; omega)
      have hks2 : (ms[i]).ks = (D1, nd.kids.length, e1) := by
        rw [hA] at he5
        injection he5 with he5
        injection he5 with q1 q2 _
        subst q1 q2
        have h7 := (hc5 _ _ hrow).symm.trans (show Wc.cell? ⟨g1, o1 + (i * 5 + 1), none⟩ = _ from y1)
        injection h7 with h7
        unfold slV at h7
        injection h7 with h8 h9 h10
        rw [← h8, ← h9, ← h10]
      have N1 : Hid (NewS lo Wc A (D1, nd.kids.length, e1) nd.kids.length) := Lib.hid (by rw [← hks2, ← hnd]; exact hnk)
      have N4 : Hid (NewS lo Wc A (D4, nd.set.length, e4) nd.set.length) := Lib.hid (by rw [← hnd, ← hss]; exact hns)
      have HAg : Hid (A = some ⟨g1, o1, none⟩) := Lib.hid hA
      have R1 := Lib.hid r1
      have R4 := Lib.hid r4
      have X1 := Lib.hid y1
      have X4 := Lib.hid y4
      have HCELL : Hid (∀ wr, Dm Wd wr lo hi g1 → ∀ q, wr.cell? ⟨g1, q, none⟩ = Wc.cell? ⟨g1, q, none⟩) := Lib.hid (fun wr h q => (World.cell?_of_block (a := ⟨g1, q, none⟩) (h.same g1 (.inr (.inr rfl)))).trans (HBcd.out.cell (p := ⟨g1, q, none⟩) hg1))
      have z4 := (HCELL.out wr HDi.out _).trans X4.out
      clear hnk hns hks hks2 hrow hc5 hg5 he5 hss r1 r4 y0 y1 y2 y3 y4 hnd hg9 ho9 hg1
      obtain ⟨kind, kids, lw, hh, set⟩ := nd
      simp only at N1 N4 R1 R4 X1 X4 z4 s1 s3
      unfold maxLen at s2 s4
      have hA2 := HAg.out
      subst hA2
      go_wp2
      go_loopw [21] (fun vj wk => L3 Wd lo hi g1 set.length vj wk) (fun vj _ => set.length - (intOf vj).toNat)
      case atStart => exact ⟨0, Nat.zero_le _, rfl, HDi⟩
      case round =>
        obtain ⟨j, hj, rfl, HDj⟩ := hrel
        have z4 := (HCELL.out wr HDj.out _).trans X4.out
        by_cases hjl : j < set.length
        case neg =>
          have d2 : decide ((j : Int) < (set.length : Int)) = false := decide_eq_false (by omega)
          have d2n : decide (j < set.length) = false := decide_eq_false hjl
          clear hjl
          obtain ⟨Wj, hWj⟩ : ∃ X, X = wr := ⟨wr, rfl⟩
          subst hWj
          have HDi := HDj
          go_wp2
          go_loopw [22] (fun vj wk => L3 Wd lo hi g1 kids.length vj wk) (fun vj _ => kids.length - (intOf vj).toNat)
          case atStart => exact ⟨0, Nat.zero_le _, rfl, HDi⟩
          case round =>
            obtain ⟨j, hj, rfl, HDj⟩ := hrel
            have z1 := (HCELL.out wr HDj.out _).trans X1.out
            by_cases hjl : j < kids.length
            case neg =>
              have d2 : decide ((j : Int) < (kids.length : Int)) = false := decide_eq_false (by omega)
              have d2n : decide (j < kids.length) = false := decide_eq_false hjl
              clear hjl
              obtain ⟨Wj, hWj⟩ : ∃ X, X = wr := ⟨wr, rfl⟩
              subst hWj
              have HDi := HDj
              go_wp2
              exact ⟨⟨i + 1, hlt, by go_num, HDi⟩, by simp [intOf]; omega⟩
            case pos =>
              have d2 : decide ((j : Int) < (kids.length : Int)) = true := decide_eq_true (by omega)
              have j0 : (0 : Int) ≤ (j : Int) := by omega
              have j1 : (j : Int) < (kids.length : Int) := by omega
              obtain ⟨b, off, hD, hb, hcs⟩ := R1.out (by rw [List.length_map]; omega)
              obtain ⟨n1, n2, n3⟩ := N1.out b off hD (by omega)
              subst hD
              have hex : ∃ u, wr.cell? ⟨b, off + j, none⟩ = some u := HDj.out.cell _ ⟨_, (HBcd.out.cell (p := ⟨b, off + j, none⟩) hb).trans (hcs j _ (by rw [List.getElem?_map, List.getElem?_eq_getElem hjl]; rfl))⟩
              have hfr : wr.frozen? ⟨b, off + j, none⟩ = false := (HDj.out.frz _).trans ((frozen_up (HBcd.out.block b hb)).trans (n3 j hjl))
              have HDn : Hid (Dm Wd (wr.setCell ⟨b, off + j, none⟩ (.int .i64 (-9))) lo hi g1) := Lib.hid (HDj.out.store _ n1 (by rw [← HHI.out]; exact hb) (fun e => n2 _ rfl e.symm) hex)
              obtain ⟨u, hu⟩ := hex
              clear hcs n1 n2 n3
              go_wp2
              exact ⟨⟨j + 1, hjl, by go_num, HDn⟩, by simp [intOf]; omega⟩
        case pos =>
          have d2 : decide ((j : Int) < (set.length : Int)) = true := decide_eq_true (by omega)
          have j0 : (0 : Int) ≤ (j : Int) := by omega
          have j1 : (j : Int) < (set.length : Int) := by omega
          obtain ⟨b, off, hD, hb, hcs⟩ := R4.out (by rw [List.length_map]; omega)
          obtain ⟨n1, n2, n3⟩ := N4.out b off hD (by omega)
          subst hD
          have hex : ∃ u, wr.cell? ⟨b, off + j, none⟩ = some u := HDj.out.cell _ ⟨_, (HBcd.out.cell (p := ⟨b, off + j, none⟩) hb).trans (hcs j _ (by rw [List.getElem?_map, List.getElem?_eq_getElem hjl]; rfl))⟩
          have hfr : wr.frozen? ⟨b, off + j, none⟩ = false := (HDj.out.frz _).trans ((frozen_up (HBcd.out.block b hb)).trans (n3 j hjl))
          have HDn : Hid (Dm Wd (wr.setCell ⟨b, off + j, none⟩ (.int .i32 (-9))) lo hi g1) := Lib.hid (HDj.out.store _ n1 (by rw [← HHI.out]; exact hb) (fun e => n2 _ rfl e.symm) hex)
          obtain ⟨u, hu⟩ := hex
          clear hcs n1 n2 n3
          go_wp2
          exact ⟨⟨j + 1, hjl, by go_num, HDn⟩, by simp [intOf]; omega⟩
end Go.Proofs.Ytdmbgjpidlllcaa.RxLimW
