/- VarintBack: for every uint64 and all bytes whose bulk is at most 1048576 the statement's function answers true and leaves its arguments as they were. Condition: that bound. -/
import Derived.Test.YtinbohfglccagaaAwake
import Derived.Test.YtinbohfglccagaaAppend
import Derived.Test.YtinbohfglccagaaOpen
import Derived.Test.YtinbohfglccagaaBulk
import Derived.JoinedCond
import Derived.Deep.RegionWith
import Derived.Deep.QuietTactic
import Derived.BigQuiet
namespace Go.Proofs.Ytinbohfglccagaa.varintBack
open Go.ChangeShapes Go.WideShapes Go.ChangeAt Go.RowKit Words Plain Put Get Awake App Ope Bulk

/-- What is read out of a row of bytes in whose midst a number stands. -/
theorem mid (l : List UInt8) (x : Nat) (hx : x < 18446744073709551616) : getN (l ++ (Lib.uvarint x ++ l)) l.length = x ∧ getTo (l ++ (Lib.uvarint x ++ l)) l.length = l.length + (Lib.uvarint x).length ∧ getE (l ++ (Lib.uvarint x ++ l)) l.length = 0 := by
  have h := dec_uvarint 9 0 0 x l rfl (by omega) (by omega) (by omega)
  have f := fin (l := l ++ (Lib.uvarint x ++ l)) (p := l.length) (n := x) (c := (Lib.uvarint x).length) (e := 0) (by simp) (by rw [List.drop_left]; simpa using h)
  exact ⟨f.1, by simpa using f.2.1, f.2.2⟩
theorem short (x k : Nat) (hx : x < 18446744073709551616) (hk : k < (Lib.uvarint x).length) : getE ((Lib.uvarint x).take k) 0 = 5 := by
  have h := dec_short 0 0 x k (by omega) (by omega) hk
  have f := fin (l := (Lib.uvarint x).take k) (p := 0) (n := 0) (c := 0) (e := 5) (by simp) (by simpa using h)
  exact f.2.2
/-- What is read first of a row of bytes is written as the bytes that were read. -/
theorem back (l : List UInt8) (h : getE l 0 = 0) : ∃ x : UInt64, ∃ k : Nat, getN l 0 = (x.toNat : Int) ∧ getTo l 0 = (k : Int) ∧ k ≤ l.length ∧ l.take k = Lib.uvarint x.toNat := by
  have h' : ¬ ((0 : Int) < 0 ∨ (l.length : Int) < 0) := by omega
  unfold getE at h
  unfold getN getTo
  rw [if_neg h'] at h ⊢
  rw [if_neg h']
  simp only [Int.toNat_zero, List.drop_zero] at h ⊢
  generalize hd : dec 0 0 l = d at *
  obtain ⟨n, c, e⟩ := d
  have he : e = 0 := by simpa using h
  subst he
  obtain ⟨x, h1, h2, h3, h4, _, h6⟩ := dec_back l 0 0 n c (by omega) (by decide) hd
  simp only [Nat.zero_add, Nat.pow_zero, Nat.mul_one] at h1 h2
  have hn : (UInt64.ofNat x).toNat = x := by simp; omega
  exact ⟨UInt64.ofNat x, (Lib.uvarint x).length, by rw [hn]; simp [h1], by simp [h2], h3, by rw [hn]; exact h4⟩

theorem run_str {s : List UInt8} {B : Nat} (w : World) (A : Option Addr) (n c : Nat) (hn : n = s.length) (hr : Rd w B A (s.map B8)) : (convert 24 9 (.slice A n c)).run Try.prog w = .ok (.string ⟨s.toArray⟩) w := by
  subst hn
  exact run_bytes w 24 9 5 Try.underlying24 Try.underlying5 Try.underlying9 A s c B hr

def One1 (V : List UInt8) (w0 : World) (e : Ending) (w' : World) : Prop := ∃ A n c, e = .returned (.slice A n c) ∧ n = V.length ∧ Rd w' w'.heap.size A (V.map B8) ∧ Below w0.heap.size w0 w'
/-- Put of one number in a row that was made behind a draw. -/
theorem put_draw (y : UInt64) (w : World) : Calls Try.prog 10 #[.slice (some ⟨w.heap.size, 0, none⟩) 1 1] (w.alloc (.cells #[.int .u64 (y.toNat : Int)] 29)).drew (One1 (Lib.uvarint y.toNat) w) := by
  refine Calls.mono (put_one y w.drew w.heap.size rfl) ?_
  rintro e w' ⟨b, off, c, rfl, _, _, hb, _, hc, hbl⟩
  refine ⟨_, _, c, rfl, rfl, fun _ => ⟨b, off, rfl, hb, hc⟩, ?_⟩
  have h := hbl.mono (Nat.le_succ _)
  exact ((Below.refl w.heap.size w).alloc (Nat.le_refl _) (.cells #[.int .u64 (y.toNat : Int)] 29)).trans ⟨h.os, h.tape, h.output, h.size, h.block⟩

theorem below_drewN {B : Nat} {a w : World} (h : Below B a w) (n : Nat) : Below B a (w.drewN n) := ⟨h.os, h.tape, h.output, h.size, h.block⟩

def Idx (k : Nat) (v : Value) : Prop := ∃ i : Nat, i ≤ k ∧ v = .int .i64 (i : Int)

set_option maxHeartbeats 8000000 in
set_option maxRecDepth 100000 in
theorem walk (w : World) (n : UInt64) (l : List UInt8) (A : Option Addr) (c : Nat) (hc : l.length ≤ c) (hm : c ≤ maxLen) (hr : Rd w w.heap.size A (l.map B8)) (hlen : l.length ≤ 1048576) :
    Calls Try.prog 5 #[.int .u64 (n.toNat : Int), .slice A l.length c] w fun e w' => e = .returned (.bool true) ∧ Below w.heap.size w w' := by
  obtain ⟨i0, hi, hz0, hz1, hz2⟩ := info_parts info_u8
  have hn := n.toNat_lt
  have HR := Lib.hid hr
  have HCC := Lib.hid hc
  have HMM := Lib.hid hm
  unfold maxLen at hm
  clear hr
  go_enter Try.func5, Try.ntmps5
  go_wp2_with fail
  refine (awake_any _).mono ?_
  rintro e w1 ⟨rfl, hb⟩
  have HB := Lib.hid hb
  clear hb
  go_wp2_with fail
  refine (put_one n _ _ (by simp)).mono ?_
  rintro e w2 ⟨b, off, c2, rfl, h1, h2, h3, h4, hc2, hb2⟩
  have HB2 := Lib.hid ((HB.out.alloc HB.out.size _).trans (hb2.mono (by have := HB.out.size; omega)))
  have hl10 := Lib.uvarint_length64 hn
  have hup := Lib.uvarint_pos n.toNat
  have RB : Hid (Rd w2 w2.heap.size (some ⟨b, off, none⟩) ((Lib.uvarint n.toNat).map B8)) := fun _ => ⟨b, off, rfl, h3, hc2⟩
  have RL := Lib.hid ((HR.out.below HB2.out).more HB2.out.size)
  have HM := Lib.hid (mid l n.toNat hn)
  have HS := fun k hk => Lib.hid (short n.toNat k hn hk)
  have HB' := Lib.hid (back l)
  have HC2 := Lib.hid h1
  have HM2 := Lib.hid h2
  clear hb2 hc2 h1 h2
  generalize hx : n.toNat = x at *
  clear hx
  generalize Lib.uvarint x = U at *
  have hown0 := World.ownsRow_nil w2 w2.heap.size 5 1
  go_wp2_with (at_builtin; refine wpList_append_rd (v := .slice none 0 0) _ rfl (.tmp 19) (.tmp 20) 24 rfl w2.heap.size 5 i0 (.int .u8 0) 1 Try.underlying24 hi hz0 hz1 hz2 rfl 0 [] rfl hown0 w2.heap.size A l.length c (l.map B8) rfl (by simp) RL.out (one8 l) ?c1 ?c2 (Nat.le_refl _) ?_)
  case c1 => unfold maxLen; omega
  case c2 => omega
  intro v3 w3 hown3 hg3 _
  have HB3 := Lib.hid (below_app hown0 (Below.refl _ _) hg3)
  have HO3 := Lib.hid hown3
  clear hown0 hown3 hg3
  go_wp2_with (at_builtin; refine wpList_append_rd (v := v3) _ rfl (.tmp 21) (.tmp 22) 24 rfl w2.heap.size 5 i0 (.int .u8 0) 1 Try.underlying24 hi hz0 hz1 hz2 rfl _ _ rfl HO3.out w2.heap.size (some ⟨b, off, none⟩) U.length c2 (U.map B8) rfl (by simp) (RB.out.below HB3.out) (one8 U) ?d1 ?d2 HB3.out.size ?_)
  case d1 => unfold maxLen; omega
  case d2 => omega
  intro v4 w4 hown4 hg4 _
  have HB4 := Lib.hid (below_app HO3.out HB3.out hg4)
  have HO4 := Lib.hid hown4
  clear hown4 hg4
  go_wp2_with (at_builtin; refine wpList_append_rd (v := v4) _ rfl (.tmp 23) (.tmp 24) 24 rfl w2.heap.size 5 i0 (.int .u8 0) 1 Try.underlying24 hi hz0 hz1 hz2 rfl _ _ rfl HO4.out w2.heap.size A l.length c (l.map B8) rfl (by simp) (RL.out.below HB4.out) (one8 l) ?e1 ?e2 HB4.out.size ?_)
  case e1 => unfold maxLen; omega
  case e2 => omega
  intro v5 w5 hown5 hg5 _
  have HB5 := Lib.hid (below_app HO4.out HB4.out hg5)
  clear hg5
  obtain ⟨A5, c5, rfl, h51, h52, _⟩ := own_slice hown5
  have RD5 : Hid (Rd w5 w5.heap.size A5 ((l ++ (U ++ l)).map B8)) := by have := Rd.of_own hown5; show Rd _ _ _ _; simpa using this
  have H51 := Lib.hid h51
  have H52 := Lib.hid h52
  clear hown5 h51 h52
  obtain ⟨m1, m2, m3⟩ := HM.out
  go_wp2_with fail
  refine (get_len (l ++ (U ++ l)) A5 _ c5 _ w5 _ (by simp; omega) RD5.out H51.out H52.out).mono ?_
  rintro e w6 ⟨rfl, rfl⟩
  rw [m1, m2, m3]
  clear m1 m2 m3 HM
  have hd1 : decide ((U.length : Int) < 1) = false := by simp; omega
  have hd2 : decide (10 < (U.length : Int)) = false := by simp; omega
  have RB5 := Lib.hid (RB.out.below HB5.out)
  have RL5 := Lib.hid (RL.out.below HB5.out)
  have HBE := Lib.hid (HB2.out.trans (HB5.out.mono HB2.out.size))
  have hcU := HC2.out
  have hmc := HM2.out
  unfold maxLen at hmc
  have HB5S : w2.heap.size ≤ w5.heap.size := HB5.out.size
  clear HB HB2 HB3 HB4 HB5 HO3 HO4 RD5 H51 H52 RB RL
  go_wp2
  go_loop [10] (fun v => Idx U.length v) (fun v => U.length - (intOf v).toNat)
  case atStart => exact ⟨0, by omega, rfl⟩
  case round =>
    obtain ⟨k, hk, rfl⟩ := hrel
    by_cases hlt : k < U.length
    · have hs := HS k hlt
      have RT : Hid (Rd w5 w2.heap.size (some ⟨b, off, none⟩) ((U.take k).map B8)) := by have := RB5.out.take k; rw [← List.map_take] at this; exact this
      go_wp2_with fail
      refine (get_len (U.take k) _ k c2 0 w5 _ (by rw [List.length_take]; omega) RT.out (by omega) HM2.out).mono ?_
      rintro e w6 ⟨rfl, rfl⟩
      rw [hs]
      clear hs
      go_wp2
      go_round
      case rel => exact ⟨k + 1, by omega, by go_num⟩
      case measure => simp [intOf]; omega
    · go_wp2_with fail
      refine (get_len l A _ c 0 w5 _ rfl RL5.out HCC.out HMM.out).mono ?_
      rintro e w6 ⟨rfl, rfl⟩
      by_cases hz : getE l 0 = 0
      · obtain ⟨y, q, hN, hT, hq, htake⟩ := HB'.out hz
        rw [hz, hN, hT]
        have HT := Lib.hid htake
        have hcl := HCC.out
        have PO := Lib.hid (put_draw y w5)
        have RK : Hid (Rd w5 w2.heap.size A ((Lib.uvarint y.toNat).map B8)) := by have := RL5.out.take q; rw [← List.map_take, htake] at this; exact this
        have hql : q = (Lib.uvarint y.toNat).length := by rw [← htake, List.length_take]; omega
        have hy := y.toNat_lt
        have s1 := run_str w5.drew A q c hql RK.out
        have s2 := run_str (w5.alloc (.cells #[.int .u64 (y.toNat : Int)] 29)).drew A q c hql (RK.out.alloc HB5S _)
        have HQ := Lib.hid hql
        clear hz hN hT htake hql
        generalize y.toNat = z at *
        generalize Lib.uvarint z = V at *
        go_wp2
        go_region_with (first | (go_at_call 10; refine PO.out.mono ?_; rintro e w7 ⟨A7, n7, c7, rfl, hn7, hr7, hb7⟩; have s3 := run_str w7 A7 n7 c7 hn7 hr7; have s4 := run_str w7 A q c HQ.out (RK.out.below (hb7.mono HB5S)); have HB7 := Lib.hid (HBE.out.trans (hb7.mono HBE.out.size)); clear hn7 hr7 hb7))
        all_goals
          go_wp2
          go_ret
          exact ⟨rfl, by first | exact HB7.out | exact HBE.out⟩
      · have hzb : (getE l 0 != 0) = true := by simpa using hz
        clear hz
        generalize getE l 0 = ee at *
        go_wp2
        go_quiet (fail)
        all_goals go_wp2
        all_goals go_ret
        all_goals exact ⟨rfl, below_drewN HBE.out _⟩
theorem own : ownKnob Try.prog.godebug = none := by kernel_rfl
theorem laid : laidOutB Try.prog = true := by kernel_rfl
theorem allRead : (Try.f5.params.toList.all fun t => Try.prog.readableRec t && decide (t < Try.prog.types.size)) = true := by kernel_rfl
theorem contract (H : Type) (enc : TypeId × Value → H) (W : World) (base : Nat) (args : Array Value) (ds gs : List (DataW H)) (before : List MemPlace)
    (hval : ∀ (j : Nat) t v, Try.f5.params[j]? = some t → args[j]? = some v → Value.okWide Try.prog W .any base t v)
    (hW : DataW.Whole enc Try.prog Try.f5.params.toList Rows.varintBackSpec.vars false W args.toList ds gs before) (hk : Rows.uptoSmall H (ds ++ gs) = true) :
    Calls Try.prog 5 args W fun e W' => ∃ v, e = .returned v ∧ Rows.varintBackSpec.post enc Try.prog Try.f5 false true false false W args v W' := by
  have hW' := hW
  obtain ⟨p, q, hA0, hV, rfl, hfz, hnd⟩ := hW
  obtain ⟨rfl, rfl⟩ := trodVars_none hV
  have hlt : ∀ x ∈ p, x.block < W.heap.size := fun x hx => hW'.lt x (by simp [hx])
  have hA : DataW.TrodAll enc Try.prog W 0 (fun _ => true) true Try.f5.params.toList args.toList ds p := hA0
  rw [Try.params5] at hA hval
  obtain ⟨v0, vs0, d0, ds0, p0, q0, hargs, rfl, rfl, h0, r0⟩ := trodAll_cons hA
  obtain ⟨v1, vs1, d1, ds1, p1, q1, rfl, rfl, rfl, h1, r1⟩ := trodAll_cons r0
  obtain ⟨rfl, rfl, rfl⟩ := trodAll_nil r1
  obtain rfl : args = #[v0, v1] := by cases args; simp_all
  have hkb : Rows.uptoBulkAll ([d0, d1] ++ []) ≤ 1048576 := of_decide_eq_true hk
  obtain ⟨b0, rfl, rfl, rfl, w0⟩ := open_int Try.underlying29 (hval 0 29 v0 rfl rfl) h0
  obtain ⟨a0, rfl⟩ := u64_of w0
  obtain ⟨A1, l1, c1, rfl, hl1, hm1, hr1, hd1⟩ := open_u8s Try.underlying24 Try.underlying5 (by kernel_rfl) (hval 1 24 v1 rfl rfl) h1 (fun x hx => hlt x (by simp [hx]))
  have hb1 : l1.length ≤ 1048576 := by have h := bulk_len hd1; rw [List.length_map] at h; simp only [List.append_nil, Rows.uptoBulkAll] at hkb; omega
  refine (walk W a0 l1 A1 c1 hl1 hm1 hr1 hb1).mono fun e W' ⟨he, hb⟩ => ?_
  subst he
  exact ⟨_, rfl, law_post laid (fun t ht => by have h := List.all_eq_true.1 allRead t ht; rw [Bool.and_eq_true, decide_eq_true_eq] at h; exact h) rfl (by kernel_rfl) Try.underlying4 rfl hW' hb⟩
set_option maxRecDepth 100000 in
theorem lifted (os : Os) (started : os.Started) (H : Type) (enc : TypeId × Value → H) (F : Stop.Interp) :
    ReturnsInHanded {} Try.checked os 5 .any ((Rows.OpenSpec.upto Rows.varintBackSpec).pre6 enc Try.prog Try.f5 Rows.varintBackUptoRow.domain false) (((Rows.OpenSpec.upto Rows.varintBackSpec).at F).post enc Try.prog Try.f5 false true false false) := by
  refine returnsInHanded_of_cond (C := Try.checked) (s := Rows.OpenSpec.upto Rows.varintBackSpec) (k := Rows.uptoSmall) rfl own started (by kernel_rfl) Try.func5
    (OpenSpec.witness (enc := enc) (C := Try.checked) (s := Rows.OpenSpec.upto Rows.varintBackSpec) (k := Rows.uptoSmall) rfl false ⟨#[], #[.int .u64 0, .slice none 0 0], []⟩ 8 (by kernel_rfl) (by kernel_rfl) (by kernel_rfl)
      (x := ([.lit (.int .u64 0), .nil], [], [])) (by kernel_rfl) rfl (by kernel_rfl)) ?_
  intro W base args ds gs before hval hW _ hk _
  exact contract H enc W base args ds gs before hval hW hk
theorem over : Rows.varintBackUptoRow.holds Try.pinned (Rows.OpenSpec.upto Rows.varintBackSpec) :=
  OpenClaim.holds_of_cond 5 Try.f5 rfl rfl rfl rfl rfl rfl rfl ⟨rfl, rfl, rfl, rfl, rfl⟩ rfl rfl rfl rfl rfl (by kernel_rfl) Try.func5 (by kernel_rfl)
    (of_decide_eq_true (by kernel_rfl)) (by unfold Func.isWrapper; first | (rw [if_pos (by decide +kernel)]; kernel_rfl) | (rw [if_neg (by decide +kernel)]; exact ⟨rfl, rfl⟩))
    (fun os started H enc _ F => lifted os started H enc F)
theorem proved : Rows.VarintBackUptoSaid := over

end Go.Proofs.Ytinbohfglccagaa.varintBack
