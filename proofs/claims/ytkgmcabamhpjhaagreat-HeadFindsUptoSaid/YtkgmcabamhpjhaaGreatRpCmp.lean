/- The program's comparisons of records: cmp.Compare of numbers, record.Compare; record.byName, and the library's IsSortedFunc walked with it. Conditions: none but that the lists lie in memory. -/
import Derived.Test.YtkgmcabamhpjhaaGreatLps
import Derived.Test.YtkgmcabamhpjhaaGreatLbRefs
import Derived.Test.YtkgmcabamhpjhaaGreatRcSpecs
namespace Go.Proofs.YtkgmcabamhpjhaaGreat.RpCmp
open Go Go.RowKit Words AppN Less LbSpec LbText LbMem LbRef LbCmp UtOwn LpOrd LpBoth LpCmp RcSpec RcAll RcMem

def cmpI (a b : Int) : Int := if a < b then -1 else if b < a then 1 else 0
set_option maxHeartbeats 800000 in
theorem nani_any (a : Int) (w : World) : Calls Tryz.prog 75 #[.int .i64 a] w fun e w' => e = .returned (.bool false) ∧ w' = w := by
  go_enter Tryz.func75, Tryz.ntmps75
  go_wp2
  go_ret
  exact ⟨ret_bool (by simp), rfl⟩
set_option maxHeartbeats 800000 in
theorem nanu_any (a : Int) (w : World) : Calls Tryz.prog 76 #[.int .u64 a] w fun e w' => e = .returned (.bool false) ∧ w' = w := by
  go_enter Tryz.func76, Tryz.ntmps76
  go_wp2
  go_ret
  exact ⟨ret_bool (by simp), rfl⟩
set_option maxHeartbeats 800000 in
theorem icmp_any (a b : Int) (w : World) : Calls Tryz.prog 50 #[.int .i64 a, .int .i64 b] w fun e w' => e = .returned (.int .i64 (cmpI a b)) ∧ w' = w := by
  have HA := fun w => Lib.hid (nani_any a w)
  have HB := fun w => Lib.hid (nani_any b w)
  obtain ⟨r, hr⟩ : ∃ r, cmpI a b = r := ⟨_, rfl⟩
  rw [hr]
  unfold cmpI at hr
  by_cases h1 : a < b
  · rw [if_pos h1] at hr
    have HR := Lib.hid hr
    clear hr
    go_enter Tryz.func50, Tryz.ntmps50
    go_wp2_with fail
    refine (HA _).out.mono ?_
    rintro e w1 ⟨rfl, rfl⟩
    go_wp2_with fail
    refine (HB _).out.mono ?_
    rintro e w2 ⟨rfl, rfl⟩
    go_wp2
    go_ret
    exact ⟨ret_int HR.out, rfl⟩
  · rw [if_neg h1] at hr
    by_cases h2 : b < a
    · rw [if_pos h2] at hr
      have HR := Lib.hid hr
      clear hr
      go_enter Tryz.func50, Tryz.ntmps50
      go_wp2_with fail
      refine (HA _).out.mono ?_
      rintro e w1 ⟨rfl, rfl⟩
      go_wp2_with fail
      refine (HB _).out.mono ?_
      rintro e w2 ⟨rfl, rfl⟩
      go_wp2
      go_ret
      exact ⟨ret_int HR.out, rfl⟩
    · rw [if_neg h2] at hr
      have HR := Lib.hid hr
      clear hr
      go_enter Tryz.func50, Tryz.ntmps50
      go_wp2_with fail
      refine (HA _).out.mono ?_
      rintro e w1 ⟨rfl, rfl⟩
      go_wp2_with fail
      refine (HB _).out.mono ?_
      rintro e w2 ⟨rfl, rfl⟩
      go_wp2
      go_ret
      exact ⟨ret_int HR.out, rfl⟩
set_option maxHeartbeats 800000 in
theorem ucmp_any (a b : Int) (w : World) : Calls Tryz.prog 51 #[.int .u64 a, .int .u64 b] w fun e w' => e = .returned (.int .i64 (cmpI a b)) ∧ w' = w := by
  have HA := fun w => Lib.hid (nanu_any a w)
  have HB := fun w => Lib.hid (nanu_any b w)
  obtain ⟨r, hr⟩ : ∃ r, cmpI a b = r := ⟨_, rfl⟩
  rw [hr]
  unfold cmpI at hr
  by_cases h1 : a < b
  · rw [if_pos h1] at hr
    have HR := Lib.hid hr
    clear hr
    go_enter Tryz.func51, Tryz.ntmps51
    go_wp2_with fail
    refine (HA _).out.mono ?_
    rintro e w1 ⟨rfl, rfl⟩
    go_wp2_with fail
    refine (HB _).out.mono ?_
    rintro e w2 ⟨rfl, rfl⟩
    go_wp2
    go_ret
    exact ⟨ret_int HR.out, rfl⟩
  · rw [if_neg h1] at hr
    by_cases h2 : b < a
    · rw [if_pos h2] at hr
      have HR := Lib.hid hr
      clear hr
      go_enter Tryz.func51, Tryz.ntmps51
      go_wp2_with fail
      refine (HA _).out.mono ?_
      rintro e w1 ⟨rfl, rfl⟩
      go_wp2_with fail
      refine (HB _).out.mono ?_
      rintro e w2 ⟨rfl, rfl⟩
      go_wp2
      go_ret
      exact ⟨ret_int HR.out, rfl⟩
    · rw [if_neg h2] at hr
      have HR := Lib.hid hr
      clear hr
      go_enter Tryz.func51, Tryz.ntmps51
      go_wp2_with fail
      refine (HA _).out.mono ?_
      rintro e w1 ⟨rfl, rfl⟩
      go_wp2_with fail
      refine (HB _).out.mono ?_
      rintro e w2 ⟨rfl, rfl⟩
      go_wp2
      go_ret
      exact ⟨ret_int HR.out, rfl⟩

theorem cmpR_or (a b : Rec) : cmpR a b = if cmpI a.time b.time = 0 then cmpI (a.seq : Int) (b.seq : Int) else cmpI a.time b.time := by
  unfold cmpR cmpI
  split <;> (repeat' split) <;> omega
set_option maxHeartbeats 3200000 in
/-- record.Compare. -/
theorem compare_any (w : World) (a b : RM) : Calls Tryz.prog 27 #[aggR a, aggR b] w fun e w' => e = .returned (.int .i64 (cmpR a.1 b.1)) ∧ Below w.heap.size w w' := by
  have HN := fun w => Lib.hid (icmp_any a.1.time b.1.time w)
  have HV := fun w => Lib.hid (ucmp_any (a.1.seq : Int) (b.1.seq : Int) w)
  have HO := fun g w k0 k1 => Lib.hid (or_any (cmpI a.1.time b.1.time) (cmpI (a.1.seq : Int) (b.1.seq : Int)) g w k0 k1)
  rw [← cmpR_or] at HO
  unfold aggR slV S8 at *
  obtain ⟨⟨t, s, l, n⟩, A, k, c⟩ := a
  obtain ⟨⟨t1, s1, l1, n1⟩, A1, k1, c1⟩ := b
  simp only at HN HV HO ⊢
  generalize cmpR ⟨t, s, l, n⟩ ⟨t1, s1, l1, n1⟩ = r at *
  generalize cmpI t t1 = r1 at *
  generalize cmpI (s : Int) (s1 : Int) = r2 at *
  go_enter Tryz.func27, Tryz.ntmps27
  go_wp2
  go_region_law (first
    | (go_simp; go_at_call 50; ((with_reducible refine (HN _).out.mono ?_); rintro e w1 ⟨rfl, rfl⟩))
    | (go_simp; go_at_call 51; ((with_reducible refine (HV _).out.mono ?_); rintro e w1 ⟨rfl, rfl⟩))
    | (go_simp; go_at_call 49; ((refine (HO _ _ (by refine at_made _ _ _ _ ?_ _ _ ?_ <;> simp) (by refine at_made _ _ _ _ ?_ _ _ ?_ <;> simp)).out.mono ?_); rintro e w1 ⟨rfl, rfl⟩)))
  all_goals
    go_wp2
    go_ret
    refine ⟨rfl, ?_⟩
    repeat (first | exact Below.refl _ _ | refine below_drew1 ?_ | refine Below.alloc ?_ (by first | (simp; done) | (simp; omega)) _)

set_option maxHeartbeats 800000 in
theorem rbyName_any (x y : Lab) (w : World) : Calls Tryz.prog 47 #[aggL x, aggL y] w fun e w' => e = .returned (.int .i64 (cmpS x.1 y.1)) ∧ w' = boxed w x y := by
  have HC := fun w => Lib.hid (scmp_any x.1 y.1 w)
  unfold aggL boxed S8 at *
  obtain ⟨x1, x2⟩ := x
  obtain ⟨y1, y2⟩ := y
  simp only at HC ⊢
  generalize cmpS x1 y1 = r at *
  go_enter Tryz.func47, Tryz.ntmps47
  go_wp2_with fail
  refine (HC _).out.mono ?_
  rintro e w1 ⟨rfl, rfl⟩
  go_wp2
  go_ret
  exact ⟨rfl, rfl⟩

/-! ### IsSortedFunc -/
def falls (l : List Lab) (i : Nat) : Prop := ∀ j (h : j + 1 < l.length), i ≤ j → less (l[j + 1]).1 (l[j]).1 = false
def SRel (w : World) (l : List Lab) (v : Value) (wr : World) : Prop := ∃ i : Int, v = .int .i64 i ∧ -1 ≤ i ∧ i < l.length ∧ Hid (falls l i.toNat) ∧ Hid (Below w.heap.size w wr)
theorem neg_cmp (a b : List UInt8) : (cmpS a b < 0) ↔ less a b = true := by
  unfold cmpS
  cases h1 : less a b with
  | true => simp
  | false => cases h2 : less b a <;> simp

set_option maxHeartbeats 3200000 in
set_option maxRecDepth 100000 in
theorem issorted_any (w : World) (l : List Lab) (A : Option Addr) (m c : Nat) (h : Lb w A m c l) (b : Bool) (hb : b = true ↔ falls l 0) :
    Calls Tryz.prog 46 #[.slice A m c, .func (.func 47) #[] #[]] w fun e w' => e = .returned (.bool b) ∧ Below w.heap.size w w' := by
  have HBB := Lib.hid hb
  clear hb
  obtain ⟨rfl, hc, hm, hr⟩ := h
  unfold maxLen at hm
  have HR := Lib.hid hr
  clear hr
  have HNM := fun x y w => Lib.hid (rbyName_any x y w)
  unfold aggL boxed S8 at HNM
  have hw1 : IntKind.i64.wrap ((l.length : Int) - 1) = (l.length : Int) - 1 := by rw [IntKind.wrap_i64]; omega
  go_enter Tryz.func46, Tryz.ntmps46
  go_wp2
  clear hw1
  go_loopw [5] (fun v wr => SRel w l v wr) (fun v _ => (intOf v + 1).toNat)
  case atStart => exact ⟨(l.length : Int) - 1, by go_num, by omega, by omega, Lib.hid (fun j h h2 => by omega), Lib.hid (Below.refl _ _)⟩
  case round =>
    obtain ⟨i, rfl, hi0, hi1, HF, HB⟩ := hrel
    by_cases hpos : 0 < i
    · obtain ⟨k, rfl⟩ : ∃ k : Nat, i = (k : Int) + 1 := ⟨(i - 1).toNat, by omega⟩
      have hk1 : k + 1 < l.length := by omega
      obtain ⟨g1, o1, rfl, hg1, hc1⟩ := HR.out (by rw [flat_len]; omega)
      obtain ⟨p0, p1⟩ := cellsL hc1 hk1
      obtain ⟨q0, q1⟩ := cellsL hc1 (show k < l.length by omega)
      have hz1 : g1 < wr.heap.size := Nat.lt_of_lt_of_le hg1 HB.out.size
      have k0 := cell_up HB.out (p := ⟨g1, o1 + (k + 1) * 2, none⟩) hg1 p0
      have k1 := cell_up HB.out (p := ⟨g1, o1 + (k + 1) * 2 + 1, none⟩) hg1 p1
      have m0 := cell_up HB.out (p := ⟨g1, o1 + k * 2, none⟩) hg1 q0
      have m1 := cell_up HB.out (p := ⟨g1, o1 + k * 2 + 1, none⟩) hg1 q1
      obtain ⟨x, hx⟩ : ∃ x, l[k + 1] = x := ⟨_, rfl⟩
      obtain ⟨y, hy⟩ : ∃ y, l[k] = y := ⟨_, rfl⟩
      rw [hx] at k0 k1
      rw [hy] at m0 m1
      have HX := HNM x y
      have HLS : Hid (less x.1 y.1 = less (l[k + 1]).1 (l[k]).1) := Lib.hid (by rw [hx, hy])
      have HNG := Lib.hid (neg_cmp x.1 y.1)
      clear hc1 p0 p1 q0 q1 HNM hx hy
      obtain ⟨x1, x2⟩ := x
      obtain ⟨y1, y2⟩ := y
      simp only at k0 k1 m0 m1 HX HLS HNG
      generalize cmpS x1 y1 = r at *
      have e1 : (0 : Int) ≤ (k : Int) + 1 := by omega
      have e2 : IntKind.i64.wrap ((k : Int) + 1 - 1) = (k : Int) := by rw [IntKind.wrap_i64]; omega
      have e3 : (0 : Int) ≤ (k : Int) := by omega
      have e4 : IntKind.i64.wrap (k : Int) = (k : Int) := by rw [IntKind.wrap_i64]; omega
      have e5 : (k : Int) < (l.length : Int) := by omega
      have e6 : (k : Int) + 1 < (l.length : Int) := by omega
      have HB2 : Hid (Below w.heap.size w (wr.drew)) := Lib.hid (below_drew1 HB.out)
      by_cases hr0 : r < 0
      · have HFL : Hid (¬ falls l 0) := Lib.hid (fun hf => by
          have h1 := hf k hk1 (Nat.zero_le _)
          have h2 := HNG.out.1 hr0
          rw [HLS.out, h1] at h2
          cases h2)
        go_wp2
        go_region_law (first | (go_simp; go_at_call 47; ((with_reducible refine (HX _).out.mono ?_); rintro e w1 ⟨rfl, rfl⟩)))
        all_goals
          go_wp2
          go_ret
          refine ⟨ret_bool ?_, ?_⟩
          · cases b with
            | false => rfl
            | true => exact absurd (HBB.out.1 rfl) HFL.out
          refine below_drew1 (Below.alloc (Below.alloc HB.out HB.out.size _) ?_ _)
          simp
          have := HB.out.size
          omega
      · have HF2 : Hid (falls l k) := Lib.hid (fun j hj hkj => by
          by_cases e : j = k
          · subst e
            cases h3 : less (l[j + 1]).1 (l[j]).1 with
            | false => rfl
            | true => exact absurd (HNG.out.2 (HLS.out.trans h3)) hr0
          · exact HF.out j hj (by omega))
        clear HF
        go_wp2
        go_region_law (first | (go_simp; go_at_call 47; ((with_reducible refine (HX _).out.mono ?_); rintro e w1 ⟨rfl, rfl⟩)))
        all_goals
          go_wp2
          go_roundw
          case rel =>
            refine ⟨(k : Int), by go_num, by omega, by omega, Lib.hid (by simpa using HF2.out), Lib.hid ?_⟩
            refine below_drew1 (Below.alloc (Below.alloc HB.out HB.out.size _) ?_ _)
            simp
            have := HB.out.size
            omega
          case measure => simp [intOf]; omega
    · have HT : Hid (falls l 0) := Lib.hid (by have h := HF.out; rwa [show i.toNat = 0 by omega] at h)
      clear HF
      go_wp2
      go_ret
      exact ⟨ret_bool (HBB.out.2 HT.out).symm, HB.out⟩

end Go.Proofs.YtkgmcabamhpjhaaGreat.RpCmp
