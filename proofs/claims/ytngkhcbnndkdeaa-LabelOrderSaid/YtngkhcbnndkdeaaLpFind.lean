/- label.Find, and the library's IsSortedFunc walked, by names. Condition: a value that is found has at most 2^47 bytes. -/
import Derived.Test.YtngkhcbnndkdeaaLpCan1
import Derived.Test.YtngkhcbnndkdeaaLpCmp
import Derived.Test.YtngkhcbnndkdeaaLbRef
namespace Go.Proofs.Ytngkhcbnndkdeaa.LpFind
open Go Go.RowKit Words AppN Less LbSpec LbText LbMem LbRef LbCmp UtOwn LpOrd LpBoth LpCmp LpCan1

def PRel (w : World) (l : List Lab) (n : List UInt8) (v : Value) (wr : World) : Prop := ∃ k : Nat, k ≤ l.length ∧ v = .int .i64 (k : Int) ∧ Hid (find l n = find (l.drop k) n) ∧ Hid (Below w.heap.size w wr)

set_option maxHeartbeats 1600000 in
set_option maxRecDepth 100000 in
theorem pfind_any (w : World) (l : List Lab) (A : Option Addr) (c m : Nat) (n : List UInt8) (h : Lb w A m c l) (hs : ∀ x ∈ l, x.2.length ≤ 140737488355328) :
    Calls Try.prog 10 #[.slice A m c, S8 n] w fun e w' => e = .returned (.tuple #[S8 ((find l n).getD []), .bool (find l n).isSome]) ∧ Below w.heap.size w w' := by
  obtain ⟨rfl, hc, hm, hr⟩ := h
  unfold maxLen at hm
  have HR := Lib.hid hr
  have HS := Lib.hid hs
  clear hr hs
  obtain ⟨r, hrr⟩ : ∃ r, find l n = r := ⟨_, rfl⟩
  have HRR := Lib.hid hrr
  rw [hrr]
  clear hrr
  unfold S8
  go_enter Try.func10, Try.ntmps10
  go_wp2
  go_loopw [10] (fun v wr => PRel w l n v wr) (fun v _ => l.length - (intOf v).toNat)
  case atStart => exact ⟨0, Nat.zero_le _, rfl, Lib.hid (by simp), Lib.hid (Below.refl _ _)⟩
  case round =>
    obtain ⟨k, hk, rfl, HF, HB⟩ := hrel
    by_cases hlt : k < l.length
    · obtain ⟨g1, o1, rfl, hg1, hc1⟩ := HR.out (by rw [flat_len]; omega)
      obtain ⟨p0, p1⟩ := cellsL hc1 hlt
      have hz1 : g1 < wr.heap.size := Nat.lt_of_lt_of_le hg1 HB.out.size
      have k0 := cell_up HB.out (p := ⟨g1, o1 + k * 2, none⟩) hg1 p0
      have k1 := cell_up HB.out (p := ⟨g1, o1 + k * 2 + 1, none⟩) hg1 p1
      have hd : l.drop k = l[k] :: l.drop (k + 1) := List.drop_eq_getElem_cons hlt
      have HD : Hid (r = if ((l[k]).1 == n) = true then some (l[k]).2 else find (l.drop (k + 1)) n) := Lib.hid (by rw [← HRR.out, HF.out, hd, find_cons])
      have HL := Lib.hid (show find l n = r from HRR.out)
      have HCL := fun w => Lib.hid (clone_any (l[k]).2 w (by have := HS.out _ (List.getElem_mem hlt); omega))
      have HBX : ∀ o, Hid (Below w.heap.size w (wr.alloc o)) := fun o => Lib.hid (HB.out.alloc HB.out.size o)
      clear hc1 p0 p1 hd HF
      generalize l[k] = x at *
      obtain ⟨x1, x2⟩ := x
      simp only at k0 k1 HCL HD
      unfold S8 at HCL
      obtain ⟨q, hq⟩ : ∃ q, (x1 == n) = q := ⟨_, rfl⟩
      have HD2 : Hid (r = if q = true then some x2 else find (l.drop (k + 1)) n) := Lib.hid (by rw [HD.out]; simp only [hq])
      clear HD
      cases q with
      | true =>
        go_wp2_with fail
        refine (HCL _).out.mono ?_
        rintro e w1 ⟨rfl, hb1⟩
        have HB1 : Hid (Below w.heap.size w w1) := Lib.hid ((HBX _).out.trans (hb1.mono (HBX _).out.size))
        clear hb1 HCL
        go_wp2
        go_ret2
        exact ⟨by rw [HD2.out]; rfl, HB1.out⟩
      | false =>
        go_wp2
        go_roundw
        case rel => exact ⟨k + 1, by omega, by go_num, Lib.hid (by rw [HL.out, HD2.out]; rfl), HBX _⟩
        case measure => simp [intOf]; omega
    · have hkl : k = l.length := by omega
      have HE : Hid (r = none) := Lib.hid (by rw [← HRR.out, HF.out, hkl, List.drop_length]; rfl)
      clear HF hlt
      subst hkl
      go_wp2
      go_ret2
      exact ⟨by rw [HE.out]; rfl, HB.out⟩

/-! ### IsSortedFunc -/
def falls (l : List Lab) (i : Nat) : Prop := ∀ j (h : j + 1 < l.length), i ≤ j → less (l[j + 1]).1 (l[j]).1 = false
def SRel (w : World) (l : List Lab) (v : Value) (wr : World) : Prop := ∃ i : Int, v = .int .i64 i ∧ -1 ≤ i ∧ i < l.length ∧ Hid (falls l i.toNat) ∧ Hid (Below w.heap.size w wr)
theorem neg_cmp (a b : List UInt8) : (cmpS a b < 0) ↔ less a b = true := by
  unfold cmpS
  cases h1 : less a b with
  | true => simp
  | false => cases h2 : less b a <;> simp

set_option maxHeartbeats 3200000 in
set_option maxRecDepth 100000 in
theorem issorted_any (w : World) (l : List Lab) (A : Option Addr) (m c : Nat) (h : Lb w A m c l) (b : Bool) (hb : b = true ↔ falls l 0) :
    Calls Try.prog 32 #[.slice A m c, .func (.func 21) #[] #[]] w fun e w' => e = .returned (.bool b) ∧ Below w.heap.size w w' := by
  have HBB := Lib.hid hb
  clear hb
  obtain ⟨rfl, hc, hm, hr⟩ := h
  unfold maxLen at hm
  have HR := Lib.hid hr
  clear hr
  have HNM := fun x y w => Lib.hid (byName_any x y w)
  unfold aggL boxed S8 at HNM
  have hw1 : IntKind.i64.wrap ((l.length : Int) - 1) = (l.length : Int) - 1 := by rw [IntKind.wrap_i64]; omega
  go_enter Try.func32, Try.ntmps32
  go_wp2
  clear hw1
  go_loopw [5] (fun v wr => SRel w l v wr) (fun v _ => (intOf v + 1).toNat)
  case atStart => exact ⟨(l.length : Int) - 1, by go_num, by omega, by omega, Lib.hid (fun j h h2 => by omega), Lib.hid (Below.refl _ _)⟩
  case round =>
    obtain ⟨i, rfl, hi0, hi1, HF, HB⟩ := hrel
    by_cases hpos : 0 < i
    · obtain ⟨k, rfl⟩ : ∃ k : Nat, i = (k : Int) + 1 := ⟨(i - 1).toNat, by omega⟩
      have hk1 : k + 1 < l.length := by omega
      obtain ⟨g1, o1, rfl, hg1, hc1⟩ := HR.out (by rw [flat_len]; omega)
      obtain ⟨p0, p1⟩ := cellsL hc1 hk1
      obtain ⟨q0, q1⟩ := cellsL hc1 (show k < l.length by omega)
      have hz1 : g1 < wr.heap.size := Nat.lt_of_lt_of_le hg1 HB.out.size
      have k0 := cell_up HB.out (p := ⟨g1, o1 + (k + 1) * 2, none⟩) hg1 p0
      have k1 := cell_up HB.out (p := ⟨g1, o1 + (k + 1) * 2 + 1, none⟩) hg1 p1
      have m0 := cell_up HB.out (p := ⟨g1, o1 + k * 2, none⟩) hg1 q0
      have m1 := cell_up HB.out (p := ⟨g1, o1 + k * 2 + 1, none⟩) hg1 q1
      obtain ⟨x, hx⟩ : ∃ x, l[k + 1] = x := ⟨_, rfl⟩
      obtain ⟨y, hy⟩ : ∃ y, l[k] = y := ⟨_, rfl⟩
      rw [hx] at k0 k1
      rw [hy] at m0 m1
      have HX := HNM x y
      have HLS : Hid (less x.1 y.1 = less (l[k + 1]).1 (l[k]).1) := Lib.hid (by rw [hx, hy])
      have HNG := Lib.hid (neg_cmp x.1 y.1)
      clear hc1 p0 p1 q0 q1 HNM hx hy
      obtain ⟨x1, x2⟩ := x
      obtain ⟨y1, y2⟩ := y
      simp only at k0 k1 m0 m1 HX HLS HNG
      generalize cmpS x1 y1 = r at *
      have e1 : (0 : Int) ≤ (k : Int) + 1 := by omega
      have e2 : IntKind.i64.wrap ((k : Int) + 1 - 1) = (k : Int) := by rw [IntKind.wrap_i64]; omega
      have e3 : (0 : Int) ≤ (k : Int) := by omega
      have e4 : IntKind.i64.wrap (k : Int) = (k : Int) := by rw [IntKind.wrap_i64]; omega
      have e5 : (k : Int) < (l.length : Int) := by omega
      have e6 : (k : Int) + 1 < (l.length : Int) := by omega
      have HB2 : Hid (Below w.heap.size w (wr.drew)) := Lib.hid (below_drew1 HB.out)
      by_cases hr0 : r < 0
      · have HFL : Hid (¬ falls l 0) := Lib.hid (fun hf => by
          have h1 := hf k hk1 (Nat.zero_le _)
          have h2 := HNG.out.1 hr0
          rw [HLS.out, h1] at h2
          cases h2)
        go_wp2
        go_region_law (first | (go_simp; go_at_call 21; ((with_reducible refine (HX _).out.mono ?_); rintro e w1 ⟨rfl, rfl⟩)))
        all_goals
          go_wp2
          go_ret
          refine ⟨ret_bool ?_, ?_⟩
          · cases b with
            | false => rfl
            | true => exact absurd (HBB.out.1 rfl) HFL.out
          refine below_drew1 (Below.alloc (Below.alloc HB.out HB.out.size _) ?_ _)
          simp
          have := HB.out.size
          omega
      · have HF2 : Hid (falls l k) := Lib.hid (fun j hj hkj => by
          by_cases e : j = k
          · subst e
            cases h3 : less (l[j + 1]).1 (l[j]).1 with
            | false => rfl
            | true => exact absurd (HNG.out.2 (HLS.out.trans h3)) hr0
          · exact HF.out j hj (by omega))
        clear HF
        go_wp2
        go_region_law (first | (go_simp; go_at_call 21; ((with_reducible refine (HX _).out.mono ?_); rintro e w1 ⟨rfl, rfl⟩)))
        all_goals
          go_wp2
          go_roundw
          case rel =>
            refine ⟨(k : Int), by go_num, by omega, by omega, Lib.hid (by simpa using HF2.out), Lib.hid ?_⟩
            refine below_drew1 (Below.alloc (Below.alloc HB.out HB.out.size _) ?_ _)
            simp
            have := HB.out.size
            omega
          case measure => simp [intOf]; omega
    · have HT : Hid (falls l 0) := Lib.hid (by have h := HF.out; rwa [show i.toNat = 0 by omega] at h)
      clear HF
      go_wp2
      go_ret
      exact ⟨ret_bool (HBB.out.2 HT.out).symm, HB.out⟩
end Go.Proofs.Ytngkhcbnndkdeaa.LpFind
