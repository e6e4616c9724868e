/- The program's comparison of two lists of labels: the library's CompareFunc and IsSortedFunc walked, label.Compare, label.hasTwins. Conditions: none but that the lists lie in memory. -/
import Derived.Test.YtngkhcbnndkdeaaLpBoth
namespace Go.Proofs.Ytngkhcbnndkdeaa.LpCmp
open Go Go.RowKit Words AppN Less LbSpec LbText LbMem LbRef LbCmp UtOwn LpOrd LpBoth

theorem cmp_cons (x y : Lab) (a b : List Lab) : cmp (x :: a) (y :: b) = if cmpL x y = 0 then cmp a b else cmpL x y := by
  unfold cmpL
  rw [cmp]
  by_cases e : x = y
  · rw [if_pos e, if_pos e, if_pos rfl]
  · rw [if_neg e, if_neg e]
    split <;> simp
theorem cell_up {w w' : World} {B : Nat} (hb : Below B w w') {p : Addr} (hp : p.block < B) {u : Value} (h : w.cell? p = some u) : w'.cell? p = some u := (hb.cell hp).trans h

set_option maxHeartbeats 3200000 in
set_option maxRecDepth 100000 in
theorem cfunc_any (w : World) (a b : List Lab) (A B : Option Addr) (m n c d : Nat) (ha : Lb w A m c a) (hb : Lb w B n d b) :
    Calls Try.prog 26 #[.slice A m c, .slice B n d, .func (.func 27) #[] #[]] w fun e w' => e = .returned (.int .i64 (cmp a b)) ∧ Below w.heap.size w w' := by
  obtain ⟨rfl, hc, hm, hra⟩ := ha
  obtain ⟨rfl, hd, hn, hrb⟩ := hb
  unfold maxLen at hm hn
  have HRA := Lib.hid hra
  have HRB := Lib.hid hrb
  clear hra hrb
  obtain ⟨r, hrr⟩ : ∃ r, cmp a b = r := ⟨_, rfl⟩
  have HRR := Lib.hid hrr
  rw [hrr]
  clear hrr
  have HBB := fun x y w => Lib.hid (byBoth_any x y w)
  unfold aggL S8 at HBB
  go_enter Try.func26, Try.ntmps26
  go_wp2
  go_loopw [13] (fun v wr => CRel w a b v wr) (fun v _ => a.length - (intOf v).toNat)
  case atStart => exact ⟨0, Nat.zero_le _, Nat.zero_le _, rfl, Lib.hid (by simp), Lib.hid (Below.refl _ _)⟩
  case round =>
    obtain ⟨k, hka, hkb, rfl, HC, HB⟩ := hrel
    have HL := Lib.hid (show cmp a b = r from HRR.out)
    by_cases hla : k < a.length
    · obtain ⟨g1, o1, rfl, hg1, hc1⟩ := HRA.out (by rw [flat_len]; omega)
      obtain ⟨p0, p1⟩ := cellsL hc1 hla
      have hz1 : g1 < wr.heap.size := Nat.lt_of_lt_of_le hg1 HB.out.size
      have k0 := cell_up HB.out (p := ⟨g1, o1 + k * 2, none⟩) hg1 p0
      have k1 := cell_up HB.out (p := ⟨g1, o1 + k * 2 + 1, none⟩) hg1 p1
      by_cases hlb : k < b.length
      · obtain ⟨g2, o2, rfl, hg2, hc2⟩ := HRB.out (by rw [flat_len]; omega)
        obtain ⟨q0, q1⟩ := cellsL hc2 hlb
        have hz2 : g2 < wr.heap.size := Nat.lt_of_lt_of_le hg2 HB.out.size
        have HD : Hid (r = if cmpL a[k] b[k] = 0 then cmp (a.drop (k + 1)) (b.drop (k + 1)) else cmpL a[k] b[k]) := Lib.hid (by
          have h := HC.out
          rw [HRR.out, List.drop_eq_getElem_cons hla, List.drop_eq_getElem_cons hlb, cmp_cons] at h
          exact h)
        have HX := HBB a[k] b[k]
        have hba : ∀ o, Below w.heap.size w (wr.alloc o) := fun o => HB.out.alloc HB.out.size o
        have l0 := fun o => cell_up (hba o) (p := ⟨g2, o2 + k * 2, none⟩) hg2 q0
        have l1 := fun o => cell_up (hba o) (p := ⟨g2, o2 + k * 2 + 1, none⟩) hg2 q1
        clear hc1 hc2 p0 p1 q0 q1 HC HBB hba
        generalize a[k] = x at *
        generalize b[k] = y at *
        obtain ⟨x1, x2⟩ := x
        obtain ⟨y1, y2⟩ := y
        simp only at k0 k1 l0 l1 HX
        generalize cmpL (x1, x2) (y1, y2) = q at *
        by_cases hq : q = 0
        · subst hq
          rw [if_pos rfl] at HD
          go_wp2_with fail
          refine (HX _).out.mono ?_
          rintro e w1 ⟨rfl, hb1⟩
          have HB1 : Hid (Below w.heap.size w w1) := Lib.hid (((HB.out.alloc HB.out.size _).alloc (Nat.le_trans HB.out.size (by simp)) _).trans (hb1.mono (Nat.le_trans HB.out.size (by first | (simp; done) | (simp; omega)))))
          clear hb1 HX
          go_wp2
          go_roundw
          case rel => exact ⟨k + 1, by omega, by omega, by go_num, Lib.hid (by rw [HL.out]; exact HD.out), HB1⟩
          case measure => simp [intOf]; omega
        · rw [if_neg hq] at HD
          go_wp2_with fail
          refine (HX _).out.mono ?_
          rintro e w1 ⟨rfl, hb1⟩
          have HB1 : Hid (Below w.heap.size w w1) := Lib.hid (((HB.out.alloc HB.out.size _).alloc (Nat.le_trans HB.out.size (by simp)) _).trans (hb1.mono (Nat.le_trans HB.out.size (by first | (simp; done) | (simp; omega)))))
          clear hb1 HX
          go_wp2
          go_ret
          exact ⟨ret_int HD.out.symm, HB1.out⟩
      · have HD : Hid (r = 1) := Lib.hid (by
          have h := HC.out
          rw [HRR.out, List.drop_eq_getElem_cons hla, List.drop_eq_nil_of_le (show b.length ≤ k by omega), cmp] at h
          exact h)
        have hkb2 : k = b.length := by omega
        clear hc1 p0 p1 HC HBB hlb
        subst hkb2
        generalize a[b.length] = x at *
        obtain ⟨x1, x2⟩ := x
        simp only at k0 k1
        go_wp2
        go_ret
        exact ⟨ret_int HD.out.symm, HB.out.alloc HB.out.size _⟩
    · have hkl : k = a.length := by omega
      clear HBB
      by_cases hlb : a.length < b.length
      · have HD : Hid (r = -1) := Lib.hid (by
          have h := HC.out
          rw [HRR.out, hkl, List.drop_length, List.drop_eq_getElem_cons hlb, cmp] at h
          exact h)
        clear HC hla
        subst hkl
        go_wp2
        go_ret
        exact ⟨ret_int HD.out.symm, HB.out⟩
      · have HD : Hid (r = 0) := Lib.hid (by
          have h := HC.out
          rw [HRR.out, hkl, List.drop_length, List.drop_eq_nil_of_le (by omega), cmp] at h
          exact h)
        clear HC hla
        subst hkl
        go_wp2
        go_ret
        exact ⟨ret_int HD.out.symm, HB.out⟩

set_option maxHeartbeats 800000 in
/-- label.Compare. -/
theorem pcompare_any (w : World) (a b : List Lab) (A B : Option Addr) (m n c d : Nat) (ha : Lb w A m c a) (hb : Lb w B n d b) :
    Calls Try.prog 13 #[.slice A m c, .slice B n d] w fun e w' => e = .returned (.int .i64 (cmp a b)) ∧ Below w.heap.size w w' := by
  have HC := Lib.hid (cfunc_any w a b A B m n c d ha hb)
  generalize cmp a b = r at *
  clear ha hb
  go_enter Try.func13, Try.ntmps13
  go_wp2_with fail
  refine HC.out.mono ?_
  rintro e w1 ⟨rfl, hb1⟩
  have HB1 := Lib.hid hb1
  clear hb1
  go_wp2
  go_ret
  exact ⟨rfl, HB1.out⟩

/-! ### hasTwins -/
def twins : List Lab → Bool
  | x :: y :: t => (x.1 == y.1) || twins (y :: t)
  | _ => false
def TRel (w : World) (l : List Lab) (v : Value) (wr : World) : Prop := ∃ k : Nat, k + 1 ≤ l.length + 1 ∧ v = .int .i64 ((k : Int) + 1) ∧ Hid (twins l = twins (l.drop k)) ∧ Hid (Below w.heap.size w wr)

set_option maxHeartbeats 3200000 in
set_option maxRecDepth 100000 in
theorem twins_any (w : World) (l : List Lab) (A : Option Addr) (m c : Nat) (h : Lb w A m c l) :
    Calls Try.prog 22 #[.slice A m c] w fun e w' => e = .returned (.bool (twins l)) ∧ Below w.heap.size w w' := by
  obtain ⟨rfl, hc, hm, hr⟩ := h
  unfold maxLen at hm
  have HR := Lib.hid hr
  clear hr
  obtain ⟨r, hrr⟩ : ∃ r, twins l = r := ⟨_, rfl⟩
  have HRR := Lib.hid hrr
  rw [hrr]
  clear hrr
  go_enter Try.func22, Try.ntmps22
  go_wp2
  go_loopw [3] (fun v wr => TRel w l v wr) (fun v _ => l.length - (intOf v).toNat)
  case atStart => exact ⟨0, by omega, rfl, Lib.hid (by simp), Lib.hid (Below.refl _ _)⟩
  case round =>
    obtain ⟨k, hk, rfl, HC, HB⟩ := hrel
    by_cases hlt : k + 1 < l.length
    · obtain ⟨g1, o1, rfl, hg1, hc1⟩ := HR.out (by rw [flat_len]; omega)
      obtain ⟨p0, _⟩ := cellsL hc1 (show k < l.length by omega)
      obtain ⟨q0, _⟩ := cellsL hc1 hlt
      have k0 := cell_up HB.out (p := ⟨g1, o1 + k * 2, none⟩) hg1 p0
      have k1 := cell_up HB.out (p := ⟨g1, o1 + (k + 1) * 2, none⟩) hg1 q0
      have HD : Hid (r = (((l[k]).1 == (l[k + 1]).1) || twins (l.drop (k + 1)))) := Lib.hid (by
        have h := HC.out
        rw [HRR.out, List.drop_eq_getElem_cons (show k < l.length by omega), List.drop_eq_getElem_cons hlt, twins, ← List.drop_eq_getElem_cons hlt] at h
        exact h)
      have HL := Lib.hid (show twins l = r from HRR.out)
      clear hc1 p0 q0 HC
      generalize (l[k]).1 = x at *
      generalize (l[k + 1]).1 = y at *
      obtain ⟨q, hq⟩ : ∃ q, (x == y) = q := ⟨_, rfl⟩
      rw [hq] at HD
      have e1 : (0 : Int) ≤ (k : Int) + 1 := by omega
      have e2 : IntKind.i64.wrap ((k : Int) + 1 - 1) = (k : Int) := by rw [IntKind.wrap_i64]; omega
      cases q with
      | true =>
        go_wp2
        go_quiet (fail)
        go_wp2
        go_ret
        exact ⟨ret_bool (by rw [HD.out]; rfl), below_drewN HB.out _⟩
      | false =>
        go_wp2
        go_quiet (fail)
        go_wp2
        go_roundw
        case rel => exact ⟨k + 1, by omega, by go_num, Lib.hid (by rw [HL.out, HD.out]; rfl), Lib.hid (below_drewN HB.out _)⟩
        case measure => simp [intOf]; omega
    · have HD : Hid (r = false) := Lib.hid (by
        have h := HC.out
        rw [HRR.out] at h
        rw [h]
        have hl : (l.drop k).length ≤ 1 := by rw [List.length_drop]; omega
        match l.drop k, hl with
        | [], _ => rfl
        | [x], _ => rfl
        | _ :: _ :: _, h => simp at h)
      clear HC
      go_wp2
      go_ret
      exact ⟨ret_bool HD.out.symm, HB.out⟩
end Go.Proofs.Ytngkhcbnndkdeaa.LpCmp
