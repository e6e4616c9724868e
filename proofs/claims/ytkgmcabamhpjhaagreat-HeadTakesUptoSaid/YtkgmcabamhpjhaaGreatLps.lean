/- What the library tells of stringslite_Clone, at this program: each an application of a contract that is proved over any program. Conditions: those of each contract. · The program's comparisons of labels: cmp.Compare of texts, byName, byBoth, hasTwins. Conditions: none but that the lists lie in memory. · The program's comparison of two labels: byBoth. Conditions: none but that the lists lie in memory. · The program's comparison of two lists of labels: the library's CompareFunc and IsSortedFunc walked, label.Compare, label.hasTwins. Conditions: none but that the lists lie in memory. -/
import Derived.Shelf.Strconv.Clone
import Derived.Test.YtkgmcabamhpjhaaGreatProg
import Derived.Test.YtkgmcabamhpjhaaGreatLbRefs
import Derived.OwnWalk
import Derived.Deep.RegionWith
import Derived.Deep.RegionLaw
import Derived.Deep.RegionHeld3
import Derived.BigQuiet
namespace Go.Proofs
open Go.Shelf
def Tryz.laysM316_ren : Go.Shelf.Ren := ⟨fun | 316 => 77 | n => n, fun | 9 => 9 | 3 => 3 | 4 => 4 | 37 => 102 | 0 => 0 | 127 => 140 | 5 => 5 | n => n, fun | n => n⟩
theorem Tryz.laysM316 : Go.Proofs.LaysM.n316 Tryz.prog Tryz.laysM316_ren := {
  mixed := by kernel_rfl
  f316 := Tryz.func77.trans (congrArg some (by kernel_rfl))
  t0 := Tryz.underlying0
  a0 := Tryz.isAgg0
  z0 := Tryz.sizeOf0
  v0 := Tryz.zeroValue0
  t3 := Tryz.underlying3
  a3 := Tryz.isAgg3
  z3 := Tryz.sizeOf3
  v3 := Tryz.zeroValue3
  t4 := Tryz.underlying4
  a4 := Tryz.isAgg4
  z4 := Tryz.sizeOf4
  v4 := Tryz.zeroValue4
  t9 := Tryz.underlying9
  a9 := Tryz.isAgg9
  z9 := Tryz.sizeOf9
  v9 := Tryz.zeroValue9
  t37 := Tryz.underlying102
  a37 := Tryz.isAgg102
  z37 := Tryz.sizeOf102
  v37 := Tryz.zeroValue102
  t127 := Tryz.underlying140
  a127 := Tryz.isAgg140
  z127 := Tryz.sizeOf140
  v127 := Tryz.zeroValue140
  t5 := Tryz.underlying5
  a5 := Tryz.isAgg5
  z5 := Tryz.sizeOf5
  v5 := Tryz.zeroValue5
  i0 := by kernel_rfl
  i3 := by kernel_rfl
  i4 := by kernel_rfl
  i5 := by kernel_rfl
  i9 := by kernel_rfl
  i37 := by kernel_rfl
  i127 := by kernel_rfl }
open Go.RowKit in
theorem Tryz.stringslite_Clone (s : ByteArray) (w : World) (hlim : s.size ≤ 281474976710656) :
    Calls Tryz.prog 77 #[.string s] w fun e w' => e = .returned (.string s) ∧ Below w.heap.size w w' := Any.stringslite_Clone Tryz.laysM316 s w hlim
end Go.Proofs

namespace Go.Proofs.YtkgmcabamhpjhaaGreat.LpOrd
open Go Go.RowKit Words AppN Less LbSpec LbText LbMem LbRef LbCmp UtOwn

/-- How two texts stand to each other. -/
def cmpS (a b : List UInt8) : Int := if less a b = true then -1 else if less b a = true then 1 else 0
theorem gtr_is (a b : List UInt8) : (!(less a b || a == b)) = less b a := by
  by_cases e : a = b
  · subst e
    simp [less_irrefl]
  · rcases less_total e with h | h
    · have h2 : less b a = false := by
        cases e2 : less b a with
        | false => rfl
        | true => have := less_trans h e2; rw [less_irrefl] at this; cases this
      rw [h, h2]
      rfl
    · have h2 : less a b = false := by
        cases e2 : less a b with
        | false => rfl
        | true => have := less_trans h e2; rw [less_irrefl] at this; cases this
      rw [h, h2]
      simpa using e
theorem run_gtr (w : World) (a b : List UInt8) (x : Bool) (h : less b a = x) : (binOp .gtr 9 (.string ⟨a.toArray⟩) (.string ⟨b.toArray⟩)).run Tryz.prog w = .ok (.bool x) w := by
  show Result.ok (Value.bool (!(Op.bytesLess (ByteArray.toList ⟨a.toArray⟩) (ByteArray.toList ⟨b.toArray⟩) || ByteArray.toList ⟨a.toArray⟩ == ByteArray.toList ⟨b.toArray⟩))) w = _
  rw [ByteArray.toList_mk, ByteArray.toList_mk, less_is, gtr_is, h]
theorem run_neqS (w : World) (a : List UInt8) : (binOp .neq 9 (.string ⟨a.toArray⟩) (.string ⟨a.toArray⟩)).run Tryz.prog w = .ok (.bool false) w := by
  show Result.ok (Value.bool (!(ByteArray.toList ⟨a.toArray⟩ == ByteArray.toList ⟨a.toArray⟩))) w = _
  simp

set_option maxHeartbeats 800000 in
theorem nan_any (a : List UInt8) (w : World) : Calls Tryz.prog 114 #[S8 a] w fun e w' => e = .returned (.bool false) ∧ w' = w := by
  have he := fun w => run_neqS w a
  unfold S8
  go_enter Tryz.func114, Tryz.ntmps114
  go_wp2
  go_ret
  exact ⟨rfl, rfl⟩

set_option maxHeartbeats 800000 in
theorem scmp_any (a b : List UInt8) (w : World) : Calls Tryz.prog 73 #[S8 a, S8 b] w fun e w' => e = .returned (.int .i64 (cmpS a b)) ∧ w' = w := by
  have HA := fun w => Lib.hid (nan_any a w)
  have HB := fun w => Lib.hid (nan_any b w)
  unfold S8 at *
  obtain ⟨r, hr⟩ : ∃ r, cmpS a b = r := ⟨_, rfl⟩
  rw [hr]
  unfold cmpS at hr
  rw [← gtr_is a b] at hr
  obtain ⟨s1, h1⟩ : ∃ s, less a b = s := ⟨_, rfl⟩
  obtain ⟨s2, h2⟩ : ∃ s, (a == b) = s := ⟨_, rfl⟩
  rw [h1, h2] at hr
  have HR := Lib.hid hr
  rw [← less_is] at h1
  clear hr
  go_enter Tryz.func73, Tryz.ntmps73
  go_wp2_with fail
  refine (HA _).out.mono ?_
  rintro e w1 ⟨rfl, rfl⟩
  go_wp2_with fail
  refine (HB _).out.mono ?_
  rintro e w2 ⟨rfl, rfl⟩
  cases s1 with
  | true =>
    go_wp2
    go_ret
    exact ⟨ret_int (by have := HR.out; simpa using this), rfl⟩
  | false =>
    cases s2 with
    | true =>
      go_wp2
      go_ret
      exact ⟨ret_int (by have := HR.out; simpa using this), rfl⟩
    | false =>
      go_wp2
      go_ret
      exact ⟨ret_int (by have := HR.out; simpa using this), rfl⟩

/-- The two parameters' boxes. -/
def boxed (w : World) (x y : Lab) : World := (w.alloc (.cells #[S8 x.1, S8 x.2] 70)).alloc (.cells #[S8 y.1, S8 y.2] 70)
theorem below_boxed (w : World) (x y : Lab) : Below w.heap.size w (boxed w x y) := ((Below.refl _ w).alloc (Nat.le_refl _) _).alloc (by simp) _
def aggL (x : Lab) : Value := .agg #[S8 x.1, S8 x.2]

set_option maxHeartbeats 800000 in
theorem byName_any (x y : Lab) (w : World) : Calls Tryz.prog 71 #[aggL x, aggL y] w fun e w' => e = .returned (.int .i64 (cmpS x.1 y.1)) ∧ w' = boxed w x y := by
  have HC := fun w => Lib.hid (scmp_any x.1 y.1 w)
  unfold aggL boxed S8 at *
  obtain ⟨x1, x2⟩ := x
  obtain ⟨y1, y2⟩ := y
  simp only at HC ⊢
  generalize cmpS x1 y1 = r at *
  go_enter Tryz.func71, Tryz.ntmps71
  go_wp2_with fail
  refine (HC _).out.mono ?_
  rintro e w1 ⟨rfl, rfl⟩
  go_wp2
  go_ret
  exact ⟨rfl, rfl⟩

/-- How two labels stand to each other. -/
def cmpL (x y : Lab) : Int := if x = y then 0 else if ltL x y = true then -1 else 1
theorem cmpL_or (x y : Lab) : cmpL x y = if cmpS x.1 y.1 = 0 then cmpS x.2 y.2 else cmpS x.1 y.1 := by
  unfold cmpL cmpS ltL
  obtain ⟨x1, x2⟩ := x
  obtain ⟨y1, y2⟩ := y
  simp only [Prod.mk.injEq]
  by_cases e1 : x1 = y1
  · subst e1
    by_cases e2 : x2 = y2
    · subst e2
      simp [less_irrefl]
    · rcases less_total e2 with h | h
      · simp [less_irrefl, h, e2]
      · have h2 : less x2 y2 = false := by
          cases e3 : less x2 y2 with
          | false => rfl
          | true => have := less_trans h e3; rw [less_irrefl] at this; cases this
        simp [less_irrefl, h, h2, e2]
  · rcases less_total e1 with h | h
    · simp [h, e1]
    · have h2 : less x1 y1 = false := by
        cases e3 : less x1 y1 with
        | false => rfl
        | true => have := less_trans h e3; rw [less_irrefl] at this; cases this
      simp [h, h2, e1]

/-! ### cmp.Or -/
set_option maxHeartbeats 800000 in
theorem or_any (a b : Int) (g : Nat) (w : World) (k0 : w.cell? ⟨g, 0, none⟩ = some (.int .i64 a)) (k1 : w.cell? ⟨g, 1, none⟩ = some (.int .i64 b)) :
    Calls Tryz.prog 49 #[.slice (some ⟨g, 0, none⟩) 2 2] w fun e w' => e = .returned (.int .i64 (if a = 0 then b else a)) ∧ w' = w := by
  by_cases ha : a = 0
  · subst ha
    rw [if_pos rfl]
    by_cases hb : b = 0
    · subst hb
      go_enter Tryz.func49, Tryz.ntmps49
      go_wp2
      refine wp_loop_rounds 3 ?_
      iterate 3
        rw [rounds_succ]
        go_wp2
      go_ret
      exact ⟨rfl, rfl⟩
    · go_enter Tryz.func49, Tryz.ntmps49
      go_wp2
      refine wp_loop_rounds 2 ?_
      iterate 2
        rw [rounds_succ]
        go_wp2
      go_ret
      exact ⟨rfl, rfl⟩
  · rw [if_neg ha]
    go_enter Tryz.func49, Tryz.ntmps49
    go_wp2
    refine wp_loop_rounds 1 ?_
    rw [rounds_succ]
    go_wp2
    go_ret
    exact ⟨rfl, rfl⟩
end Go.Proofs.YtkgmcabamhpjhaaGreat.LpOrd

namespace Go.Proofs.YtkgmcabamhpjhaaGreat.LpBoth
open Go Go.RowKit Words AppN Less LbSpec LbText LbMem LbRef LbCmp UtOwn LpOrd

theorem at_made (w : World) (cs : Array Value) (T : TypeId) (g : Nat) (hg : g = w.heap.size) (k : Nat) (u : Value) (hu : cs[k]? = some u) : (w.alloc (.cells cs T)).cell? ⟨g, k, none⟩ = some u := by
  subst hg
  rw [World.cell?_alloc_at _ _ _ _ rfl]
  simpa using hu
theorem below_drew1 {w0 w : World} {B : Nat} (h : Below B w0 w) : Below B w0 w.drew := ⟨h.os, h.tape, h.output, h.size, h.block⟩


end Go.Proofs.YtkgmcabamhpjhaaGreat.LpBoth

namespace Go.Proofs.YtkgmcabamhpjhaaGreat.LpCmp
open Go Go.RowKit Words AppN Less LbSpec LbText LbMem LbRef LbCmp UtOwn LpOrd LpBoth

theorem cmp_cons (x y : Lab) (a b : List Lab) : cmp (x :: a) (y :: b) = if cmpL x y = 0 then cmp a b else cmpL x y := by
  unfold cmpL
  rw [cmp]
  by_cases e : x = y
  · rw [if_pos e, if_pos e, if_pos rfl]
  · rw [if_neg e, if_neg e]
    split <;> simp
theorem cell_up {w w' : World} {B : Nat} (hb : Below B w w') {p : Addr} (hp : p.block < B) {u : Value} (h : w.cell? p = some u) : w'.cell? p = some u := (hb.cell hp).trans h



def twins : List Lab → Bool
  | x :: y :: t => (x.1 == y.1) || twins (y :: t)
  | _ => false
def TRel (w : World) (l : List Lab) (v : Value) (wr : World) : Prop := ∃ k : Nat, k + 1 ≤ l.length + 1 ∧ v = .int .i64 ((k : Int) + 1) ∧ Hid (twins l = twins (l.drop k)) ∧ Hid (Below w.heap.size w wr)

set_option maxHeartbeats 3200000 in
set_option maxRecDepth 100000 in
theorem twins_any (w : World) (l : List Lab) (A : Option Addr) (m c : Nat) (h : Lb w A m c l) :
    Calls Tryz.prog 72 #[.slice A m c] w fun e w' => e = .returned (.bool (twins l)) ∧ Below w.heap.size w w' := by
  obtain ⟨rfl, hc, hm, hr⟩ := h
  unfold maxLen at hm
  have HR := Lib.hid hr
  clear hr
  obtain ⟨r, hrr⟩ : ∃ r, twins l = r := ⟨_, rfl⟩
  have HRR := Lib.hid hrr
  rw [hrr]
  clear hrr
  go_enter Tryz.func72, Tryz.ntmps72
  go_wp2
  go_loopw [3] (fun v wr => TRel w l v wr) (fun v _ => l.length - (intOf v).toNat)
  case atStart => exact ⟨0, by omega, rfl, Lib.hid (by simp), Lib.hid (Below.refl _ _)⟩
  case round =>
    obtain ⟨k, hk, rfl, HC, HB⟩ := hrel
    by_cases hlt : k + 1 < l.length
    · obtain ⟨g1, o1, rfl, hg1, hc1⟩ := HR.out (by rw [flat_len]; omega)
      obtain ⟨p0, _⟩ := cellsL hc1 (show k < l.length by omega)
      obtain ⟨q0, _⟩ := cellsL hc1 hlt
      have k0 := cell_up HB.out (p := ⟨g1, o1 + k * 2, none⟩) hg1 p0
      have k1 := cell_up HB.out (p := ⟨g1, o1 + (k + 1) * 2, none⟩) hg1 q0
      have HD : Hid (r = (((l[k]).1 == (l[k + 1]).1) || twins (l.drop (k + 1)))) := Lib.hid (by
        have h := HC.out
        rw [HRR.out, List.drop_eq_getElem_cons (show k < l.length by omega), List.drop_eq_getElem_cons hlt, twins, ← List.drop_eq_getElem_cons hlt] at h
        exact h)
      have HL := Lib.hid (show twins l = r from HRR.out)
      clear hc1 p0 q0 HC
      generalize (l[k]).1 = x at *
      generalize (l[k + 1]).1 = y at *
      obtain ⟨q, hq⟩ : ∃ q, (x == y) = q := ⟨_, rfl⟩
      rw [hq] at HD
      have e1 : (0 : Int) ≤ (k : Int) + 1 := by omega
      have e2 : IntKind.i64.wrap ((k : Int) + 1 - 1) = (k : Int) := by rw [IntKind.wrap_i64]; omega
      cases q with
      | true =>
        go_wp2
        go_quiet (fail)
        go_wp2
        go_ret
        exact ⟨ret_bool (by rw [HD.out]; rfl), below_drewN HB.out _⟩
      | false =>
        go_wp2
        go_quiet (fail)
        go_wp2
        go_roundw
        case rel => exact ⟨k + 1, by omega, by go_num, Lib.hid (by rw [HL.out, HD.out]; rfl), Lib.hid (below_drewN HB.out _)⟩
        case measure => simp [intOf]; omega
    · have HD : Hid (r = false) := Lib.hid (by
        have h := HC.out
        rw [HRR.out] at h
        rw [h]
        have hl : (l.drop k).length ≤ 1 := by rw [List.length_drop]; omega
        match l.drop k, hl with
        | [], _ => rfl
        | [x], _ => rfl
        | _ :: _ :: _, h => simp at h)
      clear HC
      go_wp2
      go_ret
      exact ⟨ret_bool HD.out.symm, HB.out⟩

end Go.Proofs.YtkgmcabamhpjhaaGreat.LpCmp

