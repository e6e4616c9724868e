/- The program's mayBe: whether a manifest may be, told by a set of its segments' numbers. Conditions: none but that the manifest lies in memory. · The program's numbers of a manifest, and its Write: new memory that holds the manifest's bytes, or the error; nothing that was there has changed. Conditions: the manifest lies in memory; of numbers: it may be. -/
import Derived.Test.YtjninegpaoblfaaGreatDoorRefMays
import Derived.Maps.OwnSet
import Derived.Test.YtjninegpaoblfaaGreatDoorRefMws
namespace Go.Proofs.YtjninegpaoblfaaGreatDoor.MpMay
open Go Go.RowKit Go.Maps Words AppN MfSpec MfMem RefMf

/-! ### Plain: the set of the first k numbers -/
def ids (m : Man) (k : Nat) : List Lit := (m.segs.take k).map fun s => Lit.int .i64 s.id
def Sd (m : Man) (k : Nat) : DataW Unit := setOf (.agg []) (ids m k)
theorem ids_key (m : Man) (k : Nat) : ∀ x ∈ ids m k, WideAt.IsKeyLit x := fun x hx => by obtain ⟨_, _, rfl⟩ := List.mem_map.1 hx; trivial
theorem ids_succ {m : Man} {k : Nat} {s : Sg} (hs : m.segs[k]? = some s) : ids m (k + 1) = ids m k ++ [.int .i64 s.id] := by
  obtain ⟨hk, e⟩ := List.getElem?_eq_some_iff.1 hs
  unfold ids
  rw [List.take_succ_eq_append_getElem hk, List.map_append, e]
  rfl
theorem sd_zero (m : Man) : Sd m 0 = .map [] := by simp [Sd, ids, setOf]
theorem sd_succ {m : Man} {k : Nat} {s : Sg} (hs : m.segs[k]? = some s) : Sd m (k + 1) = (Sd m k).put (.int .i64 s.id) (.agg []) := by
  unfold Sd
  rw [ids_succ hs, setOf_snoc]
theorem has_iff (m : Man) (k : Nat) (x : Int) : Maps.has (Sd m k) (.int .i64 x) = true ↔ ∃ i t, i < k ∧ m.segs[i]? = some t ∧ t.id = x := by
  unfold Sd
  rw [has_setOf _ _ _ (ids_key m k), List.any_eq_true]
  constructor
  · rintro ⟨y, hy, hs⟩
    obtain ⟨s, hm, rfl⟩ := List.mem_map.1 hy
    obtain ⟨i, hi⟩ := List.mem_iff_getElem?.1 hm
    rw [List.getElem?_take] at hi
    split at hi
    · rename_i hik
      refine ⟨i, s, hik, hi, ?_⟩
      have : decide (IntKind.i64 = IntKind.i64 ∧ s.id = x) = true := hs
      simpa using this
    · cases hi
  · rintro ⟨i, t, hik, hi, rfl⟩
    refine ⟨.int .i64 t.id, List.mem_map.2 ⟨t, List.mem_iff_getElem?.2 ⟨i, by rw [List.getElem?_take, if_pos hik]; exact hi⟩, rfl⟩, ?_⟩
    show decide (IntKind.i64 = IntKind.i64 ∧ t.id = t.id) = true
    simp
theorem size_zero (m : Man) : Maps.size (Sd m 0) = 0 := by rw [sd_zero]; rfl
theorem size_iff (m : Man) : ∀ k, k ≤ m.segs.length → (∀ i s, i < k → m.segs[i]? = some s → segMay m.next s = true) → Maps.size (Sd m k) ≤ k ∧ (Maps.size (Sd m k) = k ↔ segsMay m k)
  | 0, _, _ => by
    rw [size_zero]
    exact ⟨Nat.le_refl _, fun _ => ⟨fun i s hi => by omega, fun i j s t _ hj => by omega⟩, fun _ => rfl⟩
  | k + 1, hk, h => by
    have hs : m.segs[k]? = some m.segs[k] := List.getElem?_eq_getElem (by omega)
    obtain ⟨h1, h2⟩ := size_iff m k (by omega) (fun i s hi => h i s (by omega))
    have hp := h k _ (by omega) hs
    rw [sd_succ hs, size_put (show Tidy (Sd m k) from tidy_setOf _ _ (ids_key m k)) _, segsMay_succ hs]
    by_cases hh : Maps.has (Sd m k) (.int .i64 (m.segs[k]).id) = true
    · rw [if_pos hh]
      obtain ⟨i, t, hik, hi, he⟩ := (has_iff m k _).1 hh
      exact ⟨by omega, fun e => by omega, fun ⟨_, _, h3⟩ => absurd he (h3 i t hik hi)⟩
    · rw [if_neg hh]
      refine ⟨by omega, fun e => ⟨h2.1 (by omega), hp, fun i t hik hi he => hh ((has_iff m k _).2 ⟨i, t, hik, hi, he⟩)⟩, fun ⟨h3, _, _⟩ => by rw [h2.2 h3]⟩
theorem may_size {m : Man} (hh : headMay m = true) (hp : ∀ i s, i < m.segs.length → m.segs[i]? = some s → segMay m.next s = true) : may m = decide (Maps.size (Sd m m.segs.length) = m.segs.length) := by
  rw [Bool.eq_iff_iff, may_iff, decide_eq_true_eq, (size_iff m _ (Nat.le_refl _) hp).2]
  exact ⟨fun h => h.2, fun h => ⟨hh, h⟩⟩
theorem not_head {m : Man} (h : headMay m = false) : may m = false := by
  cases e : may m with
  | false => rfl
  | true => rw [((may_iff m).1 e).1] at h; cases h
theorem not_seg {m : Man} {k : Nat} {s : Sg} (hs : m.segs[k]? = some s) (h : segMay m.next s = false) : may m = false := by
  cases e : may m with
  | false => rfl
  | true => rw [((may_iff m).1 e).2.1 k s (List.getElem?_eq_some_iff.1 hs).1 hs] at h; cases h

/-! ### The program -/
theorem lawI : Keyed Tryz.prog 3 := int_keyed Tryz.underlying3
theorem six : ∀ q1 q2 q3 q4 q5 : Bool, q1 = true ∨ (q1 = false ∧ q2 = true) ∨ (q1 = false ∧ q2 = false ∧ q3 = true) ∨ (q1 = false ∧ q2 = false ∧ q3 = false ∧ q4 = true) ∨ (q1 = false ∧ q2 = false ∧ q3 = false ∧ q4 = false ∧ q5 = true) ∨ (q1 = false ∧ q2 = false ∧ q3 = false ∧ q4 = false ∧ q5 = false) := by decide
def isNum (n : Int) : Bool := decide (1 ≤ n) && decide (n ≤ 1000000000)
theorem isNumber_any (n : Int) (w : World) : Calls Tryz.prog 68 #[.int .i64 n] w fun e w' => e = .returned (.bool (isNum n)) ∧ w = w' := by
  unfold isNum
  by_cases h : 1 ≤ n
  · have h1 : decide (1 ≤ n) = true := decide_eq_true h
    rw [h1]
    obtain ⟨q, hq⟩ : ∃ q, decide (n ≤ 1000000000) = q := ⟨_, rfl⟩
    rw [hq]
    go_enter Tryz.func68, Tryz.ntmps68
    go_wp2
    go_ret
    exact ⟨by rw [Bool.true_and]; rfl, rfl⟩
  · have h1 : decide (1 ≤ n) = false := decide_eq_false h
    rw [h1]
    go_enter Tryz.func68, Tryz.ntmps68
    go_wp2
    go_ret
    exact ⟨rfl, rfl⟩

def MRel (W : World) (m : Man) (i : Value) (wr : World) : Prop := ∃ k : Nat, k ≤ m.segs.length ∧ i = .int .i64 (k : Int) ∧ Hid (wr.ownsMap Tryz.prog 3 unitElem W.heap.size k (Sd m k)) ∧ Hid (∀ i s, i < k → m.segs[i]? = some s → segMay m.next s = true) ∧ Hid (Below W.heap.size W wr) ∧ W.heap.size + 1 ≤ wr.heap.size

set_option maxHeartbeats 3200000 in
set_option maxRecDepth 100000 in
theorem mayBe_any (w : World) (m : MM) (hm : OkM w m) :
    Calls Tryz.prog 44 #[aggM m] w fun e w' => e = .returned (.bool (may m.1)) ∧ Below w.heap.size w w' := by
  have HS := Lib.hid hm.segs
  have HO := Lib.hid hm.ok
  clear hm
  have hmm := @run_makeMap Tryz.prog
  obtain ⟨⟨wal, next, seq, mark, segs⟩, A, n, c⟩ := m
  have hn2 := HS.out.le
  have hn3 := HS.out.cap
  have HN := Lib.hid HS.out.len
  unfold maxLen at hn3
  simp only at HS HO HN hn2 hn3 ⊢
  obtain ⟨W, hW⟩ : ∃ W, W = w.alloc (boxM (⟨wal, next, seq, mark, segs⟩, A, n, c)) := ⟨_, rfl⟩
  have HB : Hid (Below w.heap.size w W) := Lib.hid (by rw [hW]; exact (Below.refl _ w).alloc (Nat.le_refl _) _)
  have HBX : Hid (BoxM W w.heap.size (⟨wal, next, seq, mark, segs⟩, A, n, c)) := Lib.hid (by rw [hW]; exact boxed1 w _)
  have hws : w.heap.size < W.heap.size := World.block_lt_of_cell? W ⟨w.heap.size, 0, none⟩ HBX.out.c0
  have HW : Hid (w.alloc (boxM (⟨wal, next, seq, mark, segs⟩, A, n, c)) = W) := Lib.hid hW.symm
  clear hW
  unfold boxM at HW
  simp only at HW
  obtain ⟨b0, b1, b2, b3, b4⟩ := HBX.out
  simp only at b0 b1 b2 b3 b4
  have C1 := Lib.hid fun wz => isNumber_any wal wz
  have C2 := Lib.hid fun wz => isNumber_any next wz
  obtain ⟨q1, h1⟩ : ∃ q, isNum wal = q := ⟨_, rfl⟩
  obtain ⟨q2, h2⟩ : ∃ q, isNum next = q := ⟨_, rfl⟩
  obtain ⟨q5, h5⟩ : ∃ q, decide (1024 < (n : Int)) = q := ⟨_, rfl⟩
  have HH : Hid (headMay ⟨wal, next, seq, mark, segs⟩ = (q1 && (q2 && !q5))) := Lib.hid (by
    rw [← h1, ← h2, ← h5]
    unfold headMay isNum
    simp only
    have := HN.out
    rw [show decide (segs.length ≤ 1024) = !decide (1024 < (n : Int)) by rw [← decide_not, decide_eq_decide]; omega]
    simp only [Bool.and_assoc])
  rw [h1] at C1
  rw [h2] at C2
  unfold aggM slV
  simp only
  clear h1 h2
  obtain ⟨r, hr⟩ : ∃ r, may ⟨wal, next, seq, mark, segs⟩ = r := ⟨_, rfl⟩
  have HR := Lib.hid hr
  rw [hr]
  clear hr
  have hcases : q1 = false ∨ (q1 = true ∧ q2 = false) ∨ (q1 = true ∧ q2 = true ∧ q5 = true) ∨ (q1 = true ∧ q2 = true ∧ q5 = false) := by cases q1 <;> cases q2 <;> cases q5 <;> simp
  go_enter Tryz.func44, Tryz.ntmps44
  go_wp2_with fail
  rw [HW.out]
  refine (C1.out W).mono ?_
  rintro e w9 ⟨rfl, rfl⟩
  rcases hcases with rfl | ⟨rfl, rfl⟩ | ⟨rfl, rfl, rfl⟩ | ⟨rfl, rfl, rfl⟩
  case inl =>
    go_wp2
    go_ret
    exact ⟨by rw [← HR.out, not_head HH.out]; rfl, HB.out⟩
  case inr.inl =>
    go_wp2_with fail
    refine (C2.out W).mono ?_
    rintro e w9 ⟨rfl, rfl⟩
    go_wp2
    go_ret
    exact ⟨by rw [← HR.out, not_head HH.out]; rfl, HB.out⟩
  case inr.inr.inl =>
    go_wp2_with fail
    refine (C2.out W).mono ?_
    rintro e w9 ⟨rfl, rfl⟩
    go_wp2
    go_ret
    exact ⟨by rw [← HR.out, not_head HH.out]; rfl, HB.out⟩
  case inr.inr.inr =>
    go_wp2_with fail
    refine (C2.out W).mono ?_
    rintro e w9 ⟨rfl, rfl⟩
    have HMM := Lib.hid (World.ownsMap_made (H := Unit) W Tryz.prog 3 unitElem)
    have HBM : Hid (Below W.heap.size W (W.alloc (.map #[] 0))) := Lib.hid ((Below.refl _ W).alloc (Nat.le_refl _) _)
    have b4' := (HBX.out.up HBM.out hws).c4
    simp only at b4'
    have HN9 : Hid (n ≤ 1024) := Lib.hid (by have := of_decide_eq_false h5; omega)
    clear C1 C2
    go_wp2
    go_loopw [26] (fun i wr => MRel W ⟨wal, next, seq, mark, segs⟩ i wr) (fun i _ => segs.length - (intOf i).toNat)
    case atStart => exact ⟨0, Nat.zero_le _, rfl, Lib.hid (by rw [sd_zero]; exact HMM.out), Lib.hid (fun i s hi => by omega), HBM, by simp⟩
    case round =>
      obtain ⟨k, hk, rfl, HOW, HAL, HBr, hwz⟩ := hrel
      simp only at hk
      have HBW : Hid (Below w.heap.size w wr) := Lib.hid (HB.out.trans (HBr.out.mono HB.out.size))
      have c1 := (HBX.out.up HBr.out hws).c1
      have c4 := (HBX.out.up HBr.out hws).c4
      simp only at c1 c4
      clear b0 b1 b2 b3 b4 b4' 
      by_cases hlt : k < n
      · have hlt2 : k < segs.length := by have := HN.out; omega
        obtain ⟨g, o, e, hg, hc⟩ := HS.out.rd (by rw [flatS_len]; omega)
        simp only at e
        subst e
        obtain ⟨p0, p1, p2, p3⟩ := cellsS hc hlt2
        have k0 := cell_up HBW.out (p := ⟨g, o + k * 4, none⟩) hg p0
        have k1 := cell_up HBW.out (p := ⟨g, o + k * 4 + 1, none⟩) hg p1
        have k2 := cell_up HBW.out (p := ⟨g, o + k * 4 + 2, none⟩) hg p2
        have k3 := cell_up HBW.out (p := ⟨g, o + k * 4 + 3, none⟩) hg p3
        have HK : Hid (segs[k]? = some segs[k]) := Lib.hid (List.getElem?_eq_getElem hlt2)
        have HX := Lib.hid (HO.out.segs _ (List.getElem_mem hlt2))
        clear p0 p1 p2 p3
        generalize segs[k] = x at *
        obtain ⟨x0, x1, x2, x3⟩ := x
        simp only at k0 k1 k2 k3
        have i1 : (0 : Int) ≤ (k : Int) := by omega
        have i2 : (k : Int) < (n : Int) := by omega
        have hwr : w.heap.size < wr.heap.size := Nat.lt_of_lt_of_le hws HBr.out.size
        have HBA : Hid (Below wr.heap.size wr (wr.alloc (.cells #[.int .i64 x0, .int .i64 x1, .int .i64 x2, .int .i64 x3] 65))) := Lib.hid ((Below.refl _ wr).alloc (Nat.le_refl _) _)
        have c1' := cell_up HBA.out (p := ⟨w.heap.size, 1, none⟩) hwr c1
        have HOA := Lib.hid (HOW.out.alloc (.cells #[.int .i64 x0, .int .i64 x1, .int .i64 x2, .int .i64 x3] 65))
        have HBY : Hid (Below W.heap.size W (wr.alloc (.cells #[.int .i64 x0, .int .i64 x1, .int .i64 x2, .int .i64 x3] 65))) := Lib.hid (HBr.out.trans (HBA.out.mono HBr.out.size))
        have HBZ : Hid (Below w.heap.size w (wr.alloc (.cells #[.int .i64 x0, .int .i64 x1, .int .i64 x2, .int .i64 x3] 65))) := Lib.hid (HBW.out.trans (HBA.out.mono HBW.out.size))
        obtain ⟨q1, h1⟩ : ∃ q, decide (x0 < 1) = q := ⟨_, rfl⟩
        obtain ⟨q2, h2⟩ : ∃ q, decide (next ≤ x0) = q := ⟨_, rfl⟩
        obtain ⟨q3, h3⟩ : ∃ q, decide (x1 < 1) = q := ⟨_, rfl⟩
        obtain ⟨q4, h4⟩ : ∃ q, decide (65536 < x1) = q := ⟨_, rfl⟩
        obtain ⟨q5, h5⟩ : ∃ q, decide (x3 < x2) = q := ⟨_, rfl⟩
        have HX0 : Hid (segMay next ⟨x0, x1, x2, x3⟩ = (!q1 && (!q2 && (!q3 && (!q4 && !q5))))) := Lib.hid (by
          unfold segMay
          simp only
          rw [← h1, ← h2, ← h3, ← h4, ← h5]
          simp only [← decide_not]
          congr 1
          · rw [decide_eq_decide]; omega
          congr 1
          · rw [decide_eq_decide]; omega
          congr 1
          · rw [decide_eq_decide]; omega
          congr 1
          · rw [decide_eq_decide]; omega
          · rw [decide_eq_decide]; omega)
        have hkey : keyOf Tryz.prog 3 (.int .i64 x0) = some (.int .i64 x0) := keyOf_int_mk Tryz.underlying3 (by have := HX.out.id; unfold In64 at this; exact WalkArith.wf_i64 this)
        have hk9 : k ≤ 140737488355328 := by have := HN9.out; omega
        have hsz : wr.heap.size < (wr.alloc (.cells #[.int .i64 x0, .int .i64 x1, .int .i64 x2, .int .i64 x3] 65)).heap.size := by simp
        rcases six q1 q2 q3 q4 q5 with rfl | ⟨rfl, rfl⟩ | ⟨rfl, rfl, rfl⟩ | ⟨rfl, rfl, rfl, rfl⟩ | ⟨rfl, rfl, rfl, rfl, rfl⟩ | ⟨rfl, rfl, rfl, rfl, rfl⟩
        case inr.inr.inr.inr.inr =>
          go_wp2_with (first
            | (at_mapUpdate; refine wpList_mapUpdate_own _ rfl _ _ _ 101 rfl 3 102 lawI Tryz.underlying101 (unitElem (H := Unit)) W.heap.size k _ rfl HOA.out (by unfold maxLen; omega) _ _ _ rfl rfl hkey _ [] unitElem_mk ?_; intro w1 hown1 hgrow1)
            | go_in)
          have HB1 : Hid (Below W.heap.size W w1) := Lib.hid (HBY.out.grown hgrow1 (by omega) (fun j hj => by cases hj; exact Nat.le_refl _))
          have HO1 := Lib.hid hown1
          have hs1 := hgrow1.size
          clear hown1 hgrow1
          go_roundw
          case rel =>
            refine ⟨k + 1, by simp only; omega, by go_num, Lib.hid (by rw [sd_succ (m := ⟨wal, next, seq, mark, segs⟩) HK.out]; exact HO1.out), Lib.hid (fun i s hi hs => ?_), HB1, by omega⟩
            by_cases hik : i = k
            · subst hik
              have := HK.out.symm.trans hs
              injection this with this
              subst this
              exact HX0.out
            · exact HAL.out i s (by omega) hs
          case measure => simp [intOf]; omega
        all_goals
          go_wp2
          go_ret
          exact ⟨by rw [← HR.out, not_seg (m := ⟨wal, next, seq, mark, segs⟩) HK.out HX0.out]; rfl, HBZ.out⟩
      · have hkn : k = n := by have := HN.out; omega
        have hkl : k = segs.length := by have := HN.out; omega
        have HE : Hid (r = decide ((Maps.size (Sd ⟨wal, next, seq, mark, segs⟩ k) : Int) = (n : Int))) := Lib.hid (by
          rw [← HR.out, may_size HH.out (fun i s hi => HAL.out i s (by simp only at hi; omega)), decide_eq_decide]
          simp only
          rw [← hkl]
          omega)
        have i2 : ¬ ((k : Int) < (n : Int)) := by omega
        clear hkl
        go_wp2_with (first
          | (at_len; refine wpList_len_own _ rfl _ 101 rfl 3 102 Tryz.underlying101 (unitElem (H := Unit)) W.heap.size k _ rfl HOW.out ?_)
          | go_in)
        go_ret
        exact ⟨by rw [HE.out, hkn]; rfl, HBW.out⟩
end Go.Proofs.YtjninegpaoblfaaGreatDoor.MpMay

namespace Go.Proofs.YtjninegpaoblfaaGreatDoor.MpNums
open Go Go.RowKit Words AppN MfSpec MfMem RefMf RefMay RefMw Plain Zig Put Framed RefPut MpMay

set_option maxHeartbeats 3200000 in
set_option maxRecDepth 100000 in
theorem numbers_any (w : World) (m : MM) (hm : OkM w m) (hM : May m.1) :
    Calls Tryz.prog 47 #[aggM m] w fun e w' => ∃ v, e = .returned v ∧ w'.ownsRow w.heap.size 34 1 v (nums m.1).length ((nums m.1).map B64) ∧ Below w.heap.size w w' := by
  obtain ⟨i0, hi, hz0, hz1, hz2⟩ := info_parts info_u64
  have HS := Lib.hid hm.segs
  have HO := Lib.hid hm.ok
  have hn2 := hm.segs.le
  have hn3 := hm.segs.cap
  have HN := Lib.hid hm.segs.len
  have HMAY := Lib.hid hM
  obtain ⟨w1, hW⟩ : ∃ W, W = w.alloc (boxM m) := ⟨_, rfl⟩
  have HX1 : Hid (BoxM w1 w.heap.size m) := Lib.hid (by rw [hW]; exact boxed1 w m)
  have HB1 : Hid (Below w.heap.size w w1) := Lib.hid (by rw [hW]; exact (Below.refl _ w).alloc (Nat.le_refl _) _)
  have hw1 : w.heap.size < w1.heap.size := World.block_lt_of_cell? w1 ⟨w.heap.size, 0, none⟩ HX1.out.c0
  have HW1 : Hid (w.alloc (boxM m) = w1) := Lib.hid hW.symm
  clear hW hm hM
  obtain ⟨⟨wal, next, seq, mark, segs⟩, A, n, c⟩ := m
  unfold maxLen at hn3
  unfold aggM slV
  unfold boxM at HW1
  simp only at HS HO hn2 hn3 HN HMAY HX1 HW1 ⊢
  have f0 := wrap_u (n := wal) (by have := HMAY.out.head.wal; simp only at this; omega)
  have f1 := wrap_u (n := next) (by have := HMAY.out.head.next; simp only at this; omega)
  have f4 := wrap_u (n := (n : Int)) (by omega)
  have hzm := zig64 HO.out.mark
  simp only at hzm
  have HZ0 : Hid (zig mark = ((u (zig mark)).toNat : Int)) := Lib.hid (by rw [u_toNat (by omega)]; omega)
  have HZ : ∀ wz, Hid (Calls Tryz.prog 70 #[.int .i64 mark] wz fun e w' => e = .returned (.int .u64 ((u (zig mark)).toNat : Int)) ∧ wz = w') := fun wz => Lib.hid (by rw [← HZ0.out]; exact zig_any mark wz HO.out.mark.1 HO.out.mark.2)
  obtain ⟨x0, x1, x2, x3, x4⟩ := HX1.out
  simp only at x0 x1 x2 x3 x4
  have HL : Hid (upto ⟨wal, next, seq, mark, segs⟩ 0 = [u wal, u next, seq, u (zig mark), u (n : Int)]) := Lib.hid (by rw [upto_zero, HN.out]; rfl)
  have hsl : segs.length ≤ 1024 := HMAY.out.head.few
  clear hzm
  generalize u wal = X0 at *
  generalize u next = X1 at *
  generalize u (zig mark) = X3 at *
  generalize u (n : Int) = X4 at *
  go_enter Tryz.func47, Tryz.ntmps47
  go_wp2
  rw [HW1.out]
  refine wp_region_still_tail 15 (by kernel_rfl) (by kernel_rfl) ?_
  simp only [List.take_succ_cons, List.take_zero, List.drop_succ_cons, List.drop_zero]
  iterate 10 (refine wpStill_step (fun K hK => ?_); go_simp; refine hK _ ?_; clear hK K)
  refine wpStill_step (fun K hK => ?_)
  go_simp
  refine ⟨_, (HZ _).out.mono fun _ _ h => ⟨h.1, h.2.symm⟩, hK _ ?_⟩
  clear hK K
  iterate 4 (refine wpStill_step (fun K hK => ?_); go_simp; refine hK _ ?_; clear hK K)
  refine wpStill_nil ?_
  change wpList _ _ _ _ _ w1.drew
  have HOL := World.ownsRow_lit (base := w1.heap.size) (e := 34) (size := 1) w1 #[.int .u64 (X0.toNat : Int), .int .u64 (X1.toNat : Int), .int .u64 (seq.toNat : Int), .int .u64 (X3.toNat : Int), .int .u64 (X4.toNat : Int)] 5 (Nat.le_refl _) (by unfold maxLen; omega) rfl
  replace HOL := Lib.hid HOL
  have HBL : Hid (Below w1.heap.size w1 (w1.alloc (.cells #[.int .u64 (X0.toNat : Int), .int .u64 (X1.toNat : Int), .int .u64 (seq.toNat : Int), .int .u64 (X3.toNat : Int), .int .u64 (X4.toNat : Int)] 34)).drew) := Lib.hid (below_drew1 ((Below.refl _ w1).alloc (Nat.le_refl _) _))
  clear x0 x1 x2 x3 x4 f0 f1 f4 HZ HZ0 
  have b4' := (HX1.out.up HBL.out hw1).c4
  simp only at b4'
  go_wp2
  go_loopw [25, 3] (fun i v wr => NRel w1 ⟨wal, next, seq, mark, segs⟩ i v wr) (fun i _ _ => segs.length - (intOf i).toNat)
  case atStart => exact ⟨0, Nat.zero_le _, rfl, Lib.hid (by rw [HL.out]; exact HOL.out.drew), HBL⟩
  case round =>
    obtain ⟨k, hk, rfl, HOW, HBr⟩ := hrel
    simp only at hk
    have HBW : Hid (Below w.heap.size w wr) := Lib.hid (HB1.out.trans (HBr.out.mono HB1.out.size))
    have b4 := (HX1.out.up HBr.out hw1).c4
    simp only at b4
    by_cases hlt : k < n
    · have hlt2 : k < segs.length := by have := HN.out; omega
      obtain ⟨g, o, e, hg, hc⟩ := HS.out.rd (by rw [flatS_len]; omega)
      simp only at e
      subst e
      obtain ⟨p0, p1, p2, p3⟩ := cellsS hc hlt2
      have k0 := cell_up HBW.out (p := ⟨g, o + k * 4, none⟩) hg p0
      have k1 := cell_up HBW.out (p := ⟨g, o + k * 4 + 1, none⟩) hg p1
      have k2 := cell_up HBW.out (p := ⟨g, o + k * 4 + 2, none⟩) hg p2
      have k3 := cell_up HBW.out (p := ⟨g, o + k * 4 + 3, none⟩) hg p3
      have HX := Lib.hid (HO.out.segs _ (List.getElem_mem hlt2))
      have HXM := Lib.hid (HMAY.out.segs _ (List.getElem_mem hlt2))
      have HNX := Lib.hid (upto_succ (m := ⟨wal, next, seq, mark, segs⟩) (List.getElem?_eq_getElem hlt2))
      clear hc p0 p1 p2 p3
      simp only at HXM HNX
      generalize segs[k] = x at *
      obtain ⟨a0, a1, a2, a3⟩ := x
      simp only at k0 k1 k2 k3 HNX
      have f0 := wrap_u (n := a0) (by have := HXM.out.id; have := HX.out.id.2; simp only at *; omega)
      have f1 := wrap_u (n := a1) (by have := HXM.out.count; simp only at *; omega)
      have hz2 := zig64 HX.out.least
      have hz3 := zig64 HX.out.most
      simp only at hz2 hz3
      have HZ2 : Hid (zig a2 = ((u (zig a2)).toNat : Int)) := Lib.hid (by rw [u_toNat (by omega)]; omega)
      have HZ3 : Hid (zig a3 = ((u (zig a3)).toNat : Int)) := Lib.hid (by rw [u_toNat (by omega)]; omega)
      have HC2 : ∀ wz, Hid (Calls Tryz.prog 70 #[.int .i64 a2] wz fun e w' => e = .returned (.int .u64 ((u (zig a2)).toNat : Int)) ∧ wz = w') := fun wz => Lib.hid (by rw [← HZ2.out]; exact zig_any a2 wz HX.out.least.1 HX.out.least.2)
      have HC3 : ∀ wz, Hid (Calls Tryz.prog 70 #[.int .i64 a3] wz fun e w' => e = .returned (.int .u64 ((u (zig a3)).toNat : Int)) ∧ wz = w') := fun wz => Lib.hid (by rw [← HZ3.out]; exact zig_any a3 wz HX.out.most.1 HX.out.most.2)
      unfold segNums at HNX
      simp only at HNX
      clear hz2 hz3 HZ2 HZ3 HX HXM
      generalize u a0 = Y0 at *
      generalize u a1 = Y1 at *
      generalize u (zig a2) = Y2 at *
      generalize u (zig a3) = Y3 at *
      have i1 : (0 : Int) ≤ (k : Int) := by omega
      have i2 : (k : Int) < (n : Int) := by omega
      have HBY : Hid (Below w1.heap.size w1 (wr.alloc (.cells #[.int .i64 a0, .int .i64 a1, .int .i64 a2, .int .i64 a3] 65))) := Lib.hid (HBr.out.trans (((Below.refl _ wr).alloc (Nat.le_refl _) _).mono HBr.out.size))
      have HOY : Hid ((wr.alloc (.cells #[.int .i64 a0, .int .i64 a1, .int .i64 a2, .int .i64 a3] 65)).ownsRow w1.heap.size 34 1 u3 (5 + 4 * k) ((upto ⟨wal, next, seq, mark, segs⟩ k).map B64)) := Lib.hid (HOW.out.alloc _)
      have HSX : Hid ((wr.alloc (.cells #[.int .i64 a0, .int .i64 a1, .int .i64 a2, .int .i64 a3] 65)).heap[wr.heap.size]? = some (.cells #[.int .i64 a0, .int .i64 a1, .int .i64 a2, .int .i64 a3] 65 (0, 0))) := Lib.hid (heap_alloc_new wr _)
      go_wp2
      obtain ⟨Y, hY⟩ : ∃ Y, wr.alloc (.cells #[.int .i64 a0, .int .i64 a1, .int .i64 a2, .int .i64 a3] 65) = Y := ⟨_, rfl⟩
      rw [hY] at HBY HOY HSX
      rw [hY]
      have HQ : Hid (∀ q, u3.ownBlock = some q → q ≠ wr.heap.size) := Lib.hid fun q hq e => by have := (HOW.out.lt q hq).2; omega
      have hGY : wr.heap.size < Y.heap.size := by rw [← hY]; simp
      clear hY b4 k0 k1 k2 k3 HBr HBW HOW
      obtain ⟨G, hG⟩ : ∃ G, wr.heap.size = G := ⟨_, rfl⟩
      rw [hG] at HSX HQ hGY
      rw [hG]
      clear hG
      have y0 := cell_of_heap (j := 0) HSX.out rfl
      have y1 := cell_of_heap (j := 1) HSX.out rfl
      have y2 := cell_of_heap (j := 2) HSX.out rfl
      have y3 := cell_of_heap (j := 3) HSX.out rfl
      have HOZ : Hid ((Y.drew.alloc (.cells #[.int .u64 (Y0.toNat : Int), .int .u64 (Y1.toNat : Int), .int .u64 (Y2.toNat : Int), .int .u64 (Y3.toNat : Int)] 34)).ownsRow w1.heap.size 34 1 u3 (5 + 4 * k) ((upto ⟨wal, next, seq, mark, segs⟩ k).map B64)) := Lib.hid (HOY.out.drew.alloc _)
      have HBZ : Hid (Below w1.heap.size w1 (Y.drew.alloc (.cells #[.int .u64 (Y0.toNat : Int), .int .u64 (Y1.toNat : Int), .int .u64 (Y2.toNat : Int), .int .u64 (Y3.toNat : Int)] 34))) := Lib.hid ((below_drew1 HBY.out).trans (((Below.refl _ Y.drew).alloc (Nat.le_refl _) _).mono HBY.out.size))
      have hk9 : k ≤ 1024 := by omega
      obtain ⟨v2, w2, hrun, hown2, hg2, _⟩ := run_append_own (P := Tryz.prog) (Y.drew.alloc (.cells #[.int .u64 (Y0.toNat : Int), .int .u64 (Y1.toNat : Int), .int .u64 (Y2.toNat : Int), .int .u64 (Y3.toNat : Int)] 34)) w1.heap.size 80 80 34 i0 (.int .u64 0) 1 8 Tryz.underlying80 hi hz0 hz1 hz2 rfl (by decide) u3 (5 + 4 * k) _ HOZ.out ⟨Y.heap.size, 0, none⟩ 4 4 ([Y0, Y1, Y2, Y3].map B64) (by simp) (new4 _ _ _ _ _ _) (one64s _) (by unfold maxLen; omega) (by omega) HBZ.out.size
      have hb2 : Below w1.heap.size w1 w2 := HBZ.out.grown hg2 HBZ.out.size (own_lt HOZ.out)
      have HO2 : Hid (w2.ownsRow w1.heap.size 34 1 v2 (5 + 4 * (k + 1)) ((upto ⟨wal, next, seq, mark, segs⟩ (k + 1)).map B64)) := Lib.hid (by
        rw [HNX.out, List.map_append, show 5 + 4 * (k + 1) = 5 + 4 * k + 4 by omega]
        exact hown2)
      have HB2 := Lib.hid hb2
      have hbx : w2.heap[G]? = some (.cells #[.int .i64 a0, .int .i64 a1, .int .i64 a2, .int .i64 a3] 65 (0, 0)) :=
        (hg2.block G (by simp; omega) (fun h => HQ.out G h.symm rfl)).trans ((Below.heap_alloc _ _ _ (by exact hGY)).trans HSX.out)
      have HX2 : Hid (w2.cell? ⟨G, 0, none⟩ = some (.int .i64 a0) ∧ w2.cell? ⟨G, 1, none⟩ = some (.int .i64 a1) ∧ w2.cell? ⟨G, 2, none⟩ = some (.int .i64 a2) ∧ w2.cell? ⟨G, 3, none⟩ = some (.int .i64 a3)) :=
        Lib.hid ⟨cell_of_heap hbx rfl, cell_of_heap hbx rfl, cell_of_heap hbx rfl, cell_of_heap hbx rfl⟩
      have hba : (Y.drew.alloc (.cells #[.int .u64 (Y0.toNat : Int), .int .u64 (Y1.toNat : Int), .int .u64 (Y2.toNat : Int), .int .u64 (Y3.toNat : Int)] 34)).heap[G]? = some (.cells #[.int .i64 a0, .int .i64 a1, .int .i64 a2, .int .i64 a3] 65 (0, 0)) := (Below.heap_alloc _ _ _ (by exact hGY)).trans HSX.out
      have S0 : Y.cell? ⟨G, 0, none⟩ = some (.int .i64 a0) ∧ Y.cell? ⟨G, 1, none⟩ = some (.int .i64 a1) ∧ Y.cell? ⟨G, 2, none⟩ = some (.int .i64 a2) ∧ Y.cell? ⟨G, 3, none⟩ = some (.int .i64 a3) := ⟨y0, y1, y2, y3⟩
      have S1 : Y.drew.cell? ⟨G, 0, none⟩ = some (.int .i64 a0) ∧ Y.drew.cell? ⟨G, 1, none⟩ = some (.int .i64 a1) ∧ Y.drew.cell? ⟨G, 2, none⟩ = some (.int .i64 a2) ∧ Y.drew.cell? ⟨G, 3, none⟩ = some (.int .i64 a3) := ⟨y0, y1, y2, y3⟩
      have S2 : (Y.drew.alloc (.cells #[.int .u64 (Y0.toNat : Int), .int .u64 (Y1.toNat : Int), .int .u64 (Y2.toNat : Int), .int .u64 (Y3.toNat : Int)] 34)).cell? ⟨G, 0, none⟩ = some (.int .i64 a0) ∧ (Y.drew.alloc (.cells #[.int .u64 (Y0.toNat : Int), .int .u64 (Y1.toNat : Int), .int .u64 (Y2.toNat : Int), .int .u64 (Y3.toNat : Int)] 34)).cell? ⟨G, 1, none⟩ = some (.int .i64 a1) ∧ (Y.drew.alloc (.cells #[.int .u64 (Y0.toNat : Int), .int .u64 (Y1.toNat : Int), .int .u64 (Y2.toNat : Int), .int .u64 (Y3.toNat : Int)] 34)).cell? ⟨G, 2, none⟩ = some (.int .i64 a2) ∧ (Y.drew.alloc (.cells #[.int .u64 (Y0.toNat : Int), .int .u64 (Y1.toNat : Int), .int .u64 (Y2.toNat : Int), .int .u64 (Y3.toNat : Int)] 34)).cell? ⟨G, 3, none⟩ = some (.int .i64 a3) := ⟨cell_of_heap hba rfl, cell_of_heap hba rfl, cell_of_heap hba rfl, cell_of_heap hba rfl⟩
      have S3 : (Y.alloc (.cells #[.int .u64 (Y0.toNat : Int), .int .u64 (Y1.toNat : Int), .int .u64 (Y2.toNat : Int), .int .u64 (Y3.toNat : Int)] 34)).drew.cell? ⟨G, 0, none⟩ = some (.int .i64 a0) ∧ (Y.alloc (.cells #[.int .u64 (Y0.toNat : Int), .int .u64 (Y1.toNat : Int), .int .u64 (Y2.toNat : Int), .int .u64 (Y3.toNat : Int)] 34)).drew.cell? ⟨G, 1, none⟩ = some (.int .i64 a1) ∧ (Y.alloc (.cells #[.int .u64 (Y0.toNat : Int), .int .u64 (Y1.toNat : Int), .int .u64 (Y2.toNat : Int), .int .u64 (Y3.toNat : Int)] 34)).drew.cell? ⟨G, 2, none⟩ = some (.int .i64 a2) ∧ (Y.alloc (.cells #[.int .u64 (Y0.toNat : Int), .int .u64 (Y1.toNat : Int), .int .u64 (Y2.toNat : Int), .int .u64 (Y3.toNat : Int)] 34)).drew.cell? ⟨G, 3, none⟩ = some (.int .i64 a3) := S2
      clear hba
      have S4 := HX2.out
      replace S0 := Lib.hid S0
      replace S1 := Lib.hid S1
      replace S2 := Lib.hid S2
      replace S3 := Lib.hid S3
      replace S4 := Lib.hid S4
      clear hbx HQ hGY
      have RA1 : Hid ((Builtin.append_ #[80, 80] 80 #[u3, .slice (some ⟨Y.heap.size, 0, none⟩) 4 4]).run Tryz.prog ((Y.alloc (.cells #[.int .u64 (Y0.toNat : Int), .int .u64 (Y1.toNat : Int), .int .u64 (Y2.toNat : Int), .int .u64 (Y3.toNat : Int)] 34)).drew) = .ok v2 w2) := Lib.hid hrun
      have RA2 : Hid ((Builtin.append_ #[80, 80] 80 #[u3, .slice (some ⟨Y.heap.size, 0, none⟩) 4 4]).run Tryz.prog (Y.drew.alloc (.cells #[.int .u64 (Y0.toNat : Int), .int .u64 (Y1.toNat : Int), .int .u64 (Y2.toNat : Int), .int .u64 (Y3.toNat : Int)] 34)) = .ok v2 w2) := Lib.hid hrun
      clear hown2 hg2 hb2 HOZ HBZ HOY HBY HNX HSX HX2 hrun
      go_region_held3 (fun w' => w'.cell? ⟨G, 0, none⟩ = some (.int .i64 a0) ∧ w'.cell? ⟨G, 1, none⟩ = some (.int .i64 a1) ∧ w'.cell? ⟨G, 2, none⟩ = some (.int .i64 a2) ∧ w'.cell? ⟨G, 3, none⟩ = some (.int .i64 a3)) (first | with_reducible exact S0.out | with_reducible exact S1.out | with_reducible exact S2.out | with_reducible exact S3.out | with_reducible exact S4.out) (first
        | (go_at_call 70; with_reducible refine (HC2 _).out.mono ?_; rintro e wz ⟨rfl, rfl⟩)
        | (go_at_call 70; with_reducible refine (HC3 _).out.mono ?_; rintro e wz ⟨rfl, rfl⟩)
        | (refine step_append_at RA1 (.tmp 29) (.tmp 42) rfl rfl rfl rfl rfl ?_ ?_; (· with_reducible rfl))
        | (refine step_append_at RA2 (.tmp 29) (.tmp 42) rfl rfl rfl rfl rfl ?_ ?_; (· with_reducible rfl)))
      all_goals
        go_wp2
        go_roundw
        case rel => exact ⟨k + 1, by simp only; omega, by go_num, HO2, HB2⟩
        case measure => simp [intOf]; omega
    · have hkn : k = segs.length := by have := HN.out; omega
      have HU : Hid (upto ⟨wal, next, seq, mark, segs⟩ k = nums ⟨wal, next, seq, mark, segs⟩) := Lib.hid (by rw [hkn]; exact upto_all _)
      have HUL : Hid (5 + 4 * k = (nums ⟨wal, next, seq, mark, segs⟩).length) := Lib.hid (by rw [nums_len, hkn])
      have i2 : ¬ ((k : Int) < (n : Int)) := by omega
      clear hkn
      go_wp2
      go_ret
      exact ⟨_, rfl, by have h := own_mono HOW.out (Nat.le_of_lt hw1); rw [HU.out, HUL.out] at h; exact h, HBW.out⟩

set_option maxHeartbeats 3200000 in
set_option maxRecDepth 100000 in
theorem write_any (w : World) (m : MM) (hm : OkM w m) (hL : Tab.Laid w w.heap.size) : Calls Tryz.prog 24 #[aggM m] w (WPost m.1 w) := by
  obtain ⟨W, hW⟩ : ∃ W, W = w.alloc (boxM m) := ⟨_, rfl⟩
  have HX : Hid (BoxM W w.heap.size m) := Lib.hid (by rw [hW]; exact boxed1 w m)
  have HB : Hid (Below w.heap.size w W) := Lib.hid (by rw [hW]; exact (Below.refl _ w).alloc (Nat.le_refl _) _)
  have HZ : Hid (W.heap[w.heap.size]? = some (boxM m)) := Lib.hid (by rw [hW]; exact heap_alloc_new w _)
  have hw : w.heap.size < W.heap.size := World.block_lt_of_cell? W ⟨w.heap.size, 0, none⟩ HX.out.c0
  have HW : Hid (w.alloc (boxM m) = W) := Lib.hid hW.symm
  have HM := Lib.hid hm
  have HL := Lib.hid hL
  have HC := Lib.hid (mayBe_any W m (hm.below HB.out))
  clear hW hm hL
  obtain ⟨⟨wal, next, seq, mark, segs⟩, A, n, c⟩ := m
  unfold aggM slV at HC
  unfold aggM slV WPost
  unfold boxM at HW HZ
  simp only at HC HW HZ ⊢
  obtain ⟨r, hr⟩ : ∃ r, may ⟨wal, next, seq, mark, segs⟩ = r := ⟨_, rfl⟩
  rw [hr] at HC
  obtain ⟨⟨we, wb⟩, hwp⟩ : ∃ x, write ⟨wal, next, seq, mark, segs⟩ = x := ⟨_, rfl⟩
  have HWP := Lib.hid hwp
  rw [hwp]
  simp only
  clear hwp
  obtain ⟨b0, b1, b2, b3, b4⟩ := HX.out
  simp only at b0 b1 b2 b3 b4
  go_enter Tryz.func24, Tryz.ntmps24
  go_wp2_with fail
  rw [HW.out]
  refine HC.out.mono ?_
  rintro e w1 ⟨rfl, hb1⟩
  have HB1 : Hid (Below w.heap.size w w1) := Lib.hid (HB.out.trans (hb1.mono HB.out.size))
  have HX1 := Lib.hid (HX.out.up hb1 hw)
  have hw1 : w.heap.size < w1.heap.size := Nat.lt_of_lt_of_le hw hb1.size
  clear hb1 HC b0 b1 b2 b3 b4
  cases r with
  | false =>
    have HE : Hid ((we, wb) = (1, [])) := Lib.hid (by rw [← HWP.out]; exact write_no (by rw [hr]; decide))
    clear hr
    go_wp2
    go_ret2
    have he := HE.out
    simp only [Prod.mk.injEq] at he
    obtain ⟨rfl, rfl⟩ := he
    exact ⟨_, rfl, World.ownsRow_nil _ _ _ _, HB1.out⟩
  | true =>
    have HMAY := Lib.hid (may_of HM.out.ok hr)
    have HE : Hid ((we, wb) = (0, mbytes ⟨wal, next, seq, mark, segs⟩)) := Lib.hid (by rw [← HWP.out]; exact write_ok hr)
    have HNU := Lib.hid (numbers_any w1 (⟨wal, next, seq, mark, segs⟩, A, n, c) (HM.out.below HB1.out) HMAY.out)
    unfold aggM slV at HNU
    simp only at HNU
    obtain ⟨b0, b1, b2, b3, b4⟩ := HX1.out
    simp only at b0 b1 b2 b3 b4
    have HEL := Lib.hid (encs_len HMAY.out.head)
    have HNL := Lib.hid (nums_len ⟨wal, next, seq, mark, segs⟩)
    have hsl : segs.length ≤ 1024 := HMAY.out.head.few
    simp only at HNL
    unfold mbytes at HE
    obtain ⟨L, hL⟩ : ∃ L, nums ⟨wal, next, seq, mark, segs⟩ = L := ⟨_, rfl⟩
    rw [hL] at HE HNU HEL HNL
    clear HWP hr hL
    go_wp2_with fail
    refine HNU.out.mono ?_
    rintro e w2 ⟨v2, rfl, hown2, hb2⟩
    obtain ⟨A2, c2, rfl, _, _, _⟩ := own_slice hown2
    have HB2 : Hid (Below w.heap.size w w2) := Lib.hid (HB1.out.trans (hb2.mono HB1.out.size))
    have HP := Lib.hid (put_any L A2 c2 w2 (Rd.of_own hown2) (by have := HNL.out; omega))
    clear HNL hown2 hb2 HNU b0 b1 b2 b3 b4
    generalize L.length = nL at *
    go_wp2_with fail
    refine HP.out.mono ?_
    rintro e w3 ⟨v3, rfl, hown3, hb3⟩
    obtain ⟨A3, c3, rfl, hc3, hm3, _⟩ := own_slice hown3
    have HB3 : Hid (Below w.heap.size w w3) := Lib.hid (HB2.out.trans (hb3.mono HB2.out.size))
    have HF := Lib.hid (frame_ok (encs L) A3 _ c3 w3 rfl (Rd.of_own hown3) hc3 hm3 ((HL.out.below HB3.out).more HB3.out.size) (by have := HEL.out; omega))
    clear hown3 hb3 hc3 hm3 HP
    generalize (encs L).length = nE at *
    go_wp2_with fail
    refine HF.out.mono ?_
    rintro e w4 ⟨v4, rfl, hown4, hb4⟩
    have HO4 := Lib.hid hown4
    have HB4 : Hid (Below w.heap.size w w4) := Lib.hid (HB3.out.trans (hb4.mono HB3.out.size))
    have hsz := HB3.out.size
    clear hown4 hb4 HF
    go_wp2
    go_ret2
    have he := HE.out
    simp only [Prod.mk.injEq] at he
    obtain ⟨rfl, rfl⟩ := he
    exact ⟨v4, rfl, own_mono HO4.out hsz, HB4.out⟩
end Go.Proofs.YtjninegpaoblfaaGreatDoor.MpNums

