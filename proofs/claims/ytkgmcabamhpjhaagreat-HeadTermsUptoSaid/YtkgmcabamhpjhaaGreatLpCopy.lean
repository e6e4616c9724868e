/- The program's copies of labels: a row of its own, the texts new. Conditions: texts of at most 2^47 bytes, at most 65536 labels. -/
import Derived.Test.YtkgmcabamhpjhaaGreatLpCan1
import Derived.Test.YtkgmcabamhpjhaaGreatLps
import Derived.Laws.MakeOwn
import Derived.Laws.Rows
import Derived.Deep.RegionLaw
namespace Go.Proofs.YtkgmcabamhpjhaaGreat.LpCopy
open Go Go.RowKit Words AppN Less LbSpec LbText LbMem LbRef LbCmp UtOwn LpOrd LpCan1 LpBoth LpCmp

/-- k labels copied, the rest empty. -/
def mix (l : List Lab) (k : Nat) : List Lab := l.take k ++ List.replicate (l.length - k) ([], [])
theorem mix_len (l : List Lab) (k : Nat) (h : k ≤ l.length) : (mix l k).length = l.length := by unfold mix; simp; omega
theorem mix_all (l : List Lab) : mix l l.length = l := by unfold mix; simp
theorem mix_set (l : List Lab) (k : Nat) (h : k < l.length) : (mix l k).set k l[k] = mix l (k + 1) := by
  unfold mix
  rw [show l.length - k = (l.length - (k + 1)) + 1 by omega, List.replicate_succ, List.take_succ_eq_append_getElem h, List.append_assoc]
  rw [List.set_append_right _ _ (by simp; omega)]
  simp [show min k l.length = k by omega]
theorem flat_set : ∀ (L : List Lab) (k : Nat) (x : Lab), k < L.length → ((flat L).set (k * 2) (S8 x.1)).set (k * 2 + 1) (S8 x.2) = flat (L.set k x)
  | [], k, x, h => by simp at h
  | y :: L, 0, x, _ => by simp [flat]
  | y :: L, k + 1, x, h => by
    have ih := flat_set L k x (by simpa using h)
    rw [show (k + 1) * 2 = k * 2 + 1 + 1 by omega, flat_cons, List.set_cons_succ, List.set_cons_succ, List.set_cons_succ, List.set_cons_succ, ih, List.set_cons_succ, flat_cons]
theorem flat_rep (n : Nat) : flat (List.replicate n ([], [])) = List.replicate (n * 2) (S8 []) := by
  induction n with
  | zero => rfl
  | succ n ih => rw [List.replicate_succ, flat_cons, ih, show (n + 1) * 2 = n * 2 + 1 + 1 by omega, List.replicate_succ, List.replicate_succ]
theorem made_mix (l : List Lab) : madeCells #[S8 [], S8 []] (l.length * 2) = (flat (mix l 0)).toArray := by
  unfold mix
  rw [List.take_zero, List.nil_append, Nat.sub_zero, flat_rep]
  apply Array.ext
  · simp [size_madeCells]
  · intro i h1 h2
    simp only [madeCells, Array.getElem_map, Array.getElem_range, List.getElem_toArray, List.getElem_replicate]
    rcases Nat.mod_two_eq_zero_or_one i with h | h
    · simp [h]
    · simp [h]

theorem cell_of {w : World} {g j : Nat} {cs : Array Value} {t : TypeId} {u : Value} (h : w.heap[g]? = some (.cells cs t (0, 0))) (hj : cs[j]? = some u) : w.cell? ⟨g, j, none⟩ = some u := by
  unfold World.cell?
  rw [h]
  simpa using hj
theorem frozen_of {w : World} {g j : Nat} {cs : Array Value} {t : TypeId} (h : w.heap[g]? = some (.cells cs t (0, 0))) : w.frozen? ⟨g, j, none⟩ = false := by
  unfold World.frozen?
  rw [h]
  simp

def Row (w : World) (g : Nat) (l : List Lab) : Prop := w.heap[g]? = some (.cells (flat l).toArray 70 (0, 0))
theorem Row.below {w w' : World} {g B : Nat} {l : List Lab} (h : Row w g l) (hb : Below B w w') (hg : g < B) : Row w' g l := (hb.block g hg).trans h
theorem Row.lt {w : World} {g : Nat} {l : List Lab} (h : Row w g l) : g < w.heap.size := (Array.getElem?_eq_some_iff.1 h).1
theorem Row.cells {w : World} {g : Nat} {l : List Lab} (h : Row w g l) {k : Nat} (hk : k < l.length) : w.cell? ⟨g, k * 2, none⟩ = some (S8 (l[k]).1) ∧ w.cell? ⟨g, k * 2 + 1, none⟩ = some (S8 (l[k]).2) :=
  ⟨cell_of h (by simpa using (flat_at hk).1), cell_of h (by simpa using (flat_at hk).2)⟩
theorem Row.set {w : World} {g : Nat} {l : List Lab} (h : Row w g l) {k : Nat} (hk : k < l.length) (x : Lab) : Row ((w.setCell ⟨g, k * 2, none⟩ (S8 x.1)).setCell ⟨g, k * 2 + 1, none⟩ (S8 x.2)) g (l.set k x) := by
  unfold Row at *
  rw [heap_setCell_same _ _ _ _ _ _ (heap_setCell_same _ _ _ _ _ _ h)]
  rw [← flat_set l k x hk]
  simp
theorem Row.rd {w : World} {g : Nat} {l : List Lab} (h : Row w g l) : Rd w w.heap.size (some ⟨g, 0, none⟩) (flat l) := fun _ => ⟨g, 0, rfl, h.lt, fun j u hu => by
  rw [Nat.zero_add]
  exact cell_of h (by simpa using hu)⟩
theorem Row.lb {w : World} {g : Nat} {l : List Lab} (h : Row w g l) {n c : Nat} (hn : n = l.length) (hc : n ≤ c) (hm : c ≤ maxLen) : Lb w (some ⟨g, 0, none⟩) n c l := ⟨hn, hc, hm, h.rd⟩

/-- What a call among the statement's leaves. -/
theorem copy_facts {w wr : World} {l : List Lab} {k : Nat} {x : Lab} (hk : k < l.length) (hx : l[k] = x) (hrow : Row wr w.heap.size (mix l k)) (hb : Below w.heap.size w wr)
    (W w' : World) (e1 : W.heap = (wr.alloc (.cells #[S8 x.1, S8 x.2] 70)).heap) (e2 : W.os = wr.os) (e3 : W.tape = wr.tape) (e4 : W.output = wr.output) (hb3 : Below W.heap.size W w') :
    (w'.cell? ⟨wr.heap.size, 0, none⟩ = some (S8 x.1) ∧ w'.cell? ⟨wr.heap.size, 1, none⟩ = some (S8 x.2)) ∧
    (w'.cell? ⟨w.heap.size, k * 2, none⟩ = some (S8 []) ∧ w'.frozen? ⟨w.heap.size, k * 2, none⟩ = false) ∧ (w'.cell? ⟨w.heap.size, k * 2 + 1, none⟩ = some (S8 []) ∧ w'.frozen? ⟨w.heap.size, k * 2 + 1, none⟩ = false) ∧
    Hid (Row ((w'.setCell ⟨w.heap.size, k * 2, none⟩ (S8 x.1)).setCell ⟨w.heap.size, k * 2 + 1, none⟩ (S8 x.2)) w.heap.size (mix l (k + 1)) ∧ Below w.heap.size w ((w'.setCell ⟨w.heap.size, k * 2, none⟩ (S8 x.1)).setCell ⟨w.heap.size, k * 2 + 1, none⟩ (S8 x.2))) := by
  have hg := hrow.lt
  have hsz : W.heap.size = wr.heap.size + 1 := by rw [e1]; simp
  have hb4 : Below w.heap.size w w' := by
    have h1 : Below w.heap.size w W := ⟨e2.trans hb.os, e3.trans hb.tape, e4.trans hb.output, by have := hb.size; omega, fun j hj => by rw [e1]; exact (Below.heap_alloc wr _ j (by have := hb.size; omega)).trans (hb.block j hj)⟩
    exact h1.trans (hb3.mono (by have := hb.size; omega))
  have hrow' : Row w' w.heap.size (mix l k) := by
    have : Row W w.heap.size (mix l k) := by unfold Row; rw [e1]; exact (Below.heap_alloc wr _ _ hg).trans hrow
    exact this.below hb3 (by omega)
  have hbox : w'.heap[wr.heap.size]? = some (.cells #[S8 x.1, S8 x.2] 70 (0, 0)) := by
    refine (hb3.block _ (by omega)).trans ?_
    rw [e1]
    exact heap_alloc_new wr _
  have hml := mix_len l k (by omega)
  obtain ⟨c0, c1⟩ := hrow'.cells (k := k) (by omega)
  have hz : (mix l k)[k]'(by omega) = ([], []) := by unfold mix; simp [List.getElem_append_right, show min k l.length = k by omega]
  rw [hz] at c0 c1
  refine ⟨⟨cell_of hbox rfl, cell_of hbox rfl⟩, ⟨c0, frozen_of hrow'⟩, ⟨c1, frozen_of hrow'⟩, Lib.hid ⟨?_, (hb4.setCell (by simp) _).setCell (by simp) _⟩⟩
  have h := hrow'.set (k := k) (by omega) x
  rw [← hx, mix_set l k hk] at h
  rw [← hx]
  exact h

def CpRel (w : World) (l : List Lab) (v : Value) (wr : World) : Prop := ∃ k : Nat, k ≤ l.length ∧ v = .int .i64 (k : Int) ∧ Hid (Row wr w.heap.size (mix l k)) ∧ Hid (Below w.heap.size w wr)

set_option maxHeartbeats 6400000 in
set_option maxRecDepth 100000 in
/-- label.copies. -/
theorem copies_any (w : World) (l : List Lab) (A : Option Addr) (m c : Nat) (h : Lb w A m c l) (hn : l.length ≤ 65536) (hs : ∀ x ∈ l, x.1.length ≤ 140737488355328 ∧ x.2.length ≤ 140737488355328) :
    Calls Tryz.prog 69 #[.slice A m c] w fun e w' => e = .returned (.slice (some ⟨w.heap.size, 0, none⟩) l.length l.length) ∧ Row w' w.heap.size l ∧ Below w.heap.size w w' := by
  obtain ⟨rfl, hc, hm, hr⟩ := h
  unfold maxLen at hm
  have HR := Lib.hid hr
  have HS := Lib.hid hs
  clear hr hs
  obtain ⟨i1, gi, gz0, gz1, gz2⟩ := info_parts info_label
  obtain ⟨M, hM⟩ : ∃ M, M = (flat (mix l 0)).toArray := ⟨_, rfl⟩
  have hmk : ∀ W : World, (Instr.makeSlice 45 (.int .i64 (l.length : Int)) (.int .i64 (l.length : Int))).run Tryz.prog W = .ok (.slice (some ⟨W.heap.size, 0, none⟩) l.length l.length) (W.alloc (.cells M 70)) := fun W => by
    have h := run_make (P := Tryz.prog) W 45 70 i1 (.agg #[.string ByteArray.empty, .string ByteArray.empty]) Tryz.underlying45 gi gz0 .i64 .i64 (l.length : Int) (l.length : Int) (by omega) (by omega) (by rw [gz2]; omega) (by omega)
    rw [gz1] at h
    have e : madeCells (Value.agg #[.string ByteArray.empty, .string ByteArray.empty]).cells (((l.length : Nat) : Int).toNat * 2) = M := by rw [hM, ← made_mix]; rfl
    rw [e] at h
    simpa using h
  have HM := Lib.hid hM
  clear hM gi gz0 gz1 gz2
  go_enter Tryz.func69, Tryz.ntmps69
  go_wp2
  go_loopw [11] (fun v wr => CpRel w l v wr) (fun v _ => l.length - (intOf v).toNat)
  case atStart => exact ⟨0, Nat.zero_le _, rfl, Lib.hid (by unfold Row; rw [← HM.out]; exact heap_alloc_new w _), Lib.hid ((Below.refl _ w).alloc (Nat.le_refl _) _)⟩
  case round =>
    obtain ⟨k, hk, rfl, HRow, HB⟩ := hrel
    clear hmk
    by_cases hlt : k < l.length
    · obtain ⟨g1, o1, rfl, hg1, hc1⟩ := HR.out (by rw [flat_len]; omega)
      obtain ⟨p0, p1⟩ := cellsL hc1 hlt
      have hz1 : g1 < wr.heap.size := Nat.lt_of_lt_of_le hg1 HB.out.size
      have k0 := cell_up HB.out (p := ⟨g1, o1 + k * 2, none⟩) hg1 p0
      have k1 := cell_up HB.out (p := ⟨g1, o1 + k * 2 + 1, none⟩) hg1 p1
      obtain ⟨x, hx⟩ : ∃ x, l[k] = x := ⟨_, rfl⟩
      rw [hx] at k0 k1
      obtain ⟨hs1, hs2⟩ := HS.out x (hx ▸ List.getElem_mem hlt)
      have HF := Lib.hid (fun W w' hb e1 e2 e3 e4 => copy_facts hlt hx HRow.out HB.out W w' e1 e2 e3 e4 hb)
      have HC1 := fun w => Lib.hid (clone_any x.1 w (by omega))
      have HC2 := fun w => Lib.hid (clone_any x.2 w (by omega))
      have hi1 : (0 : Int) ≤ (k : Int) := by omega
      have hi2 : (k : Int) < (l.length : Int) := by omega
      clear hc1 p0 p1 hx hs1 hs2 HRow
      obtain ⟨x1, x2⟩ := x
      unfold S8 at HF HC1 HC2
      simp only at k0 k1 HF HC1 HC2
      go_wp2
      go_region_law (first
        | (go_simp; go_at_call 52; ((with_reducible refine (HC1 _).out.mono ?_); rintro e w1 ⟨rfl, hb1⟩; obtain ⟨⟨a1, a2⟩, ⟨a3, a4⟩, ⟨a5, a6⟩, _⟩ := HF.out _ w1 hb1 rfl rfl rfl rfl))
        | (go_simp; go_at_call 52; ((with_reducible refine (HC2 _).out.mono ?_); rintro e w2 ⟨rfl, hb2⟩; obtain ⟨⟨b1, b2⟩, ⟨b3, b4⟩, ⟨b5, b6⟩, HFin⟩ := HF.out _ w2 (hb1.trans (hb2.mono hb1.size)) rfl rfl rfl rfl)))
      all_goals
        go_wp2
        go_roundw
        case rel => exact ⟨k + 1, by omega, by go_num, Lib.hid HFin.out.1, Lib.hid HFin.out.2⟩
        case measure => simp [intOf]; omega
    · have hkl : k = l.length := by omega
      have HE : Hid (Row wr w.heap.size l) := Lib.hid (by have h := HRow.out; rwa [hkl, mix_all] at h)
      clear HRow hlt
      subst hkl
      go_wp2
      go_ret
      exact ⟨rfl, HE.out, HB.out⟩
end Go.Proofs.YtkgmcabamhpjhaaGreat.LpCopy
