/- The statement's own 'spoil': records are written over; nothing else changes. Condition: the records and their labels lie in rows of their own. -/
import Derived.Test.YtkgmcabamhpjhaaGreatHdMems
import Derived.Deep.QuietTactic
import Derived.LoopTactic
import Derived.Lib.Hide
namespace Go.Proofs.YtkgmcabamhpjhaaGreat.HdSpoil
open Go Go.RowKit Words AppN Less LbSpec LbMem LbRef RcSpec RcAll RcMem HdMem HdKm UtOwn Km

/-- Rows that may be written over: each record still says where its labels lie. -/
structure Sp (ms : List RM) (v : Value) (wr : World) : Prop where
  own : ∃ ys, wr.ownsRow 0 47 4 v ms.length ys ∧ ∀ (j : Nat) (h : j < ms.length), ys[j * 4 + 2]? = some (slV (ms[j]).2)
  rows : ∀ (j : Nat) (h : j < ms.length), ∃ xs, wr.ownsRow 0 70 2 (slV (ms[j]).2) (ms[j]).1.labels.length xs
section
variable {ms : List RM} {v : Value} {w wr : World}
theorem Sp.of (h : ArO 0 ms v w) : Sp ms v w := ⟨⟨_, h.own, fun _j hj => (flatR_at hj).2.2.1⟩, fun _j hj => ⟨_, h.each _ (List.getElem_mem hj)⟩⟩
theorem Sp.setL (h : Sp ms v wr) (ha : ∀ m ∈ ms, HdMem.Apart v (slV m.2)) (hp : ms.Pairwise fun a b => HdMem.Apart (slV a.2) (slV b.2)) {i g k : Nat} (hi : i < ms.length) {nx cx : Nat} (hx : (ms[i]).2 = (some ⟨g, 0, .none⟩, nx, cx)) (u : Value) : Sp ms v (wr.setCell ⟨g, k, .none⟩ u) := by
  have hg : (slV (ms[i]).2).ownBlock = some g := by rw [hx]; rfl
  refine ⟨?_, fun j hj => ?_⟩
  · obtain ⟨ys, h1, h2⟩ := h.own
    exact ⟨ys, ownsRow_setCell_other h1 (fun e => ha _ (List.getElem_mem hi) g e hg) u, h2⟩
  · obtain ⟨xs, ho⟩ := h.rows j hj
    by_cases e : i = j
    · subst e
      unfold slV at ho ⊢
      simp only [hx] at ho ⊢
      obtain rfl : (ms[i]).1.labels.length = nx := by
        rcases ho.2 with ⟨h1, _⟩ | ⟨_, _, _, h1, _⟩
        · cases h1
        · simp only [Value.slice.injEq] at h1
          exact h1.2.1.symm
      exact ⟨_, (ho.stored k u).1⟩
    · refine ⟨xs, ownsRow_setCell_other ho (fun h2 => ?_) u⟩
      rcases Nat.lt_or_ge i j with hlt | hge
      · exact (List.pairwise_iff_getElem.1 hp i j hi hj hlt) g hg h2
      · exact (List.pairwise_iff_getElem.1 hp j i hj hi (by omega)) g h2 hg
theorem Sp.setV {g c : Nat} (h : Sp ms (.slice (some ⟨g, 0, .none⟩) ms.length c) wr) (ha : ∀ m ∈ ms, HdMem.Apart (.slice (some ⟨g, 0, .none⟩) ms.length c) (slV m.2)) {i : Nat} (_hi : i < ms.length) (u : Value) : Sp ms (.slice (some ⟨g, 0, .none⟩) ms.length c) (wr.setCell ⟨g, i * 4 + 3, .none⟩ u) := by
  refine ⟨?_, fun j hj => ?_⟩
  · obtain ⟨ys, h1, h2⟩ := h.own
    refine ⟨_, (h1.stored (i * 4 + 3) u).1, fun j hj => ?_⟩
    rw [List.getElem?_set_ne (by omega)]
    exact h2 j hj
  · obtain ⟨xs, ho⟩ := h.rows j hj
    exact ⟨xs, ownsRow_setCell_other ho (fun e => ha _ (List.getElem_mem hj) g rfl e) u⟩
end
def ORel (ms : List RM) (v : Value) (K : Nat → Nat) (k : Nat) (w : World) (vi : Value) (wr : World) : Prop := ∃ i : Nat, i ≤ ms.length ∧ vi = .int .i64 (i : Int) ∧ Hid (Sp ms v wr) ∧ Hid (Mo K K (fun x => x = k) w wr)
def IRel (ms : List RM) (v : Value) (K : Nat → Nat) (k n : Nat) (w : World) (vj : Value) (wr : World) : Prop := ∃ j : Nat, j ≤ n ∧ vj = .int .i64 (j : Int) ∧ Hid (Sp ms v wr) ∧ Hid (Mo K K (fun x => x = k) w wr)

set_option maxHeartbeats 6400000 in
set_option maxRecDepth 100000 in
theorem spoil_any (w : World) (K : Nat → Nat) (k : Nat) (ms : List RM) (v : Value) (h : Res K k ms v w) (hn : ∀ m ∈ ms, m.1.labels.length ≤ 1099511627776) (_hm : ms.length ≤ 1099511627776) :
    Calls Tryz.prog 14 #[v] w fun e w' => e = .returned (.tuple #[]) ∧ Mo K K (fun x => x = k) w w' := by
  have HA := Lib.hid h.own.away
  have HP := Lib.hid h.own.apart
  have HK := Lib.hid h.row
  have HKL := Lib.hid h.labs
  have HN := Lib.hid hn
  have HS0 := Lib.hid (Sp.of h.own)
  obtain ⟨A, c, rfl, h1, h2, _⟩ := own_row h.own.own (flatR_len ms)
  unfold maxLen at h2
  clear h hn
  go_enter Tryz.func14, Tryz.ntmps14
  go_wp2
  go_loopw [2] (fun vi wr => ORel ms (.slice A ms.length c) K k w vi wr) (fun vi _ => ms.length - (intOf vi).toNat)
  case atStart => exact ⟨0, Nat.zero_le _, rfl, HS0, Lib.hid (Mo.refl K _ w)⟩
  case round =>
    obtain ⟨i, hi, rfl, HS, HM⟩ := hrel
    clear HS0
    by_cases hlt : i < ms.length
    · obtain ⟨gv, hA⟩ : ∃ gv, A = some ⟨gv, 0, .none⟩ := by
        obtain ⟨ys, ho, _⟩ := HS.out.own
        rcases ho.2 with ⟨h0, _⟩ | ⟨g, cap, cur, h0, _⟩
        · injection h0 with h0 h3
          omega
        · injection h0 with h0
          exact ⟨g, h0⟩
      subst hA
      obtain ⟨⟨X, nx, cx⟩, hx⟩ : ∃ s, (ms[i]).2 = s := ⟨_, rfl⟩
      have hKv : K gv = k := HK.out gv rfl
      have HXR : Hid (nx = (ms[i]).1.labels.length ∧ nx ≤ cx ∧ cx ≤ 9223372036854775807) := Lib.hid (by
        obtain ⟨xs, ho⟩ := HS.out.rows i hlt
        rw [hx] at ho
        unfold slV at ho
        simp only at ho
        rcases ho.2 with ⟨h0, h3⟩ | ⟨g, cap, cur, h0, _, _, h4, h5, _⟩
        · injection h0 with h0 h3' h4'
          subst h3' h4'
          exact ⟨h3.symm, Nat.le_refl _, by omega⟩
        · injection h0 with h0 h3 h4'
          subst h3 h4'
          exact ⟨rfl, h4, h5⟩)
      have hnx : nx ≤ 1099511627776 := by rw [HXR.out.1]; exact HN.out _ (List.getElem_mem hlt)
      obtain ⟨_, hncx, hcx⟩ := HXR.out
      have HHX := Lib.hid hx
      have HCELL : Hid (∀ wq, Sp ms (.slice (some ⟨gv, 0, .none⟩) ms.length c) wq → wq.cell? ⟨gv, i * 4 + 2, .none⟩ = some (.slice X nx cx) ∧ (∃ u, wq.cell? ⟨gv, i * 4 + 3, .none⟩ = some u) ∧ wq.frozen? ⟨gv, i * 4 + 3, .none⟩ = false) := Lib.hid (fun wq hs => by
        obtain ⟨ys, ho, hy⟩ := hs.own
        have h3 := ho.cells (g := gv) rfl (i * 4 + 2) _ (hy i hlt)
        rw [add_off, Nat.zero_add, hx] at h3
        have hl := ho.1
        have h4 := ho.cells (g := gv) rfl (i * 4 + 3) _ (List.getElem?_eq_getElem (by omega))
        rw [add_off, Nat.zero_add] at h4
        exact ⟨h3, ⟨_, h4⟩, ho.frozenAt _⟩)
      clear hx
      go_wp2
      go_loopw [3] (fun vj wr => IRel ms (.slice (some ⟨gv, 0, .none⟩) ms.length c) K k nx w vj wr) (fun vj _ => nx - (intOf vj).toNat)
      case atStart => exact ⟨0, Nat.zero_le _, rfl, HS, HM⟩
      case round =>
        clear HS HM
        obtain ⟨j, hj, rfl, HS, HM⟩ := hrel
        obtain ⟨c2, ⟨u3, c3⟩, f3⟩ := HCELL.out wr HS.out
        by_cases hjn : j < nx
        · obtain ⟨gx, hX, ⟨u4, c4⟩, f4⟩ : ∃ gx, X = some ⟨gx, 0, .none⟩ ∧ (∃ u, wr.cell? ⟨gx, j * 2 + 1, .none⟩ = some u) ∧ wr.frozen? ⟨gx, j * 2 + 1, .none⟩ = false := by
            obtain ⟨xs, ho⟩ := HS.out.rows i hlt
            rw [HHX.out] at ho
            unfold slV at ho
            simp only at ho
            have hl := ho.1
            have he := HXR.out.1
            rcases ho.2 with ⟨h0, _⟩ | ⟨g, cap, cur, h0, _⟩
            · injection h0 with h0 h3
              omega
            · injection h0 with h0 h3 h4
              subst h0 h3 h4
              have h5 := ho.cells (g := g) rfl (j * 2 + 1) _ (List.getElem?_eq_getElem (by omega))
              rw [add_off, Nat.zero_add] at h5
              exact ⟨g, rfl, ⟨_, h5⟩, ho.frozenAt _⟩
          subst hX
          have hKx : K gx = k := HKL.out gx ⟨ms[i], List.getElem_mem hlt, by rw [HHX.out]; rfl⟩
          have HS2 := Lib.hid (HS.out.setL HA.out HP.out hlt HHX.out (k := j * 2 + 1) (.string ⟨#[115, 112, 111, 105, 108, 116]⟩))
          have HM2 := Lib.hid (HM.out.trans (Mo.poke (a := ⟨gx, j * 2 + 1, .none⟩) (.string ⟨#[115, 112, 111, 105, 108, 116]⟩) hKx))
          go_wp2
          exact ⟨⟨j + 1, by omega, by go_num, HS2, HM2⟩, by simp [intOf]; omega⟩
        · obtain rfl : j = nx := by omega
          have HS2 := Lib.hid (HS.out.setV HA.out hlt (.string ⟨#[115, 112, 111, 105, 108, 116]⟩))
          have HM2 := Lib.hid (HM.out.trans (Mo.poke (a := ⟨gv, i * 4 + 3, .none⟩) (.string ⟨#[115, 112, 111, 105, 108, 116]⟩) hKv))
          go_wp2
          exact ⟨⟨i + 1, by omega, by go_num, HS2, HM2⟩, by simp [intOf]; omega⟩
    · obtain rfl : i = ms.length := by omega
      go_wp2
      first
        | go_ret
        | go_end0
      exact ⟨rfl, HM.out⟩
end Go.Proofs.YtkgmcabamhpjhaaGreat.HdSpoil
