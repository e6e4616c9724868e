/- The contract of the document's own 'put' (a file at its place, the one of its name gone). Conditions: the disk lies in memory as 'RefD' says; the file's bytes are of nobody's; at most 10^9 files. · The contracts of the document's own Delete, Sync, Fill and Arm. Conditions: the disk lies in memory as 'RefD' says; the names' lengths are at most the model's greatest; at most 10^9 files. · The contract of the document's own Sync. Conditions: the disk lies in memory as 'RefD' says; the name's length is at most the model's greatest. · The contract of the document's own Rename. Conditions: the disk lies in memory as 'RefD' says; the names' lengths are at most the model's greatest; at most 10^9 files. · The contract of the document's own New. Conditions: none. -/
import Derived.Test.YtapbjmbakpopcaaDoorRefRows
import Derived.BigRegion
namespace Go.Proofs.YtapbjmbakpopcaaDoor.RefPut5
open Go Go.RowKit Words DkSpec RefDisk RefChange RefRow RefTake AppN

/-- A file as a value. -/
def fcs (f : DFile) (A : Option Addr) (c : Nat) : Array Value := #[.string ⟨f.name.toArray⟩, .slice A f.data.length c, .int .i64 (f.synced : Int)]

end Go.Proofs.YtapbjmbakpopcaaDoor.RefPut5

namespace Go.Proofs.YtapbjmbakpopcaaDoor.RefOps5
open Go Go.RowKit Words DkSpec RefDisk RefChange RefRow RefTake RefPut5

/-- What a call answers and leaves. -/
def OPost (w : World) (K : Nat → Nat) (o p : Nat) (r : Nat × DSt) (e : Ending) (w' : World) : Prop := e = .returned (.int .i64 (r.1 : Int)) ∧ ∃ K', RefD w' K' o p r.2 ∧ Turned K K' o w w'

end Go.Proofs.YtapbjmbakpopcaaDoor.RefOps5

namespace Go.Proofs.YtapbjmbakpopcaaDoor.RefSync5
open Go Go.RowKit Words DkSpec RefDisk RefChange RefRow RefTake RefPut5 RefOps5

theorem FRow.synced {w : World} {K : Nat → Nat} {o g off i n : Nat} {l : List DFile} (h : FRow w K o (some ⟨g, off, none⟩) l) (hi : i < l.length) (ho : o ≠ 0) :
    FRow (w.setCell ⟨g, off + i * 3 + 2, none⟩ (.int .i64 (n : Int))) K o (some ⟨g, off, none⟩) (l.modify i fun f => { f with synced := n }) := fun hn => by
  obtain ⟨g', off', e, hg, hk, hz, hcell⟩ := h (by omega)
  injection e with e
  injection e with e1 e2
  subst e1 e2
  have ne : ∀ (b x : Nat), b ≠ g ∨ x ≠ off + i * 3 + 2 → (w.setCell ⟨g, off + i * 3 + 2, none⟩ (.int .i64 (n : Int))).cell? ⟨b, x, none⟩ = w.cell? ⟨b, x, none⟩ := fun b x hb => World.cell?_setCell_other w _ _ _ (fun e => by
    injection e with e1 e2
    rcases hb with hb | hb
    · exact hb e1.symm
    · exact hb e2.symm)
  refine ⟨g, off, rfl, by simpa using hg, hk, fun j => by rw [World.frozen?_setCell]; exact hz j, fun j f hj => ?_⟩
  have hdata : ∀ (A' : Option Addr) (vs : List Value), Rd w w.heap.size A' vs → (∀ b off', A' = some ⟨b, off', none⟩ → 0 < vs.length → K b = 0) → Rd (w.setCell ⟨g, off + i * 3 + 2, none⟩ (.int .i64 (n : Int))) (w.setCell ⟨g, off + i * 3 + 2, none⟩ (.int .i64 (n : Int))).heap.size A' vs := fun A' vs hr h0 hp => by
    obtain ⟨b2, off2, e2, hb2, hc2⟩ := hr hp
    refine ⟨b2, off2, e2, by simpa using hb2, fun j' u' hu => (ne _ _ (.inl ?_)).trans (hc2 j' u' hu)⟩
    have h1 := h0 b2 off2 e2 hp
    intro e
    rw [e, hk] at h1
    exact ho h1
  rw [List.getElem?_modify] at hj
  cases hf : l[j]? with
  | none => rw [hf] at hj; simp at hj
  | some f0 =>
    rw [hf] at hj
    obtain ⟨k0, ⟨A', c', k1, k1a, k1b, k1c, k1d⟩, k2⟩ := hcell j f0 hf
    by_cases hij : i = j
    · subst hij
      simp only [if_pos, Option.map_eq_map, Option.map_some, Option.some.injEq] at hj
      subst hj
      exact ⟨(ne _ _ (.inr (by omega))).trans k0, ⟨A', c', (ne _ _ (.inr (by omega))).trans k1, k1a, k1b, hdata _ _ k1c (by simpa using k1d), k1d⟩, World.cell?_setCell_same _ _ _ k2⟩
    · simp only [if_neg hij, Option.map_eq_map, Option.map_some, id_eq, Option.some.injEq] at hj
      subst hj
      exact ⟨(ne _ _ (.inr (by omega))).trans k0, ⟨A', c', (ne _ _ (.inr (by omega))).trans k1, k1a, k1b, hdata _ _ k1c (by simpa using k1d), k1d⟩, (ne _ _ (.inr (by omega))).trans k2⟩
theorem RefD.synced {w : World} {K : Nat → Nat} {o p g off c i n : Nat} {d : DSt} (h : RefD w K o p d) (ho : o ≠ 0) (hA : w.cell? ⟨p, 0, none⟩ = some (.slice (some ⟨g, off, none⟩) d.files.length c)) (hi : i < d.files.length) :
    RefD (w.setCell ⟨g, off + i * 3 + 2, none⟩ (.int .i64 (n : Int))) K o p { d with files := d.files.modify i fun f => { f with synced := n } } := by
  obtain ⟨A, c', hc, hm, hp, hk, c0, c1, c2, c3, f0, f1, f2, f3, hAp, hf⟩ := h
  have e := c0.symm.trans hA
  injection e with e
  injection e with e1 _ e3
  subst e1 e3
  have hgp := hAp g off rfl
  have ne : ∀ x : Nat, (w.setCell ⟨g, off + i * 3 + 2, none⟩ (.int .i64 (n : Int))).cell? ⟨p, x, none⟩ = w.cell? ⟨p, x, none⟩ := fun x => World.cell?_setCell_other w _ _ _ (fun e => hgp (by injection e))
  have hlen : (d.files.modify i fun f => { f with synced := n }).length = d.files.length := List.length_modify _ _ _
  refine ⟨some ⟨g, off, none⟩, c', by simp only [hlen]; exact hc, hm, by simpa using hp, hk, by simp only [hlen]; exact (ne 0).trans c0, (ne 1).trans c1, (ne 2).trans c2, (ne 3).trans c3, ?_, ?_, ?_, ?_, hAp, FRow.synced hf hi ho⟩
  all_goals rw [World.frozen?_setCell]; assumption

end Go.Proofs.YtapbjmbakpopcaaDoor.RefSync5

namespace Go.Proofs.YtapbjmbakpopcaaDoor.RefRen5
open Go Go.RowKit Words DkSpec RefDisk RefChange RefRow RefTake RefPut5 RefOps5

end Go.Proofs.YtapbjmbakpopcaaDoor.RefRen5

namespace Go.Proofs.YtapbjmbakpopcaaDoor.RefNew5
open Go Go.RowKit Words DkSpec RefDisk RefChange RefRow RefTake RefPut5 RefOps5

/-- A new disk at a new block; all that was there is as it was. -/
def NPost (w : World) (K : Nat → Nat) (o : Nat) (d : DSt) (e : Ending) (w' : World) : Prop := ∃ p K', e = .returned (.pointer (some ⟨p, 0, none⟩)) ∧ w.heap.size ≤ p ∧ RefD w' K' o p d ∧ ∀ o', Turned K K' o' w w'

end Go.Proofs.YtapbjmbakpopcaaDoor.RefNew5

