/- The document's disk stays where only blocks of other kinds have changed. No conditions but those that the theorem names. -/
import Derived.Test.YtapbjmbakpopcaaGreatDoorWlSt
import Derived.Test.YtapbjmbakpopcaaGreatDoorRefRess
namespace Go.Proofs.YtapbjmbakpopcaaGreatDoor.WqMv
open Go Go.RowKit Words DkSpec PdLook RefDisk PdDisk WlMv
theorem req_some (b : Nat) (w : World) : (binOp .eql 27 (.pointer (some ⟨b, 0, none⟩)) (.pointer none)).run Tryz.prog w = .ok (.bool false) w := by kernel_rfl
section
variable {K K' : Nat → Nat} {S : Nat → Prop} {w w' : World}
theorem RefD.mv {o2 p : Nat} {d : DSt} (hd : RefD w K o2 p d) (h : Mv K K' S w w') (h0 : ¬ S 0) (h2 : ¬ S o2) : RefD w' K' o2 p d := by
  obtain ⟨A, c, hc, hm, hp, hk, c0, c1, c2, c3, f0, f1, f2, f3, hA, hf⟩ := hd
  have hb := h.block p hp (by rw [hk]; exact h2)
  have hfz : ∀ j, w'.frozen? ⟨p, j, none⟩ = w.frozen? ⟨p, j, none⟩ := fun j => by unfold World.frozen?; rw [hb]
  refine ⟨A, c, hc, hm, Nat.lt_of_lt_of_le hp h.size, (h.kind p hp).trans hk, (cell_of hb).trans c0, (cell_of hb).trans c1, (cell_of hb).trans c2, (cell_of hb).trans c3, (hfz 0).trans f0, (hfz 1).trans f1, (hfz 2).trans f2, (hfz 3).trans f3, hA, fun hn => ?_⟩
  obtain ⟨g, off, e, hg, hkg, hgz, hcell⟩ := hf hn
  have hbg := h.block g hg (by rw [hkg]; exact h2)
  refine ⟨g, off, e, Nat.lt_of_lt_of_le hg h.size, (h.kind g hg).trans hkg, fun j => by rw [← hgz j]; unfold World.frozen?; rw [hbg], fun i f hi => ?_⟩
  obtain ⟨k0, ⟨A', c', k1, k1a, k1b, k1c, k1d⟩, k2⟩ := hcell i f hi
  obtain ⟨m1, m2⟩ := rd_mv h h0 k1c (by simpa using k1d)
  exact ⟨(cell_of hbg).trans k0, ⟨A', c', (cell_of hbg).trans k1, k1a, k1b, m1, by simpa using m2⟩, (cell_of hbg).trans k2⟩
theorem RefD.below {o p : Nat} {d : DSt} (hd : RefD w K o p d) (hb : Below w.heap.size w w') : RefD w' K o p d := RefD.mv hd (Mv.same (S := fun _ => False) hb) (fun h => h) (fun h => h)
end
end Go.Proofs.YtapbjmbakpopcaaGreatDoor.WqMv
