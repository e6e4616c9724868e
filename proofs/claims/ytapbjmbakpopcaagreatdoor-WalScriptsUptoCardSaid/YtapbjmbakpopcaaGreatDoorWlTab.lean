/- The tables that the program's log reads: the checksum's halves and the library's powers of ten, as the text lays them ('Lays'). No conditions. -/
import Derived.Test.YtapbjmbakpopcaaGreatDoorCrcTab
import Derived.Lib.ItoaNum
import Derived.LaidSub
namespace Go.Proofs.YtapbjmbakpopcaaGreatDoor.WlTab
open Go Go.RowKit Words

def powName : String := "internal/strconv.uint64pow10"
theorem gPow : Tryz.prog.globalNamed powName = some 1 := by kernel_rfl
/-- Both tables; their blocks lie below B. -/
structure Lays (w : World) (B : Nat) : Prop where
  halves : Tab.Laid w B
  pow : Lib.TabIs Tryz.prog w powName .u64 Lib.pow10Tab
  lt : 1 < B
theorem pow_keep {w w' : World} (h : Lib.TabIs Tryz.prog w powName .u64 Lib.pow10Tab) (hb : w'.heap[1]? = w.heap[1]?) : Lib.TabIs Tryz.prog w' powName .u64 Lib.pow10Tab := by
  unfold Lib.TabIs World.var? at h ⊢
  rw [gPow] at h ⊢
  simp only [Option.bind_some] at h ⊢
  rw [hb]
  exact h
theorem Lays.below {w w' : World} {B : Nat} (h : Lays w B) (hb : Below B w w') : Lays w' B := ⟨h.halves.below hb, pow_keep h.pow (hb.block _ h.lt), h.lt⟩
theorem Lays.more {w : World} {B B' : Nat} (h : Lays w B) (hB : B ≤ B') : Lays w B' := ⟨h.halves.more hB, h.pow, Nat.lt_of_lt_of_le h.lt hB⟩
/-- The tables are not of the kinds that the disk's and the log's blocks are of. -/
structure Out (K : Nat → Nat) : Prop where
  halves : ¬ (K 0 = 1 ∨ K 0 = 2)
  pow : ¬ (K 1 = 1 ∨ K 1 = 2)
theorem Lays.halves_lt {w : World} {B : Nat} (h : Lays w B) : 0 < B := by
  obtain ⟨b, off, e, hb, _⟩ := h.halves (by decide)
  injection e with e
  injection e with e
  omega
theorem Lays.mv {w w' : World} {K : Nat → Nat} (h : Lays w w.heap.size) (ho : Out K) (hs : w.heap.size ≤ w'.heap.size) (hb : ∀ i, i < w.heap.size → ¬ (K i = 1 ∨ K i = 2) → w'.heap[i]? = w.heap[i]?) : Lays w' w'.heap.size := by
  refine ⟨fun hn => ?_, pow_keep h.pow (hb _ h.lt ho.pow), Nat.lt_of_lt_of_le h.lt hs⟩
  obtain ⟨b, off, e, hlt, hc⟩ := h.halves hn
  injection e with e
  injection e with e1 e2
  subst e1
  exact ⟨_, off, by rw [← e2], Nat.lt_of_lt_of_le hlt hs, fun j u hu => (World.cell?_of_block (a := ⟨_, off + j, none⟩) (hb _ hlt ho.halves)).trans (hc j u hu)⟩
theorem Lays.out {w : World} {K : Nat → Nat} (h : Lays w w.heap.size) (hk : ∀ i, i < w.heap.size → ¬ (K i = 1 ∨ K i = 2)) : Out K := ⟨hk _ h.halves_lt, hk _ h.lt⟩
theorem gPowType : (Tryz.prog.globals[1]?).map (·.type) = some 116 := by kernel_rfl
theorem cellsT : Tryz.prog.cellsOf 116 = 20 := by kernel_rfl
theorem cellsE : Tryz.prog.cellsOf 86 = 1 := by kernel_rfl
theorem of_both {W : World} (h1 : laidMetH Tryz.prog [("garner/frame.halves", Rows.laid_garner_frame_halves)] W) (h2 : laidMetH Tryz.prog [("internal/strconv.uint64pow10", Rows.laid_internal_strconv_uint64pow10)] W) : Lays W W.heap.size := by
  have ht : Lib.TabIs Tryz.prog W powName .u64 Lib.pow10Tab := Lib.tabIs_of_head (rest := []) gPow gPowType Tryz.underlying116 Tryz.underlying86 cellsE cellsT h2
  refine ⟨Tab.of_laid h1, ht, ?_⟩
  exact World.block_lt_of_cell? W ⟨1, 0, none⟩ (ht.cell gPow 0 (by simp [Lib.pow10Tab]))
/-- Out of a row's list of tables. -/
theorem of_row {W : World} {L : List (String × DataW Unit)} (h : laidMetH Tryz.prog L W) (h1 : L.filter (fun x => x.1 == "garner/frame.halves") = [("garner/frame.halves", Rows.laid_garner_frame_halves)])
    (h2 : L.filter (fun x => x.1 == "internal/strconv.uint64pow10") = [("internal/strconv.uint64pow10", Rows.laid_internal_strconv_uint64pow10)]) : Lays W W.heap.size := by
  have k1 := laidMetH.filter (fun x => x.1 == "garner/frame.halves") h
  have k2 := laidMetH.filter (fun x => x.1 == "internal/strconv.uint64pow10") h
  rw [h1] at k1
  rw [h2] at k2
  exact of_both k1 k2
end Go.Proofs.YtapbjmbakpopcaaGreatDoor.WlTab
