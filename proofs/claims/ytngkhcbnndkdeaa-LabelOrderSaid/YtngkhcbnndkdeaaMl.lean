/- The library's variable that its search in texts reads holds some number: what each row's first world has. -/
import Derived.Test.YtngkhcbnndkdeaaWords
namespace Go.Proofs.Ytngkhcbnndkdeaa.Ml
open Go Go.RowKit Words

def ML (w : World) : Prop := ∃ m, w.cell? ⟨0, 0, none⟩ = some (.int .i64 m)
theorem ML.below {w w' : World} (h : ML w) (hb : Below w.heap.size w w') : ML w' := by
  obtain ⟨m, hm⟩ := h
  refine ⟨m, (hb.cell (p := ⟨0, 0, none⟩) ?_).trans hm⟩
  show 0 < w.heap.size
  unfold World.cell? at hm
  cases h : w.heap[0]? with
  | none => simp [h] at hm
  | some o => exact (Array.getElem?_eq_some_iff.1 h).1
end Go.Proofs.Ytngkhcbnndkdeaa.Ml
