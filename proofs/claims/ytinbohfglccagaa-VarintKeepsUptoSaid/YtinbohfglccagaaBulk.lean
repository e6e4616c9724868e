/- What the bound on the arguments' bulk gives: lengths. No conditions. -/
import Derived.Test.YtinbohfglccagaaRows
import Derived.Test.YtinbohfglccagaaOpen
namespace Go.Proofs.Ytinbohfglccagaa.Bulk
open Go Go.ChangeShapes Ope

theorem one_le {H : Type} (d : DataW H) : 1 ≤ Rows.uptoBulk d := by
  cases d with
  | lit l => cases l <;> simp [Rows.uptoBulk]
  | nil => simp [Rows.uptoBulk]
  | ptr d => simp [Rows.uptoBulk]
  | slice elems spare => simp [Rows.uptoBulk]
  | agg parts => simp [Rows.uptoBulk]
  | iface t d => simp [Rows.uptoBulk]
  | map entries => simp [Rows.uptoBulk]
  | held h => simp [Rows.uptoBulk]
theorem length_le {H : Type} (l : List (DataW H)) : l.length ≤ Rows.uptoBulkAll l := by
  induction l with
  | nil => simp
  | cons x r ih => have := one_le x; simp only [Rows.uptoBulkAll, List.length_cons]; omega
/-- A slice of integers is no longer than its bulk. -/
theorem bulk_len {H : Type} {k : IntKind} {d : DataW H} {zs : List Int} (h : Lits k d zs) : zs.length ≤ Rows.uptoBulk d := by
  rcases h with ⟨rfl, rfl⟩ | ⟨sp, rfl⟩
  · simp
  · have := length_le (H := H) (lits k zs)
    simp only [lits, List.length_map] at this
    simp only [Rows.uptoBulk, lits]
    omega
end Go.Proofs.Ytinbohfglccagaa.Bulk
