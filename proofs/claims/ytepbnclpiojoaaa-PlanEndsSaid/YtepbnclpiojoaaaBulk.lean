/- What the bound on the arguments' bulk gives: lengths. No conditions. -/
import Derived.Test.YtepbnclpiojoaaaRows
import Derived.Test.YtepbnclpiojoaaaOpen
namespace Go.Proofs.Ytepbnclpiojoaaa.Bulk
open Go Go.ChangeShapes Ope

theorem one_le {H : Type} (d : DataW H) : 1 ≤ Rows.uptoBulk d := by
  cases d with
  | lit l => cases l <;> simp [Rows.uptoBulk]
  | nil => simp [Rows.uptoBulk]
  | ptr d => simp [Rows.uptoBulk]
  | slice elems spare => simp [Rows.uptoBulk]
  | agg parts => simp [Rows.uptoBulk]
  | iface t d => simp [Rows.uptoBulk]
  | map entries => simp [Rows.uptoBulk]
  | held h => simp [Rows.uptoBulk]
theorem length_le {H : Type} (l : List (DataW H)) : l.length ≤ Rows.uptoBulkAll l := by
  induction l with
  | nil => simp
  | cons x r ih => have := one_le x; simp only [Rows.uptoBulkAll, List.length_cons]; omega
/-- A slice of integers is no longer than its bulk. -/
theorem bulk_len {H : Type} {k : IntKind} {d : DataW H} {zs : List Int} (h : Lits k d zs) : zs.length ≤ Rows.uptoBulk d := by
  rcases h with ⟨rfl, rfl⟩ | ⟨sp, rfl⟩
  · simp
  · have := length_le (H := H) (lits k zs)
    simp only [lits, List.length_map] at this
    simp only [Rows.uptoBulk, lits]
    omega

/-- What the model's own bound on each argument's bytes gives. -/
theorem weigh_cons {H : Type} {P : Program} {t : TypeId} {ts : List TypeId} {d : DataW H} {ds : List (DataW H)} (h : (DataW.weightsEach P (t :: ts) (d :: ds)).all (· ≤ reachBytes) = true) :
    (d.weights P t).all (· ≤ reachBytes) = true ∧ (DataW.weightsEach P ts ds).all (· ≤ reachBytes) = true := by
  rwa [DataW.weightsEach, List.all_append, Bool.and_eq_true] at h
theorem weigh_len {H : Type} {P : Program} {k : IntKind} {d : DataW H} {zs : List Int} {t e : TypeId} (ht : P.underlying t = some (.slice e)) (hb : 0 < P.bytesOf e) (h : Lits k d zs) (hw : (d.weights P t).all (· ≤ reachBytes) = true) : zs.length ≤ 140737488355327 := by
  rcases h with ⟨rfl, rfl⟩ | ⟨sp, rfl⟩
  · simp
  · rw [DataW.weights, ht] at hw
    simp only [List.all_cons, Bool.and_eq_true, decide_eq_true_eq] at hw
    have h1 := hw.1
    simp only [lits, List.length_map, reachBytes] at h1
    have : zs.length * 1 ≤ (zs.length + sp.length) * P.bytesOf e := Nat.mul_le_mul (by omega) hb
    omega
end Go.Proofs.Ytepbnclpiojoaaa.Bulk
