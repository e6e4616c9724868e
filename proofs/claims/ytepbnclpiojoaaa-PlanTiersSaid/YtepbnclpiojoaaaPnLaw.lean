/- What stage 16's statements ask of the program's plan ('Pns': contracts of its four calls). -/
import Derived.Test.YtepbnclpiojoaaaPnCnt
namespace Go.Proofs.Ytepbnclpiojoaaa.PnLaw
open Go Go.RowKit Words AppN PnSpec SgMem PnRef PnGone PnMerge PnSame

/-- A list of places answered. -/
def LPost (L : List Nat) (w : World) (e : Ending) (w' : World) : Prop := ∃ s : Sl, e = .returned (slV s) ∧ Ls w' s L ∧ Below w.heap.size w w'
theorem lpost_own {L : List Nat} {w w' : World} {e : Ending} (h : Below w.heap.size w w' ∧ ∃ v, e = .returned v ∧ w'.ownsRow w.heap.size 3 1 v L.length (L.map IV)) : LPost L w e w' := by
  obtain ⟨hb, v, he, ho⟩ := h
  obtain ⟨A, c, rfl, h3⟩ := own_ls ho
  exact ⟨(A, L.length, c), he, h3, hb⟩
/-- The program's plan. -/
structure Pns : Prop where
  tier : ∀ (w : World) (n : Int), In64 n → Calls Try.prog 8 #[.int .i64 n] w fun e w' => e = .returned (.int .i64 (tierI n)) ∧ Below w.heap.size w w'
  bound : ∀ (w : World) (n : Int), In64 n → Calls Try.prog 10 #[.int .i64 n] w fun e w' => e = .returned (.int .i64 (bound n)) ∧ Below w.heap.size w w'
  merge : ∀ (w : World) (s : Sl) (l : List Sg), Sgs w s l → (∀ x ∈ l, In64 x.count) → l.length * 32 ≤ 140737488355328 → Calls Try.prog 13 #[slV s] w (LPost (merge (l.map Sg.count)) w)
  gone : ∀ (w : World) (s : Sl) (l : List Sg) (mark : Int), Sgs w s l → (∀ x ∈ l, In64 x.most) → In64 mark → l.length * 32 ≤ 140737488355328 → Calls Try.prog 15 #[slV s, .int .i64 mark] w (LPost (gone (l.map Sg.most) mark) w)
end Go.Proofs.Ytepbnclpiojoaaa.PnLaw
