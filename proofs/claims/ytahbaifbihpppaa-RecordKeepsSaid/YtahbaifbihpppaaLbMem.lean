/- Lists of labels in memory: two cells each. Of no program but for its types. No conditions. -/
import Derived.Test.YtahbaifbihpppaaSpecs
import Derived.Test.YtahbaifbihpppaaAppendN
import Derived.Deep.OwnRows
namespace Go.Proofs.Ytahbaifbihpppaa.LbMem
open Go Go.RowKit Words AppN Less LbSpec LbText

def flat (l : List Lab) : List Value := l.flatMap fun x => [S8 x.1, S8 x.2]
theorem flat_cons (x : Lab) (l : List Lab) : flat (x :: l) = S8 x.1 :: S8 x.2 :: flat l := by simp [flat]
theorem flat_append (l m : List Lab) : flat (l ++ m) = flat l ++ flat m := by simp [flat]
theorem flat_one (x : Lab) : flat [x] = [S8 x.1, S8 x.2] := by simp [flat]
theorem flat_len : ∀ l : List Lab, (flat l).length = l.length * 2
  | [] => rfl
  | x :: l => by rw [flat_cons, List.length_cons, List.length_cons, flat_len l, List.length_cons]; omega
theorem flat_take : ∀ (l : List Lab) (k : Nat), (flat l).take (k * 2) = flat (l.take k)
  | [], k => by simp [flat]
  | x :: l, 0 => by simp [flat]
  | x :: l, k + 1 => by
    rw [show (k + 1) * 2 = k * 2 + 1 + 1 by omega, flat_cons, List.take_succ_cons, List.take_succ_cons, flat_take l k, List.take_succ_cons, flat_cons]
theorem flat_drop : ∀ (l : List Lab) (k : Nat), (flat l).drop (k * 2) = flat (l.drop k)
  | [], k => by simp [flat]
  | x :: l, 0 => by simp
  | x :: l, k + 1 => by
    rw [show (k + 1) * 2 = k * 2 + 1 + 1 by omega, flat_cons, List.drop_succ_cons, List.drop_succ_cons, flat_drop l k, List.drop_succ_cons]
theorem flat_at : ∀ {l : List Lab} {k : Nat} (h : k < l.length), (flat l)[k * 2]? = some (S8 (l[k]).1) ∧ (flat l)[k * 2 + 1]? = some (S8 (l[k]).2)
  | x :: l, 0, _ => by simp [flat]
  | x :: l, k + 1, h => by
    have ih := flat_at (l := l) (k := k) (by simpa using h)
    rw [show (k + 1) * 2 = k * 2 + 1 + 1 by omega, flat_cons]
    simpa using ih
theorem flat_ones (l : List Lab) : ∀ u ∈ flat l, u.oneCell' = true := by
  intro u hu
  obtain ⟨x, _, hx⟩ := List.mem_flatMap.1 hu
  simp at hx
  rcases hx with rfl | rfl <;> rfl
theorem flat_inj : ∀ {l m : List Lab}, flat l = flat m → l = m
  | [], [], _ => rfl
  | [], y :: m, h => by simp [flat] at h
  | x :: l, [], h => by simp [flat] at h
  | x :: l, y :: m, h => by
    rw [flat_cons, flat_cons] at h
    simp only [List.cons.injEq] at h
    obtain ⟨h1, h2, h3⟩ := h
    have key : ∀ {a b : List UInt8}, S8 a = S8 b → a = b := fun {a b} h => by
      unfold S8 at h
      injection h with h
      have := congrArg (fun b : ByteArray => b.data.toList) h
      simpa using this
    rw [flat_inj h3, Prod.ext (key h1) (key h2)]
theorem cellsL {w : World} {b off : Nat} {l : List Lab} (hc : ∀ j u, (flat l)[j]? = some u → w.cell? ⟨b, off + j, none⟩ = some u) {k : Nat} (hk : k < l.length) :
    w.cell? ⟨b, off + k * 2, none⟩ = some (.string ⟨(l[k]).1.toArray⟩) ∧ w.cell? ⟨b, off + k * 2 + 1, none⟩ = some (.string ⟨(l[k]).2.toArray⟩) :=
  ⟨hc _ _ (flat_at hk).1, by rw [Nat.add_assoc]; exact hc _ _ (flat_at hk).2⟩
theorem info_label : (Try.prog.info? 46).map (fun i => (i.zero, i.size, i.bytes)) = some (some (.agg #[.string ByteArray.empty, .string ByteArray.empty]), 2, 32) := by kernel_rfl
/-- A slice of labels at A reads as l. -/
def Lb (w : World) (A : Option Addr) (n c : Nat) (l : List Lab) : Prop := n = l.length ∧ n ≤ c ∧ c ≤ maxLen ∧ Rd w w.heap.size A (flat l)
theorem own_lab {w : World} {base n : Nat} {v : Value} {xs : List Value} (h : w.ownsRow base 46 2 v n xs) : ∃ A c, v = .slice A n c ∧ n ≤ c ∧ c ≤ maxLen ∧ Rd w w.heap.size A xs ∧ (n = 0 ∨ ∃ g, A = some ⟨g, 0, none⟩ ∧ base ≤ g) := by
  rcases h.2 with ⟨rfl, rfl⟩ | ⟨g, cap, cur, rfl, hb, hg, h1, h2, h3, h4⟩
  · have hx : xs = [] := List.eq_nil_of_length_eq_zero (by have := h.1; omega)
    subst hx
    exact ⟨none, 0, rfl, by omega, by unfold maxLen; omega, Rd.nil_, .inl rfl⟩
  · refine ⟨_, _, rfl, h1, h2, fun hn => ?_, .inr ⟨g, rfl, hb⟩⟩
    refine ⟨g, 0, rfl, (Array.getElem?_eq_some_iff.1 hg).1, fun j u hu => ?_⟩
    have := h.cells (g := g) rfl j u hu
    rwa [add_off] at this
end Go.Proofs.Ytahbaifbihpppaa.LbMem
