/- A class's set in plain words: the runes at which something may change, put in order, and looked at one by one, give the pairs of the runes that lie in it, or don't. Of no program. No conditions but those that the theorems name. · The contract of the document's Has: does a rune lie in a set of pairs? Only read. Conditions: the set lies in memory. -/
import Derived.Test.YtdmbgjpidlllcaaRxSpecs
import Derived.Test.YtdmbgjpidlllcaaRxMbr
namespace Go.Proofs.Ytdmbgjpidlllcaa.RxCln
open RxSpec RxEq

def hasZ : List Nat → Int → Bool
  | a :: b :: l, z => (decide ((a : Int) ≤ z) && decide (z ≤ (b : Int))) || hasZ l z
  | _, _ => false
theorem has_hasZ : ∀ (l : List Nat) (r : Nat), has l r = hasZ l (r : Int)
  | [], _ => by simp [has, hasZ]
  | [_], _ => by simp [has, hasZ]
  | a :: b :: l, r => by
    rw [has, hasZ, has_hasZ l r]
    congr 1
    rw [Bool.eq_iff_iff]
    simp
theorem has_cons (a b : Nat) (l : List Nat) (r : Nat) : has (a :: b :: l) r = ((decide (a ≤ r) && decide (r ≤ b)) || has l r) := by rw [has]
/-- The runes at which something may change. -/
def cutP : List Nat → List Nat
  | a :: b :: l => a :: (b + 1) :: cutP l
  | _ => []
def cuts (set : List Nat) : List Nat := 0 :: 1114112 :: cutP set
theorem cutP_le : ∀ {l : List Nat}, (∀ x ∈ l, x ≤ 1114111) → ∀ c ∈ cutP l, c ≤ 1114112
  | [], _, c, hc => by simp [cutP] at hc
  | [_], _, c, hc => by simp [cutP] at hc
  | a :: b :: l, h, c, hc => by
    rw [cutP] at hc
    rcases List.mem_cons.1 hc with rfl | hc
    · have := h c (by simp); omega
    rcases List.mem_cons.1 hc with rfl | hc
    · have := h b (by simp); omega
    · exact cutP_le (fun x hx => h x (by simp [hx])) c hc
/-- Between two cuts nothing changes. -/
theorem has_flat {c d : Nat} : ∀ {l : List Nat}, (∀ x ∈ cutP l, x ≤ c ∨ d ≤ x) → ∀ x, c ≤ x → x < d → has l x = has l c
  | [], _, x, _, _ => by simp [has]
  | [_], _, x, _, _ => by simp [has]
  | a :: b :: l, h, x, h1, h2 => by
    rw [cutP] at h
    rw [has_cons, has_cons, has_flat (fun y hy => h y (by simp [hy])) x h1 h2]
    congr 1
    have ha := h a (by simp)
    have hb := h (b + 1) (by simp)
    rw [Bool.eq_iff_iff]
    simp
    omega

/-! ### Pairs -/
/-- A run more. -/
def ext (out : List Nat) (c e : Nat) : List Nat := if out ≠ [] ∧ out.getLastD 0 + 1 = c then out.dropLast ++ [e] else out ++ [c, e]
def con (r : Nat) (out : List Nat) : List Nat := match out with
  | a :: b :: m => if a = r + 1 then r :: b :: m else r :: r :: a :: b :: m
  | _ => [r, r]
theorem pairs_cons (r : Nat) (l : List Nat) : pairs (r :: l) = con r (pairs l) := by rw [pairs]; rfl
theorem con_nil (r : Nat) : con r [] = [r, r] := rfl
theorem con_cons (r a b : Nat) (m : List Nat) : con r (a :: b :: m) = if a = r + 1 then r :: b :: m else r :: r :: a :: b :: m := rfl
theorem pairs_run : ∀ (n c : Nat), pairs (List.range' c (n + 1)) = [c, c + n]
  | 0, c => rfl
  | n + 1, c => by
    rw [List.range'_succ, pairs_cons, pairs_run n (c + 1), con_cons, if_pos rfl, show c + 1 + n = c + (n + 1) by omega]
theorem pairs_shape : ∀ l : List Nat, pairs l = [] ∧ l = [] ∨ ∃ a b m, pairs l = a :: b :: m
  | [] => .inl ⟨rfl, rfl⟩
  | r :: l => by
    right
    rw [pairs_cons]
    rcases pairs_shape l with ⟨h, _⟩ | ⟨a, b, m, h⟩
    · exact ⟨r, r, [], by rw [h]; rfl⟩
    · rw [h, con_cons]
      split
      · exact ⟨r, b, m, rfl⟩
      · exact ⟨r, r, _, rfl⟩
theorem con_ext (r a b : Nat) (m : List Nat) (c e : Nat) : con r (ext (a :: b :: m) c e) = ext (con r (a :: b :: m)) c e := by
  by_cases hr : a = r + 1
  · cases m with
    | nil => by_cases h : b + 1 = c <;> simp [con, ext, h, hr]
    | cons y m => by_cases h : (y :: m).getLastD 0 + 1 = c <;> (simp at h; simp [con, ext, h, hr])
  · cases m with
    | nil => by_cases h : b + 1 = c <;> simp [con, ext, h, hr]
    | cons y m => by_cases h : (y :: m).getLastD 0 + 1 = c <;> (simp at h; simp [con, ext, h, hr])
theorem pairs_ext : ∀ (l : List Nat) (c n : Nat), pairs (l ++ List.range' c (n + 1)) = ext (pairs l) c (c + n)
  | [], c, n => by rw [List.nil_append, pairs_run]; rfl
  | r :: l, c, n => by
    rw [List.cons_append, pairs_cons, pairs_ext l c n, pairs_cons]
    rcases pairs_shape l with ⟨h, hl⟩ | ⟨a, b, m, h⟩
    · rw [h, con_nil]
      by_cases h1 : r + 1 = c
      · simp [ext, con, h1]
      · have : ¬ c = r + 1 := fun h2 => h1 h2.symm
        simp [ext, con, h1, this]
    · rw [h, con_ext]
/-- The runes below c of which P holds. -/
def below (P : Nat → Bool) (c : Nat) : List Nat := (List.range c).filter P
theorem below_skip {P : Nat → Bool} {c d : Nat} (hcd : c ≤ d) (h : ∀ x, c ≤ x → x < d → P x = false) : below P d = below P c := by
  unfold below
  obtain ⟨n, rfl⟩ : ∃ n, d = c + n := ⟨d - c, by omega⟩
  rw [List.range_add, List.filter_append, List.filter_map]
  rw [show (List.range n).filter (P ∘ fun x => c + x) = [] from List.filter_eq_nil_iff.2 (fun x hx => by
    have := List.mem_range.1 hx
    simp [h (c + x) (by omega) (by omega)])]
  simp
theorem below_run {P : Nat → Bool} {c d : Nat} (hcd : c < d) (h : ∀ x, c ≤ x → x < d → P x = true) : pairs (below P d) = ext (pairs (below P c)) c (d - 1) := by
  obtain ⟨n, rfl⟩ : ∃ n, d = c + (n + 1) := ⟨d - c - 1, by omega⟩
  have e : below P (c + (n + 1)) = below P c ++ List.range' c (n + 1) := by
    unfold below
    rw [List.range_add, List.filter_append]
    congr 1
    rw [List.filter_eq_self.2 (fun x hx => by
      obtain ⟨y, hy, rfl⟩ := List.mem_map.1 hx
      have := List.mem_range.1 hy
      exact h _ (by omega) (by omega))]
    rw [List.range'_eq_map_range]
  rw [e, pairs_ext]
  congr 1

/-! ### Putting in order -/
def g (xs : List Nat) (k : Nat) : Nat := xs.getD k 0
theorem g_at {xs : List Nat} {k : Nat} (h : k < xs.length) : g xs k = xs[k] := by unfold g; rw [List.getD_eq_getElem?_getD, List.getElem?_eq_getElem h]; rfl
theorem g_set {xs : List Nat} {j : Nat} (h : j < xs.length) (v k : Nat) : g (xs.set j v) k = if k = j then v else g xs k := by
  unfold g
  rw [List.getD_eq_getElem?_getD, List.getElem?_set, List.getD_eq_getElem?_getD]
  by_cases e : j = k
  · subst e; simp [h]
  · rw [if_neg e, if_neg (fun h => e h.symm)]
/-- The first i are in order. -/
def Sorted (xs : List Nat) (i : Nat) : Prop := ∀ a b, a < b → b < i → g xs a ≤ g xs b
/-- The one at k is on its way down. -/
structure Sink (xs : List Nat) (k i : Nat) : Prop where
  others : ∀ a b, a < b → b ≤ i → a ≠ k → b ≠ k → g xs a ≤ g xs b
  least : ∀ b, k < b → b ≤ i → g xs k ≤ g xs b
theorem Sink.start {xs : List Nat} {i : Nat} (h : Sorted xs i) : Sink xs i i := ⟨fun a b h1 h2 _ h4 => h a b h1 (by omega), fun b h1 h2 => by omega⟩
theorem Sink.done {xs : List Nat} {k i : Nat} (h : Sink xs k i) (hk : k = 0 ∨ g xs (k - 1) ≤ g xs k) : Sorted xs (i + 1) := by
  intro a b h1 h2
  by_cases ha : a = k
  · subst ha; exact h.least b h1 (by omega)
  by_cases hb : b = k
  · subst hb
    rcases hk with hk | hk
    · omega
    · by_cases e : a = b - 1
      · rw [e]; exact hk
      · exact Nat.le_trans (h.others a (b - 1) (by omega) (by omega) ha (by omega)) hk
  · exact h.others a b h1 (by omega) ha hb
def swap (xs : List Nat) (k : Nat) : List Nat := (xs.set k (g xs (k - 1))).set (k - 1) (g xs k)
theorem swap_len (xs : List Nat) (k : Nat) : (swap xs k).length = xs.length := by simp [swap]
theorem g_swap {xs : List Nat} {k : Nat} (h0 : 0 < k) (hk : k < xs.length) (j : Nat) : g (swap xs k) j = if j = k - 1 then g xs k else if j = k then g xs (k - 1) else g xs j := by
  unfold swap
  rw [g_set (by simp; omega), g_set hk]
theorem Sink.swap {xs : List Nat} {k i : Nat} (h : Sink xs k i) (h0 : 0 < k) (hk : k < xs.length) (hki : k ≤ i) (hgt : g xs k < g xs (k - 1)) : Sink (swap xs k) (k - 1) i := by
  refine ⟨fun a b h1 h2 ha hb => ?_, fun b h1 h2 => ?_⟩
  · rw [g_swap h0 hk, g_swap h0 hk, if_neg ha, if_neg hb]
    by_cases ea : a = k
    · rw [if_pos ea, if_neg (by omega)]
      exact h.others (k - 1) b (by omega) h2 (by omega) (by omega)
    · rw [if_neg ea]
      by_cases eb : b = k
      · rw [if_pos eb]
        exact h.others a (k - 1) (by omega) (by omega) ea (by omega)
      · rw [if_neg eb]
        exact h.others a b h1 h2 ea eb
  · rw [g_swap h0 hk, g_swap h0 hk, if_pos rfl, if_neg (by omega)]
    by_cases eb : b = k
    · rw [if_pos eb]; omega
    · rw [if_neg eb]
      exact h.least b (by omega) h2
theorem swap_perm {xs : List Nat} {k : Nat} (h0 : 0 < k) (hk : k < xs.length) : (swap xs k).Perm xs := by
  unfold swap
  rw [g_at hk, g_at (by omega)]
  exact List.set_set_perm («as» := xs) (i := k) (j := k - 1) hk (by omega)
/-- Cuts in order. -/
structure Cuts (set xs : List Nat) : Prop where
  perm : xs.Perm (cuts set)
  sorted : Sorted xs xs.length
theorem Cuts.first {set xs : List Nat} (h : Cuts set xs) : g xs 0 = 0 := by
  have hm : 0 ∈ xs := h.perm.mem_iff.2 (by simp [cuts])
  obtain ⟨j, hj, e⟩ := List.getElem_of_mem hm
  by_cases h0 : j = 0
  · subst h0; rw [g_at hj, e]
  · have := h.sorted 0 j (by omega) hj
    rw [g_at hj, e] at this
    omega
theorem Cuts.last {set xs : List Nat} (h : Cuts set xs) (hs : ∀ x ∈ set, x ≤ 1114111) : g xs (xs.length - 1) = 1114112 := by
  have hm : 1114112 ∈ xs := h.perm.mem_iff.2 (by simp [cuts])
  obtain ⟨j, hj, e⟩ := List.getElem_of_mem hm
  have hle : ∀ x ∈ xs, x ≤ 1114112 := fun x hx => by
    have := h.perm.mem_iff.1 hx
    unfold cuts at this
    rcases List.mem_cons.1 this with rfl | this
    · omega
    rcases List.mem_cons.1 this with rfl | this
    · omega
    · exact cutP_le hs x this
  have h1 : g xs (xs.length - 1) ≤ 1114112 := by rw [g_at (by omega)]; exact hle _ (List.getElem_mem _)
  by_cases h0 : j = xs.length - 1
  · subst h0; rw [g_at hj, e]
  · have := h.sorted j (xs.length - 1) (by omega) (by omega)
    rw [g_at hj, e] at this
    omega
/-- Between neighbours nothing changes. -/
theorem Cuts.flat {set xs : List Nat} (h : Cuts set xs) {i : Nat} (hi : i + 1 < xs.length) : ∀ x, g xs i ≤ x → x < g xs (i + 1) → has set x = has set (g xs i) := by
  refine has_flat (fun c hc => ?_)
  have hm : c ∈ xs := h.perm.mem_iff.2 (by simp [cuts, hc])
  obtain ⟨j, hj, e⟩ := List.getElem_of_mem hm
  rw [← g_at hj] at e
  rw [← e]
  by_cases hji : j ≤ i
  · left
    by_cases e2 : j = i
    · rw [e2]; omega
    · exact h.sorted j i (by omega) (by omega)
  · right
    by_cases e2 : j = i + 1
    · rw [e2]; omega
    · exact h.sorted (i + 1) j (by omega) hj
/-- What is found up to the cut i. -/
def outTo (set : List Nat) (not : Bool) (xs : List Nat) (i : Nat) : List Nat := pairs (RxCln.below (fun r => has set r != not) (g xs i))
theorem outTo_start {set xs : List Nat} (not : Bool) (h : Cuts set xs) : outTo set not xs 0 = [] := by
  unfold outTo RxCln.below; rw [h.first]; rfl
theorem outTo_end {set xs : List Nat} (not : Bool) (h : Cuts set xs) (hs : ∀ x ∈ set, x ≤ 1114111) : outTo set not xs (xs.length - 1) = clean set not := by
  unfold outTo RxCln.below clean; rw [h.last hs]
theorem outTo_succ {set xs : List Nat} (not : Bool) (h : Cuts set xs) {i : Nat} (hi : i + 1 < xs.length) :
    outTo set not xs (i + 1) = if g xs i = g xs (i + 1) ∨ has set (g xs i) = not then outTo set not xs i else ext (outTo set not xs i) (g xs i) (g xs (i + 1) - 1) := by
  have hle := h.sorted i (i + 1) (by omega) hi
  have hf := h.flat hi
  unfold outTo
  by_cases e : g xs i = g xs (i + 1)
  · rw [if_pos (.inl e), e]
  by_cases e2 : has set (g xs i) = not
  · rw [if_pos (.inr e2), below_skip hle (fun x h1 h2 => by rw [hf x h1 h2, e2]; simp)]
  · rw [if_neg (by rintro (h | h) <;> contradiction), below_run (c := g xs i) (by omega) (fun x h1 h2 => by rw [hf x h1 h2]; simpa using e2)]
theorem pairs_le (P : Nat → Bool) (n : Nat) : ∀ x ∈ pairs (RxCln.below P n), x < n := by
  have key : ∀ l : List Nat, (∀ x ∈ l, x < n) → ∀ x ∈ pairs l, x < n := by
    intro l
    induction l with
    | nil => intro _ x hx; cases hx
    | cons r l ih =>
      intro h x hx
      have ih := ih (fun y hy => h y (by simp [hy]))
      have hr := h r (by simp)
      rw [pairs_cons] at hx
      rcases pairs_shape l with ⟨h0, _⟩ | ⟨a, b, m, h0⟩
      · rw [h0, con_nil] at hx
        simp at hx; omega
      · rw [h0] at ih
        rw [h0, con_cons] at hx
        split at hx
        · rcases List.mem_cons.1 hx with rfl | hx
          · exact hr
          · exact ih x (List.mem_cons_of_mem _ hx)
        · rcases List.mem_cons.1 hx with rfl | hx
          · exact hr
          rcases List.mem_cons.1 hx with rfl | hx
          · exact hr
          · exact ih x hx
  exact key _ (fun x hx => List.mem_range.1 (List.mem_filter.1 hx).1)
end Go.Proofs.Ytdmbgjpidlllcaa.RxCln

namespace Go.Proofs.Ytdmbgjpidlllcaa.RxHas
open Go Go.RowKit Words AppN Km Mo_ RxSpec RxEq RxMem RxPeek RxIn RxEsc RxCln

theorem cellR {w : World} {b off : Nat} {l : List Nat} (hc : ∀ j u, (l.map R32)[j]? = some u → w.cell? ⟨b, off + j, none⟩ = some u) {k : Nat} (hk : k < l.length) : w.cell? ⟨b, off + k, none⟩ = some (.int .i32 ((l[k] : Nat) : Int)) := hc k _ (by simp [hk, R32])
theorem cell_up {w w' : World} {B : Nat} (hb : Below B w w') {p : Addr} (hp : p.block < B) {u : Value} (h : w.cell? p = some u) : w'.cell? p = some u := (hb.cell hp).trans h
theorem hasZ_cons (a b : Nat) (l : List Nat) (z : Int) : hasZ (a :: b :: l) z = ((decide ((a : Int) ≤ z) && decide (z ≤ (b : Int))) || hasZ l z) := by rw [hasZ]
theorem hasZ_short : ∀ {l : List Nat} (z : Int), l.length ≤ 1 → hasZ l z = false
  | [], _, _ => rfl
  | [_], _, _ => rfl
  | _ :: _ :: _, _, h => by simp at h
theorem drop_two {l : List Nat} {j : Nat} (h : j + 1 < l.length) : l.drop j = l[j] :: l[j + 1] :: l.drop (j + 2) := by
  rw [List.drop_eq_getElem_cons (by omega), List.drop_eq_getElem_cons h]
def HsRel (W : World) (l : List Nat) (z : Int) (v : Value) (wr : World) : Prop := ∃ j : Nat, j ≤ l.length + 1 ∧ v = .int .i64 (j : Int) ∧ Hid (hasZ l z = hasZ (l.drop j) z) ∧ Hid (wr = W)
set_option maxHeartbeats 3200000 in
set_option maxRecDepth 100000 in
theorem has_any (w : World) (A : Option Addr) (c : Nat) (l : List Nat) (z : Int) (hr : Rd w w.heap.size A (l.map R32)) (_hc : l.length ≤ c) (_hm : c ≤ maxLen) (hl : l.length ≤ 1000000000) :
    Calls Try.prog 13 #[.slice A l.length c, .int .i32 z] w fun e w' => e = .returned (.bool (hasZ l z)) ∧ w' = w := by
  unfold maxLen at _hm
  have HR := Lib.hid hr
  clear hr
  obtain ⟨b, hb⟩ : ∃ b, hasZ l z = b := ⟨_, rfl⟩
  rw [hb]
  have HB := Lib.hid hb
  clear hb
  go_enter Try.func13, Try.ntmps13
  go_wp2
  go_loopw [5] (fun v wr => HsRel w l z v wr) (fun v _ => l.length + 2 - (intOf v).toNat)
  case atStart => exact ⟨0, by omega, rfl, Lib.hid (by simp), Lib.hid rfl⟩
  case round =>
    obtain ⟨j, hj, rfl, HZ, HBr⟩ := hrel
    obtain rfl := HBr.out
    by_cases hlt : j + 1 < l.length
    · obtain ⟨g1, off, eA, hg, hcs⟩ := HR.out (by simp; omega)
      subst eA
      have k0 := cellR hcs (show j < l.length by omega)
      have k1 := cellR hcs hlt
      have d1 : decide ((j : Int) + 1 < (l.length : Int)) = true := decide_eq_true (by omega)
      have HS : Hid (b = ((decide (((l[j] : Nat) : Int) ≤ z) && decide (z ≤ ((l[j + 1] : Nat) : Int))) || hasZ (l.drop (j + 2)) z)) := Lib.hid (by rw [← HB.out, HZ.out, drop_two hlt, hasZ_cons])
      have HZ2 : Hid (hasZ l z = (decide (((l[j] : Nat) : Int) ≤ z) && decide (z ≤ ((l[j + 1] : Nat) : Int)) || hasZ (l.drop (j + 2)) z)) := Lib.hid (by rw [HZ.out, drop_two hlt, hasZ_cons])
      clear hcs HZ
      generalize l[j] = x at *
      generalize l[j + 1] = y at *
      by_cases e1 : (x : Int) ≤ z
      · have d2 : decide ((x : Int) ≤ z) = true := decide_eq_true e1
        by_cases e2 : z ≤ (y : Int)
        · have d3 : decide (z ≤ (y : Int)) = true := decide_eq_true e2
          have HE : Hid (b = true) := Lib.hid (by rw [HS.out, d2, d3]; rfl)
          clear HS HZ2 e1 e2
          go_wp2
          go_ret
          rw [HE.out]
          exact ⟨rfl, rfl⟩
        · have d3 : decide (z ≤ (y : Int)) = false := decide_eq_false e2
          have HE : Hid (hasZ l z = hasZ (l.drop (j + 2)) z) := Lib.hid (by rw [HZ2.out, d2, d3]; rfl)
          clear HS HZ2 e1 e2
          go_wp2
          exact ⟨⟨j + 2, by omega, by go_num, HE, Lib.hid rfl⟩, by simp [intOf]; omega⟩
      · have d2 : decide ((x : Int) ≤ z) = false := decide_eq_false e1
        have HE : Hid (hasZ l z = hasZ (l.drop (j + 2)) z) := Lib.hid (by rw [HZ2.out, d2]; rfl)
        clear HS HZ2 e1
        go_wp2
        exact ⟨⟨j + 2, by omega, by go_num, HE, Lib.hid rfl⟩, by simp [intOf]; omega⟩
    · have d1 : decide ((j : Int) + 1 < (l.length : Int)) = false := decide_eq_false (by omega)
      have HE : Hid (b = false) := Lib.hid (by rw [← HB.out, HZ.out, hasZ_short z (by rw [List.length_drop]; omega)])
      go_wp2
      go_ret
      rw [HE.out]
      exact ⟨rfl, rfl⟩
end Go.Proofs.Ytdmbgjpidlllcaa.RxHas

