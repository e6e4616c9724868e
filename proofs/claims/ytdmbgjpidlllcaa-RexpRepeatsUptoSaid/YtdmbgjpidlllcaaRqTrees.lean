/- A tree's sizes in plain words: node by node, each by those of its kids; how great a parsed tree can be. Of no program. No conditions but those that the theorems name. · The contract of the program's size of a tree. Conditions: the tree's nodes lie in memory; it is as great as a text of 128 runes can make it. -/
import Derived.Test.YtdmbgjpidlllcaaRxSpecs
import Derived.Test.YtdmbgjpidlllcaaRxTrees
import Derived.Test.YtdmbgjpidlllcaaRqAlls
import Derived.Test.YtdmbgjpidlllcaaUtOwns
namespace Go.Proofs.Ytdmbgjpidlllcaa.RqSize
open RxSpec RxEq RxTree

/-! ### Sizes, node by node -/
def oft (nd : Nd) : Int := if nd.hi < 0 then nd.lo + 1 else max nd.hi 1
def sumAt (s : List Nat) (ks : List Nat) : Nat := match ks with
  | [] => 0
  | k :: t => s.getD k 0 + sumAt s t
def szN (s : List Nat) (nd : Nd) : Nat := 1 + (if nd.kind = 5 then sumAt s nd.kids * (oft nd).toNat else sumAt s nd.kids)
def szs (s : List Nat) : List Nd → List Nat
  | [] => s
  | nd :: l => szs (s ++ [szN s nd]) l
theorem szs_app : ∀ (l m : List Nd) (s : List Nat), szs s (l ++ m) = szs (szs s l) m
  | [], _, _ => rfl
  | nd :: l, m, s => by rw [List.cons_append, szs, szs_app l m, szs]
theorem szs_len : ∀ (l : List Nd) (s : List Nat), (szs s l).length = s.length + l.length
  | [], s => by simp [szs]
  | nd :: l, s => by rw [szs, szs_len l]; simp; omega
theorem szs_pre : ∀ (l : List Nd) (s : List Nat), ∃ F, szs s l = s ++ F
  | [], s => ⟨[], by simp [szs]⟩
  | nd :: l, s => by
    obtain ⟨F, h⟩ := szs_pre l (s ++ [szN s nd])
    exact ⟨szN s nd :: F, by rw [szs, h]; simp⟩
theorem sumAt_app (s F : List Nat) : ∀ ks : List Nat, (∀ k ∈ ks, k < s.length) → sumAt (s ++ F) ks = sumAt s ks
  | [], _ => rfl
  | k :: ks, h => by
    have hk := h k (by simp)
    rw [sumAt, sumAt, sumAt_app s F ks (fun x hx => h x (by simp [hx])), List.getD_eq_getElem?_getD, List.getD_eq_getElem?_getD, List.getElem?_append_left hk]
theorem oft_own (p : Pat) (b : Nat) (hk : kindOf p = 5) : ((oft (ownNd p b)).toNat = timesOf p) ∧ oft (ownNd p b) = (timesOf p : Int) := by
  unfold oft ownNd
  simp only
  rcases times_go p with h | h | h | h | h
  · rw [if_neg (by omega)]; omega
  · rw [if_pos (by omega)]; omega
  · rw [if_pos (by omega)]; omega
  · rw [if_neg (by omega)]; omega
  · exact absurd hk h.1
/-- What a tree adds to the sizes so far. -/
def Sz (p : Pat) : Prop := ∀ s : List Nat, ∃ F, szs s (emit p s.length) = s ++ F ∧ F.length = (emit p s.length).length ∧ F.getLast? = some (size p) ∧ (∀ x ∈ F, x ≤ size p)
theorem kids_sz : ∀ (l : List Pat), (∀ p ∈ l, Sz p) → ∀ s : List Nat, ∃ F, szs s (emits l s.length) = s ++ F ∧ F.length = (emits l s.length).length ∧ sumAt (s ++ F) (roots l s.length) = sizes l ∧ (∀ k ∈ roots l s.length, k < s.length + F.length) ∧ ∀ x ∈ F, x ≤ sizes l
  | [], _, s => ⟨[], by simp [szs, emits], by simp [emits], by simp [roots, sumAt, sizes], by simp [roots], by simp⟩
  | p :: l, h, s => by
    obtain ⟨F, h1, h2, h3, h4⟩ := h p (by simp) s
    obtain ⟨G, g1, g2, g3, g4, g5⟩ := kids_sz l (fun q hq => h q (by simp [hq])) (s ++ F)
    have hlen : (s ++ F).length = s.length + (emit p s.length).length := by rw [List.length_append, h2]
    rw [hlen] at g1 g2 g3 g4
    have hpos := emit_pos p s.length
    have hlast : F[F.length - 1]? = some (size p) := by rw [← h3, List.getLast?_eq_getElem?]
    refine ⟨F ++ G, ?_, ?_, ?_, ?_, ?_⟩
    · rw [emits, szs_app, h1, g1, List.append_assoc]
    · rw [emits, List.length_append, List.length_append, h2, g2]
    · rw [roots, sumAt, sizes, ← List.append_assoc, g3]
      congr 1
      rw [List.append_assoc, List.getD_eq_getElem?_getD, List.getElem?_append_right (by omega), List.getElem?_append_left (by omega)]
      rw [show s.length + (emit p s.length).length - 1 - s.length = F.length - 1 by omega, hlast]
      rfl
    · rw [roots]
      intro k hk
      rw [List.length_append]
      rcases List.mem_cons.1 hk with rfl | hk
      · omega
      · have := g4 k hk; omega
    · intro x hx
      rw [sizes]
      rcases List.mem_append.1 hx with hx | hx
      · have := h4 x hx; omega
      · have := g5 x hx; omega
theorem sz_all : ∀ (N : Nat) (p : Pat), SizeOf.sizeOf p < N → Sz p
  | 0, _, h => absurd h (Nat.not_lt_zero _)
  | N + 1, p, h => by
    intro s
    obtain ⟨F, h1, h2, h3, h4, h5⟩ := kids_sz (kidsOf p) (fun q hq => sz_all N q (by have := kid_lt hq; omega)) s
    have hN : szN (s ++ F) (ownNd p s.length) = size p := by
      rw [size_eq]
      unfold szN
      show 1 + (if kindOf p = 5 then sumAt (s ++ F) (roots (kidsOf p) s.length) * (oft (ownNd p s.length)).toNat else sumAt (s ++ F) (roots (kidsOf p) s.length)) = _
      rw [h3]
      split
      · rename_i hk
        rw [(oft_own p s.length hk).1, Nat.mul_comm]
      · rename_i hk
        rcases times_go p with h | h | h | h | h
        · exact absurd h.1 hk
        · exact absurd h.1 hk
        · exact absurd h.1 hk
        · exact absurd h.1 hk
        · rw [h.2, Nat.one_mul]
    refine ⟨F ++ [size p], ?_, ?_, by simp, fun x hx => ?_⟩
    · rw [emit_eq, szs_app, h1, szs, szs, hN, List.append_assoc]
    · rw [emit_eq, List.length_append, List.length_append, h2]; rfl
    · have hle : sizes (kidsOf p) ≤ timesOf p * sizes (kidsOf p) := Nat.le_mul_of_pos_left _ (times_pos p)
      have := size_eq p
      rcases List.mem_append.1 hx with hx | hx
      · have := h5 x hx; omega
      · simp at hx; omega
/-! ### Node by node -/
/-- Each node's kids are ahead of it. -/
def Back (b : Nat) (l : List Nd) : Prop := ∀ j (h : j < l.length), (∀ k ∈ (l[j]).kids, k < b + j) ∧ ((l[j]).kind = 5 → 1 ≤ oft l[j])
theorem back_app {b : Nat} {l m : List Nd} (h : Back b l) (h' : Back (b + l.length) m) : Back b (l ++ m) := by
  intro j hj
  by_cases hl : j < l.length
  · rw [List.getElem_append_left hl]; exact h j hl
  · rw [List.getElem_append_right (by omega)]
    have := h' (j - l.length) (by rw [List.length_append] at hj; omega)
    refine ⟨fun k hk => ?_, this.2⟩
    have := this.1 k hk
    omega
theorem roots_lt : ∀ (l : List Pat) (b : Nat), ∀ k ∈ roots l b, k < b + (emits l b).length
  | [], _, k, h => by simp [roots] at h
  | p :: l, b, k, h => by
    have hp := emit_pos p b
    rw [roots] at h
    rw [emits, List.length_append]
    rcases List.mem_cons.1 h with rfl | h
    · omega
    · have := roots_lt l _ k h; omega
theorem back_list : ∀ (l : List Pat), (∀ p ∈ l, ∀ b, Back b (emit p b)) → ∀ b, Back b (emits l b)
  | [], _, _ => fun j h => by simp [emits] at h
  | p :: l, h, b => by
    rw [emits]
    exact back_app (h p (by simp) b) (back_list l (fun q hq => h q (by simp [hq])) _)
theorem back_all : ∀ (N : Nat) (p : Pat), SizeOf.sizeOf p < N → ∀ b, Back b (emit p b)
  | 0, _, h, _ => absurd h (Nat.not_lt_zero _)
  | N + 1, p, h, b => by
    rw [emit_eq]
    refine back_app (back_list _ (fun q hq => back_all N q (by have := kid_lt hq; omega)) b) fun j hj => ?_
    obtain rfl : j = 0 := by simpa using hj
    refine ⟨fun k hk => ?_, fun hk => ?_⟩
    · have := roots_lt (kidsOf p) b k hk; omega
    · have hk : kindOf p = 5 := hk
      have := (oft_own p b hk).2
      have := times_pos p
      show 1 ≤ oft (ownNd p b)
      omega
/-- The size of a whole tree, and that all of its sizes are no greater. -/
theorem tree_sz (p : Pat) : (∀ i (h : i < (emit p 0).length), (∀ k ∈ ((emit p 0)[i]).kids, k < i) ∧ (((emit p 0)[i]).kind = 5 → 1 ≤ oft (emit p 0)[i]) ∧ szN (szs [] ((emit p 0).take i)) (emit p 0)[i] ≤ size p) ∧ (szs [] (emit p 0)).getLast? = some (size p) := by
  obtain ⟨F, h1, h2, h3, h4⟩ := sz_all _ p (Nat.lt_succ_self _) []
  rw [List.length_nil, List.nil_append] at h1
  rw [List.length_nil] at h2
  have hB := back_all _ p (Nat.lt_succ_self _) 0
  refine ⟨fun i hi => ⟨fun k hk => by have := (hB i hi).1 k hk; omega, (hB i hi).2, ?_⟩, by rw [h1]; exact h3⟩
  obtain ⟨G, hG⟩ := szs_pre ((emit p 0).drop (i + 1)) (szs [] ((emit p 0).take (i + 1)))
  have he : szs [] (emit p 0) = szs [] ((emit p 0).take i) ++ [szN (szs [] ((emit p 0).take i)) (emit p 0)[i]] ++ G := by
    have e1 : szs [] ((emit p 0).take (i + 1)) = szs [] ((emit p 0).take i) ++ [szN (szs [] ((emit p 0).take i)) (emit p 0)[i]] := by
      rw [List.take_succ_eq_append_getElem hi, szs_app]; rfl
    have e2 : szs [] (emit p 0) = szs (szs [] ((emit p 0).take (i + 1))) ((emit p 0).drop (i + 1)) := by
      rw [← szs_app, List.take_append_drop]
    rw [e2, hG, e1]
  refine h4 _ ?_
  rw [← h1, he]
  simp

/-! ### How great a parsed tree can be -/
theorem digit_in {rs : List Nat} {n : Nat} {r1 : List Nat} (h : digit rs = some (n, r1)) : n ≤ 8 ∧ r1.length < rs.length := by
  cases rs with
  | nil => cases h
  | cons r t => rw [digit_cons] at h; split at h <;> cases h; simp; omega
theorem rep_size {p q : Pat} {rs r1 : List Nat} (h : repS p rs = some (q, r1)) : size q ≤ 1 + 8 * size p ∧ r1.length ≤ rs.length := by
  refine ⟨?_, repS_short h⟩
  have hp : ∀ (p : Pat) lo hi t, times lo hi ≤ t → t ≤ 8 → size (.rep p lo hi) ≤ 1 + 8 * size p := fun p lo hi t h1 h2 => by
    rw [size]
    have := Nat.mul_le_mul_right (size p) (Nat.le_trans h1 h2)
    omega
  unfold repS at h
  split at h
  · cases h; exact hp p 1 (-1) 2 (by decide) (by decide)
  split at h
  · cases h; exact hp p 0 1 1 (by decide) (by decide)
  split at h
  · cases hd1 : digit rs.tail with
    | none => rw [hd1] at h; cases h
    | some x =>
      obtain ⟨lo, r2⟩ := x
      rw [hd1] at h
      have hlo := (digit_in hd1).1
      simp only at h
      cases hd2 : (if hd r2 44 = true then digit r2.tail else some (lo, r2)) with
      | none => rw [hd2] at h; cases h
      | some y =>
        obtain ⟨hi, r3⟩ := y
        rw [hd2] at h
        have hhi : hi ≤ 8 := by
          split at hd2
          · exact (digit_in hd2).1
          · cases hd2; exact hlo
        simp only at h
        split at h
        · cases h
          refine hp p lo hi 8 ?_ (by decide)
          unfold times
          split
          · omega
          · split <;> omega
        · cases h
  split at h
  · cases h; exact hp p 0 (-1) 1 (by decide) (by decide)
  · cases h; omega
theorem size_pos (p : Pat) : 1 ≤ size p := by rw [size_eq]; omega
theorem sizes_one (p : Pat) : sizes [p] = size p := by simp [sizes]
theorem sizes_snoc (l : List Pat) (p : Pat) : sizes (l ++ [p]) = sizes l + size p := by rw [sizes_app, sizes_one]
theorem mkRow_size (ps : List Pat) : size (mkRow ps) ≤ 1 + sizes ps := by
  unfold mkRow
  split
  · simp [size, sizes]
  · rw [sizes_one]; omega
  · rw [size]; omega
theorem mkAlt_size (ps : List Pat) : size (mkAlt ps) ≤ 1 + sizes ps := by
  unfold mkAlt
  split
  · rw [sizes_one]; omega
  · rw [size]; omega
def M (k : Nat) : Nat := 9 ^ k
theorem M_succ (k : Nat) : M (k + 1) = 9 * M k := by unfold M; rw [Nat.pow_succ, Nat.mul_comm]
theorem M_pos (k : Nat) : 1 ≤ M k := Nat.one_le_pow _ _ (by decide)
theorem M_mono {a b : Nat} (h : a ≤ b) : M a ≤ M b := Nat.pow_le_pow_right (by decide) h
def AtB (N : Nat) : Prop := ∀ rs p k r1, rs.length ≤ N → atomS rs = some (p, k, r1) → r1.length < rs.length ∧ size p ≤ M k * (rs.length - r1.length)
def ItB (N : Nat) : Prop := ∀ rs p k r1, rs.length ≤ N → itemS rs = some (p, k, r1) → r1.length < rs.length ∧ size p ≤ M (k + 1) * (rs.length - r1.length)
def RoB (N : Nat) : Prop := ∀ ps k0 rs p k r1, rs.length ≤ N → rowL ps k0 rs = some (p, k, r1) → r1.length ≤ rs.length ∧ k0 ≤ k ∧ size p ≤ 1 + sizes ps + M (k + 1) * (rs.length - r1.length)
def LiB (N : Nat) : Prop := ∀ ps k0 rs p k r1, rs.length ≤ N → altL ps k0 rs = some (p, k, r1) → r1.length ≤ rs.length ∧ k0 ≤ k ∧ size p ≤ 1 + sizes ps + M (k + 1) * (rs.length - r1.length)
def AlB (N : Nat) : Prop := ∀ rs p k r1, rs.length ≤ N → altS rs = some (p, k, r1) → r1.length ≤ rs.length ∧ size p ≤ 2 + M (k + 1) * (rs.length - r1.length)
theorem item_b {N : Nat} (H : AtB N) : ItB N := by
  intro rs p k r1 hN h
  rw [itemS] at h
  cases ha : atomS rs with
  | none => rw [ha] at h; cases h
  | some x =>
    obtain ⟨p', k', r'⟩ := x
    rw [ha] at h
    simp only at h
    cases hr : repS p' r' with
    | none => rw [hr] at h; cases h
    | some y =>
      obtain ⟨q, r2⟩ := y
      rw [hr] at h
      simp only [Option.map_some, Option.some.injEq, Prod.mk.injEq] at h
      obtain ⟨rfl, rfl, rfl⟩ := h
      obtain ⟨h1, h2⟩ := H _ _ _ _ hN ha
      obtain ⟨h3, h4⟩ := rep_size hr
      have hm := M_pos k'
      refine ⟨by omega, ?_⟩
      rw [M_succ, Nat.mul_assoc]
      have h5 : M k' * (rs.length - r'.length) ≤ M k' * (rs.length - r2.length) := Nat.mul_le_mul_left _ (by omega)
      have h6 : 1 ≤ M k' * (rs.length - r2.length) := Nat.le_trans hm (Nat.le_mul_of_pos_right _ (by omega))
      omega
theorem row_b {N : Nat} (H : ItB N) : ∀ n ps k0 rs p k r1, rs.length ≤ n → n ≤ N → rowL ps k0 rs = some (p, k, r1) → r1.length ≤ rs.length ∧ k0 ≤ k ∧ size p ≤ 1 + sizes ps + M (k + 1) * (rs.length - r1.length) := by
  intro n
  induction n using Nat.strongRecOn with
  | _ n ih =>
  intro ps k0 rs p k r1 hn hN h
  rw [rowL_eq] at h
  split at h
  · cases h
    have := mkRow_size ps
    exact ⟨Nat.le_refl _, Nat.le_refl _, by rw [Nat.sub_self]; omega⟩
  · cases hi : itemS rs with
    | none => rw [hi] at h; cases h
    | some x =>
      obtain ⟨p', k', r'⟩ := x
      rw [hi] at h
      simp only at h
      obtain ⟨h1, h2⟩ := H _ _ _ _ (by omega) hi
      obtain ⟨i1, i2, i3⟩ := ih r'.length (by omega) _ _ _ _ _ _ (Nat.le_refl _) (by omega) h
      refine ⟨by omega, by omega, ?_⟩
      rw [sizes_snoc] at i3
      have h3 : M (k' + 1) * (rs.length - r'.length) ≤ M (k + 1) * (rs.length - r'.length) := Nat.mul_le_mul_right _ (M_mono (by omega))
      have h4 : M (k + 1) * (rs.length - r1.length) = M (k + 1) * (rs.length - r'.length) + M (k + 1) * (r'.length - r1.length) := by
        rw [← Nat.mul_add]; congr 1; omega
      omega
theorem list_b {N : Nat} (H : RoB N) : ∀ n ps k0 rs p k r1, rs.length ≤ n → n ≤ N → altL ps k0 rs = some (p, k, r1) → r1.length ≤ rs.length ∧ k0 ≤ k ∧ size p ≤ 1 + sizes ps + M (k + 1) * (rs.length - r1.length) := by
  intro n
  induction n using Nat.strongRecOn with
  | _ n ih =>
  intro ps k0 rs p k r1 hn hN h
  rw [altL_eq] at h
  split at h
  · rename_i hb
    have ht := hd_tail hb
    have htl : rs.tail.length = rs.length - 1 := List.length_tail
    cases hi : rowL [] 0 rs.tail with
    | none => rw [hi] at h; cases h
    | some x =>
      obtain ⟨p', k', r'⟩ := x
      rw [hi] at h
      simp only at h
      obtain ⟨h1, _, h2⟩ := H _ _ _ _ _ _ (by omega) hi
      obtain ⟨i1, i2, i3⟩ := ih r'.length (by omega) _ _ _ _ _ _ (Nat.le_refl _) (by omega) h
      refine ⟨by omega, by omega, ?_⟩
      rw [sizes_snoc] at i3
      rw [show sizes [] = 0 from rfl] at h2
      have h3 : M (k' + 1) * (rs.tail.length - r'.length) ≤ M (k + 1) * (rs.tail.length - r'.length) := Nat.mul_le_mul_right _ (M_mono (by omega))
      have hm := M_pos (k + 1)
      have h4 : M (k + 1) * (rs.length - r1.length) = M (k + 1) * 1 + M (k + 1) * (rs.tail.length - r'.length) + M (k + 1) * (r'.length - r1.length) := by
        rw [← Nat.mul_add, ← Nat.mul_add]; congr 1; omega
      omega
  · cases h
    have := mkAlt_size ps
    exact ⟨Nat.le_refl _, Nat.le_refl _, by rw [Nat.sub_self]; omega⟩
theorem alt_b {N : Nat} (H : RoB N) (HL : LiB N) : AlB N := by
  intro rs p k r1 hN h
  rw [altS_eq] at h
  cases hi : rowL [] 0 rs with
  | none => rw [hi] at h; cases h
  | some x =>
    obtain ⟨p', k', r'⟩ := x
    rw [hi] at h
    simp only at h
    obtain ⟨h1, _, h2⟩ := H _ _ _ _ _ _ hN hi
    obtain ⟨i1, i2, i3⟩ := HL _ _ _ _ _ _ (by omega) h
    rw [show sizes [] = 0 from rfl] at h2
    rw [sizes_one] at i3
    have h3 : M (k' + 1) * (rs.length - r'.length) ≤ M (k + 1) * (rs.length - r'.length) := Nat.mul_le_mul_right _ (M_mono (by omega))
    have h4 : M (k + 1) * (rs.length - r1.length) = M (k + 1) * (rs.length - r'.length) + M (k + 1) * (r'.length - r1.length) := by
      rw [← Nat.mul_add]; congr 1; omega
    exact ⟨by omega, by omega⟩
theorem leaf_b {p : Pat} {k a b : Nat} (hs : size p = 1) (h : b < a) : size p ≤ M k * (a - b) := by
  rw [hs]
  exact Nat.le_trans (M_pos k) (Nat.le_mul_of_pos_right _ (by omega))
theorem atom_b {N : Nat} (H : ∀ n, n < N → AlB n) : AtB N := by
  intro rs p k r1 hN h
  have hsh := atom_short h
  refine ⟨hsh, ?_⟩
  cases rs with
  | nil => rw [atomS] at h; cases h
  | cons r t =>
    rw [atomS] at h
    split at h
    · cases ha : altS t with
      | none => rw [ha] at h; cases h
      | some x =>
        obtain ⟨q, k1, r2⟩ := x
        rw [ha] at h
        simp only at h
        split at h
        · rename_i h2
          cases h
          have ht := hd_tail h2
          have htl : r2.tail.length = r2.length - 1 := List.length_tail
          simp only [List.length_cons] at hN ⊢
          obtain ⟨i1, i2⟩ := H t.length (by omega) _ _ _ _ (Nat.le_refl _) ha
          have hm := M_pos (k1 + 1)
          have h4 : M (k1 + 1) * (t.length + 1 - r2.tail.length) = M (k1 + 1) * 2 + M (k1 + 1) * (t.length - r2.length) := by
            rw [← Nat.mul_add]; congr 1; omega
          omega
        · cases h
    split at h
    · cases hc : cls t with
      | none => rw [hc] at h; cases h
      | some x =>
        obtain ⟨q, r2⟩ := x
        rw [hc] at h
        cases h
        refine leaf_b ?_ hsh
        unfold cls at hc
        split at hc
        · cases hc
        · cases hc; rfl
    split at h
    · cases h; exact leaf_b rfl hsh
    split at h
    · cases h; exact leaf_b rfl hsh
    split at h
    · cases h; exact leaf_b rfl hsh
    split at h
    · cases hc : esc t with
      | none => rw [hc] at h; cases h
      | some x =>
        obtain ⟨q, r2⟩ := x
        rw [hc] at h
        cases h
        exact leaf_b rfl hsh
    split at h
    · cases h
    · cases h; exact leaf_b rfl hsh
theorem alts_b : ∀ N, AlB N := by
  intro N
  induction N using Nat.strongRecOn with
  | _ N ih =>
  have hi := item_b (atom_b ih)
  have hr : RoB N := fun ps k0 rs p k r1 h => row_b hi _ _ _ _ _ _ _ h (Nat.le_refl _)
  exact alt_b hr (fun ps k0 rs p k r1 h => list_b hr _ _ _ _ _ _ _ h (Nat.le_refl _))
/-- A pattern of at most 128 runes and 16 parentheses in one another. -/
theorem size_small {rs : List Nat} {p : Pat} {k : Nat} {r1 : List Nat} (h : altS rs = some (p, k, r1)) (hl : rs.length ≤ 128) (hk : k ≤ 16) : size p ≤ 2305843009213693952 := by
  obtain ⟨_, h2⟩ := alts_b _ _ _ _ _ (Nat.le_refl _) h
  have h3 : M (k + 1) * (rs.length - r1.length) ≤ M 17 * 128 := Nat.mul_le_mul (M_mono (by omega)) (by omega)
  have h4 : M 17 * 128 = 2135178037164433408 ∨ True := .inr trivial
  have h5 : M 17 * 128 + 2 ≤ 2305843009213693952 := by unfold M; decide
  omega
end Go.Proofs.Ytdmbgjpidlllcaa.RqSize

namespace Go.Proofs.Ytdmbgjpidlllcaa.RqTree
open Go Go.RowKit Words AppN Km Mo_ RxSpec RxTree RxEq RxMem RxSize RqSize
theorem often_any (w : World) (k lo hi : Int) (ks ss : Value) (h1 : lo ≤ 1000000) (o : Int) (h0 : 1 ≤ o) (ho : o = if hi < 0 then lo + 1 else max hi 1) : Calls Try.prog 27 #[.agg #[.int .i64 k, ks, .int .i64 lo, .int .i64 hi, ss]] w fun e w' => e = .returned (.int .i64 o) ∧ Below w.heap.size w w' := by
  by_cases hlt : hi < 0
  · have d1 : decide (hi < 0) = true := decide_eq_true hlt
    rw [if_pos hlt] at ho
    have r1 : IntKind.i64.wrap (lo + 1) = o := by rw [IntKind.wrap_i64]; omega
    clear ho
    go_enter Try.func27, Try.ntmps27
    go_wp2
    go_ret
    exact ⟨rfl, (Below.refl _ w).alloc (Nat.le_refl _) _⟩
  · have d1 : decide (hi < 0) = false := decide_eq_false hlt
    rw [if_neg hlt] at ho
    go_enter Try.func27, Try.ntmps27
    go_wp2
    go_ret
    exact ⟨rfl, (Below.refl _ w).alloc (Nat.le_refl _) _⟩
theorem run_ints (L : Nat) (hL : L ≤ 1000000000) (W : World) : (Instr.makeSlice 30 (.int .i64 (L : Int)) (.int .i64 (L : Int))).run Try.prog W = .ok (.slice (some ⟨W.heap.size, 0, none⟩) L L) (W.alloc (.cells ((List.replicate L 0).map IV).toArray 3)) := by
  obtain ⟨i1, gi, gz0, gz1, gz2⟩ := RxPost.info_int
  have h := run_make (P := Try.prog) W 30 3 i1 (.int .i64 0) Try.underlying30 gi gz0 .i64 .i64 (L : Int) (L : Int) (by omega) (by omega) (by rw [gz2]; omega) (by omega)
  rw [gz1] at h
  have e : madeCells (Value.int .i64 0).cells (((L : Nat) : Int).toNat * 1) = ((List.replicate L 0).map IV).toArray := by
    apply Array.ext'
    rw [show (Value.int .i64 0).cells = #[.int .i64 0] from rfl, toList_madeCells_one]
    simp [IV]
  rw [e] at h
  simpa using h
theorem own_ints (L : Nat) (hL : L ≤ 1000000000) {w W : World} (hb : Below w.heap.size w W) : (W.alloc (.cells ((List.replicate L 0).map IV).toArray 3)).ownsRow w.heap.size 3 1 (.slice (some ⟨W.heap.size, 0, none⟩) L L) L ((List.replicate L 0).map IV) := by
  have h := World.ownsRow_lit (base := w.heap.size) (size := 1) (e := 3) W ((List.replicate L 0).map IV).toArray L hb.size (by unfold maxLen; omega) (by simp)
  simpa using h
theorem own_at {w : World} {base g L c : Nat} {xs : List Nat} (h : w.ownsRow base 3 1 (.slice (some ⟨g, 0, none⟩) L c) L (xs.map IV)) {i : Nat} (hi : i < xs.length) : w.cell? ⟨g, i, none⟩ = some (.int .i64 ((xs.getD i 0 : Nat) : Int)) ∧ w.frozen? ⟨g, i, none⟩ = false := by
  constructor
  · have := h.cells (g := g) rfl i (.int .i64 ((xs.getD i 0 : Nat) : Int)) (by simp [hi, IV])
    rwa [add_off, Nat.zero_add] at this
  · rcases h.2 with ⟨e, _⟩ | ⟨g', cap, cur, e, _, hg, _⟩
    · cases e
    · injection e with e _ _
      injection e with e
      injection e with e
      subst e
      simp [World.frozen?, hg]
/-! ### The sizes so far -/
def sz (l : List Nd) (i : Nat) : List Nat := szs [] (l.take i) ++ List.replicate (l.length - i) 0
theorem sz_len {l : List Nd} {i : Nat} (h : i ≤ l.length) : (sz l i).length = l.length := by
  unfold sz; rw [List.length_append, szs_len, List.length_nil, List.length_take, List.length_replicate]; omega
theorem sz_zero (l : List Nd) : sz l 0 = List.replicate l.length 0 := by simp [sz, szs]
theorem sz_next {l : List Nd} {i : Nat} (h : i < l.length) : (sz l i).set i (szN (szs [] (l.take i)) l[i]) = sz l (i + 1) := by
  have hl : (szs [] (l.take i)).length = i := by rw [szs_len, List.length_nil, List.length_take]; omega
  unfold sz
  rw [List.take_succ_eq_append_getElem h, szs_app, show l.length - i = (l.length - (i + 1)) + 1 by omega, List.replicate_succ]
  rw [List.set_append_right _ _ (by omega), hl, Nat.sub_self, List.set_cons_zero, szs, szs, List.append_assoc]
  rfl
theorem sz_sum {l : List Nd} {i : Nat} (h : i ≤ l.length) (ks : List Nat) (hk : ∀ k ∈ ks, k < i) : sumAt (sz l i) ks = sumAt (szs [] (l.take i)) ks :=
  sumAt_app _ _ _ fun k hx => by rw [szs_len, List.length_nil, List.length_take]; have := hk k hx; omega
theorem sum_next (L : List Nat) : ∀ {ks : List Nat} {j : Nat} (h : j < ks.length), sumAt L (ks.take (j + 1)) = sumAt L (ks.take j) + L.getD ks[j] 0
  | k :: ks, 0, _ => by simp [sumAt]
  | k :: ks, j + 1, h => by
    rw [List.take_succ_cons, List.take_succ_cons, sumAt, sumAt, sum_next L (ks := ks) (j := j) (by simpa using h)]
    simp only [List.getElem_cons_succ]
    omega
theorem sum_le (L : List Nat) : ∀ (ks : List Nat) (j : Nat), sumAt L (ks.take j) ≤ sumAt L ks
  | [], j => by simp
  | k :: ks, 0 => by simp [sumAt]
  | k :: ks, j + 1 => by rw [List.take_succ_cons, sumAt, sumAt]; have := sum_le L ks j; omega
/-- All that the walk asks of a node's sum. -/
theorem szN_facts (s : List Nat) (nd : Nd) (b : Nat) (h : szN s nd ≤ b) (ho : nd.kind = 5 → 1 ≤ oft nd) : sumAt s nd.kids ≤ b ∧
    (nd.kind = 5 → ∃ o : Nat, oft nd = (o : Int) ∧ 1 + sumAt s nd.kids * o = szN s nd) ∧ (nd.kind ≠ 5 → 1 + sumAt s nd.kids = szN s nd) := by
  unfold szN at h ⊢
  refine ⟨?_, fun hk => ⟨(oft nd).toNat, by have := ho hk; omega, by rw [if_pos hk]⟩, fun hk => by rw [if_neg hk]⟩
  split at h
  · rename_i hk
    have h1 := ho hk
    have : sumAt s nd.kids * 1 ≤ sumAt s nd.kids * (oft nd).toNat := Nat.mul_le_mul_left _ (by omega)
    omega
  · omega

def ORel (l : List Nd) (W : World) (vi : Value) (wr : World) : Prop := ∃ i : Nat, i ≤ l.length ∧ vi = .int .i64 (i : Int) ∧ Hid (wr.ownsRow W.heap.size 3 1 (.slice (some ⟨W.heap.size, 0, none⟩) l.length l.length) l.length ((sz l i).map IV)) ∧ Hid (Below W.heap.size W wr)
def IRel (L ks : List Nat) (n : Nat) (W W1 : World) (vs vj : Value) (wr : World) : Prop := ∃ j : Nat, j ≤ ks.length ∧ vj = .int .i64 (j : Int) ∧ vs = .int .i64 ((sumAt L (ks.take j) : Nat) : Int) ∧ Hid (wr.ownsRow W.heap.size 3 1 (.slice (some ⟨W.heap.size, 0, none⟩) n n) n (L.map IV)) ∧ Hid (Below W.heap.size W wr) ∧ Hid (Below W1.heap.size W1 wr)
set_option maxHeartbeats 6400000 in
set_option maxRecDepth 100000 in
theorem size_any (w : World) (p : Pat) (ms : List NM) (A : Option Addr) (c : Nat) (ht : Tr w A c ms) (hn : nds ms = emit p 0) (hs : size p ≤ 2305843009213693952) (hl : ms.length ≤ 100000) :
    Calls Try.prog 19 #[.slice A ms.length c] w fun e w' => e = .returned (.int .i64 (size p : Int)) ∧ Below w.heap.size w w' := by
  obtain ⟨hT, hlast⟩ := tree_sz p
  rw [← hn] at hT hlast
  have hlen : (nds ms).length = ms.length := by simp [nds]
  have hpos : 0 < ms.length := by rw [← hlen, hn]; exact emit_pos p 0
  have hle := ht.le
  have hcap := ht.cap
  unfold maxLen at hcap
  obtain ⟨g, off, rfl, hg, hc⟩ := ht.rd (by rw [flatN_len]; omega)
  have HMK := run_ints ms.length (by omega)
  have HO0 := Lib.hid (own_ints ms.length (by omega) (Below.refl w.heap.size w))
  have HB0 := Lib.hid ((Below.refl _ w).alloc (Nat.le_refl _) (.cells ((List.replicate ms.length 0).map IV).toArray 3))
  obtain ⟨M, hM⟩ : ∃ M, ((List.replicate ms.length 0).map IV).toArray = M := ⟨_, rfl⟩
  simp only [hM] at HMK
  rw [hM] at HO0 HB0
  obtain ⟨V0, hV0⟩ : ∃ V0, (List.replicate ms.length 0).map IV = V0 := ⟨_, rfl⟩
  have HZ : Hid ((sz (nds ms) 0).map IV = V0) := Lib.hid (by rw [sz_zero, hlen]; exact hV0)
  rw [hV0] at HO0
  clear hM hV0
  -- the cells of node i, and of its kids
  have HC : Hid (∀ i (hi : i < ms.length) wz, Below w.heap.size w wz → wz.cell? ⟨g, off + i * 5, none⟩ = some (.int .i64 ((ms[i]).nd.kind : Int)) ∧ wz.cell? ⟨g, off + i * 5 + 1, none⟩ = some (slV (ms[i]).ks) ∧ wz.cell? ⟨g, off + i * 5 + 2, none⟩ = some (.int .i64 (ms[i]).nd.lo) ∧ wz.cell? ⟨g, off + i * 5 + 3, none⟩ = some (.int .i64 (ms[i]).nd.hi) ∧ wz.cell? ⟨g, off + i * 5 + 4, none⟩ = some (slV (ms[i]).ss)) := Lib.hid fun i hi wz hb => by
    have key : ∀ j u, (flatN ms)[j]? = some u → wz.cell? ⟨g, off + j, none⟩ = some u := fun j u hu => (hb.cell (p := ⟨g, off + j, none⟩) hg).trans (hc j u hu)
    have hrd := flatN_at hi
    exact ⟨key _ _ hrd.1, key _ _ hrd.2.1, key _ _ hrd.2.2.1, key _ _ hrd.2.2.2.1, key _ _ hrd.2.2.2.2⟩
  have HK : Hid (∀ i (hi : i < ms.length), ∃ A2 c2, (ms[i]).ks = (A2, (ms[i]).nd.kids.length, c2) ∧ (ms[i]).nd.kids.length ≤ c2 ∧ c2 ≤ maxLen ∧ ∀ j (hj : j < (ms[i]).nd.kids.length), ∃ g2 o2, A2 = some ⟨g2, o2, none⟩ ∧ ∀ wz, Below w.heap.size w wz → wz.cell? ⟨g2, o2 + j, none⟩ = some (.int .i64 (((ms[i]).nd.kids[j] : Nat) : Int))) := Lib.hid fun i hi => by
    obtain ⟨A2, c2, h1, h2, h3, h4⟩ := ht.each _ (List.getElem_mem hi)
    refine ⟨A2, c2, h1, h3, h4, fun j hj => ?_⟩
    obtain ⟨g2, o2, e, hg2, hc2⟩ := h2 (by rw [List.length_map]; omega)
    exact ⟨g2, o2, e, fun wz hb => (hb.cell (p := ⟨g2, o2 + j, none⟩) hg2).trans (hc2 j _ (by simp [hj, IV]))⟩
  have HSM : Hid (∀ i (hi : i < ms.length), (ms[i]).nd.lo ≤ 1000000) := Lib.hid fun i hi => (ht.small _ (List.getElem_mem hi)).1
  have HT : Hid (∀ i (hi : i < ms.length), (∀ k ∈ (ms[i]).nd.kids, k < i) ∧ ((ms[i]).nd.kind = 5 → 1 ≤ oft (ms[i]).nd) ∧ szN (szs [] ((nds ms).take i)) (ms[i]).nd ≤ 2305843009213693952 ∧ (sz (nds ms) i).set i (szN (szs [] ((nds ms).take i)) (ms[i]).nd) = sz (nds ms) (i + 1)) := Lib.hid fun i hi => by
    have hi2 : i < (nds ms).length := by omega
    have e : (nds ms)[i] = (ms[i]).nd := by simp [nds]
    obtain ⟨h1, h2, h3⟩ := hT i hi2
    rw [e] at h1 h2 h3
    have h4 := sz_next hi2
    rw [e] at h4
    exact ⟨h1, h2, Nat.le_trans h3 hs, h4⟩
  have HF : Hid ((sz (nds ms) ms.length).getD (ms.length - 1) 0 = size p) := Lib.hid (by
    have e : sz (nds ms) ms.length = szs [] (nds ms) := by unfold sz; rw [← hlen, List.take_length]; simp
    have h2 := szs_len (nds ms) []
    rw [e, List.getD_eq_getElem?_getD]
    rw [List.getLast?_eq_getElem?, h2, List.length_nil, Nat.zero_add, hlen] at hlast
    rw [hlast]
    rfl)
  have HSL : Hid (∀ i, i ≤ ms.length → (sz (nds ms) i).length = ms.length) := Lib.hid fun i hi => by rw [sz_len (by omega)]; exact hlen
  have HSS : Hid (∀ i, i ≤ ms.length → ∀ ks : List Nat, (∀ k ∈ ks, k < i) → sumAt (sz (nds ms) i) ks = sumAt (szs [] ((nds ms).take i)) ks) := Lib.hid fun i hi ks hk => sz_sum (by omega) ks hk
  have HLN := Lib.hid hlen
  clear hT hlast ht hn hc hlen
  generalize size p = z at *
  generalize hnd : nds ms = l at *
  have HND := Lib.hid hnd
  clear hnd
  go_enter Try.func19, Try.ntmps19
  go_wp2
  go_loopw [14] (fun vi wr => ORel l w vi wr) (fun vi _ => ms.length - (intOf vi).toNat)
  case atStart =>
    refine ⟨0, Nat.zero_le _, rfl, Lib.hid ?_, HB0⟩
    rw [HZ.out, HLN.out]
    exact HO0.out
  case round =>
    obtain ⟨i, hi, rfl, HO, HB⟩ := hrel
    rw [HLN.out] at hi HO
    by_cases hlt : i < ms.length
    case neg =>
      have d1 : decide ((i : Int) < (ms.length : Int)) = false := decide_eq_false (by omega)
      obtain rfl : i = ms.length := by omega
      obtain ⟨q1, q2⟩ := own_at HO.out (i := ms.length - 1) (by rw [HSL.out _ (Nat.le_refl _)]; omega)
      rw [HF.out] at q1
      obtain ⟨y, hy⟩ : ∃ y, ms.length - 1 = y := ⟨_, rfl⟩
      rw [hy] at q1
      have r1 : (ms.length : Int) - 1 = (y : Int) := by omega
      have r2 : (0 : Int) ≤ (y : Int) := by omega
      have r3 : (y : Int) < (ms.length : Int) := by omega
      have r4 : IntKind.i64.wrap (y : Int) = (y : Int) := by rw [IntKind.wrap_i64]; omega
      clear hy
      go_wp2
      go_ret
      exact ⟨rfl, HB.out⟩
    case pos =>
      have d1 : decide ((i : Int) < (ms.length : Int)) = true := decide_eq_true (by omega)
      obtain ⟨x0, x1, x2, x3, x4⟩ := HC.out i hlt wr HB.out
      have HC2 := Lib.hid (fun wz hb => HC.out i hlt wz hb)
      obtain ⟨A2, c2, hks, hk1, hk2, hkc⟩ := HK.out i hlt
      have HKC := Lib.hid hkc
      clear hkc
      have hlo := HSM.out i hlt
      obtain ⟨t1, t2, t3, t4⟩ := HT.out i hlt
      obtain ⟨f1, f2, f3⟩ := szN_facts _ _ _ t3 t2
      rw [← HSS.out i hi _ t1] at f1 f2 f3
      have hLn := HSL.out i hi
      have HKL : Hid (∀ k ∈ (ms[i]).nd.kids, k < ms.length) := Lib.hid fun k hk => by have := t1 k hk; omega
      rw [hks] at x1
      unfold slV at x1 x4
      simp only at x1
      have HT4 := Lib.hid t4
      generalize szN (szs [] (l.take i)) (ms[i]).nd = v at *
      generalize hm : ms[i] = m at *
      obtain ⟨⟨kind, kids, lo, hh, set⟩, ks, ⟨sA, sn, sc⟩⟩ := m
      simp only at x0 x1 x2 x3 x4 hk1 hlo t1 t2 f1 f2 f3 HKL HKC
      clear hks hm HK HC HSM HT HSS HSL HZ HND t1 t4 HMK HO0 HB0
      have HF1 := Lib.hid f1
      generalize sz l i = L at *
      have i0 : (0 : Int) ≤ (i : Int) := by omega
      have i1 : (i : Int) < (ms.length : Int) := by omega
      unfold maxLen at hk2
      clear f1
      go_wp2
      obtain ⟨W1, hW1⟩ : ∃ W1, wr.alloc (.cells #[.int .i64 (kind : Int), .slice A2 kids.length c2, .int .i64 lo, .int .i64 hh, .slice sA sn sc] 33) = W1 := ⟨_, rfl⟩
      have HN1 : Hid (W1.heap[wr.heap.size]? = some (.cells #[.int .i64 (kind : Int), .slice A2 kids.length c2, .int .i64 lo, .int .i64 hh, .slice sA sn sc] 33 (0, 0))) := Lib.hid (by rw [← hW1]; exact Array.getElem?_push_size)
      have HO1 : Hid (W1.ownsRow w.heap.size 3 1 (.slice (some ⟨w.heap.size, 0, none⟩) ms.length ms.length) ms.length (L.map IV)) := Lib.hid (by rw [← hW1]; exact HO.out.alloc _)
      have HB1 : Hid (Below w.heap.size w W1) := Lib.hid (by rw [← hW1]; exact HB.out.alloc HB.out.size _)
      have HW : Hid (wr.heap.size < W1.heap.size ∧ w.heap.size ≤ wr.heap.size) := Lib.hid ⟨by rw [← hW1]; exact Nat.lt_of_lt_of_eq (Nat.lt_succ_self _) (Array.size_push _).symm, HB.out.size⟩
      rw [hW1]
      generalize wr.heap.size = q at *
      clear hW1 x0 x1 x2 x3 x4
      go_loopw [6, 22] (fun vs vj wr => IRel L kids ms.length w W1 vs vj wr) (fun _ vj _ => kids.length - (intOf vj).toNat)
      case atStart => exact ⟨0, Nat.zero_le _, rfl, by simp [sumAt], HO1, HB1, Lib.hid (Below.refl _ _)⟩
      case round =>
        obtain ⟨j, hj, rfl, rfl, HO2, HB2, HB3⟩ := hrel
        have HSB := Lib.hid (sum_le L kids j)
        by_cases hjl : j < kids.length
        case pos =>
          have d2 : decide ((j : Int) < (kids.length : Int)) = true := decide_eq_true (by omega)
          obtain ⟨g2, o2, rfl, hk⟩ := HKC.out j hjl
          have k1 := hk _ HB2.out
          have HSB2 := Lib.hid (sum_le L kids (j + 1))
          have HSN := Lib.hid (sum_next L hjl)
          have hkm := HKL.out _ (List.getElem_mem hjl)
          obtain ⟨q1, q2⟩ := own_at HO2.out (i := kids[j]) (by rw [hLn]; exact hkm)
          have j0 : (0 : Int) ≤ (j : Int) := by omega
          have j1 : (j : Int) < (kids.length : Int) := by omega
          generalize kids[j] = y at *
          generalize L.getD y 0 = sy at *
          generalize sumAt L (List.take j kids) = sa at *
          have r1 : IntKind.i64.wrap ((sa : Int) + (sy : Int)) = ((sa + sy : Nat) : Int) := by
            rw [IntKind.wrap_i64]
            have := HSN.out
            have := HSB2.out
            have := HF1.out
            omega
          have y0 : (0 : Int) ≤ (y : Int) := by omega
          have y1 : (y : Int) < (ms.length : Int) := by omega
          clear hk HKC HKL f2 f3 t2
          go_wp2
          refine ⟨⟨j + 1, hjl, by go_num, ?_, HO2, HB2, HB3⟩, by simp [intOf]; omega⟩
          rw [HSN.out, Int.natCast_add]
        case neg =>
          have d2 : decide ((j : Int) < (kids.length : Int)) = false := decide_eq_false (by omega)
          obtain rfl : j = kids.length := by omega
          rw [List.take_length]
          have hs1 := HF1.out
          have key : ∀ m u, (#[.int .i64 (kind : Int), .slice A2 kids.length c2, .int .i64 lo, .int .i64 hh, .slice sA sn sc] : Array Value)[m]? = some u → wr.cell? ⟨q, m, none⟩ = some u := fun m u h => (HB3.out.cell (p := ⟨q, m, none⟩) HW.out.1).trans (RxMem.cell_of_row HN1.out h)
          have b0 := key 0 _ rfl
          have b1 := key 1 _ rfl
          have b2 := key 2 _ rfl
          have b3 := key 3 _ rfl
          have b4 := key 4 _ rfl
          have HST : Hid (∀ wz, wz.ownsRow w.heap.size 3 1 (.slice (some ⟨w.heap.size, 0, none⟩) ms.length ms.length) ms.length (L.map IV) → Below w.heap.size w wz → wz.frozen? ⟨w.heap.size, i, none⟩ = false ∧ (∃ u, wz.cell? ⟨w.heap.size, i, none⟩ = some u) ∧ (wz.setCell ⟨w.heap.size, i, none⟩ (.int .i64 (v : Int))).ownsRow w.heap.size 3 1 (.slice (some ⟨w.heap.size, 0, none⟩) ms.length ms.length) ms.length ((L.set i v).map IV) ∧ Below w.heap.size w (wz.setCell ⟨w.heap.size, i, none⟩ (.int .i64 (v : Int)))) := Lib.hid fun wz ho hb => by
            obtain ⟨h1, h2⟩ := own_at ho (i := i) (by omega)
            refine ⟨h2, ⟨_, h1⟩, ?_, hb.setCell (show w.heap.size ≤ (⟨w.heap.size, i, none⟩ : Addr).block from Nat.le_refl _) _⟩
            have h := (ho.stored i (.int .i64 (v : Int))).1
            rw [List.map_set]
            exact h
          clear key HKC HKL HSB
          generalize sumAt L kids = sa at *
          by_cases hk5 : kind = 5
          case pos =>
            obtain ⟨o, ho1, ho2⟩ := f2 hk5
            have ho3 := t2 hk5
            have HCO := Lib.hid fun wz : World => often_any wz 5 lo hh (.slice A2 kids.length c2) (.slice sA sn sc) hlo o (by rw [← ho1]; exact ho3) ho1.symm
            subst hk5
            have b5 : (((5 : Nat) : Int) == 5) = true := rfl
            obtain ⟨so, hso⟩ : ∃ so, sa * o = so := ⟨_, rfl⟩
            have rm : (sa : Int) * (o : Int) = (so : Int) := by rw [← hso]; exact (Int.natCast_mul sa o).symm
            rw [hso] at ho2
            have r1 : IntKind.i64.wrap (so : Int) = (so : Int) := by rw [IntKind.wrap_i64]; omega
            have r2 : IntKind.i64.wrap (1 + (so : Int)) = (v : Int) := by rw [IntKind.wrap_i64]; omega
            have r3 : 1 + (so : Int) = (v : Int) := by omega
            clear hso ho2 f2 f3 t2 ho1 ho3
            go_wp2_with fail
            refine (HCO.out _).mono ?_
            rintro e wx ⟨rfl, hb5⟩
            have hbx : Below w.heap.size w wx := HB2.out.trans (hb5.mono HB2.out.size)
            obtain ⟨e1, ⟨u, e2⟩, e3, e4⟩ := HST.out wx (UtOwn.own_keep HO2.out hb5) hbx
            have HE3 := Lib.hid e3
            have HE4 := Lib.hid e4
            clear e3 e4 hbx hb5
            go_wp2
            refine ⟨⟨i + 1, by rw [HLN.out]; exact hlt, by go_num, ?_, HE4⟩, by simp [intOf]; omega⟩
            rw [HLN.out, ← HT4.out]
            exact HE3
          case neg =>
            have b5 : ((kind : Int) == 5) = false := by simp; omega
            have ho2 := f3 hk5
            have r2 : IntKind.i64.wrap (1 + (sa : Int)) = (v : Int) := by rw [IntKind.wrap_i64]; omega
            have r3 : 1 + (sa : Int) = (v : Int) := by omega
            obtain ⟨e1, ⟨u, e2⟩, e3, e4⟩ := HST.out wr HO2.out HB2.out
            have HE3 := Lib.hid e3
            have HE4 := Lib.hid e4
            clear ho2 f2 f3 t2 e3 e4
            go_wp2
            refine ⟨⟨i + 1, by rw [HLN.out]; exact hlt, by go_num, ?_, HE4⟩, by simp [intOf]; omega⟩
            rw [HLN.out, ← HT4.out]
            exact HE3
end Go.Proofs.Ytdmbgjpidlllcaa.RqTree

