/- Plain: words that are laid together with a mark between them. No conditions. -/
import Derived.Test.YtebdolfcemplnaaTxLaw
namespace Go.Proofs.Ytebdolfcemplnaa.TxJoin
open Go UtSpec TxSpec Less TxAll TxLaw

def jn {α : Type} (m : List α) : List (List α) → List α
  | [] => []
  | [x] => x
  | x :: y :: r => x ++ (m ++ jn m (y :: r))
theorem jn_snoc {α : Type} (m x : List α) : ∀ a : List (List α), jn m (a ++ [x]) = (if a = [] then [] else jn m a ++ m) ++ x
  | [] => by simp [jn]
  | [y] => by simp [jn]
  | y :: z :: r => by
    have h := jn_snoc m x (z :: r)
    rw [if_neg (by simp)] at h
    rw [if_neg (by simp)]
    rw [show (y :: z :: r) ++ [x] = y :: z :: (r ++ [x]) from rfl, jn, show z :: (r ++ [x]) = (z :: r) ++ [x] from rfl, h, jn]
    simp
theorem jn_encs (m : List Nat) : ∀ cs : List (List Nat), jn (encs m) (cs.map encs) = encs (jn m cs)
  | [] => rfl
  | [c] => rfl
  | c :: d :: r => by
    have h := jn_encs m (d :: r)
    rw [List.map_cons] at h
    rw [List.map_cons, List.map_cons, jn, h, jn, encs_append, encs_append]
theorem jn_sc {m : List Nat} (hm : ∀ r ∈ m, sc r) : ∀ {cs : List (List Nat)}, (∀ c ∈ cs, ∀ r ∈ c, sc r) → ∀ r ∈ jn m cs, sc r
  | [], _ => by simp [jn]
  | [c], h => h c (by simp)
  | c :: d :: r, h => by
    have ih := jn_sc hm (cs := d :: r) (fun x hx => h x (by simp only [List.mem_cons] at *; exact .inr hx))
    intro x hx
    rw [jn, List.mem_append, List.mem_append] at hx
    rcases hx with hx | hx | hx
    · exact h c (by simp) x hx
    · exact hm x hx
    · exact ih x hx
/-- A run of word runes that isn't empty. -/
def Run (c : List Nat) : Prop := c ≠ [] ∧ ∀ r ∈ c, wd r = true
theorem runsA_marks {m : List Nat} (hm : ∀ x ∈ m, wd x = false) : ∀ (st : Bool) (R : List Nat), m ≠ [] → runsA [] st (m ++ R) = runsA [] true R := by
  induction m with
  | nil => intro _ _ h; exact absurd rfl h
  | cons x m ih =>
    intro st R _
    rw [List.cons_append, runsA_skip (hm x (by simp))]
    by_cases h : m = []
    · subst h; rfl
    · exact ih (fun y hy => hm y (by simp [hy])) true R h
theorem step_marks {m : List Nat} (hm : ∀ x ∈ m, wd x = false) (hn : m ≠ []) {c : List Nat} (hc : Run c) (st : Bool) (R : List Nat) : runsA [] st (c ++ (m ++ R)) = (c, st) :: runsA [] true R := by
  obtain ⟨x, m', rfl⟩ := List.exists_cons_of_ne_nil hn
  have h := runsA_marks hm true R hn
  rw [List.cons_append] at h ⊢
  rw [runsA_step hc.2 hc.1 st (.inr ⟨x, m' ++ R, rfl, hm x (by simp)⟩), h]
  simp
/-- All but the last are inner ones, where something stands ahead. -/
theorem runsA_jn {m : List Nat} (hm : ∀ x ∈ m, wd x = false) (hn : m ≠ []) : ∀ (cs : List (List Nat)), (∀ c ∈ cs, Run c) → ∀ (st : Bool) (d : List Nat), Run d →
    runsA [] st (jn m (d :: cs)) = (if cs = [] then [(d, false)] else (d, st) :: ((cs.dropLast.map fun c => (c, true)) ++ (cs.drop (cs.length - 1)).map fun c => (c, false)))
  | [], _, st, d, hd => by
    have h := runsA_step hd.2 hd.1 st (.inl rfl) (R := [])
    rw [List.append_nil] at h
    rw [jn, h]
    simp [runsA]
  | c :: cs, h, st, d, hd => by
    have ih := runsA_jn hm hn cs (fun x hx => h x (by simp [hx])) true c (h c (by simp))
    rw [jn, step_marks hm hn hd, ih]
    cases cs with
    | nil => simp
    | cons e cs => simp
theorem words_jn {m : List Nat} (hm : ∀ x ∈ m, wd x = false) (hn : m ≠ []) (cs : List (List Nat)) (h : ∀ c ∈ cs, Run c) : wordsA [] (jn m cs) = cs := by
  rw [← runsA_fst (jn m cs) [] false]
  cases cs with
  | nil => rfl
  | cons d cs =>
    rw [runsA_jn hm hn cs (fun x hx => h x (by simp [hx])) false d (h d (by simp))]
    by_cases hc : cs = []
    · subst hc; rfl
    · rw [if_neg hc, List.map_cons, List.map_append, List.map_map, List.map_map]
      have e1 : cs.dropLast.map (Prod.fst ∘ fun c => ((c, true) : List Nat × Bool)) = cs.dropLast := by
        conv => rhs; rw [← List.map_id cs.dropLast]
        rfl
      have e2 : (cs.drop (cs.length - 1)).map (Prod.fst ∘ fun c => ((c, false) : List Nat × Bool)) = cs.drop (cs.length - 1) := by
        conv => rhs; rw [← List.map_id (cs.drop (cs.length - 1))]
        rfl
      rw [e1, e2, List.dropLast_eq_take, List.take_append_drop]
theorem inner_jn {m : List Nat} (hm : ∀ x ∈ m, wd x = false) (hn : m ≠ []) (cs : List (List Nat)) (h : ∀ c ∈ cs, Run c) : ((runsA [] false (jn m cs)).filter Prod.snd).map Prod.fst = (cs.drop 1).dropLast := by
  cases cs with
  | nil => rfl
  | cons d cs =>
    rw [runsA_jn hm hn cs (fun x hx => h x (by simp [hx])) false d (h d (by simp))]
    by_cases hc : cs = []
    · subst hc; rfl
    · rw [if_neg hc]
      have e1 : (cs.dropLast.map fun c => ((c, true) : List Nat × Bool)).filter Prod.snd = cs.dropLast.map fun c => (c, true) := by
        rw [List.filter_eq_self]
        intro p hp
        obtain ⟨c, _, rfl⟩ := List.mem_map.1 hp
        rfl
      have e2 : ((cs.drop (cs.length - 1)).map fun c => ((c, false) : List Nat × Bool)).filter Prod.snd = [] := by
        rw [List.filter_eq_nil_iff]
        intro p hp
        obtain ⟨c, _, rfl⟩ := List.mem_map.1 hp
        simp
      rw [List.filter_cons, List.filter_append, e1, e2, if_neg (by simp), List.append_nil, List.map_map]
      conv => rhs; rw [show (d :: cs).drop 1 = cs from rfl, ← List.map_id cs.dropLast]
      rfl
/-- Words laid together with a mark between them. -/
theorem words_laid {s : List UInt8} {m : List Nat} (hm : ∀ x ∈ m, wd x = false) (hn : m ≠ []) (hs : ∀ x ∈ m, sc x) : words (jn (encs m) (words s)) = words s ∧ inners (jn (encs m) (words s)) = ((words s).drop 1).dropLast := by
  obtain ⟨cs, hcs, hrun, hsc⟩ : ∃ cs : List (List Nat), words s = cs.map encs ∧ (∀ c ∈ cs, Run c ∧ wof c = encs c) ∧ ∀ c ∈ cs, ∀ r ∈ c, sc r := by
    have hw := words_are s
    generalize words s = ws at hw
    induction ws with
    | nil => exact ⟨[], rfl, by simp, by simp⟩
    | cons w ws ih =>
      obtain ⟨cs, h1, h2, h3⟩ := ih (fun x hx => hw x (by simp [hx]))
      obtain ⟨c, rfl, c1, c2, c3⟩ := hw w (by simp)
      have h := wof_self c1 c2 c3
      have hsc' : ∀ r ∈ (c.take 32).map smallN, sc r := by
        intro r hr
        obtain ⟨x, hx, rfl⟩ := List.mem_map.1 hr
        exact smallN_sc (c3 x (List.mem_of_mem_take hx))
      refine ⟨(c.take 32).map smallN :: cs, by rw [List.map_cons, h1]; rfl, ?_, ?_⟩
      · intro d hd
        rcases List.mem_cons.1 hd with rfl | hd
        · refine ⟨⟨?_, ?_⟩, ?_⟩
          · rw [← h.1]; exact h.2.2.1
          · rw [← h.1]; exact h.2.1
          · rw [wof_small]
            unfold wof
            rw [List.take_take, Nat.min_self]
        · exact h2 d hd
      · intro d hd
        rcases List.mem_cons.1 hd with rfl | hd
        · exact hsc'
        · exact h3 d hd
  have hR : ∀ c ∈ cs, Run c := fun c hc => (hrun c hc).1
  have hwm : ∀ l : List (List Nat), (∀ c ∈ l, wof c = encs c) → l.map wof = l.map encs := fun l hl => List.map_congr_left hl
  have e : rs (jn (encs m) (words s)) = jn m cs := by rw [hcs, jn_encs, rs_encs (jn_sc hs hsc)]
  constructor
  · show (wordsA [] (rs (jn (encs m) (words s)))).map wof = _
    rw [e, words_jn hm hn cs hR, hcs]
    exact hwm cs fun c hc => (hrun c hc).2
  · show ((runsA [] false (rs (jn (encs m) (words s)))).filter Prod.snd).map (fun p => wof p.1) = _
    rw [e]
    have hi := inner_jn hm hn cs hR
    have e3 : ((runsA [] false (jn m cs)).filter Prod.snd).map (fun p => wof p.1) = (((runsA [] false (jn m cs)).filter Prod.snd).map Prod.fst).map wof := by rw [List.map_map]; rfl
    rw [e3, hi, hcs, ← List.map_drop, ← List.map_dropLast]
    exact hwm _ fun c hc => (hrun c (by rw [List.dropLast_eq_take] at hc; exact List.mem_of_mem_drop (List.mem_of_mem_take hc))).2
theorem jn_len {m : List UInt8} {B : Nat} (hm : m.length ≤ 3) : ∀ {ws : List (List UInt8)}, (∀ x ∈ ws, x.length ≤ B) → (jn m ws).length ≤ ws.length * (B + 3)
  | [], _ => by simp [jn]
  | [x], h => by have := h x (by simp); simp [jn]; omega
  | x :: y :: r, h => by
    have ih := jn_len hm (ws := y :: r) (fun z hz => h z (by simp only [List.mem_cons] at *; exact .inr hz))
    have hx := h x (by simp)
    rw [jn, List.length_append, List.length_append, List.length_cons, Nat.succ_mul]
    omega
end Go.Proofs.Ytebdolfcemplnaa.TxJoin
