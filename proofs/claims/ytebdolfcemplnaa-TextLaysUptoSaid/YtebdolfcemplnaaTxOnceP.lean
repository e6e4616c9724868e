/- The contract of the program's once: a row of the call's own is sorted, and each text stands once. Condition: the row is below 2^40 texts. -/
import Derived.Test.YtebdolfcemplnaaTxOnce
import Derived.Test.YtebdolfcemplnaaTxShelf
import Derived.Sort.OwnSorted
import Derived.Sort.KeysCollected
import Derived.Sort.Grow
import Derived.Lib.OwnBridge
import Derived.Lib.SlicesCompact
namespace Go.Proofs.Ytebdolfcemplnaa.TxOnceP
open Go Go.RowKit Go.Sort Words App Less UtOwn TxOnce

theorem keeps_iff {l : List (List UInt8)} {j : Nat} (hj : j < l.length) : Lib.keeps l.toArray j = true ↔ j = 0 ∨ l[j]? ≠ l[j - 1]? := by
  unfold Lib.keeps
  rw [decide_eq_true_eq]
  have h1 : l.toArray[j]! = l[j] := by simp [hj]
  have h2 : l.toArray[j - 1]! = l[j - 1] := by simp [show j - 1 < l.length by omega]
  rw [h1, h2, List.getElem?_eq_getElem hj, List.getElem?_eq_getElem (show j - 1 < l.length by omega)]
  simp
theorem mem_compact {l : List (List UInt8)} {z : List UInt8} : z ∈ Lib.compact l ↔ z ∈ l := by
  unfold Lib.compact Lib.compactUpTo
  rw [List.mem_map]
  constructor
  · rintro ⟨j, hj, rfl⟩
    have hj' : j < l.length := List.mem_range.1 (List.mem_filter.1 hj).1
    rw [show l.toArray[j]! = l[j] by simp [hj']]
    exact List.getElem_mem hj'
  · intro hz
    obtain ⟨k, hk, rfl⟩ := List.mem_iff_getElem.1 hz
    -- the first place of it
    have key : ∀ k : Nat, ∀ hk : k < l.length, ∃ j : Nat, ∃ hj : j < l.length, Lib.keeps l.toArray j = true ∧ l[j] = l[k] := by
      intro k
      induction k with
      | zero => intro hk; exact ⟨0, hk, (keeps_iff hk).2 (.inl rfl), rfl⟩
      | succ k ih =>
        intro hk
        by_cases e : l[k + 1] = l[k]
        · obtain ⟨j, hj, h1, h2⟩ := ih (by omega)
          exact ⟨j, hj, h1, by rw [h2, e]⟩
        · refine ⟨k + 1, hk, (keeps_iff hk).2 (.inr ?_), rfl⟩
          rw [List.getElem?_eq_getElem hk, Nat.add_sub_cancel, List.getElem?_eq_getElem (by omega)]
          simpa using e
    obtain ⟨j, hj, h1, h2⟩ := key k hk
    exact ⟨j, List.mem_filter.2 ⟨List.mem_range.2 hj, h1⟩, by rw [show l.toArray[j]! = l[j] by simp [hj]]; exact h2⟩
theorem rises_compact {l : List (List UInt8)} (h : l.Pairwise fun a b => a ≤ b) : Rises (Lib.compact l) := by
  unfold Rises Lib.compact Lib.compactUpTo
  rw [List.pairwise_map]
  refine List.Pairwise.imp_of_mem ?_ ((List.pairwise_lt_range (n := l.length)).filter (Lib.keeps l.toArray))
  intro i j hi hj hij
  have hi' : i < l.length := List.mem_range.1 (List.mem_filter.1 hi).1
  have hj' : j < l.length := List.mem_range.1 (List.mem_filter.1 hj).1
  have hk := (keeps_iff hj').1 (List.mem_filter.1 hj).2
  rw [show l.toArray[i]! = l[i] by simp [hi'], show l.toArray[j]! = l[j] by simp [hj']]
  have hP := List.pairwise_iff_getElem.1 h
  rcases hk with hk | hk
  · omega
  rw [List.getElem?_eq_getElem hj', List.getElem?_eq_getElem (show j - 1 < l.length by omega)] at hk
  have hne : l[j] ≠ l[j - 1] := by simpa using hk
  have h1 : l[j - 1] ≤ l[j] := hP (j - 1) j (by omega) hj' (by omega)
  have h2 : less l[j - 1] l[j] = true := by
    rcases less_total (fun e : l[j - 1] = l[j] => hne e.symm) with h | h
    · exact h
    · rw [less_lt] at h
      exact absurd h (List.not_lt.2 h1)
  by_cases e : i = j - 1
  · subst e
    exact h2
  · have h3 : l[i] ≤ l[j - 1] := hP i (j - 1) hi' (by omega) (by omega)
    by_cases e2 : l[i] = l[j - 1]
    · rw [e2]; exact h2
    · rcases less_total e2 with h | h
      · exact less_trans h h2
      · rw [less_lt] at h
        exact absurd h (List.not_lt.2 h3)
theorem compact_once (ws : List (List UInt8)) : Lib.compact (ws.mergeSort fun x y => decide (x ≤ y)) = once ws := by
  have hs : (ws.mergeSort fun x y => decide (x ≤ y)).Pairwise fun a b => a ≤ b := by
    have h := List.pairwise_mergeSort (le := fun x y : List UInt8 => decide (x ≤ y)) (fun a b c h1 h2 => by simp only [decide_eq_true_eq] at *; exact List.le_trans h1 h2) (fun a b => by simp only [Bool.or_eq_true, decide_eq_true_eq]; exact List.le_total a b) ws
    exact h.imp fun h => by simpa using h
  exact rises_ext (rises_compact hs) (rises_once ws) fun z => by rw [mem_compact, mem_once, List.mem_mergeSort]

def PPost (ws : List (List UInt8)) (base : Nat) (w : World) (e : Ending) (w' : World) : Prop :=
  ∃ v, e = .returned v ∧ w'.ownsRow base 9 1 v (once ws).length ((once ws).map S8) ∧ ∀ B w0, B ≤ base → Below B w0 w → Below B w0 w'

set_option maxHeartbeats 1600000 in
set_option maxRecDepth 100000 in
/-- text.once. -/
theorem ponce_any (ws : List (List UInt8)) (base : Nat) (v : Value) (w : World) (hown : w.ownsRow base 9 1 v ws.length (ws.map S8)) (hl : ws.length ≤ 1099511627776) :
    Calls Try.prog 29 #[v] w (PPost ws base w) := by
  by_cases hv : v = .slice none 0 0
  · subst hv
    have hn : ws = [] := by
      rcases hown.2 with ⟨_, h⟩ | ⟨g, cap, cur, h, _⟩
      · exact List.eq_nil_of_length_eq_zero h
      · cases h
    subst hn
    have HS := Lib.hid (Try.slices_Sort_string_none none 0 w)
    have HC := Lib.hid (Try.slices_Compact_string_empty none 0 w)
    have HO := Lib.hid (World.ownsRow_nil w base 9 1)
    clear hown
    go_enter Try.func29, Try.ntmps29
    go_wp2_with fail
    refine HS.out.mono ?_
    rintro e w' ⟨rfl, rfl⟩
    go_wp2_with fail
    refine HC.out.mono ?_
    rintro e w' ⟨rfl, rfl⟩
    go_wp2
    go_ret
    exact ⟨_, rfl, HO.out, fun B w0 _ h => h⟩
  · obtain ⟨g, cap, rfl, hbg, hgl, hncap, hcm, _, hH⟩ := Lib.holds_of_ownsRow (enc := encStr) hown hv
    have hl2 : (ws.mergeSort fun x y => decide (x ≤ y)).length = ws.length := List.length_mergeSort ws
    obtain ⟨ss, hss⟩ : ∃ ss, (ws.mergeSort fun x y => decide (x ≤ y)) = ss := ⟨_, rfl⟩
    have hco := compact_once ws
    have hle := Lib.compact_length_le (ws.mergeSort fun x y => decide (x ≤ y))
    have HS0 := Try.slices_Sort_string g 0 cap ws w hH hgl (by omega)
    rw [hss] at hl2 hco HS0 hle
    rw [hco] at hle
    have HS := Lib.hid HS0
    have HC : Hid (∀ nn os, Calls Try.prog 41 #[.slice (some ⟨g, 0, none⟩) ws.length cap] (grow (putRow encStr (Sort.ahead w nn) g 0 ss.toArray) os) fun e w' => e = .returned (.slice (some ⟨g, 0, none⟩) (once ws).length cap) ∧ ∃ q, w' = putRow encStr (Sort.ahead (grow (putRow encStr (Sort.ahead w nn) g 0 ss.toArray) os) q) g 0 (once ws ++ List.replicate (ws.length - (once ws).length) []).toArray) := Lib.hid (fun nn os => by
      have hH2 : Holds encStr (grow (putRow encStr (Sort.ahead w nn) g 0 ss.toArray) os) g 0 ss.toArray :=
        holds_grow encStr _ os g 0 _ (by simpa [putRow, mapBlock, Sort.ahead] using hgl) (holds_putRow encStr _ g 0 _ _ (holds_ahead encStr w nn g 0 _ hH) (by simp [hl2]))
      have h := Try.slices_Compact_string g 0 cap ss _ hH2 (by omega) (by omega)
      rw [hl2, hco] at h
      exact h)
    have HE : Hid (∀ nn os q, PPost ws base w (.returned (.slice (some ⟨g, 0, none⟩) (once ws).length cap)) (putRow encStr (Sort.ahead (grow (putRow encStr (Sort.ahead w nn) g 0 ss.toArray) os) q) g 0 (once ws ++ List.replicate (ws.length - (once ws).length) []).toArray)) := Lib.hid (fun nn os q => by
      rcases hown.2 with ⟨h0, _⟩ | ⟨g', cap', cur, hv', hbase, hb, h1, h2, h3, h4⟩
      · cases h0
      cases hv'
      have hs := ownsRow_sorted (n := nn) (os := os) (ts := ss) (ss := ws) hl2 hbase hb h1 h2 h3
      have hc := Lib.ownsRow_putRow (q := q) (k := (once ws).length) (ys := once ws ++ List.replicate (ws.length - (once ws).length) []) hs (by simp; omega) (by omega)
      rw [List.take_left] at hc
      exact ⟨_, rfl, hc, fun B w0 hB hbel => Lib.below_putRow (hbel.grown (grownBy_sorted _) (by omega) (fun j hj => by cases hj; omega)) (by omega)⟩)
    clear hown hH hss hco HS0 hl2
    go_enter Try.func29, Try.ntmps29
    go_wp2_with fail
    refine HS.out.mono ?_
    rintro e w2 ⟨rfl, nn, os, rfl⟩
    go_wp2_with fail
    refine (HC.out nn os).mono ?_
    rintro e w3 ⟨rfl, q, rfl⟩
    go_wp2
    go_ret
    exact HE.out nn os q
end Go.Proofs.Ytebdolfcemplnaa.TxOnceP
