/- What the program's Make does with its texts ahead of the filter: slices.Clone, slices.Sort, slices.Compact at texts, each answering a row of the call's own. Condition: at most 2^43 texts. -/
import Derived.Test.YteaafkadjglnhaaBlMakeW
import Derived.Test.YteaafkadjglnhaaTxOnceP
namespace Go.Proofs.Yteaafkadjglnhaa.BlOnce
open Go Go.RowKit Go.Sort Words Less UtOwn TxOnce BlLaw BlMakeW TxOnceP

theorem clone_any (w : World) (l : List (List UInt8)) (A : Option Addr) (c : Nat) (h1 : Rd w w.heap.size A (l.map S8)) (hl : l.length ≤ 8796093022208) :
    Calls Try.prog 14 #[.slice A l.length c] w (CPost l w.heap.size w) := by
  by_cases h0 : 0 < l.length
  · obtain ⟨b, off, rfl, hb, hc⟩ := h1 (by simpa using h0)
    have h := Try.slices_Clone_string b off l.length c (l.map fun s => (⟨s.toArray⟩ : ByteArray)) w (by simp) (by omega) (fun j hj => by
      have hj' : j < l.length := by simpa using hj
      rw [hc j (S8 l[j]) (by simp [hj'])]
      simp [S8, hj'])
    refine h.mono fun e w' ⟨v, he, ho, _, hbel⟩ => ⟨v, he, ?_, fun B w0 hB hb0 => hb0.trans (hbel.mono hB)⟩
    have e1 : ((l.map fun s => (⟨s.toArray⟩ : ByteArray)).take l.length).map Value.string = l.map S8 := by
      rw [List.take_of_length_le (by simp), List.map_map]
      rfl
    rw [e1] at ho
    exact ho
  · obtain rfl : l = [] := List.length_eq_zero_iff.1 (by omega)
    cases A with
    | none =>
      refine (Try.slices_Clone_string_nil 0 c w).mono fun e w' ⟨he, hw⟩ => ?_
      subst hw
      exact ⟨_, he, World.ownsRow_nil _ _ 9 1, fun B w0 _ h => h⟩
    | some a =>
      refine (Try.slices_Clone_string_zero a c w).mono fun e w' ⟨v, he, ho, _, hbel⟩ => ⟨v, he, ho, fun B w0 hB hb0 => hb0.trans (hbel.mono hB)⟩

theorem sort_any (ws : List (List UInt8)) (base : Nat) (v : Value) (w : World) (hown : w.ownsRow base 9 1 v ws.length (ws.map S8)) (hl : ws.length ≤ 8796093022208) :
    Calls Try.prog 15 #[v] w (SPost (ws.mergeSort fun x y => decide (x ≤ y)) base v w) := by
  by_cases hv : v = .slice none 0 0
  · subst hv
    have hn : ws = [] := by
      rcases hown.2 with ⟨_, h⟩ | ⟨g, cap, cur, h, _⟩
      · exact List.eq_nil_of_length_eq_zero h
      · cases h
    subst hn
    refine (Try.slices_Sort_string_none none 0 w).mono fun e w' ⟨he, hw⟩ => ?_
    subst hw
    exact ⟨he, by simpa using World.ownsRow_nil w' base 9 1, fun B w0 _ h => h⟩
  · obtain ⟨g, cap, rfl, hbg, hgl, hncap, hcm, _, hH⟩ := Lib.holds_of_ownsRow (enc := encStr) hown hv
    have hl2 : (ws.mergeSort fun x y => decide (x ≤ y)).length = ws.length := List.length_mergeSort ws
    refine (Try.slices_Sort_string g 0 cap ws w hH hgl (by omega)).mono fun e w' ⟨he, n, os, hw⟩ => ?_
    subst hw
    rcases hown.2 with ⟨h0, _⟩ | ⟨g', cap', cur, hv', hbase, hb, h1, h2, h3, h4⟩
    · cases h0
    cases hv'
    have hs := ownsRow_sorted (n := n) (os := os) (ts := ws.mergeSort fun x y => decide (x ≤ y)) (ss := ws) hl2 hbase hb h1 h2 h3
    refine ⟨he, ?_, fun B w0 hB hbel => hbel.grown (grownBy_sorted _) (by omega) (fun j hj => by cases hj; omega)⟩
    rw [hl2]
    exact hs

theorem compact_any (ws : List (List UInt8)) (base : Nat) (v : Value) (w : World) (hown : w.ownsRow base 9 1 v (ws.mergeSort fun x y => decide (x ≤ y)).length ((ws.mergeSort fun x y => decide (x ≤ y)).map S8)) (hl : ws.length ≤ 8796093022208) :
    Calls Try.prog 16 #[v] w (CPost (once ws) base w) := by
  have hl2 : (ws.mergeSort fun x y => decide (x ≤ y)).length = ws.length := List.length_mergeSort ws
  have hco := compact_once ws
  obtain ⟨ss, hss⟩ : ∃ ss, (ws.mergeSort fun x y => decide (x ≤ y)) = ss := ⟨_, rfl⟩
  rw [hss] at hown hl2 hco
  by_cases hv : v = .slice none 0 0
  · subst hv
    have hn : ss = [] := by
      rcases hown.2 with ⟨_, h⟩ | ⟨g, cap, cur, h, _⟩
      · exact List.eq_nil_of_length_eq_zero h
      · cases h
    subst hn
    have ho : once ws = [] := by rw [← hco]; rfl
    refine (Try.slices_Compact_string_empty none 0 w).mono fun e w' ⟨he, hw⟩ => ?_
    subst hw
    rw [ho]
    exact ⟨_, he, World.ownsRow_nil _ _ 9 1, fun B w0 _ h => h⟩
  · obtain ⟨g, cap, rfl, hbg, hgl, hncap, hcm, _, hH⟩ := Lib.holds_of_ownsRow (enc := encStr) hown hv
    have hle := Lib.compact_length_le ss
    refine (Try.slices_Compact_string g 0 cap ss w hH (by omega) (by omega)).mono fun e w' ⟨he, q, hw⟩ => ?_
    rw [hco] at he hw hle
    subst hw
    have hc := Lib.ownsRow_putRow (q := q) (k := (once ws).length) (ys := once ws ++ List.replicate (ss.length - (once ws).length) []) hown (by simp; omega) (by omega)
    rw [List.take_left] at hc
    exact ⟨_, he, hc, fun B w0 hB hbel => Lib.below_putRow hbel (by omega)⟩
end Go.Proofs.Yteaafkadjglnhaa.BlOnce
