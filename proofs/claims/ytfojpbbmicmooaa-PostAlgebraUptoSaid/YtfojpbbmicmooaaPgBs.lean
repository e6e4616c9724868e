/- slices.BinarySearch at uint64: the first place of what is not less, and whether it is the number. Condition: the list doesn't fall. -/
import Derived.Test.YtfojpbbmicmooaaSoKit
import Derived.Test.YtfojpbbmicmooaaWords
namespace Go.Proofs.Ytfojpbbmicmooaa.PgBs
open Go Go.RowKit Go.Sort SoKit Words

/-- Where x lies, or would lie. -/
structure Bs (l : List UInt64) (x k : Nat) : Prop where
  le : k ≤ l.length
  low : ∀ (j : Nat) (h : j < l.length), j < k → l[j].toNat < x
  high : ∀ (j : Nat) (h : j < l.length), k ≤ j → x ≤ l[j].toNat

theorem nan2 (x : Int) (w : World) : Calls Try.prog 33 #[.int .u64 x] w fun e w' => e = .returned (.bool false) ∧ w' = w := by
  go_enter Try.func33, Try.ntmps33
  go_wp2
  go_ret
  exact ⟨by simp, rfl⟩
theorem Bs.mem {l : List UInt64} {x k : Nat} (h : Bs l x k) (hs : l.Pairwise fun a b => a.toNat ≤ b.toNat) (hx : x < 18446744073709551616) : UInt64.ofNat x ∈ l ↔ ∃ hk : k < l.length, l[k].toNat = x := by
  have hu : (UInt64.ofNat x).toNat = x := by simp; omega
  constructor
  · intro hm
    obtain ⟨j, hj, e⟩ := List.mem_iff_getElem.1 hm
    have hjk : k ≤ j := by
      rcases Nat.lt_or_ge j k with g | g
      · have := h.low j hj g
        rw [e, hu] at this; omega
      · exact g
    exact ⟨by omega, by
      have h1 := h.high k (by omega) (Nat.le_refl _)
      rcases Nat.eq_or_lt_of_le hjk with g | g
      · subst g; rw [e, hu]
      · have h2 := (List.pairwise_iff_getElem.1 hs) k j (by omega) hj g
        rw [e, hu] at h2
        omega⟩
  · rintro ⟨hk, e⟩
    have : l[k] = UInt64.ofNat x := UInt64.toNat_inj.1 (by rw [e, hu])
    rw [← this]; exact List.getElem_mem hk
/-- What BinarySearch answers. -/
def BPost (l : List UInt64) (x : Nat) (w : World) (e : Ending) (w' : World) : Prop := ∃ k q : Nat, e = .returned (.tuple #[.int .i64 (k : Int), .bool (decide (UInt64.ofNat x ∈ l))]) ∧ Bs l x k ∧ w' = w.drewN q
set_option maxHeartbeats 4000000 in
theorem bs_any (l : List UInt64) (A : Option Addr) (c x : Nat) (w : World) (hr : Rd w w.heap.size A (l.map B64)) (hs : l.Pairwise fun a b => a.toNat ≤ b.toNat) (hlc : l.length ≤ c) (hc : c ≤ maxLen) (hx : x < 18446744073709551616) (hl : l.length ≤ 1099511627776) :
    Calls Try.prog 20 #[.slice A l.length c, .int .u64 (x : Int)] w (BPost l x w) := by
  obtain ⟨n, hn⟩ : ∃ n, n = l.length := ⟨_, rfl⟩
  have hnl : n ≤ 1099511627776 := by omega
  rw [← hn]
  obtain ⟨G, hG⟩ : ∃ G : Nat → Nat, ∀ (t : Nat) (h : t < l.length), G t = l[t].toNat := ⟨fun t => (l.getD t 0).toNat, fun t h => by simp [List.getD, h]⟩
  obtain ⟨b, off, hA, hcell⟩ : ∃ b off, (0 < n → A = some ⟨b, off, none⟩) ∧ ∀ t, t < n → w.cell? ⟨b, off + t, none⟩ = some (.int .u64 (G t : Int)) := by
    rcases Nat.eq_zero_or_pos n with h0 | h0
    · exact ⟨0, 0, fun h => by omega, fun t h => by omega⟩
    · obtain ⟨b, off, e, _, hc⟩ := hr (by rw [List.length_map]; omega)
      refine ⟨b, off, fun _ => e, fun t h => hc t _ ?_⟩
      rw [List.getElem?_map, List.getElem?_eq_getElem (by omega), Option.map_some, hG t (by omega)]
      rfl
  have HG : Hid (∀ (t : Nat) (h : t < l.length), G t = l[t].toNat) := hG
  have HN : Hid (n = l.length) := hn
  have HS : Hid _ := hs
  have HA : Hid _ := hA
  clear hn hG hs hA hr hlc hc hl
  go_enter Try.func20, Try.ntmps20
  go_wp2
  go_loopw [7, 8] (fun vi vj wr => ∃ i j q : Nat, vi = .int .i64 (i : Int) ∧ vj = .int .i64 (j : Int) ∧ i ≤ j ∧ j ≤ n ∧ Hid (wr = w.drewN q) ∧ Hid ((∀ t, t < i → G t < x) ∧ ∀ t, j ≤ t → t < n → x ≤ G t)) (fun vi vj _ => natOf vj - natOf vi)
  case atStart => exact ⟨0, n, 0, rfl, rfl, Nat.zero_le _, Nat.le_refl _, rfl, fun t h => by omega, fun t h1 h2 => by omega⟩
  case round =>
    obtain ⟨i, j, q, rfl, rfl, hij, hjn, HW, HI⟩ := hrel
    have hc2 : ∀ t, t < n → wr.cell? ⟨b, off + t, none⟩ = some (.int .u64 (G t : Int)) := by rw [HW.out]; exact hcell
    clear hcell
    by_cases hlt : i < j
    · obtain rfl := HA.out (by omega)
      obtain ⟨h, hh⟩ : ∃ h, h = (i + j) / 2 := ⟨_, rfl⟩
      have eh : ((i : Int) + (j : Int)) / 2 = (h : Int) := by omega
      have h1 : i ≤ h := by omega
      have h2 : h < j := by omega
      clear hh
      have hc3 := hc2 h (by omega)
      clear hc2
      have hmono : ∀ t u, t ≤ u → u < n → G t ≤ G u := fun t u h3 h4 => by
        rcases Nat.eq_or_lt_of_le h3 with g | g
        · subst g; exact Nat.le_refl _
        · have := (List.pairwise_iff_getElem.1 HS.out) t u (by have := HN.out; omega) (by have := HN.out; omega) g
          rwa [HG.out t (by have := HN.out; omega), HG.out u (by have := HN.out; omega)]
      have HM : Hid _ := hmono
      clear hmono
      go_wp2_with fail
      refine (less _ _ _).mono ?_
      rintro e w' ⟨rfl, rfl⟩
      go_wp2
      · have hl : G h < x := by
          have : ltInt (G h : Int) (x : Int) = true := by assumption
          unfold ltInt at this
          have := of_decide_eq_true this
          omega
        go_roundw
        case rel => exact ⟨h + 1, j, q, by go_num, rfl, by omega, hjn, HW, fun t h3 => by have := HM.out t h (by omega) (by omega); omega, HI.out.2⟩
        case measure => simp [natOf]; omega
      · have hl : x ≤ G h := by
          have : ltInt (G h : Int) (x : Int) = false := by assumption
          unfold ltInt at this
          have := of_decide_eq_false this
          omega
        go_roundw
        case rel => exact ⟨i, h, q, rfl, rfl, by omega, by omega, HW, HI.out.1, fun t h3 h4 => by have := HM.out h t h3 h4; omega⟩
        case measure => simp [natOf]; omega
    · have e : i = j := by omega
      subst e
      have HB : Hid (Bs l x i) := ⟨by have := HN.out; omega, fun t h1 h2 => by rw [← HG.out t h1]; exact HI.out.1 t h2, fun t h1 h2 => by rw [← HG.out t h1]; exact HI.out.2 t h2 (by have := HN.out; omega)⟩
      have HM : Hid (UInt64.ofNat x ∈ l ↔ i < n ∧ G i = x) := by
        rw [HB.out.mem HS.out hx]
        constructor
        · rintro ⟨hk, e⟩; exact ⟨by have := HN.out; omega, by rw [HG.out i hk]; exact e⟩
        · rintro ⟨hk, e⟩; exact ⟨by have := HN.out; omega, by rw [← HG.out i (by have := HN.out; omega)]; exact e⟩
      by_cases hin : i < n
      · obtain rfl := HA.out (by omega)
        have hc3 := hc2 i hin
        clear hc2
        by_cases heq : G i = x
        · have hz : ((G i : Int) == (x : Int)) = true := by simp [heq]
          have HF : Hid (decide (UInt64.ofNat x ∈ l) = true) := decide_eq_true (HM.out.2 ⟨hin, heq⟩)
          clear heq
          go_wp2_with (go_at_call 33; refine (nan2 _ _).mono ?_; rintro e w' ⟨rfl, rfl⟩)
          go_ret2
          exact ⟨i, q, by rw [HF.out]; rfl, HB.out, HW.out⟩
        · have hz : ((G i : Int) == (x : Int)) = false := by simp; omega
          have HF : Hid (decide (UInt64.ofNat x ∈ l) = false) := decide_eq_false fun h => heq (HM.out.1 h).2
          clear heq
          go_wp2_with (go_at_call 33; refine (nan2 _ _).mono ?_; rintro e w' ⟨rfl, rfl⟩)
          go_ret2
          exact ⟨i, q, by rw [HF.out]; rfl, HB.out, HW.out⟩
      · have hz1 : decide ((i : Int) < (n : Int)) = false := decide_eq_false (by omega)
        have hz2 : decide (i < n) = false := decide_eq_false hin
        have HF : Hid (decide (UInt64.ofNat x ∈ l) = false) := decide_eq_false fun h => hin (HM.out.1 h).1
        go_wp2_with (go_at_call 33; refine (nan2 _ _).mono ?_; rintro e w' ⟨rfl, rfl⟩)
        go_ret2
        exact ⟨i, q, by rw [HF.out]; rfl, HB.out, HW.out⟩
end Go.Proofs.Ytfojpbbmicmooaa.PgBs
