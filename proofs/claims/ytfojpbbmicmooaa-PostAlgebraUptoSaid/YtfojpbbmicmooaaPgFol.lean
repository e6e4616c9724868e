/- post.follows, of a block of 1 to 32 numbers behind whole blocks: whether its first number is greater than the last one ahead of it. Conditions: those of the statement. -/
import Derived.Test.YtfojpbbmicmooaaPsAwake
import Derived.Test.YtfojpbbmicmooaaSoKit
namespace Go.Proofs.Ytfojpbbmicmooaa.PgFol
open Go Go.RowKit Words SoKit

def folq (b l : List UInt64) : Bool := decide (l.length = 0) || decide ((l.getD (l.length - 1) 0).toNat < (b.getD 0 0).toNat)
set_option maxHeartbeats 4000000 in
theorem fol_any (b l : List UInt64) (A1 A2 : Option Addr) (n1 n2 c1 c2 : Nat) (w : World) (hn1 : n1 = b.length) (hn2 : n2 = l.length) (h1 : Rd w w.heap.size A1 (b.map B64)) (h2 : Rd w w.heap.size A2 (l.map B64)) (hb0 : 0 < n1) (hb : n1 ≤ 32) (hl : n2 % 32 = 0) (hl2 : n2 ≤ 1099511627776) :
    Calls Try.prog 16 #[.slice A1 n1 c1, .slice A2 n2 c2] w fun e w' => e = .returned (.bool (folq b l)) ∧ ∃ q, w' = w.drewN q := by
  obtain ⟨a1, o1, rfl, _, k1⟩ := h1 (by rw [List.length_map]; omega)
  have f1 : w.cell? ⟨a1, o1, none⟩ = some (.int .u64 ((b.getD 0 0).toNat : Int)) := by
    have := k1 0 _ (by rw [List.getElem?_map, List.getElem?_eq_getElem (show 0 < b.length by omega), Option.map_some])
    rw [Nat.add_zero] at this
    rw [this]
    simp [List.getD, show 0 < b.length by omega, B64]
  have hq : folq b l = (decide (n2 = 0) || decide ((l.getD (n2 - 1) 0).toNat < (b.getD 0 0).toNat)) := by unfold folq; rw [hn2]
  rw [hq]
  generalize (b.getD 0 0).toNat = x at *
  clear h1 k1 hn1 hq
  have d1 : ((n1 : Int) == 0) = false := by simp; omega
  have d2 : decide ((32 : Int) < (n1 : Int)) = false := decide_eq_false (by omega)
  have d3 : decide (32 < n1) = false := decide_eq_false (by omega)
  rcases Nat.eq_zero_or_pos n2 with h0 | h0
  · clear hn2 h2
    subst h0
    go_enter Try.func16, Try.ntmps16
    go_wp2
    go_quiet (fail)
    go_wp2
    go_ret
    exact ⟨rfl, nq, rfl⟩
  · obtain ⟨a2, o2, rfl, _, k2⟩ := h2 (by rw [List.length_map]; omega)
    have f2 : w.cell? ⟨a2, o2 + (n2 - 1), none⟩ = some (.int .u64 ((l.getD (n2 - 1) 0).toNat : Int)) := by
      have := k2 (n2 - 1) _ (by rw [List.getElem?_map, List.getElem?_eq_getElem (show n2 - 1 < l.length by omega), Option.map_some])
      rw [this]
      simp [List.getD, show n2 - 1 < l.length by omega, B64]
    generalize (l.getD (n2 - 1) 0).toNat = y at *
    have e1 : (n2 : Int) % 32 = 0 := by omega
    have e2 : ((n2 : Int) == 0) = false := by simp; omega
    have e3 : decide (n2 = 0) = false := decide_eq_false (by omega)
    rw [e3, Bool.false_or]
    clear h2 k2 hn2 e3
    go_enter Try.func16, Try.ntmps16
    go_wp2
    go_quiet (fail)
    go_wp2
    go_ret
    exact ⟨rfl, nq, rfl⟩
end Go.Proofs.Ytfojpbbmicmooaa.PgFol
