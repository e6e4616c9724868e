/- The contract of the document's own Name: whether a text is a file's name, as 'DkSpec.nameOk' says; the world stands. Condition: the text's length is at most the model's greatest. -/
import Derived.Test.YtfblekedgenacaaRows
import Derived.Test.YtfblekedgenacaaWords
import Derived.Test.YtfblekedgenacaaDkSpec
import Derived.WalkKit
import Derived.LoopTactic
import Derived.Lib.Hide
import Derived.Outline
namespace Go.Proofs.Ytfblekedgenacaa.RefName
open Go Go.RowKit Words DkSpec

def bl (n : Nat) : Bool := decide (1 ≤ n) && decide (n ≤ 32)
theorem nameByte_is (c : UInt8) : nameByte c = ((c.toNat == 46 || c.toNat == 45) || (decide (48 ≤ c.toNat) && decide (c.toNat ≤ 57)) || (decide (97 ≤ c.toNat) && decide (c.toNat ≤ 122))) := by
  simp [nameByte]
def Rel (S : ByteArray) (ok i : Value) : Prop := ∃ (k : Nat) (b : Bool), k ≤ S.size ∧ i = .int .i64 (k : Int) ∧ ok = .bool b ∧ Hid (b = (bl S.size && (S.data.toList.take k).all nameByte))

theorem all_step {S : ByteArray} {k : Nat} (h : k < S.size) {b b' : Bool} (hb : b = (bl S.size && (S.data.toList.take k).all nameByte)) (ht : b = true) (hx : b' = nameByte S[k]) : b' = (bl S.size && (S.data.toList.take (k + 1)).all nameByte) := by
  have hsz : S.data.toList.length = S.size := by simp
  have e : S.data.toList.take (k + 1) = S.data.toList.take k ++ [S[k]] := by
    rw [List.take_succ_eq_append_getElem (by omega)]
    rfl
  rw [e, List.all_append]
  have h2 := hb.symm.trans ht
  rw [Bool.and_eq_true] at h2
  rw [h2.1, h2.2, hx]
  simp

theorem fin_all {S : ByteArray} {k : Nat} {b : Bool} (hb : b = (bl S.size && (S.data.toList.take k).all nameByte)) (h : k = S.size ∨ b = false) : b = nameOk S.data.toList := by
  have hsz : S.data.toList.length = S.size := by simp
  unfold nameOk
  rw [hsz]
  show b = (bl S.size && S.data.toList.all nameByte)
  rcases h with h | h
  · rw [hb, h, ← hsz, List.take_length]
  · subst h
    cases h1 : bl S.size with
    | false => rfl
    | true =>
      rw [h1, Bool.true_and] at hb
      rw [Bool.true_and]
      cases h2 : S.data.toList.all nameByte with
      | false => rfl
      | true =>
        exfalso
        have h3 : (S.data.toList.take k).all nameByte = true := List.all_eq_true.2 fun x hx => List.all_eq_true.1 h2 x (List.mem_of_mem_take hx)
        rw [h3] at hb
        cases hb

set_option maxHeartbeats 800000 in
set_option maxRecDepth 100000 in
theorem name_any (S : ByteArray) (w : World) (hS : S.size ≤ maxLen) :
    Calls Try.prog 44 #[.string S] w fun e w' => e = .returned (.bool (nameOk S.data.toList)) ∧ w = w' := by
  unfold maxLen at hS
  obtain ⟨b0, hb0⟩ : ∃ b, bl S.size = b := ⟨_, rfl⟩
  have HB0 := Lib.hid hb0
  unfold bl at hb0
  have hsi : (S.size : Int) = ((S.size : Nat) : Int) := rfl
  cases b0 with
  | false =>
    have h1 : S.size = 0 ∨ 32 < S.size := by
      have : ¬ (1 ≤ S.size ∧ S.size ≤ 32) := fun h => by simp [h.1, h.2] at hb0
      omega
    clear hb0 hsi
    have HF : Hid (false = nameOk S.data.toList) := Lib.hid (fin_all (k := 0) (by rw [HB0.out]; rfl) (.inr rfl))
    rcases Nat.eq_zero_or_pos S.size with hz | hz
    · have d1 : decide (1 ≤ (S.size : Int)) = false := decide_eq_false (by omega)
      have d3 : decide (0 < (S.size : Int)) = false := decide_eq_false (by omega)
      have d4 : decide (0 < S.size) = false := decide_eq_false (by omega)
      clear h1 hz
      go_enter Try.func44, Try.ntmps44
      go_wp2
      refine wp_loop_rounds 1 ?_
      rw [rounds_succ]
      go_wp2
      go_ret
      exact ⟨by rw [← HF.out]; rfl, rfl⟩
    · have d1 : decide (1 ≤ (S.size : Int)) = true := by simp; omega
      have d2 : decide ((S.size : Int) ≤ 32) = false := by simp; omega
      have d3 : decide (0 < (S.size : Int)) = true := by simp; omega
      have d4 : decide (0 < S.size) = true := by simp; omega
      clear h1
      go_enter Try.func44, Try.ntmps44
      go_wp2
      refine wp_loop_rounds 1 ?_
      rw [rounds_succ]
      go_wp2
      go_ret
      exact ⟨by rw [← HF.out]; rfl, rfl⟩
  | true =>
    have h1 : 1 ≤ S.size ∧ S.size ≤ 32 := by simpa using hb0
    obtain ⟨h1a, h1b⟩ := h1
    have d1 : decide (1 ≤ (S.size : Int)) = true := by simp; omega
    have d2 : decide ((S.size : Int) ≤ 32) = true := by simp; omega
    clear hb0 hsi
    go_enter Try.func44, Try.ntmps44
    go_wp2
    go_loop [3, 4] (fun ok i => Rel S ok i) (fun _ i => S.size - (intOf i).toNat)
    case atStart => exact ⟨0, true, by omega, rfl, rfl, Lib.hid (by rw [HB0.out]; rfl)⟩
    case round =>
      obtain ⟨k, b, hk, rfl, rfl, hb⟩ := hrel
      by_cases hlt : k < S.size
      · cases b with
        | true =>
          have HST := fun b' hx => Lib.hid (all_step (b' := b') hlt hb.out rfl hx)
          have hx := S[k].toNat_lt
          clear hb
          go_wp2
          all_goals
            go_round
            case rel => exact ⟨k + 1, _, by omega, by go_num, rfl, HST _ (by rw [nameByte_is, Bool.eq_iff_iff]; simp; omega)⟩
            case measure => simp [intOf]; omega
        | false =>
          have HF := Lib.hid (fin_all hb.out (.inr rfl))
          clear hb
          go_wp2
          go_ret
          exact ⟨by rw [← HF.out]; rfl, rfl⟩
      · have HF := Lib.hid (fin_all hb.out (.inl (by omega)))
        clear hb
        go_wp2
        go_ret
        exact ⟨by rw [← HF.out]; rfl, rfl⟩
end Go.Proofs.Ytfblekedgenacaa.RefName
