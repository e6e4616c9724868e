/- The contracts of isNameByte and isName: whether a text is a file's name, as 'DkSpec.nameOk' says; the world stands. Condition: the text's length is at most the model's greatest. -/
import Derived.Test.YtfblekedgenacaaRefName
namespace Go.Proofs.Ytfblekedgenacaa.PdName
open Go Go.RowKit Words DkSpec RefName

set_option maxHeartbeats 800000 in
theorem byte_any (c : UInt8) (w : World) : Calls Try.prog 52 #[.int .u8 (c.toNat : Int)] w fun e w' => e = .returned (.bool (nameByte c)) ∧ w = w' := by
  have hx := c.toNat_lt
  have HB := Lib.hid (nameByte_is c)
  generalize nameByte c = r at *
  generalize c.toNat = n at *
  go_enter Try.func52, Try.ntmps52
  go_wp2
  all_goals
    go_ret
    refine ⟨congrArg (fun b => Ending.returned (Value.bool b)) ?_, rfl⟩
    rw [HB.out, Bool.eq_iff_iff]
    simp
    omega

def Rel (S : ByteArray) (i : Value) : Prop := ∃ k : Nat, k ≤ S.size ∧ i = .int .i64 (k : Int) ∧ Hid ((S.data.toList.take k).all nameByte = true)

theorem all_no {S : ByteArray} {k : Nat} (h : k < S.size) (hx : nameByte S[k] = false) : nameOk S.data.toList = false := by
  have hsz : S.data.toList.length = S.size := by simp
  unfold nameOk
  have : S.data.toList.all nameByte = false := by
    rw [List.all_eq_false]
    exact ⟨S[k], Array.mem_toList_iff.2 (Array.getElem_mem _), by simp [hx]⟩
  rw [this, Bool.and_false]
theorem all_more {S : ByteArray} {k : Nat} (h : k < S.size) (hb : (S.data.toList.take k).all nameByte = true) (hx : nameByte S[k] = true) : (S.data.toList.take (k + 1)).all nameByte = true := by
  have hsz : S.data.toList.length = S.size := by simp
  have e : S.data.toList.take (k + 1) = S.data.toList.take k ++ [S[k]] := by
    rw [List.take_succ_eq_append_getElem (by omega)]
    rfl
  rw [e, List.all_append, hb]
  simp [hx]

set_option maxHeartbeats 800000 in
set_option maxRecDepth 100000 in
theorem name_any (S : ByteArray) (w : World) (hS : S.size ≤ maxLen) :
    Calls Try.prog 48 #[.string S] w fun e w' => e = .returned (.bool (nameOk S.data.toList)) ∧ w = w' := by
  unfold maxLen at hS
  have hsz : S.data.toList.length = S.size := by simp
  by_cases h0 : S.size = 0
  · have HF : Hid (nameOk S.data.toList = false) := Lib.hid (by unfold nameOk; rw [hsz, h0]; rfl)
    have d1 : ((S.size : Int) == 0) = true := by simp [h0]
    clear hsz h0
    go_enter Try.func48, Try.ntmps48
    go_wp2
    go_ret
    exact ⟨by rw [HF.out]; rfl, rfl⟩
  · have d1 : ((S.size : Int) == 0) = false := beq_eq_false_iff_ne.2 (by omega)
    by_cases h1 : 32 < S.size
    · have HF : Hid (nameOk S.data.toList = false) := Lib.hid (by unfold nameOk; rw [hsz, show decide (S.size ≤ 32) = false from decide_eq_false (by omega)]; simp)
      have d2 : decide (32 < (S.size : Int)) = true := by simp; omega
      clear hsz h0 h1
      go_enter Try.func48, Try.ntmps48
      go_wp2
      go_ret
      exact ⟨by rw [HF.out]; rfl, rfl⟩
    · have d2 : decide (32 < (S.size : Int)) = false := by simp; omega
      have HE : Hid ((S.data.toList.take S.size).all nameByte = true → nameOk S.data.toList = true) := Lib.hid (fun h => by
        rw [← hsz, List.take_length] at h
        unfold nameOk
        rw [hsz, h, show decide (1 ≤ S.size) = true from decide_eq_true (by omega), show decide (S.size ≤ 32) = true from decide_eq_true (by omega)]
        rfl)
      clear hsz h0 h1
      go_enter Try.func48, Try.ntmps48
      go_wp2
      go_loop [14] (fun i => Rel S i) (fun i => S.size - (intOf i).toNat)
      case atStart => exact ⟨0, by omega, rfl, Lib.hid rfl⟩
      case round =>
        obtain ⟨k, hk, rfl, hb⟩ := hrel
        by_cases hlt : k < S.size
        · have HC := fun w => Lib.hid (byte_any S[k] w)
          have HN := Lib.hid (all_no hlt)
          have HM := Lib.hid (all_more hlt hb.out)
          clear hb
          generalize nameByte S[k] = b at *
          cases b with
          | true =>
            go_wp2_with fail
            refine (HC _).out.mono ?_
            rintro e w1 ⟨rfl, rfl⟩
            go_wp2
            go_round
            case rel => exact ⟨k + 1, by omega, by go_num, Lib.hid (HM.out trivial)⟩
            case measure => simp [intOf]; omega
          | false =>
            go_wp2_with fail
            refine (HC _).out.mono ?_
            rintro e w1 ⟨rfl, rfl⟩
            go_wp2
            go_ret
            exact ⟨by rw [HN.out trivial]; rfl, rfl⟩
        · have hkn : k = S.size := by omega
          subst hkn
          have HF := Lib.hid (HE.out hb.out)
          clear hb
          go_wp2
          go_ret
          exact ⟨by rw [HF.out]; rfl, rfl⟩
theorem name_list (l : List UInt8) (w : World) (hl : l.length ≤ maxLen) : Calls Try.prog 48 #[.string ⟨l.toArray⟩] w fun e w' => e = .returned (.bool (nameOk l)) ∧ w = w' := by
  have h := name_any ⟨l.toArray⟩ w (by show l.toArray.size ≤ _; simpa using hl)
  simpa using h
end Go.Proofs.Ytfblekedgenacaa.PdName
