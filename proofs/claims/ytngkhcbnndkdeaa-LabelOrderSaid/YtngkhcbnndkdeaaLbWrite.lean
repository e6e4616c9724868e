/- The contract of the document's Write of labels. Condition: the text has at most 2^40 bytes. -/
import Derived.Test.YtngkhcbnndkdeaaLbRef
import Derived.Test.YtngkhcbnndkdeaaUtOwn
import Derived.WalkLawsBesides
import Derived.Laws.DeepStrings4
namespace Go.Proofs.Ytngkhcbnndkdeaa.LbWrite
open Go Go.RowKit Words AppN Less LbSpec LbText LbMem LbRef UtOwn

theorem body_snoc : ∀ (l : List Lab) (x : Lab), body (l ++ [x]) = body l ++ ((if l = [] then [] else [44]) ++ one x)
  | [], x => by simp [body]
  | [y], x => by simp [body]
  | y :: z :: l, x => by
    have ih := body_snoc (z :: l) x
    rw [show y :: z :: l ++ [x] = y :: (z :: l ++ [x]) from rfl, body, if_neg (by simp), ih]
    conv => rhs; rw [body, if_neg (by simp)]
    simp
theorem body_next {l : List Lab} {k : Nat} (h : k < l.length) : body (l.take (k + 1)) = body (l.take k) ++ ((if k = 0 then [] else [44]) ++ one l[k]) := by
  rw [List.take_succ_eq_append_getElem h, body_snoc]
  have : (l.take k = []) ↔ k = 0 := by
    rw [List.take_eq_nil_iff]
    constructor
    · rintro (h1 | h1)
      · exact h1
      · subst h1; simp at h
    · intro h1; exact .inl h1
  simp only [this]
theorem body_mono {l : List Lab} {k : Nat} (h : k ≤ l.length) : (body (l.take k)).length ≤ (body l).length := by
  have key : ∀ j, k + j ≤ l.length → (body (l.take k)).length ≤ (body (l.take (k + j))).length := by
    intro j
    induction j with
    | zero => intro _; exact Nat.le_refl _
    | succ j ih =>
      intro hj
      rw [← Nat.add_assoc, body_next (by omega), List.length_append]
      have := ih (by omega)
      omega
  have h1 := key (l.length - k) (by omega)
  rwa [show k + (l.length - k) = l.length by omega, List.take_length] at h1
theorem esc_append (a b : List UInt8) : esc (a ++ b) = esc a ++ esc b := by unfold esc; exact List.flatMap_append
theorem esc_next {v : List UInt8} {j : Nat} (h : j < v.length) : esc (v.take (j + 1)) = esc (v.take j) ++ esc1 v[j] := by
  rw [List.take_succ_eq_append_getElem h, esc_append, esc_cons, show esc [] = [] from rfl, List.append_nil]
theorem esc_len (v : List UInt8) (j : Nat) : (esc (v.take j)).length ≤ (esc v).length := by
  conv => rhs; rw [← List.take_append_drop j v, esc_append, List.length_append]
  omega
theorem esc_ge : ∀ v : List UInt8, v.length ≤ (esc v).length
  | [] => Nat.zero_le _
  | c :: v => by
    rw [esc_cons, List.length_append, List.length_cons]
    have h1 := esc_ge v
    have h2 : 1 ≤ (esc1 c).length := by
      unfold esc1
      split
      · simp
      · split <;> simp
    omega
theorem str_add (a b : List UInt8) : (⟨a.toArray⟩ : ByteArray) ++ ⟨b.toArray⟩ = ⟨(a ++ b).toArray⟩ := by
  apply ByteArray.ext
  simp
theorem ext_one {v : List UInt8} {j : Nat} (h : j < v.length) : (⟨v.toArray⟩ : ByteArray).extract j (j + 1) = ⟨#[v[j]]⟩ := by
  apply ByteArray.ext
  rw [ByteArray.data_extract]
  apply Array.ext'
  simp only [Array.toList_extract, List.extract_eq_take_drop]
  rw [Nat.add_sub_cancel_left, List.drop_eq_getElem_cons h]
  rfl
theorem run_one (v : List UInt8) (j : Nat) (h : j < v.length) (w : World) (x : Int) (hx : x = (j : Int) + 1) : (Instr.slice 9 (.string ⟨v.toArray⟩) (some (.int .i64 (j : Int))) (some (.int .i64 x)) none).run Try.prog w = .ok (.string ⟨#[v[j]]⟩) w := by
  subst hx
  rw [← ext_one h]
  have hs : (⟨v.toArray⟩ : ByteArray).size = v.length := size_len v
  rw [show (j : Int) + 1 = ((j + 1 : Nat) : Int) by omega, run_slice_string_if w 9 _ .i64 .i64 (j : Int) ((j + 1 : Nat) : Int) Try.underlying9]
  rw [if_pos (by omega), if_pos (by omega)]
  simp

def ORel (l : List Lab) (vs vi : Value) : Prop := ∃ k : Nat, k ≤ l.length ∧ vi = .int .i64 (k : Int) ∧ vs = .string ⟨(123 :: body (l.take k)).toArray⟩
def IRel (P v : List UInt8) (vs vk : Value) : Prop := ∃ j : Nat, j ≤ v.length ∧ vk = .int .i64 (j : Int) ∧ vs = .string ⟨(P ++ esc (v.take j)).toArray⟩

set_option maxHeartbeats 6400000 in
set_option maxRecDepth 100000 in
theorem rwrite_any (w : World) (l : List Lab) (A : Option Addr) (c m : Nat) (h : Lb w A m c l) (hw : (write l).length ≤ 1099511627776) :
    Calls Try.prog 16 #[.slice A m c] w fun e w' => e = .returned (S8 (write l)) ∧ w = w' := by
  obtain ⟨rfl, hc, hm, hr⟩ := h
  unfold maxLen at hm
  have HR := Lib.hid hr
  clear hr
  rw [write_len] at hw
  have HW := Lib.hid hw
  clear hw
  unfold S8 write
  go_enter Try.func16, Try.ntmps16
  go_wp2
  go_loop [3, 4] (fun vs vi => ORel l vs vi) (fun _ vi => l.length - (intOf vi).toNat)
  case atStart => exact ⟨0, Nat.zero_le _, rfl, rfl⟩
  case round =>
    obtain ⟨k, hk, rfl, rfl⟩ := hrel
    by_cases hlt : k < l.length
    · obtain ⟨b, off, rfl, _, hcell⟩ := HR.out (by rw [flat_len]; omega)
      obtain ⟨k0, k1⟩ := cellsL hcell hlt
      have hbn := body_next hlt
      have hbm := body_mono (l := l) (k := k + 1) (by omega)
      have hpl := congrArg List.length hbn
      have hw1 := HW.out
      unfold one at hbn hpl
      clear hcell
      generalize l[k] = x at *
      obtain ⟨x1, x2⟩ := x
      obtain ⟨Q, hQ⟩ : ∃ Q, 123 :: body (l.take k) = Q := ⟨_, rfl⟩
      obtain ⟨Q2, hQ2⟩ : ∃ Q2, Q ++ (if k = 0 then [] else [44]) = Q2 := ⟨_, rfl⟩
      obtain ⟨P, hP⟩ : ∃ P, Q2 ++ (x1 ++ [61, 34]) = P := ⟨_, rfl⟩
      have HN : Hid (123 :: body (l.take (k + 1)) = P ++ (esc x2 ++ [34])) := Lib.hid (by
        rw [hbn, ← hP, ← hQ2, ← hQ]
        simp)
      have HPL : P.length + (esc x2).length ≤ 1099511627776 := by
        have h1 := congrArg List.length HN.out
        simp only [List.length_append, List.length_cons, List.length_nil] at h1
        omega
      have hPl := congrArg List.length hP
      have hQ2l := congrArg List.length hQ2
      simp only [List.length_append, List.length_cons, List.length_nil] at hPl
      rw [List.length_append] at hQ2l
      have hb1 : Q.length + x1.length + 2 ≤ 1099511627776 := by omega
      have hb2 : Q.length ≤ 1099511627776 := by omega
      have hb3 : x1.length ≤ 1099511627776 := by omega
      clear hPl hQ2l
      have hx2 : x2.length ≤ 1099511627776 := by have := esc_ge x2; omega
      have HQ := Lib.hid hQ
      have HP0 := Lib.hid hP
      clear hbn hbm hpl hw1 hQ hP
      have hQS : (⟨(123 :: body (l.take k)).toArray⟩ : ByteArray) = ⟨Q.toArray⟩ := by rw [HQ.out]
      rw [hQS]
      clear hQS
      have HAD : ∀ a b : List UInt8, (⟨a.toArray⟩ : ByteArray) ++ ⟨b.toArray⟩ = ⟨(a ++ b).toArray⟩ := str_add
      by_cases hk0 : k = 0
      · rw [if_pos hk0, List.append_nil] at hQ2
        subst hQ2
        subst hk0
        simp only [Nat.zero_mul, Nat.add_zero] at k0 k1
        have HP1 : Hid (Q ++ (x1 ++ [61, 34]) = P) := HP0
        go_wp2
        go_loop [3, 5] (fun vs vk => IRel P x2 vs vk) (fun _ vk => x2.length - (intOf vk).toNat)
        case atStart => exact ⟨0, Nat.zero_le _, rfl, by rw [← HP1.out]; simp [esc]⟩
        case round =>
          obtain ⟨j, hj, rfl, rfl⟩ := hrel
          by_cases hjl : j < x2.length
          · have hsl := fun w => run_one x2 j hjl w ((j : Int) + 1) rfl
            have HE := Lib.hid (esc_next hjl)
            have hle := esc_len x2 (j + 1)
            rw [HE.out, List.length_append] at hle
            obtain ⟨E, hE⟩ : ∃ E, esc (x2.take j) = E := ⟨_, rfl⟩
            have HEE := Lib.hid hE
            rw [hE] at hle ⊢
            obtain ⟨F, hF⟩ : ∃ F, P ++ E = F := ⟨_, rfl⟩
            have hFl : F.length + (esc1 x2[j]).length ≤ 1099511627776 := by rw [← hF, List.length_append]; omega
            have HF := Lib.hid hF
            rw [hF]
            have HN2 : Hid (P ++ esc (x2.take (j + 1)) = F ++ esc1 x2[j]) := Lib.hid (by rw [HE.out, HEE.out, ← HF.out, List.append_assoc])
            clear hE hF hle HE
            generalize x2[j] = y at *
            unfold esc1 at hFl HN2
            by_cases h34 : y = 34
            · subst h34
              simp at hFl
              go_wp2
              go_round
              case rel => exact ⟨j + 1, by omega, by go_num, by rw [HN2.out]; rfl⟩
              case measure => simp [intOf]; omega
            · by_cases h92 : y = 92
              · subst h92
                simp at hFl
                go_wp2
                go_round
                case rel => exact ⟨j + 1, by omega, by go_num, by rw [HN2.out]; rfl⟩
                case measure => simp [intOf]; omega
              · rw [if_neg (by simp [h34, h92])] at hFl HN2
                have q1 : (y == 34) = false := beq_eq_false_iff_ne.2 h34
                have q2 : (y == 92) = false := beq_eq_false_iff_ne.2 h92
                by_cases h10 : y = 10
                · subst h10
                  simp at hFl
                  go_wp2
                  go_round
                  case rel => exact ⟨j + 1, by omega, by go_num, by rw [HN2.out]; rfl⟩
                  case measure => simp [intOf]; omega
                · rw [if_neg h10] at hFl HN2
                  have q3 : (y == 10) = false := beq_eq_false_iff_ne.2 h10
                  simp at hFl
                  clear h34 h92 h10
                  go_wp2
                  go_round
                  case rel => exact ⟨j + 1, by omega, by go_num, by rw [HN2.out]⟩
                  case measure => simp [intOf]; omega
          · have hjj : j = x2.length := by omega
            subst hjj
            have HEN : Hid (P ++ esc (x2.take x2.length) ++ [34] = 123 :: body (l.take (0 + 1))) := Lib.hid (by rw [HN.out, List.take_length, List.append_assoc])
            obtain ⟨F, hF⟩ : ∃ F, P ++ esc (x2.take x2.length) = F := ⟨_, rfl⟩
            have hFl : F.length + 1 ≤ 1099511627777 := by rw [← hF, List.take_length, List.length_append]; omega
            have HF := Lib.hid hF
            rw [hF] at HEN ⊢
            clear hF hjl
            go_wp2
            go_round
            case rel => exact ⟨0 + 1, by omega, by go_num, by rw [← HEN.out]⟩
            case measure => simp [intOf]; omega
      · rw [if_neg hk0] at hQ2
        have hkz : (0 : Int) < (k : Int) := by omega
        have HP1 : Hid (Q ++ (44 :: (x1 ++ [61, 34])) = P) := Lib.hid (by rw [← HP0.out, ← hQ2]; simp)
        clear hQ2 HP0 hk0
        go_wp2
        go_loop [3, 5] (fun vs vk => IRel P x2 vs vk) (fun _ vk => x2.length - (intOf vk).toNat)
        case atStart => exact ⟨0, Nat.zero_le _, rfl, by rw [← HP1.out]; simp [esc]⟩
        case round =>
          obtain ⟨j, hj, rfl, rfl⟩ := hrel
          by_cases hjl : j < x2.length
          · have hsl := fun w => run_one x2 j hjl w ((j : Int) + 1) rfl
            have HE := Lib.hid (esc_next hjl)
            have hle := esc_len x2 (j + 1)
            rw [HE.out, List.length_append] at hle
            obtain ⟨E, hE⟩ : ∃ E, esc (x2.take j) = E := ⟨_, rfl⟩
            have HEE := Lib.hid hE
            rw [hE] at hle ⊢
            obtain ⟨F, hF⟩ : ∃ F, P ++ E = F := ⟨_, rfl⟩
            have hFl : F.length + (esc1 x2[j]).length ≤ 1099511627776 := by rw [← hF, List.length_append]; omega
            have HF := Lib.hid hF
            rw [hF]
            have HN2 : Hid (P ++ esc (x2.take (j + 1)) = F ++ esc1 x2[j]) := Lib.hid (by rw [HE.out, HEE.out, ← HF.out, List.append_assoc])
            clear hE hF hle HE
            generalize x2[j] = y at *
            unfold esc1 at hFl HN2
            by_cases h34 : y = 34
            · subst h34
              simp at hFl
              go_wp2
              go_round
              case rel => exact ⟨j + 1, by omega, by go_num, by rw [HN2.out]; rfl⟩
              case measure => simp [intOf]; omega
            · by_cases h92 : y = 92
              · subst h92
                simp at hFl
                go_wp2
                go_round
                case rel => exact ⟨j + 1, by omega, by go_num, by rw [HN2.out]; rfl⟩
                case measure => simp [intOf]; omega
              · rw [if_neg (by simp [h34, h92])] at hFl HN2
                have q1 : (y == 34) = false := beq_eq_false_iff_ne.2 h34
                have q2 : (y == 92) = false := beq_eq_false_iff_ne.2 h92
                by_cases h10 : y = 10
                · subst h10
                  simp at hFl
                  go_wp2
                  go_round
                  case rel => exact ⟨j + 1, by omega, by go_num, by rw [HN2.out]; rfl⟩
                  case measure => simp [intOf]; omega
                · rw [if_neg h10] at hFl HN2
                  have q3 : (y == 10) = false := beq_eq_false_iff_ne.2 h10
                  simp at hFl
                  clear h34 h92 h10
                  go_wp2
                  go_round
                  case rel => exact ⟨j + 1, by omega, by go_num, by rw [HN2.out]⟩
                  case measure => simp [intOf]; omega
          · have hjj : j = x2.length := by omega
            subst hjj
            have HEN : Hid (P ++ esc (x2.take x2.length) ++ [34] = 123 :: body (l.take (k + 1))) := Lib.hid (by rw [HN.out, List.take_length, List.append_assoc])
            obtain ⟨F, hF⟩ : ∃ F, P ++ esc (x2.take x2.length) = F := ⟨_, rfl⟩
            have hFl : F.length + 1 ≤ 1099511627777 := by rw [← hF, List.take_length, List.length_append]; omega
            have HF := Lib.hid hF
            rw [hF] at HEN ⊢
            clear hF hjl
            go_wp2
            go_round
            case rel => exact ⟨k + 1, by omega, by go_num, by rw [← HEN.out]⟩
            case measure => simp [intOf]; omega
    · have hkl : k = l.length := by omega
      subst hkl
      have hb1 := HW.out
      have HTL : Hid (body (l.take l.length) = body l) := Lib.hid (by rw [List.take_length])
      rw [HTL.out]
      obtain ⟨F, hF⟩ : ∃ F, 123 :: body l = F := ⟨_, rfl⟩
      have hFl : F.length + 1 ≤ 1099511627777 := by rw [← hF, List.length_cons]; omega
      have HAD : ∀ a b : List UInt8, (⟨a.toArray⟩ : ByteArray) ++ ⟨b.toArray⟩ = ⟨(a ++ b).toArray⟩ := str_add
      rw [hF]
      have HFF := Lib.hid hF
      clear hF hb1 hlt
      go_wp2
      go_ret
      exact ⟨by rw [← HFF.out]; rfl, rfl⟩
end Go.Proofs.Ytngkhcbnndkdeaa.LbWrite
