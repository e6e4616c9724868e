/- The contracts of the document's Has, and of the statements' own cut. Condition: texts of lengths that the model has, their sum too. -/
import Derived.Test.YtebdolfcemplnaaTxSame
import Derived.Lib.IndexBytes
import Derived.Lib.IndexMore
import Derived.Laws.DeepStrings4
namespace Go.Proofs.Ytebdolfcemplnaa.TxHas
open Go Go.RowKit Words Less TxSame

/-- Whether p stands in l at a place. -/
def occ (l p : List UInt8) (i : Nat) : Bool := p.isPrefixOf (l.drop i)
def stands (l p : List UInt8) : Bool := (List.range (l.length + 1)).any fun i => occ l p i
theorem stands_true {l p : List UInt8} {i : Nat} (hi : i ≤ l.length) (h : occ l p i = true) : stands l p = true := by
  unfold stands
  rw [List.any_eq_true]
  exact ⟨i, List.mem_range.2 (by omega), h⟩
theorem stands_false {l p : List UInt8} (h : ∀ i, i ≤ l.length → occ l p i = false) : stands l p = false := by
  unfold stands
  rw [List.any_eq_false]
  intro i hi
  rw [h i (by have := List.mem_range.1 hi; omega)]
  decide
theorem occ_short {l p : List UInt8} {i : Nat} (h : l.length < i + p.length) (hi : i ≤ l.length) : occ l p i = false := by
  cases hx : occ l p i with
  | false => rfl
  | true =>
    unfold occ at hx
    have := (List.isPrefixOf_iff_prefix.1 hx).length_le
    rw [List.length_drop] at this
    omega
theorem occ_eq {l p : List UInt8} {i : Nat} : occ l p i = ((l.drop i).take p.length == p) := by
  unfold occ
  rw [Bool.eq_iff_iff, List.isPrefixOf_iff_prefix, beq_iff_eq]
  exact ⟨fun h => (List.prefix_iff_eq_take.1 h).symm, fun h => List.prefix_iff_eq_take.2 h.symm⟩
theorem ext_part (l p : ByteArray) (i : Nat) : l.extract i (i + p.size) = ⟨((l.data.toList.drop i).take p.data.toList.length).toArray⟩ := by
  have e2 : p.data.size = p.size := rfl
  apply ByteArray.ext
  rw [← Array.toList_inj]
  rw [Lib.extract_data]
  simp

/-- 's[i:j]'. -/
theorem run_part (s : ByteArray) (i j : Nat) (x : Int) (hx : x = (j : Int)) (hij : i ≤ j) (hj : j ≤ s.size) (w : World) : (Instr.slice 9 (.string s) (some (.int .i64 (i : Int))) (some (.int .i64 x)) none).run Try.prog w = .ok (.string (s.extract i j)) w := by
  subst hx
  rw [run_slice_string_if w 9 s .i64 .i64 (i : Int) (j : Int) Try.underlying9]
  simp [hij, hj]

def HRel (l p : ByteArray) (v : Value) : Prop := ∃ k : Nat, k ≤ l.size + 1 ∧ v = .int .i64 (k : Int) ∧ Hid (∀ i, i < k → occ l.data.toList p.data.toList i = false)

set_option maxHeartbeats 800000 in
set_option maxRecDepth 100000 in
theorem has_any (l p : ByteArray) (w : World) (hl : l.size ≤ 4611686018427387904) (hp : p.size ≤ 4611686018427387000) :
    Calls Try.prog 31 #[.string l, .string p] w fun e w' => e = .returned (.bool (stands l.data.toList p.data.toList)) ∧ w = w' := by
  have el : l.data.toList.length = l.size := by simp
  have ep : p.data.toList.length = p.size := by simp
  have EL := Lib.hid el
  have EP := Lib.hid ep
  clear el ep
  go_enter Try.func31, Try.ntmps31
  go_wp2
  go_loop [5] (fun v => HRel l p v) (fun v => l.size + 1 - (intOf v).toNat)
  case atStart => exact ⟨0, by omega, rfl, Lib.hid (fun i h => by omega)⟩
  case round =>
    obtain ⟨k, hk, rfl, HN⟩ := hrel
    by_cases hlt : k + p.size ≤ l.size
    · obtain ⟨x, hx⟩ : ∃ x, (l.data.toList.drop k).take p.data.toList.length = x := ⟨_, rfl⟩
      have hex := ext_part l p k
      rw [hx] at hex
      obtain ⟨q, hq⟩ : ∃ q, p.data.toList = q := ⟨_, rfl⟩
      have hpq : p = ⟨q.toArray⟩ := by rw [← hq]
      have hoc := occ_eq (l := l.data.toList) (p := p.data.toList) (i := k)
      rw [hx, hq] at hoc
      obtain ⟨X, hX⟩ : ∃ X, l.extract k (k + p.size) = X := ⟨_, rfl⟩
      have hbe : (X.toList == p.toList) = (x == q) := by
        rw [← hX, hex, hpq, ByteArray.toList_mk, ByteArray.toList_mk]
      obtain ⟨b, hb⟩ : ∃ b, (x == q) = b := ⟨_, rfl⟩
      rw [hb] at hbe hoc
      have HO : Hid (occ l.data.toList p.data.toList k = b) := Lib.hid (by rw [hq]; exact hoc)
      have hsl := fun w => run_part l k (k + p.size) ((k : Int) + (p.size : Int)) (by omega) (by omega) hlt w
      rw [hX] at hsl
      clear hx hex hq hpq hoc hb hX
      cases b with
      | true =>
        have HS := Lib.hid (stands_true (by rw [EL.out]; omega) HO.out)
        go_wp2
        go_ret
        exact ⟨ret_bool HS.out.symm, rfl⟩
      | false =>
        have HN2 : Hid (∀ i, i < k + 1 → occ l.data.toList p.data.toList i = false) := Lib.hid (fun i h => by
          by_cases e : i = k
          · rw [e]; exact HO.out
          · exact HN.out i (by omega))
        go_wp2
        go_round
        case rel => exact ⟨k + 1, by omega, by go_num, HN2⟩
        case measure => simp [intOf]; omega
    · have HS : Hid (stands l.data.toList p.data.toList = false) := Lib.hid (stands_false (fun i hi => by
        rw [EL.out] at hi
        by_cases e : i < k
        · exact HN.out i e
        · exact occ_short (by rw [EL.out, EP.out]; omega) (by rw [EL.out]; exact hi)))
      go_wp2
      go_ret
      exact ⟨ret_bool HS.out.symm, rfl⟩

theorem place_of (x : Int) (n : Nat) : ∃ k : Nat, (IntKind.u64.wrap x).tmod ((n : Int) + 1) = (k : Int) ∧ k ≤ n := by
  rw [IntKind.wrap_u64]
  have h0 : 0 ≤ x % 18446744073709551616 := Int.emod_nonneg _ (by omega)
  generalize x % 18446744073709551616 = y at *
  rw [Int.tmod_eq_emod_of_nonneg h0]
  have h1 := Int.emod_nonneg y (show (n : Int) + 1 ≠ 0 by omega)
  have h2 := Int.emod_lt_of_pos y (show (0 : Int) < (n : Int) + 1 by omega)
  exact ⟨(y % ((n : Int) + 1)).toNat, by omega, by omega⟩
/-- A part of a text. -/
def CPost (s : ByteArray) (w : World) (e : Ending) (w' : World) : Prop := ∃ i n : Nat, i + n ≤ s.size ∧ e = .returned (.string (s.extract i (i + n))) ∧ w = w'
set_option maxHeartbeats 800000 in
set_option maxRecDepth 100000 in
theorem cut_any (s : ByteArray) (at_ n : Int) (w : World) (hs : s.size ≤ 4611686018427387904) :
    Calls Try.prog 15 #[.string s, .int .i64 at_, .int .i64 n] w (CPost s w) := by
  obtain ⟨i, hi, hi'⟩ := place_of at_ s.size
  obtain ⟨m, hm, hm'⟩ := place_of n (s.size - i)
  have hm2 : (IntKind.u64.wrap n).tmod ((s.size : Int) - (i : Int) + 1) = (m : Int) := by
    rw [← hm]
    congr 2
    omega
  have hsl := fun w => run_part s i (i + m) ((i : Int) + (m : Int)) (by omega) (by omega) (by omega) w
  obtain ⟨X, hX⟩ : ∃ X, s.extract i (i + m) = X := ⟨_, rfl⟩
  have HXX := Lib.hid hX
  rw [hX] at hsl
  clear hm hX
  go_enter Try.func15, Try.ntmps15
  go_wp2
  go_ret
  exact ⟨i, m, by omega, by rw [HXX.out]; rfl, rfl⟩
end Go.Proofs.Ytebdolfcemplnaa.TxHas
