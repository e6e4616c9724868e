/- The contracts of isNumber and Name: whether a number may be a file's, and the file's name. Conditions: the library's table of powers of ten lies as its text lays it; 64 bits. -/
import Derived.Test.YtapbjmbakpopcaaGreatDoorWlTots
import Derived.Test.YtapbjmbakpopcaaGreatDoorWpShelf
import Derived.Lib.AppendIntMem
namespace Go.Proofs.YtapbjmbakpopcaaGreatDoor.WpName
open Go Go.RowKit Words WlName WlLaw WpPlain

theorem isnum_yes (n : Int) (w : World) (h1 : 1 ≤ n) (h2 : n ≤ 1000000000) : Calls Tryz.prog 32 #[.int .i64 n] w fun e w' => e = .returned (.bool true) ∧ w = w' := by
  go_enter Tryz.func32, Tryz.ntmps32
  go_wp2
  go_ret
  exact ⟨rfl, rfl⟩
theorem isnum_low (n : Int) (w : World) (h1 : n < 1) : Calls Tryz.prog 32 #[.int .i64 n] w fun e w' => e = .returned (.bool false) ∧ w = w' := by
  go_enter Tryz.func32, Tryz.ntmps32
  go_wp2
  go_ret
  exact ⟨rfl, rfl⟩
theorem isnum_high (n : Int) (w : World) (h1 : 1000000000 < n) : Calls Tryz.prog 32 #[.int .i64 n] w fun e w' => e = .returned (.bool false) ∧ w = w' := by
  have h2 : 1 ≤ n := by omega
  have h3 : decide (n ≤ 1000000000) = false := decide_eq_false (by omega)
  go_enter Tryz.func32, Tryz.ntmps32
  go_wp2
  go_ret
  exact ⟨rfl, rfl⟩
theorem isnum_no (n : Int) (w : World) (h : n < 1 ∨ 1000000000 < n) : Calls Tryz.prog 32 #[.int .i64 n] w fun e w' => e = .returned (.bool false) ∧ w = w' :=
  h.elim (isnum_low n w) (isnum_high n w)
theorem itoa_any (n : Nat) (w : World) (h2 : n ≤ 1000000000) (hL : WlTab.Lays w w.heap.size) : Calls Tryz.prog 33 #[.int .i64 (n : Int)] w fun e w' => e = .returned (.string ⟨(digs n).toArray⟩) ∧ Below w.heap.size w w' :=
  (Tryz.strconv_Itoa (n : Int) (by omega) (by omega) w hL.pow).mono fun e w' ⟨h1, k, os, h3⟩ => by
    rw [Lib.itoa_nonneg, digs_dec] at h1
    subst h3
    exact ⟨h1, Lib.below_grow _ w (Nat.le_refl _) k os⟩
theorem nameI_yes (n : Nat) (h1 : 1 ≤ n) (h2 : n ≤ 1000000000) : nameI (n : Int) = [119, 97, 108, 45] ++ digs n := by
  unfold nameI
  rw [if_neg (by unfold most; omega)]
  simp [name]
theorem nameI_no (n : Int) (h : n < 1 ∨ 1000000000 < n) : nameI n = [] := by unfold nameI; rw [if_pos (by unfold most; omega)]
theorem add_wal (D : List UInt8) (h : D.length ≤ 20) (w : World) : (Op.stringOp .add ⟨#[119, 97, 108, 45]⟩ ⟨D.toArray⟩).run Tryz.prog w = .ok (.string ⟨([119, 97, 108, 45] ++ D).toArray⟩) w := by
  exact run_string_add_lists w [119, 97, 108, 45] D (by simp) (by omega)
set_option maxHeartbeats 800000 in
theorem name_in (n : Nat) (w : World) (h1 : 1 ≤ n) (h2 : n ≤ 1000000000) (hL : WlTab.Lays w w.heap.size) : Calls Tryz.prog 5 #[.int .i64 (n : Int)] w fun e w' => e = .returned (.string ⟨(nameI (n : Int)).toArray⟩) ∧ Below w.heap.size w w' := by
  have HN := Lib.hid (isnum_yes (n : Int) w (by omega) (by omega))
  have HI := Lib.hid (itoa_any n w h2 hL)
  have hadd := add_wal (digs n) (Nat.le_trans (digs_len 9 n (by omega)).2 (by omega))
  have HX := Lib.hid (nameI_yes n h1 h2)
  clear hL
  generalize digs n = D at *
  generalize nameI (n : Int) = X at *
  generalize (n : Int) = m at *
  clear h1 h2
  go_enter Tryz.func5, Tryz.ntmps5
  go_wp2_with fail
  refine HN.out.mono ?_
  rintro e w1 ⟨rfl, rfl⟩
  go_wp2_with fail
  refine HI.out.mono ?_
  rintro e w2 ⟨rfl, hb⟩
  have HB := Lib.hid hb
  clear hb
  go_wp2
  go_ret
  rw [HX.out]
  exact ⟨rfl, HB.out⟩
theorem name_any (w : World) (n : Int) (_ : In64 n) (hL : WlTab.Lays w w.heap.size) : Calls Tryz.prog 5 #[.int .i64 n] w fun e w' => e = .returned (.string ⟨(nameI n).toArray⟩) ∧ Below w.heap.size w w' := by
  by_cases h : n < 1 ∨ 1000000000 < n
  · have HN := Lib.hid (isnum_no n w h)
    have HX := Lib.hid (nameI_no n h)
    generalize nameI n = X at *
    clear hL h
    go_enter Tryz.func5, Tryz.ntmps5
    go_wp2_with fail
    refine HN.out.mono ?_
    rintro e w1 ⟨rfl, rfl⟩
    go_wp2
    go_ret
    rw [HX.out]
    exact ⟨rfl, Below.refl _ _⟩
  · obtain ⟨m, rfl⟩ : ∃ m : Nat, n = (m : Int) := ⟨n.toNat, by omega⟩
    exact name_in m w (by omega) (by omega) hL
/-- A file's name, of a number that a file may have. -/
theorem name_ok_any (w : World) (n : Nat) (h1 : 1 ≤ n) (h2 : n ≤ most) (hL : WlTab.Lays w w.heap.size) : Calls Tryz.prog 5 #[.int .i64 (n : Int)] w fun e w' => e = .returned (.string ⟨(name n).toArray⟩) ∧ Below w.heap.size w w' := by
  have h := name_in n w h1 h2 hL
  rwa [nameI_yes n h1 h2] at h
theorem name_len32 (n : Nat) (h : n ≤ most) : (name n).length ≤ 32 := by
  have := name_ok h
  unfold DkSpec.nameOk at this
  simp only [Bool.and_eq_true, decide_eq_true_eq] at this
  omega
end Go.Proofs.YtapbjmbakpopcaaGreatDoor.WpName
