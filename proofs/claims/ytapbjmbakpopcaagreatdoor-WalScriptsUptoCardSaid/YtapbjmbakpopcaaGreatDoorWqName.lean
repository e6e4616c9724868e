/- The contract of the document's own Name of a log's file. Condition: 64 bits. -/
import Derived.Test.YtapbjmbakpopcaaGreatDoorWlSt
import Derived.Lib.SlBytesRow
namespace Go.Proofs.YtapbjmbakpopcaaGreatDoor.WqName
open Go Go.RowKit Words WlName WlLaw

def NRel (w0 : World) (n : Nat) (vn vs : Value) (wr : World) : Prop := ∃ (m : Nat) (D : List UInt8), m ≤ n ∧ vn = .int .i64 (m : Int) ∧ vs = .string ⟨D.toArray⟩ ∧ D.length ≤ 10 ∧ Hid ((m = 0 ∧ D = digs n) ∨ (0 < m ∧ digs n = digs m ++ D)) ∧ Hid (Below w0.heap.size w0 wr)
theorem add_any (a b : List UInt8) (ha : a.length ≤ 20) (hb : b.length ≤ 20) (w : World) : (Op.stringOp .add ⟨a.toArray⟩ ⟨b.toArray⟩).run Tryz.prog w = .ok (.string ⟨(a ++ b).toArray⟩) w := run_string_add_lists w a b (by omega) (by omega)
theorem digs_next {n m : Nat} {D : List UInt8} (hm : 0 < m) (h : digs n = digs m ++ D) : (m / 10 = 0 ∧ UInt8.ofNat (48 + m % 10) :: D = digs n) ∨ (0 < m / 10 ∧ digs n = digs (m / 10) ++ UInt8.ofNat (48 + m % 10) :: D) := by
  by_cases h1 : m < 10
  · left
    refine ⟨by omega, ?_⟩
    rw [h, digs_small h1, show m % 10 = m by omega]
    rfl
  · right
    refine ⟨by omega, ?_⟩
    rw [h, digs_step h1, List.append_assoc]
    rfl
theorem nameI_yes (n : Nat) (h1 : 1 ≤ n) (h2 : n ≤ 1000000000) : nameI (n : Int) = [119, 97, 108, 45] ++ digs n := by
  unfold nameI
  rw [if_neg (by unfold most; omega)]
  simp [name]
theorem nameI_no (n : Int) (h : n < 1 ∨ 1000000000 < n) : nameI n = [] := by unfold nameI; rw [if_pos (by unfold most; omega)]
theorem byte_val (x : Nat) (h : x < 256) : (x : Int) = (((UInt8.ofNat x).toNat : Nat) : Int) := by rw [UInt8.toNat_ofNat']; omega
theorem name_low (n : Int) (w : World) (h1 : n < 1) : Calls Tryz.prog 6 #[.int .i64 n] w fun e w' => e = .returned (.string ⟨#[]⟩) ∧ Below w.heap.size w w' := by
  go_enter Tryz.func6, Tryz.ntmps6
  go_wp2
  go_ret
  exact ⟨rfl, Below.refl _ _⟩
theorem name_high (n : Int) (w : World) (h1 : 1000000000 < n) : Calls Tryz.prog 6 #[.int .i64 n] w fun e w' => e = .returned (.string ⟨#[]⟩) ∧ Below w.heap.size w w' := by
  have h2 : ¬ n < 1 := by omega
  have h3 : decide (1000000000 < n) = true := decide_eq_true h1
  go_enter Tryz.func6, Tryz.ntmps6
  go_wp2
  go_ret
  exact ⟨rfl, Below.refl _ _⟩
set_option maxHeartbeats 1600000 in
set_option maxRecDepth 100000 in
theorem name_in (n : Nat) (w : World) (h1 : 1 ≤ n) (h2 : n ≤ 1000000000) : Calls Tryz.prog 6 #[.int .i64 (n : Int)] w fun e w' => e = .returned (.string ⟨(nameI (n : Int)).toArray⟩) ∧ Below w.heap.size w w' := by
  have HX := Lib.hid (nameI_yes n h1 h2)
  have HL := Lib.hid (digs_len 9 n (by omega)).2
  have j1 : ¬ (n : Int) < 1 := by omega
  have j2 : decide (1000000000 < (n : Int)) = false := decide_eq_false (by omega)
  generalize nameI (n : Int) = X at *
  go_enter Tryz.func6, Tryz.ntmps6
  go_wp2
  go_loopw [0, 3] (fun vn vs wr => NRel w n vn vs wr) (fun vn _ _ => (intOf vn).toNat)
  case atStart => exact ⟨n, [], Nat.le_refl _, rfl, rfl, by simp, Lib.hid (.inr ⟨h1, by simp⟩), Lib.hid (Below.refl _ _)⟩
  case round =>
    obtain ⟨m, D, hmn, rfl, rfl, hD, HS, HB⟩ := hrel
    by_cases hm : 0 < m
    · have HDG : Hid (digs n = digs m ++ D) := Lib.hid (by rcases HS.out with h | h; exact absurd h.1 (by omega); exact h.2)
      have HN := Lib.hid (digs_next hm HDG.out)
      have hDl : D.length + 1 ≤ 10 := by
        have e := congrArg List.length HDG.out
        rw [List.length_append] at e
        have := HL.out
        have := (digs_len 9 m (by omega)).1
        omega
      obtain ⟨x, hx⟩ : ∃ x : Nat, 48 + m % 10 = x := ⟨_, rfl⟩
      have hx2 : 48 + (m : Int) % 10 = (x : Int) := by omega
      have hx3 : x < 256 := by omega
      have hw8 : IntKind.u8.wrap (x : Int) = (x : Int) := by rw [IntKind.wrap_u8]; omega
      rw [hx] at HN
      have HMD := Rd.made wr #[.int .u8 (x : Int)] 5
      have s1 : (convert 38 9 (.slice (some ⟨wr.heap.size, 0, none⟩) 1 1)).run Tryz.prog (wr.alloc (.cells #[.int .u8 (x : Int)] 5)) = .ok (.string ⟨[UInt8.ofNat x].toArray⟩) (wr.alloc (.cells #[.int .u8 (x : Int)] 5)) := run_bytes (P := Tryz.prog) (wr.alloc (.cells #[.int .u8 (x : Int)] 5)) 38 9 5 Tryz.underlying38 Tryz.underlying5 Tryz.underlying9 (some ⟨wr.heap.size, 0, none⟩) [UInt8.ofNat x] 1 (wr.heap.size + 1) (by
        have e : [UInt8.ofNat x].map B8 = [.int .u8 (x : Int)] := by
          rw [List.map_cons, List.map_nil]
          unfold B8
          rw [← byte_val x hx3]
        rw [e]
        exact HMD)
      have hadd := fun w' => add_any [UInt8.ofNat x] D (by simp) (by omega) w'
      have hm2 : (0 : Int) < (m : Int) := by omega
      generalize UInt8.ofNat x = c at *
      clear hx HS HDG HMD
      have HBA := Lib.hid (HB.out.alloc (HB.out.size) (.cells #[.int .u8 (x : Int)] 5))
      go_wp2
      go_roundw
      case rel => exact ⟨m / 10, c :: D, by omega, by go_num, rfl, by simp; omega, Lib.hid HN.out, HBA⟩
      case measure => simp [intOf]; omega
    · have hm0 : m = 0 := by omega
      subst hm0
      have HE : Hid (D = digs n) := Lib.hid (by rcases HS.out with h | h; exact h.2; exact absurd h.1 (by omega))
      have hadd := fun w' => add_any [119, 97, 108, 45] D (by simp) (by omega) w'
      clear HS hm
      go_wp2
      go_ret
      rw [HX.out, ← HE.out]
      exact ⟨rfl, HB.out⟩
theorem name_any (w : World) (n : Int) (_ : In64 n) : Calls Tryz.prog 6 #[.int .i64 n] w fun e w' => e = .returned (.string ⟨(nameI n).toArray⟩) ∧ Below w.heap.size w w' := by
  by_cases h : n < 1 ∨ 1000000000 < n
  · rw [nameI_no n h]
    exact h.elim (name_low n w) (name_high n w)
  · obtain ⟨m, rfl⟩ : ∃ m : Nat, n = (m : Int) := ⟨n.toNat, by omega⟩
    exact name_in m w (by omega) (by omega)
/-- A file's name, of a number that a file may have. -/
theorem name_ok_any (w : World) (n : Nat) (h1 : 1 ≤ n) (h2 : n ≤ most) : Calls Tryz.prog 6 #[.int .i64 (n : Int)] w fun e w' => e = .returned (.string ⟨(name n).toArray⟩) ∧ Below w.heap.size w w' := by
  have h := name_in n w h1 h2
  rwa [nameI_yes n h1 h2] at h
end Go.Proofs.YtapbjmbakpopcaaGreatDoor.WqName
