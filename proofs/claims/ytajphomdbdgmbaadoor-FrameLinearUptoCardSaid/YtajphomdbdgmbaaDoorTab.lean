/- What the program's table for the checksum holds: for each half of a byte what four of the eight steps make of it; said of every world in which the table lies as the program's text lays it. And the plain facts on half steps. No conditions but 32 bits. -/
import Derived.Test.YtajphomdbdgmbaaDoorRows
import Derived.Test.YtajphomdbdgmbaaDoorWords
import Derived.Test.YtajphomdbdgmbaaDoorCrc
import Derived.Lib.LaidTab
import Derived.Laws.BitsAllLaws
namespace Go.Proofs.YtajphomdbdgmbaaDoor.Tab
open Go Go.RowKit Words Crc

theorem cb_two (m : Nat) : cb (2 * m) = m := by unfold cb; rw [if_neg (by omega)]; omega
theorem cbN_16 (m : Nat) : cbN 4 (16 * m) = m := by
  rw [show 16 * m = 2 * (2 * (2 * (2 * m))) by omega]
  simp only [cbN, cb_two]
theorem split16 (c : Nat) : (16 * (c / 16)) ^^^ (c % 16) = c := by
  apply Nat.eq_of_testBit_eq
  intro i
  rw [Nat.testBit_xor, show (16 : Nat) = 2 ^ 4 from rfl, Nat.testBit_two_pow_mul, Nat.testBit_mod_two_pow, Nat.testBit_div_two_pow]
  by_cases h : 4 ≤ i
  · have e : i - 4 + 4 = i := by omega
    have h' : ¬ i < 4 := by omega
    simp [h, e, h']
  · have h' : i < 4 := by omega
    simp [h, h']
/-- A half step by the table. -/
theorem half (c : Nat) : (c / 16) ^^^ cbN 4 (c % 16) = cbN 4 c := by
  conv => rhs; rw [← split16 c, cbN_xor, cbN_16]
theorem two_halves (c x : Nat) : cbN 4 (cbN 4 (c ^^^ x)) = crcB c x := by
  unfold crcB
  rw [← cbN_add]
theorem and15 (c : Nat) (h : c < 2 ^ 32) : bits .and .u32 (c : Int) 15 = ((c % 16 : Nat) : Int) := by
  have := u32_and_nat c 15 (by omega) (by omega)
  rw [show c &&& 15 = c % 16 from Nat.and_two_pow_sub_one_eq_mod c 4] at this
  exact this
theorem half_int (c : Nat) (h : c < 2 ^ 32) : bits .xor .u32 ((c : Int) / 16) ((cbN 4 (c % 16) : Nat) : Int) = ((cbN 4 c : Nat) : Int) := by
  have h1 : cbN 4 (c % 16) < 2 ^ 32 := cbN_lt (by omega)
  have := u32_xor_nat (c / 16) (cbN 4 (c % 16)) (by omega) (by omega)
  rw [half] at this
  rw [← this]
  simp
theorem not_nat (c : Nat) (h : c < 2 ^ 32) : 4294967295 ^^^ c = 4294967295 - c := by
  apply Nat.eq_of_testBit_eq
  intro i
  rw [Nat.testBit_xor, show 4294967295 - c = 2 ^ 32 - (c + 1) by omega, Nat.testBit_two_pow_sub_succ h, show (4294967295 : Nat) = 2 ^ 32 - 1 by decide, Nat.testBit_two_pow_sub_one]
  by_cases hi : i < 32
  · simp [hi]
  · have : c.testBit i = false := Nat.testBit_lt_two_pow (Nat.lt_of_lt_of_le h (Nat.pow_le_pow_right (by omega) (by omega)))
    simp [hi, this]
/-- 'every bit is turned'. -/
theorem not_int (c : Nat) (h : c < 2 ^ 32) : ((4294967295 ^^^ c : Nat) : Int) = 4294967295 - (c : Int) := by
  rw [not_nat c h]
  omega

def tabV : List Value := (List.range 16).map fun k => Value.int .u32 ((cbN 4 k : Nat) : Int)
/-- The table lies as the text lays it; its block lies below B. -/
def Laid (w : World) (B : Nat) : Prop := Rd w B (some ⟨0, 0, none⟩) tabV
theorem Laid.at {w : World} {B : Nat} (h : Laid w B) (k : Nat) (hk : k < 16) : w.cell? ⟨0, k, none⟩ = some (.int .u32 ((cbN 4 k : Nat) : Int)) := by
  obtain ⟨b, off, e, _, hc⟩ := h (by decide)
  injection e with e; injection e with e1 e2 _
  subst e1 e2
  have := hc k (.int .u32 ((cbN 4 k : Nat) : Int)) (by simp [tabV, hk])
  rwa [Nat.zero_add] at this

theorem gTab : Tryd.prog.globalNamed "garner/frame.halves" = some 0 := by kernel_rfl
theorem gTabType : (Tryd.prog.globals[0]?).map (·.type) = some 40 := by kernel_rfl
theorem cellsT : Tryd.prog.cellsOf 40 = 16 := by kernel_rfl
theorem cellsE : Tryd.prog.cellsOf 25 = 1 := by kernel_rfl
def tabZ : List Int := [0, 498536548, 997073096, 651767980, 1994146192, 1802195444, 1303535960, 1342533948, 3988292384, 4027552580, 3604390888, 3412177804, 2607071920, 2262029012, 2685067896, 3183342108]
theorem tabZ_at : ∀ k : Fin 16, tabZ.getD k.val 0 = ((cbN 4 k.val : Nat) : Int) := by decide +kernel
theorem of_laid {W : World} (h : laidMetH Tryd.prog [("garner/frame.halves", Rows.laid_garner_frame_halves)] W) : Laid W W.heap.size := by
  have ht : Lib.TabIs Tryd.prog W "garner/frame.halves" .u32 tabZ := Lib.tabIs_of_head (rest := []) gTab gTabType Tryd.underlying40 Tryd.underlying25 cellsE cellsT h
  have hc : ∀ k : Nat, k < 16 → W.cell? ⟨0, k, none⟩ = some (.int .u32 ((cbN 4 k : Nat) : Int)) := fun k hk => by
    rw [ht.cell gTab k hk]
    exact congrArg (fun z => some (Value.int .u32 z)) (tabZ_at ⟨k, hk⟩)
  intro _
  refine ⟨0, 0, rfl, World.block_lt_of_cell? W _ (hc 0 (by omega)), fun j u hu => ?_⟩
  have hj : j < 16 := by
    have := (List.getElem?_eq_some_iff.1 hu).1
    simpa [tabV] using this
  rw [Nat.zero_add, hc j hj]
  simpa [tabV, hj] using hu

end Go.Proofs.YtajphomdbdgmbaaDoor.Tab
