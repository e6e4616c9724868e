/- Plain facts on the checksum (no program in this text): one step is linear and loses nothing; so the checksum is linear in its text, and two texts that differ in one bit have other checksums. No conditions but 32 bits. · What the program's table for the checksum holds: for each half of a byte what four of the eight steps make of it; said of every world in which the table lies as the program's text lays it. And the plain facts on half steps. No conditions but 32 bits. -/
import Derived.Test.YtjninegpaoblfaaGreatDoorRows
import Derived.Test.YtjninegpaoblfaaGreatDoorWords
import Derived.Lib.LaidTab
import Derived.Laws.BitsAllLaws
namespace Go.Proofs.YtjninegpaoblfaaGreatDoor.Crc

def poly : Nat := 3988292384
/-- One bit's step. -/
def cb (c : Nat) : Nat := if c % 2 = 1 then (c / 2) ^^^ poly else c / 2
def cbN : Nat → Nat → Nat
  | 0, c => c
  | k + 1, c => cbN k (cb c)
/-- One byte's step. -/
def crcB (c x : Nat) : Nat := cbN 8 (c ^^^ x)
def crcL (c : Nat) : List UInt8 → Nat
  | [] => c
  | x :: r => crcL (crcB c x.toNat) r
def sum (l : List UInt8) : Nat := 4294967295 ^^^ crcL 4294967295 l

theorem xor_half (a b : Nat) : (a ^^^ b) / 2 = a / 2 ^^^ b / 2 := by
  apply Nat.eq_of_testBit_eq
  intro i
  simp only [← Nat.testBit_succ, Nat.testBit_xor]
theorem xor_odd (a b : Nat) : (a ^^^ b) % 2 = (a % 2 + b % 2) % 2 := by
  have h := Nat.testBit_xor a b 0
  simp only [Nat.testBit_zero] at h
  have ha : a % 2 = 0 ∨ a % 2 = 1 := by omega
  have hb : b % 2 = 0 ∨ b % 2 = 1 := by omega
  have hc : (a ^^^ b) % 2 = 0 ∨ (a ^^^ b) % 2 = 1 := by omega
  rcases ha with ha | ha <;> rcases hb with hb | hb <;> rcases hc with hc | hc <;> simp [ha, hb, hc] at h ⊢

theorem cb_xor (a b : Nat) : cb (a ^^^ b) = cb a ^^^ cb b := by
  unfold cb
  rw [xor_half, xor_odd]
  have ha : a % 2 = 0 ∨ a % 2 = 1 := by omega
  have hb : b % 2 = 0 ∨ b % 2 = 1 := by omega
  generalize a / 2 = p
  generalize b / 2 = q
  rcases ha with ha | ha <;> rcases hb with hb | hb <;> simp [ha, hb]
  · rw [Nat.xor_assoc]
  · rw [Nat.xor_assoc, Nat.xor_comm q poly, ← Nat.xor_assoc]
  · rw [Nat.xor_assoc, Nat.xor_comm q poly, ← Nat.xor_assoc poly, Nat.xor_self, Nat.zero_xor]
theorem cb_zero : cb 0 = 0 := by decide
theorem cb_lt {c : Nat} (h : c < 2 ^ 32) : cb c < 2 ^ 32 := by
  unfold cb
  split
  · exact Nat.xor_lt_two_pow (by omega) (by decide)
  · omega
theorem cb_inj {c : Nat} (h : c < 2 ^ 32) (h0 : cb c = 0) : c = 0 := by
  unfold cb at h0
  split at h0
  · rename_i ho
    have : c / 2 = poly := by
      have := congrArg (· ^^^ poly) h0
      simp only [Nat.xor_assoc, Nat.xor_self, Nat.xor_zero, Nat.zero_xor] at this
      exact this
    unfold poly at this
    omega
  · omega

theorem cbN_xor (k a b : Nat) : cbN k (a ^^^ b) = cbN k a ^^^ cbN k b := by
  induction k generalizing a b with
  | zero => rfl
  | succ k ih => simp only [cbN, cb_xor, ih]
theorem cbN_zero (k : Nat) : cbN k 0 = 0 := by
  induction k with
  | zero => rfl
  | succ k ih => simp only [cbN, cb_zero, ih]
theorem cbN_lt {k c : Nat} (h : c < 2 ^ 32) : cbN k c < 2 ^ 32 := by
  induction k generalizing c with
  | zero => exact h
  | succ k ih => exact ih (cb_lt h)
theorem cbN_inj {k c : Nat} (h : c < 2 ^ 32) (h0 : cbN k c = 0) : c = 0 := by
  induction k generalizing c with
  | zero => exact h0
  | succ k ih => exact cb_inj h (ih (cb_lt h) h0)
theorem cbN_add (j k c : Nat) : cbN (j + k) c = cbN k (cbN j c) := by
  induction j generalizing c with
  | zero => simp [cbN]
  | succ j ih => rw [Nat.succ_add]; simp only [cbN, ih]

theorem crcB_xor (c d x y : Nat) : crcB (c ^^^ d) (x ^^^ y) = crcB c x ^^^ crcB d y := by
  unfold crcB
  rw [← cbN_xor]
  congr 1
  rw [Nat.xor_assoc, ← Nat.xor_assoc d x y, Nat.xor_comm d x, Nat.xor_assoc x d y, ← Nat.xor_assoc]
theorem crcB_lt {c x : Nat} (h : c < 2 ^ 32) (hx : x < 256) : crcB c x < 2 ^ 32 := cbN_lt (Nat.xor_lt_two_pow h (by omega))
theorem crcL_lt {c : Nat} (l : List UInt8) (h : c < 2 ^ 32) : crcL c l < 2 ^ 32 := by
  induction l generalizing c with
  | nil => exact h
  | cons x r ih => exact ih (crcB_lt h x.toNat_lt)
theorem sum_lt (l : List UInt8) : sum l < 2 ^ 32 := Nat.xor_lt_two_pow (by decide) (crcL_lt l (by decide))
theorem crcL_append (c : Nat) (l r : List UInt8) : crcL c (l ++ r) = crcL (crcL c l) r := by
  induction l generalizing c with
  | nil => rfl
  | cons x l ih => exact ih _

/-- Exclusive or, byte by byte, as far as the shorter goes. -/
def zx (a b : List UInt8) : List UInt8 := List.zipWith (· ^^^ ·) a b
theorem zx_cons (x y : UInt8) (a b : List UInt8) : zx (x :: a) (y :: b) = (x ^^^ y) :: zx a b := rfl
theorem crcL_cons (c : Nat) (x : UInt8) (r : List UInt8) : crcL c (x :: r) = crcL (crcB c x.toNat) r := rfl
theorem crcL_nil (c : Nat) : crcL c [] = c := rfl
theorem crcL_xor (a : List UInt8) : ∀ (b : List UInt8) (c d : Nat), a.length = b.length → crcL (c ^^^ d) (zx a b) = crcL c a ^^^ crcL d b := by
  induction a with
  | nil =>
    intro b c d h
    obtain rfl : b = [] := List.eq_nil_of_length_eq_zero h.symm
    rfl
  | cons x a ih =>
    intro b c d h
    match b, h with
    | y :: b, h =>
      rw [zx_cons, crcL_cons, crcL_cons, crcL_cons, UInt8.toNat_xor, crcB_xor]
      exact ih b _ _ (by simpa using h)
theorem zx_length {a b : List UInt8} (h : a.length = b.length) : (zx a b).length = a.length := by simp [zx, h]

theorem xor7 (F p q r : Nat) : F ^^^ (p ^^^ q ^^^ r) = (F ^^^ p) ^^^ (F ^^^ q) ^^^ (F ^^^ r) := by
  apply Nat.eq_of_testBit_eq
  intro i
  simp only [Nat.testBit_xor]
  cases F.testBit i <;> cases p.testBit i <;> cases q.testBit i <;> cases r.testBit i <;> rfl
theorem crcL_linear (F : Nat) (a b c : List UInt8) (h1 : a.length = b.length) (h2 : a.length = c.length) : F ^^^ crcL F (zx (zx a b) c) = (F ^^^ crcL F a) ^^^ (F ^^^ crcL F b) ^^^ (F ^^^ crcL F c) := by
  have e : F = F ^^^ F ^^^ F := by rw [Nat.xor_self, Nat.zero_xor]
  have h := crcL_xor (zx a b) c (F ^^^ F) F (by rw [zx_length h1]; exact h2)
  rw [crcL_xor a b _ _ h1, ← e] at h
  rw [h]
  exact xor7 _ _ _ _
/-- The checksum of three texts' exclusive or. -/
theorem sum_linear (a b c : List UInt8) (h1 : a.length = b.length) (h2 : a.length = c.length) : sum (zx (zx a b) c) = sum a ^^^ sum b ^^^ sum c := crcL_linear _ a b c h1 h2

/-- A text that differs in one byte has another checksum. -/
theorem crcL_diff (l : List UInt8) : ∀ (c d : Nat), c < 2 ^ 32 → d < 2 ^ 32 → crcL c l = crcL d l → c = d := by
  induction l with
  | nil => intro c d _ _ h; exact h
  | cons x r ih =>
    intro c d hc hd h
    have hx : x.toNat < 2 ^ 32 := Nat.lt_of_lt_of_le x.toNat_lt (by decide)
    have h1 := ih _ _ (crcB_lt hc x.toNat_lt) (crcB_lt hd x.toNat_lt) h
    unfold crcB at h1
    have h2 : cbN 8 ((c ^^^ x.toNat) ^^^ (d ^^^ x.toNat)) = 0 := by rw [cbN_xor, h1, Nat.xor_self]
    have h3 := cbN_inj (Nat.xor_lt_two_pow (Nat.xor_lt_two_pow hc hx) (Nat.xor_lt_two_pow hd hx)) h2
    have h4 : (c ^^^ x.toNat) ^^^ (d ^^^ x.toNat) = c ^^^ d := by
      rw [Nat.xor_assoc, Nat.xor_comm x.toNat, Nat.xor_assoc, Nat.xor_self, Nat.xor_zero]
    rw [h4] at h3
    have h5 := congrArg (· ^^^ d) h3
    simp only [Nat.xor_assoc, Nat.xor_self, Nat.xor_zero, Nat.zero_xor] at h5
    exact h5
theorem crcB_diff {c x y : Nat} (hc : c < 2 ^ 32) (hx : x < 256) (hy : y < 256) (h : crcB c x = crcB c y) : x = y := by
  unfold crcB at h
  have h2 : cbN 8 ((c ^^^ x) ^^^ (c ^^^ y)) = 0 := by rw [cbN_xor, h, Nat.xor_self]
  have h3 := cbN_inj (Nat.xor_lt_two_pow (Nat.xor_lt_two_pow hc (by omega)) (Nat.xor_lt_two_pow hc (by omega))) h2
  have h4 : (c ^^^ x) ^^^ (c ^^^ y) = x ^^^ y := by
    rw [Nat.xor_comm c x, Nat.xor_assoc, ← Nat.xor_assoc c c, Nat.xor_self, Nat.zero_xor]
  rw [h4] at h3
  have h5 := congrArg (· ^^^ y) h3
  simp only [Nat.xor_assoc, Nat.xor_self, Nat.xor_zero, Nat.zero_xor] at h5
  exact h5
theorem sum_diff (p q : List UInt8) (x y : UInt8) (h : sum (p ++ x :: q) = sum (p ++ y :: q)) : x = y := by
  have hF : 4294967295 < 2 ^ 32 := by decide
  unfold sum at h
  generalize 4294967295 = F at *
  have h0 := congrArg (F ^^^ ·) h
  simp only [← Nat.xor_assoc, Nat.xor_self, Nat.zero_xor] at h0
  rw [crcL_append, crcL_append] at h0
  have hc : crcL F p < 2 ^ 32 := crcL_lt p hF
  have h1 := crcL_diff q _ _ (crcB_lt hc x.toNat_lt) (crcB_lt hc y.toNat_lt) h0
  have h2 := crcB_diff hc x.toNat_lt y.toNat_lt h1
  exact UInt8.toNat_inj.1 h2

end Go.Proofs.YtjninegpaoblfaaGreatDoor.Crc

namespace Go.Proofs.YtjninegpaoblfaaGreatDoor.Tab
open Go Go.RowKit Words Crc

theorem cb_two (m : Nat) : cb (2 * m) = m := by unfold cb; rw [if_neg (by omega)]; omega
theorem cbN_16 (m : Nat) : cbN 4 (16 * m) = m := by
  rw [show 16 * m = 2 * (2 * (2 * (2 * m))) by omega]
  simp only [cbN, cb_two]
theorem split16 (c : Nat) : (16 * (c / 16)) ^^^ (c % 16) = c := by
  apply Nat.eq_of_testBit_eq
  intro i
  rw [Nat.testBit_xor, show (16 : Nat) = 2 ^ 4 from rfl, Nat.testBit_two_pow_mul, Nat.testBit_mod_two_pow, Nat.testBit_div_two_pow]
  by_cases h : 4 ≤ i
  · have e : i - 4 + 4 = i := by omega
    have h' : ¬ i < 4 := by omega
    simp [h, e, h']
  · have h' : i < 4 := by omega
    simp [h, h']
/-- A half step by the table. -/
theorem half (c : Nat) : (c / 16) ^^^ cbN 4 (c % 16) = cbN 4 c := by
  conv => rhs; rw [← split16 c, cbN_xor, cbN_16]
theorem two_halves (c x : Nat) : cbN 4 (cbN 4 (c ^^^ x)) = crcB c x := by
  unfold crcB
  rw [← cbN_add]
theorem and15 (c : Nat) (h : c < 2 ^ 32) : bits .and .u32 (c : Int) 15 = ((c % 16 : Nat) : Int) := by
  have := u32_and_nat c 15 (by omega) (by omega)
  rw [show c &&& 15 = c % 16 from Nat.and_two_pow_sub_one_eq_mod c 4] at this
  exact this
theorem half_int (c : Nat) (h : c < 2 ^ 32) : bits .xor .u32 ((c : Int) / 16) ((cbN 4 (c % 16) : Nat) : Int) = ((cbN 4 c : Nat) : Int) := by
  have h1 : cbN 4 (c % 16) < 2 ^ 32 := cbN_lt (by omega)
  have := u32_xor_nat (c / 16) (cbN 4 (c % 16)) (by omega) (by omega)
  rw [half] at this
  rw [← this]
  simp
theorem not_nat (c : Nat) (h : c < 2 ^ 32) : 4294967295 ^^^ c = 4294967295 - c := by
  apply Nat.eq_of_testBit_eq
  intro i
  rw [Nat.testBit_xor, show 4294967295 - c = 2 ^ 32 - (c + 1) by omega, Nat.testBit_two_pow_sub_succ h, show (4294967295 : Nat) = 2 ^ 32 - 1 by decide, Nat.testBit_two_pow_sub_one]
  by_cases hi : i < 32
  · simp [hi]
  · have : c.testBit i = false := Nat.testBit_lt_two_pow (Nat.lt_of_lt_of_le h (Nat.pow_le_pow_right (by omega) (by omega)))
    simp [hi, this]
/-- 'every bit is turned'. -/
theorem not_int (c : Nat) (h : c < 2 ^ 32) : ((4294967295 ^^^ c : Nat) : Int) = 4294967295 - (c : Int) := by
  rw [not_nat c h]
  omega

def tabV : List Value := (List.range 16).map fun k => Value.int .u32 ((cbN 4 k : Nat) : Int)
/-- The table lies as the text lays it; its block lies below B. -/
def Laid (w : World) (B : Nat) : Prop := Rd w B (some ⟨0, 0, none⟩) tabV
theorem Laid.at {w : World} {B : Nat} (h : Laid w B) (k : Nat) (hk : k < 16) : w.cell? ⟨0, k, none⟩ = some (.int .u32 ((cbN 4 k : Nat) : Int)) := by
  obtain ⟨b, off, e, _, hc⟩ := h (by decide)
  injection e with e; injection e with e1 e2 _
  subst e1 e2
  have := hc k (.int .u32 ((cbN 4 k : Nat) : Int)) (by simp [tabV, hk])
  rwa [Nat.zero_add] at this

theorem gTab : Tryz.prog.globalNamed "garner/frame.halves" = some 0 := by kernel_rfl
theorem gTabType : (Tryz.prog.globals[0]?).map (·.type) = some 120 := by kernel_rfl
theorem cellsT : Tryz.prog.cellsOf 120 = 16 := by kernel_rfl
theorem cellsE : Tryz.prog.cellsOf 110 = 1 := by kernel_rfl
def tabZ : List Int := [0, 498536548, 997073096, 651767980, 1994146192, 1802195444, 1303535960, 1342533948, 3988292384, 4027552580, 3604390888, 3412177804, 2607071920, 2262029012, 2685067896, 3183342108]
theorem tabZ_at : ∀ k : Fin 16, tabZ.getD k.val 0 = ((cbN 4 k.val : Nat) : Int) := by decide +kernel
theorem of_laid {W : World} (h : laidMetH Tryz.prog [("garner/frame.halves", Rows.laid_garner_frame_halves)] W) : Laid W W.heap.size := by
  have ht : Lib.TabIs Tryz.prog W "garner/frame.halves" .u32 tabZ := Lib.tabIs_of_head (rest := []) gTab gTabType Tryz.underlying120 Tryz.underlying110 cellsE cellsT h
  have hc : ∀ k : Nat, k < 16 → W.cell? ⟨0, k, none⟩ = some (.int .u32 ((cbN 4 k : Nat) : Int)) := fun k hk => by
    rw [ht.cell gTab k hk]
    exact congrArg (fun z => some (Value.int .u32 z)) (tabZ_at ⟨k, hk⟩)
  intro _
  refine ⟨0, 0, rfl, World.block_lt_of_cell? W _ (hc 0 (by omega)), fun j u hu => ?_⟩
  have hj : j < 16 := by
    have := (List.getElem?_eq_some_iff.1 hu).1
    simpa [tabV] using this
  rw [Nat.zero_add, hc j hj]
  simpa [tabV, hj] using hu

end Go.Proofs.YtjninegpaoblfaaGreatDoor.Tab

