/- The contracts of the document's Hash, Place and Has. Conditions: what the walks need of lengths. -/
import Derived.Test.YteaafkadjglnhaaBlSpec
import Derived.Deep.QuietTactic
import Derived.BigQuiet
import Derived.BigCall
import Derived.LoopTactic
import Derived.Lib.Hide
namespace Go.Proofs.Yteaafkadjglnhaa.BlRef
open Go Go.RowKit Words Less BlSpec

def HRel (s : List UInt8) (vh vi : Value) : Prop := ∃ k : Nat, k ≤ s.length ∧ vi = .int .i64 (k : Int) ∧ vh = .int .u64 ((fnv (s.take k) : Nat) : Int)

set_option maxHeartbeats 1600000 in
set_option maxRecDepth 100000 in
theorem refHash_any (s : List UInt8) (w : World) (hl : s.length ≤ maxLen) :
    Calls Try.prog 13 #[.string ⟨s.toArray⟩] w fun e w' => e = .returned (.int .u64 ((fnv s : Nat) : Int)) ∧ w = w' := by
  unfold maxLen at hl
  go_enter Try.func13, Try.ntmps13
  go_wp2
  go_loop [3, 4] (fun h i => HRel s h i) (fun _ i => s.length - (intOf i).toNat)
  case atStart => exact ⟨0, Nat.zero_le _, rfl, rfl⟩
  case round =>
    obtain ⟨k, hk, rfl, rfl⟩ := hrel
    have h0 := fnv_lt (s.take k)
    by_cases hlt : k < s.length
    · have hsn := fnv_snoc s hlt
      have hx := s[k].toNat_lt
      generalize fnv (s.take k) = h at *
      generalize he : s[k].toNat = x at *
      have h1 := u64_xor_nat h x h0 (by omega)
      have h2 : h ^^^ x < 2 ^ 64 := Nat.xor_lt_two_pow (by omega) (by omega)
      have HSN := Lib.hid hsn
      clear hsn
      unfold hstep at HSN
      generalize h ^^^ x = d at *
      go_wp2
      refine ⟨⟨k + 1, by omega, by go_num, ?_⟩, by simp [intOf]; omega⟩
      have he' : ((⟨s.toArray⟩ : ByteArray)[k]'hlt).toNat = x := he
      have hw : IntKind.u64.wrap (x : Int) = (x : Int) := IntWalk.u64_in _ ⟨by omega, by omega⟩
      rw [he', hw, h1, HSN.out]
      rw [IntKind.wrap_u64, Int.natCast_emod, Int.natCast_mul]
      rfl
    · obtain rfl : k = s.length := by omega
      go_wp2
      go_ret
      exact ⟨rfl, rfl⟩

theorem place_val {h k m : Nat} {b : Int} (hk : k < 3) (h0 : h < 18446744073709551616) (hb : b = ((low h : Nat) : Int)) :
    (IntKind.u64.wrap ((h : Int) / 4294967296 + IntKind.u64.wrap ((k : Int) * b))).tmod (m : Int) = (((h / 4294967296 + k * low h) % m : Nat) : Int) := by
  subst hb
  have hl := low_lt h
  generalize low h = l at *
  have h1 : k * l ≤ 2 * 4294967296 := Nat.mul_le_mul (by omega) (by omega)
  have e1 : (k : Int) * (l : Int) = ((k * l : Nat) : Int) := (Int.natCast_mul k l).symm
  rw [e1]
  generalize k * l = q at *
  rw [IntWalk.u64_in (q : Int) ⟨by omega, by omega⟩, IntWalk.u64_in ((h : Int) / 4294967296 + (q : Int)) ⟨by omega, by omega⟩]
  have e2 : (h : Int) / 4294967296 + (q : Int) = ((h / 4294967296 + q : Nat) : Int) := by omega
  rw [e2, ← Int.ofNat_tmod]
set_option maxHeartbeats 1600000 in
set_option maxRecDepth 100000 in
theorem refPlace_any (s : List UInt8) (k m : Nat) (w : World) (hl : s.length ≤ maxLen) (hk : k < 3) (hm0 : 0 < m) (hm : m < 2 ^ 62) :
    Calls Try.prog 20 #[.string ⟨s.toArray⟩, .int .u64 (k : Int), .int .u64 (m : Int)] w fun e w' => e = .returned (.int .u64 ((place s k m : Nat) : Int)) ∧ w = w' := by
  have CH := refHash_any s w hl
  have h0 := fnv_lt s
  have HPL : Hid (∀ b : Int, b = ((low (fnv s) : Nat) : Int) → (IntKind.u64.wrap ((fnv s : Int) / 4294967296 + IntKind.u64.wrap ((k : Int) * b))).tmod (m : Int) = ((place s k m : Nat) : Int)) := fun b hb => place_val hk h0 hb
  generalize place s k m = p at *
  generalize fnv s = h at *
  go_enter Try.func20, Try.ntmps20
  go_wp2_with fail
  refine CH.mono ?_
  rintro e w' ⟨rfl, rfl⟩
  by_cases hb : h % 4294967296 % 2 = 0
  · go_wp2_with fail
    go_ret
    refine ⟨?_, rfl⟩
    have h1 := HPL.out ((h : Int) % 4294967296 + 1) (by unfold low; rw [if_pos hb]; omega)
    rw [← h1]
    rfl
  · go_wp2_with fail
    go_ret
    refine ⟨?_, rfl⟩
    have h1 := HPL.out ((h : Int) % 4294967296) (by unfold low; rw [if_neg hb]; omega)
    rw [← h1]
    rfl

def FRel (f s : List UInt8) (w : World) (vk : Value) (wr : World) : Prop := ∃ k : Nat, k ≤ 3 ∧ vk = .int .u64 (k : Int) ∧ Hid (hasK f s k = true) ∧ wr = w
theorem cell_bit (x d : Nat) : ((x : Int) / 2 ^ d).tmod 2 = ((x / 2 ^ d % 2 : Nat) : Int) := by
  rw [show (x : Int) / 2 ^ d = ((x / 2 ^ d : Nat) : Int) by push_cast; rfl]
  exact Int.ofNat_tmod _ 2
theorem hasK_not {f s : List UInt8} {k : Nat} (hk : k ≤ 3) (h : hasK f s k = false) : hasK f s 3 = false := by
  rw [Bool.eq_false_iff] at h ⊢
  intro h3
  exact h ((hasK_iff f s k).2 fun j hj => (hasK_iff f s 3).1 h3 j (by omega))
theorem bit_val (f : List UInt8) (p : Nat) : bit f p = decide ((f[p / 8]?.getD 0).toNat / 2 ^ (p % 8) % 2 = 1) := Nat.testBit_eq_decide_div_mod_eq
set_option maxHeartbeats 1600000 in
set_option maxRecDepth 100000 in
theorem refHas_any (f s : List UInt8) (w : World) (A : Option Addr) (c B : Nat) (h1 : Rd w B A (f.map B8)) (hm : f.length ≤ c) (hc : c ≤ maxLen) (hf : f.length ≤ 2 ^ 56) (hl : s.length ≤ maxLen) :
    Calls Try.prog 11 #[.slice A f.length c, .string ⟨s.toArray⟩] w fun e w' => e = .returned (.bool (has f s)) ∧ w = w' := by
  have H1 := Lib.hid h1
  have CP : Hid (∀ k : Nat, k < 3 → 0 < f.length → Calls Try.prog 20 #[.string ⟨s.toArray⟩, .int .u64 (k : Int), .int .u64 (8 * (f.length : Int))] w fun e w' => e = .returned (.int .u64 ((place s k (8 * f.length) : Nat) : Int)) ∧ w = w') := fun k hk h0 => by
    have h := refPlace_any s k (8 * f.length) w hl hk (by omega) (by omega)
    rwa [show ((8 * f.length : Nat) : Int) = 8 * (f.length : Int) by omega] at h
  unfold maxLen at hc hl
  clear h1
  go_enter Try.func11, Try.ntmps11
  go_wp2
  go_loop [5] (fun k => ∃ n : Nat, n ≤ 3 ∧ k = .int .u64 (n : Int) ∧ Hid (hasK f s n = true)) (fun k => 3 - (intOf k).toNat)
  case atStart => exact ⟨0, by omega, rfl, Lib.hid rfl⟩
  case round =>
    obtain ⟨k, hk, rfl, HK⟩ := hrel
    by_cases hlt : k < 3 ∧ 0 < f.length
    · obtain ⟨hk3, hf0⟩ := hlt
      have CK := Lib.hid (CP.out k hk3 hf0)
      have hkk : hasK f s (k + 1) = (hasK f s k && bit f (place s k (8 * f.length))) := rfl
      rw [HK.out, Bool.true_and, bit_val] at hkk
      have hp : place s k (8 * f.length) < 8 * f.length := Nat.mod_lt _ (by omega)
      have HKK := Lib.hid hkk
      clear CP hkk
      generalize place s k (8 * f.length) = p at *
      obtain ⟨b, off, rfl, _, hcell⟩ := H1.out (by simp; omega)
      have hcx := cell8 hcell (k := p / 8) (by omega)
      have hx := (f[p / 8]'(by omega)).toNat_lt
      have hg : (f[p / 8]?.getD 0).toNat = (f[p / 8]'(by omega)).toNat := by rw [List.getElem?_eq_getElem (by omega)]; rfl
      rw [hg] at HKK
      generalize (f[p / 8]'(by omega)).toNat = x at *
      clear hcell hg
      go_wp2_with fail
      refine CK.out.mono ?_
      rintro e w' ⟨rfl, rfl⟩
      clear CK
      have ev : ((x : Int) / 2 ^ (p % 8)).tmod 2 = ((x / 2 ^ (p % 8) % 2 : Nat) : Int) := cell_bit x (p % 8)
      by_cases ht : x / 2 ^ (p % 8) % 2 = 1
      · have hb : (((x : Int) / 2 ^ (p % 8)).tmod 2 == 0) = false := by rw [ev, ht]; rfl
        rw [decide_eq_true ht] at HKK
        clear ev
        go_wp2_with fail
        exact ⟨⟨k + 1, by omega, by go_num, HKK⟩, by simp only [intOf]; omega⟩
      · have hb : (((x : Int) / 2 ^ (p % 8)).tmod 2 == 0) = true := by rw [ev, show x / 2 ^ (p % 8) % 2 = 0 by omega]; rfl
        rw [decide_eq_false ht] at HKK
        clear ev
        go_wp2_with fail
        go_ret
        refine ⟨?_, rfl⟩
        rw [has, hasK_not (k := k + 1) (by omega) HKK.out, Bool.and_false]
        rfl
    · have hb : (decide (k < 3) && decide (0 < f.length)) = false := by simpa using hlt
      by_cases h0 : 0 < f.length
      · obtain rfl : k = 3 := by omega
        have HH : Hid (has f s = true) := by show _ = _; rw [has, HK.out, decide_eq_true h0]; rfl
        clear hb
        go_wp2_with fail
        go_ret
        exact ⟨by rw [HH.out]; rfl, rfl⟩
      · obtain rfl : f = [] := List.length_eq_zero_iff.1 (by omega)
        clear hb
        by_cases hk3 : k < 3
        · go_wp2_with fail
          go_ret
          exact ⟨by rw [has_nil]; rfl, rfl⟩
        · go_wp2_with fail
          go_ret
          exact ⟨by rw [has_nil]; rfl, rfl⟩
end Go.Proofs.Yteaafkadjglnhaa.BlRef
