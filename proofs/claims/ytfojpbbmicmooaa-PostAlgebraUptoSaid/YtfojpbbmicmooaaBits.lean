/- The contract of pack.readBits: the number that stands in so many bits of a row of bytes; memory is only read. Conditions: the bits lie within the bytes; at most 64 of them; the slice's length is at most the model's greatest length. -/
import Derived.Test.YtfojpbbmicmooaaLay
namespace Go.Proofs.Ytfojpbbmicmooaa.Bits
open Go Go.RowKit Words PkPlain PkSpec PkLay PRise Lay

/-- The bits of a byte, read behind others. -/
theorem byte_bits {M s j low : Nat} (hj : s / 8 = j) (hl : s % 8 = low) : M / 256 ^ j % 256 / 2 ^ low = M / 2 ^ s % 2 ^ (8 - low) := by
  have e : 2 ^ s = 256 ^ j * 2 ^ low := by
    rw [show (256 : Nat) = 2 ^ 8 from rfl, ← Nat.pow_mul, ← Nat.pow_add]
    congr 1
    omega
  have e8 : 256 = 2 ^ low * 2 ^ (8 - low) := by rw [← Nat.pow_add, show low + (8 - low) = 8 by omega]
  rw [e, ← Nat.div_div_eq_div_mul]
  conv => lhs; rw [e8]
  rw [Nat.mod_mul_right_div_self, ← e8]
theorem read_or {K g d : Nat} (hg : g < 64) : (K % 2 ^ g % 2 ^ 64) ||| ((K / 2 ^ g % 2 ^ d) * 2 ^ g % 18446744073709551616) = K % 2 ^ (g + d) % 2 ^ 64 := by
  have h1 : K % 2 ^ g % 2 ^ 64 = K % 2 ^ g := Nat.mod_eq_of_lt (Nat.lt_of_lt_of_le (Nat.mod_lt _ (Nat.two_pow_pos _)) (Nat.pow_le_pow_right (by omega) (by omega)))
  have e64 : (18446744073709551616 : Nat) = 2 ^ g * 2 ^ (64 - g) := by rw [← Nat.pow_add, show g + (64 - g) = 64 by omega]
  have e64' : (2 : Nat) ^ 64 = 2 ^ g * 2 ^ (64 - g) := e64
  rw [h1, e64, e64', Nat.mul_comm (K / 2 ^ g % 2 ^ d), Nat.mul_mod_mul_left, Nat.pow_add, Nat.mod_mul (x := K), Nat.mod_mul (x := _ + _)]
  have h2 : K % 2 ^ g < 2 ^ g := Nat.mod_lt _ (Nat.two_pow_pos _)
  rw [Nat.add_mul_mod_self_left, Nat.mod_eq_of_lt h2, Nat.add_mul_div_left _ _ (Nat.two_pow_pos g), Nat.div_eq_of_lt h2, Nat.zero_add, Nat.or_comm, Nat.add_comm]
  exact (Nat.two_pow_add_eq_or_of_lt h2 _).symm
theorem read_mask {K g w : Nat} (hg : w ≤ g) (hw : w ≤ 64) : (K % 2 ^ g % 2 ^ 64) &&& (2 ^ w - 1) = K % 2 ^ w := by
  rw [Nat.and_two_pow_sub_one_eq_mod, Nat.mod_mod_of_dvd _ (Nat.pow_dvd_pow 2 hw), Nat.mod_mod_of_dvd _ (Nat.pow_dvd_pow 2 hg)]

theorem or_val {n x low g : Nat} (hn : n < 18446744073709551616) (hx : x < 256) : bits .or .u64 (n : Int) (IntKind.u64.wrap (IntKind.u64.wrap ((x : Int) / 2 ^ low) * 2 ^ g)) = ((n ||| (x / 2 ^ low * 2 ^ g % 18446744073709551616) : Nat) : Int) := by
  have h1 : (x : Int) / 2 ^ low = ((x / 2 ^ low : Nat) : Int) := by simp
  have h2 : x / 2 ^ low ≤ x := Nat.div_le_self _ _
  have h3 : IntKind.u64.wrap (((x / 2 ^ low : Nat)) : Int) = ((x / 2 ^ low : Nat) : Int) := by rw [IntKind.wrap_u64]; generalize x / 2 ^ low = y at *; omega
  have h4 : ((x / 2 ^ low : Nat) : Int) * 2 ^ g = ((x / 2 ^ low * 2 ^ g : Nat) : Int) := by simp
  have h5 : IntKind.u64.wrap ((x / 2 ^ low * 2 ^ g : Nat) : Int) = ((x / 2 ^ low * 2 ^ g % 18446744073709551616 : Nat) : Int) := by rw [IntKind.wrap_u64]; omega
  rw [h1, h3, h4, h5]
  exact or_u64 hn (Nat.mod_lt _ (by omega))
theorem mask_val {n W : Nat} (hn : n < 18446744073709551616) (hW : W ≤ 64) : bits .and .u64 (n : Int) (IntKind.u64.wrap (IntKind.u64.wrap (2 ^ W) - 1)) = ((n &&& (2 ^ W - 1) : Nat) : Int) := by
  have h1 : 2 ^ W ≤ 2 ^ 64 := Nat.pow_le_pow_right (by omega) hW
  have h2 : 0 < 2 ^ W := Nat.two_pow_pos _
  have h3 : IntKind.u64.wrap (IntKind.u64.wrap (2 ^ W) - 1) = ((2 ^ W - 1 : Nat) : Int) := by
    have h4 : (2 : Int) ^ W = ((2 ^ W : Nat) : Int) := by simp
    rw [h4, IntKind.wrap_u64, IntKind.wrap_u64]
    generalize 2 ^ W = P at *
    omega
  rw [h3]
  exact bits_and_u64_nat _ _ hn (by omega)
def BRel (K W : Nat) (vn vg : Value) : Prop := ∃ g n : Nat, vg = .int .i64 (g : Int) ∧ vn = .int .u64 (n : Int) ∧ g ≤ W + 8 ∧ n < 18446744073709551616 ∧ Hid (n = K % 2 ^ g % 2 ^ 64)

set_option maxHeartbeats 1600000 in
set_option maxRecDepth 100000 in
theorem bits_any (b : List UInt8) (A : Option Addr) (c at_ W : Nat) (w : World) (B : Nat) (hr : Rd w B A (b.map B8)) (hl : b.length ≤ 1048576) (hW : W ≤ 64) (ha : at_ + W ≤ 8 * b.length) :
    Calls Try.prog 59 #[.slice A b.length c, .int .i64 (at_ : Int), .int .i64 (W : Int)] w fun e w' => e = .returned (.int .u64 ((num b / 2 ^ at_ % 2 ^ W : Nat) : Int)) ∧ w = w' := by
  have HR := Lib.hid hr
  clear hr
  have HK : Hid (∀ s j low, s / 8 = j → s % 8 = low → (h : j < b.length) → (b[j]).toNat / 2 ^ low = num b / 2 ^ s % 2 ^ (8 - low)) := fun s j low h1 h2 h => by
    rw [← num_at b j h, byte_bits h1 h2]
  generalize hR : num b / 2 ^ at_ % 2 ^ W = R at *
  have HRES := Lib.hid hR
  clear hR
  go_enter Try.func59, Try.ntmps59
  go_wp2
  go_loop [7, 8] (fun vn vg => BRel (num b / 2 ^ at_) W vn vg) (fun _ vg => W - (intOf vg).toNat)
  case atStart => exact ⟨0, 0, rfl, rfl, by omega, by omega, by show (0 : Nat) = _; simp [Nat.mod_one]⟩
  case round =>
    obtain ⟨g, n, rfl, rfl, hg, hn, hne⟩ := hrel
    by_cases hlt : g < W
    · obtain ⟨s, hs⟩ : ∃ s, at_ + g = s := ⟨_, rfl⟩
      obtain ⟨low, hlow⟩ : ∃ low, s % 8 = low := ⟨_, rfl⟩
      obtain ⟨j, hj⟩ : ∃ j, s / 8 = j := ⟨_, rfl⟩
      have hjL : j < b.length := by omega
      have hl8 : low < 8 := by omega
      obtain ⟨bb, off, rfl, _, hc⟩ := HR.out (by simp; omega)
      have k1 := cell8 hc hjL
      have hx := b[j].toNat_lt
      have hbit := HK.out s j low hj hlow hjL
      rw [← hs, Nat.pow_add, ← Nat.div_div_eq_div_mul] at hbit
      have hor := read_or (K := num b / 2 ^ at_) (g := g) (d := 8 - low) (by omega)
      rw [← hbit, ← hne.out] at hor
      generalize b[j].toNat = x at *
      clear hc hbit
      have hv := or_val (low := low) (g := g) hn hx
      rw [hor] at hv
      have HV := Lib.hid hv
      have hl1 : (at_ : Int) + (g : Int) = (s : Int) := by omega
      have hl2 : (s : Int) % 8 = (low : Int) := by omega
      have hres : num b / 2 ^ at_ % 2 ^ (g + (8 - low)) % 2 ^ 64 < 18446744073709551616 := Nat.mod_lt _ (by omega)
      clear hor hv
      go_wp2
      go_round
      case rel => exact ⟨g + (8 - low), _, by congr 1; omega, by rw [HV.out], by omega, hres, rfl⟩
      case measure => simp [intOf]; omega
    · have hv := mask_val hn hW
      rw [hne.out, read_mask (by omega) hW, HRES.out, ← hne.out] at hv
      clear hne
      go_wp2
      go_ret
      exact ⟨rfl, rfl⟩
end Go.Proofs.Ytfojpbbmicmooaa.Bits
