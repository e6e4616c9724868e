/- The contract of the document's own Sum: for all bytes it answers the checksum and leaves the world as it is. And of its four bytes. Conditions: the slice's length is at most its capacity, the capacity at most the model's greatest length. -/
import Derived.Test.YtajphomdbdgmbaaDoorSum
namespace Go.Proofs.YtajphomdbdgmbaaDoor.RefSum
open Go Go.RowKit Words Crc Tab Summ

def OuterR (l : List UInt8) (c i : Value) : Prop := ∃ k : Nat, k ≤ l.length ∧ i = .int .i64 k ∧ c = .int .u32 ((crcL 4294967295 (l.take k) : Nat) : Int)
def InnerR (D : Nat) (c i : Value) : Prop := ∃ j e : Nat, j ≤ 8 ∧ i = .int .i64 j ∧ c = .int .u32 (e : Int) ∧ e < 2 ^ 32 ∧ Hid (cbN (8 - j) e = D)

theorem cbN_step {j e : Nat} (h : j < 8) : cbN (8 - j) e = cbN (8 - (j + 1)) (cb e) := by
  rw [show 8 - j = (8 - (j + 1)) + 1 by omega]
  rfl

set_option maxHeartbeats 800000 in
set_option maxRecDepth 100000 in
theorem refsum_any (l : List UInt8) (A : Option Addr) (c : Nat) (w : World) (B : Nat) (hr : Rd w B A (l.map B8)) (hc : l.length ≤ c) (hm : c ≤ maxLen) :
    Calls Tryd.prog 10 #[.slice A l.length c] w fun e w' => e = .returned (.int .u32 ((sum l : Nat) : Int)) ∧ w = w' := by
  unfold maxLen at hm
  have HR := Lib.hid hr
  clear hr
  go_enter Tryd.func10, Tryd.ntmps10
  go_wp2
  go_loop [3, 4] (fun c i => OuterR l c i) (fun _ i => l.length - (intOf i).toNat)
  case atStart => exact ⟨0, by omega, rfl, rfl⟩
  case round =>
    obtain ⟨k, hk, rfl, rfl⟩ := hrel
    have hc0 := crcL_lt (l.take k) F_lt
    by_cases hlt : k < l.length
    · obtain ⟨b, off, rfl, _, hcell⟩ := HR.out (by simp; omega)
      have hcx := cell8 hcell hlt
      have hsn := crcL_snoc (c := 4294967295) hlt
      have hx := l[k].toNat_lt
      unfold crcB at hsn
      generalize crcL 4294967295 (l.take k) = c0 at *
      generalize l[k].toNat = x at *
      have h1 := u32_xor_nat c0 x (by omega) (by omega)
      have hd1 : c0 ^^^ x < 2 ^ 32 := Nat.xor_lt_two_pow hc0 (by omega)
      generalize c0 ^^^ x = d1 at *
      have HS := Lib.hid hsn
      clear hsn hcell
      go_wp2
      go_loop [3, 5] (fun c i => InnerR (cbN 8 d1) c i) (fun _ i => 8 - (intOf i).toNat)
      case atStart => exact ⟨0, d1, by omega, rfl, rfl, hd1, rfl⟩
      case round =>
        obtain ⟨j, e, hj, rfl, rfl, he, hs⟩ := hrel
        by_cases hltj : j < 8
        · have hst := cbN_step (e := e) hltj
          have he1 := cb_lt he
          unfold cb at hst he1
          by_cases ho : e % 2 = 1
          · rw [if_pos ho] at hst he1
            have h2 := u32_xor_nat (e / 2) poly (by omega) (by decide)
            rw [show ((poly : Nat) : Int) = 3988292384 from rfl, Int.natCast_ediv, show ((2 : Nat) : Int) = 2 from rfl] at h2
            generalize e / 2 ^^^ poly = e1 at *
            have HT := Lib.hid hst
            clear hst
            have hb : ((e : Int) % 2 == 1) = true := by simp; omega
            go_wp2
            go_round
            case rel => exact ⟨j + 1, e1, by omega, by go_num, rfl, he1, HT.out.symm.trans hs.out⟩
            case measure => simp [intOf]; omega
          · rw [if_neg ho] at hst he1
            have HT := Lib.hid hst
            clear hst
            have hb : ((e : Int) % 2 == 1) = false := beq_eq_false_iff_ne.2 (by omega)
            go_wp2
            go_round
            case rel => exact ⟨j + 1, e / 2, by omega, by go_num, by rw [Int.natCast_ediv]; rfl, he1, HT.out.symm.trans hs.out⟩
            case measure => simp [intOf]; omega
        · obtain rfl : j = 8 := by omega
          have hs' : e = cbN 8 d1 := hs.out
          go_wp2
          go_round
          case rel => exact ⟨k + 1, by omega, by go_num, by rw [HS.out, hs']⟩
          case measure => simp [intOf]; omega
    · obtain rfl : k = l.length := by omega
      rw [List.take_length]
      rw [List.take_length] at hc0
      have hn := not_int _ hc0
      have hn1 := crcL_lt l F_lt
      go_wp2
      go_ret
      exact ⟨congrArg (fun z => Ending.returned (Value.int .u32 z)) hn.symm, rfl⟩

/-- A checksum's four bytes. -/
def four (s : Nat) : List UInt8 := [(s % 256).toUInt8, (s / 256 % 256).toUInt8, (s / 65536 % 256).toUInt8, (s / 16777216).toUInt8]
theorem four_map (s : Nat) (hs : s < 2 ^ 32) : (four s).map B8 = [.int .u8 ((s : Int) % 256), .int .u8 ((s : Int) / 256 % 256), .int .u8 ((s : Int) / 65536 % 256), .int .u8 ((s : Int) / 16777216)] := by
  simp only [four, List.map_cons, List.map_nil, B8]
  congr 1
  · congr 1; simp
  congr 1
  · congr 1; simp
  congr 1
  · congr 1; simp
  congr 1
  congr 1
  simp
  omega
theorem four_length (s : Nat) : (four s).length = 4 := rfl

set_option maxHeartbeats 800000 in
set_option maxRecDepth 100000 in
theorem four_any (s : Nat) (w : World) (hs : s < 2 ^ 32) :
    Calls Tryd.prog 18 #[.int .u32 (s : Int)] w fun e w' => ∃ A, e = .returned (.slice A 4 4) ∧ Rd w' w'.heap.size A ((four s).map B8) ∧ Below w.heap.size w w' := by
  go_enter Tryd.func18, Tryd.ntmps18
  go_wp2
  go_ret
  have hm := Rd.made w #[.int .u8 ((s : Int) % 256), .int .u8 ((s : Int) / 256 % 256), .int .u8 ((s : Int) / 65536 % 256), .int .u8 ((s : Int) / 16777216)] 5
  rw [show (#[Value.int .u8 ((s : Int) % 256), .int .u8 ((s : Int) / 256 % 256), .int .u8 ((s : Int) / 65536 % 256), .int .u8 ((s : Int) / 16777216)] : Array Value).toList = (four s).map B8 from (four_map s hs).symm] at hm
  exact ⟨_, rfl, hm.more (by simp), (Below.refl _ _).alloc (Nat.le_refl _) _⟩
end Go.Proofs.YtajphomdbdgmbaaDoor.RefSum
