/- The contracts of the program's Hash, size, places and Has. Conditions: what the walks need of lengths. -/
import Derived.Test.YteaafkadjglnhaaBlRef
import Derived.BigRegion
import Derived.OneCell
import Derived.CellFam
namespace Go.Proofs.Yteaafkadjglnhaa.BlPlace
open Go Go.RowKit Words Less BlSpec BlRef

set_option maxHeartbeats 1600000 in
set_option maxRecDepth 100000 in
theorem hash_any (s : List UInt8) (w : World) (hl : s.length ≤ maxLen) :
    Calls Try.prog 12 #[.string ⟨s.toArray⟩] w fun e w' => e = .returned (.int .u64 ((fnv s : Nat) : Int)) ∧ w = w' := by
  unfold maxLen at hl
  go_enter Try.func12, Try.ntmps12
  go_wp2
  go_loop [3, 7] (fun h i => HRel s h i) (fun _ i => s.length - (intOf i).toNat)
  case atStart => exact ⟨0, Nat.zero_le _, rfl, rfl⟩
  case round =>
    obtain ⟨k, hk, rfl, rfl⟩ := hrel
    have h0 := fnv_lt (s.take k)
    by_cases hlt : k < s.length
    · have hsn := fnv_snoc s hlt
      have hx := s[k].toNat_lt
      generalize fnv (s.take k) = h at *
      generalize he : s[k].toNat = x at *
      have h1 := u64_xor_nat h x h0 (by omega)
      have h2 : h ^^^ x < 2 ^ 64 := Nat.xor_lt_two_pow (by omega) (by omega)
      have HSN := Lib.hid hsn
      clear hsn
      unfold hstep at HSN
      generalize h ^^^ x = d at *
      go_wp2
      refine ⟨⟨k + 1, by omega, by go_num, ?_⟩, by simp [intOf]; omega⟩
      have he' : ((⟨s.toArray⟩ : ByteArray)[k]'hlt).toNat = x := he
      have hw : IntKind.u64.wrap (x : Int) = (x : Int) := IntWalk.u64_in _ ⟨by omega, by omega⟩
      rw [he', hw, h1, HSN.out]
      rw [IntKind.wrap_u64, Int.natCast_emod, Int.natCast_mul]
      rfl
    · obtain rfl : k = s.length := by omega
      go_wp2
      go_ret
      exact ⟨rfl, rfl⟩

set_option maxHeartbeats 1600000 in
theorem size_any (n : Nat) (w : World) (hn : n ≤ 8796093022208) :
    Calls Try.prog 17 #[.int .i64 (n : Int)] w fun e w' => e = .returned (.int .i64 ((8 * size n : Nat) : Int)) ∧ w = w' := by
  have h1 : 8 * ((size n : Nat) : Int) = ((n : Int) * 10 + 63) / 64 * 8 := by unfold size; omega
  go_enter Try.func17, Try.ntmps17
  go_wp2
  go_ret
  refine ⟨?_, rfl⟩
  have h2 : ((n : Int) * 10 + 64 - 1) / 64 * 8 = ((8 * size n : Nat) : Int) := by unfold size; omega
  rw [← h2]
  rfl

theorem low_or (h : Nat) : bits .or .u32 ((h : Int) % 4294967296) 1 = ((low h : Nat) : Int) := by
  have e : (h : Int) % 4294967296 = ((h % 4294967296 : Nat) : Int) := by omega
  rw [e, show (1 : Int) = ((1 : Nat) : Int) from rfl, u32_or_nat _ 1 (by omega) (by omega)]
  congr 1
  have h1 : h % 4294967296 ||| 1 = h % 4294967296 / 2 * 2 + 1 := by
    generalize h % 4294967296 = x
    refine Nat.eq_of_testBit_eq fun j => ?_
    rw [Nat.testBit_or]
    cases j with
    | zero => simp
    | succ j => rw [Nat.testBit_succ, Nat.testBit_succ, Nat.testBit_succ, show (x / 2 * 2 + 1) / 2 = x / 2 by omega]; simp
  rw [h1]
  unfold low
  split <;> omega
theorem place_int (s : List UInt8) (k n : Nat) : ((place s k (8 * n) : Nat) : Int) = ((fnv s : Int) / 4294967296 + (k : Int) * (low (fnv s) : Int)) % ((n : Int) * 8) := by
  unfold place
  generalize low (fnv s) = v
  generalize fnv s = u
  rw [Int.natCast_emod, Int.natCast_add, Int.natCast_mul, Int.natCast_mul, Int.natCast_ediv, Int.mul_comm ((8 : Nat) : Int)]
  rfl
theorem drew_to {w w' : World} {B : Nat} (h : Below B w w') : Below B w w'.drew := ⟨h.os, h.tape, h.output, h.size, h.block⟩
/-- The three places as one value. -/
def trio (s : List UInt8) (m : Nat) : Value := .agg #[.int .u64 ((place s 0 m : Nat) : Int), .int .u64 ((place s 1 m : Nat) : Int), .int .u64 ((place s 2 m : Nat) : Int)]
set_option maxHeartbeats 1600000 in
set_option maxRecDepth 100000 in
theorem places_any (s : List UInt8) (n c : Nat) (A : Option Addr) (w : World) (hl : s.length ≤ maxLen) (h0 : 0 < n) (hn : n ≤ 140737488355328) :
    Calls Try.prog 18 #[.string ⟨s.toArray⟩, .slice A n c] w fun e w' => e = .returned (trio s (8 * n)) ∧ Below w.heap.size w w' := by
  have CH := Lib.hid (hash_any s)
  have hf := fnv_lt s
  have hw := low_or (fnv s)
  have hlo := low_lt (fnv s)
  have HP : Hid (trio s (8 * n) = .agg #[.int .u64 ((fnv s : Int) / 4294967296 % ((n : Int) * 8)), .int .u64 (((fnv s : Int) / 4294967296 + (low (fnv s) : Int)) % ((n : Int) * 8)), .int .u64 (((fnv s : Int) / 4294967296 + 2 * (low (fnv s) : Int)) % ((n : Int) * 8))]) := by
    show _ = _
    unfold trio
    rw [place_int s 0, place_int s 1, place_int s 2]
    generalize ((fnv s : Nat) : Int) / 4294967296 = u
    generalize ((low (fnv s) : Nat) : Int) = v
    rw [show ((0 : Nat) : Int) * v = 0 from Int.zero_mul v, show ((1 : Nat) : Int) * v = v from Int.one_mul v, Int.add_zero]
    rfl
  generalize low (fnv s) = b at *
  generalize fnv s = h at *
  go_enter Try.func18, Try.ntmps18
  go_wp2_with fail
  refine (CH.out _ hl).mono ?_
  rintro e w' ⟨rfl, rfl⟩
  go_wp2_with fail
  go_region
  go_wp2
  refine bodyPost_ret (results_cell_row rfl _ _ w.heap.size 37 #[.int .u64 ((h : Int) / 4294967296 % ((n : Int) * 8)), .int .u64 (((h : Int) / 4294967296 + (b : Int)) % ((n : Int) * 8)), .int .u64 (((h : Int) / 4294967296 + 2 * (b : Int)) % ((n : Int) * 8))] _ _ rfl (heap_alloc_new w _) Try.underlying37 rfl (by kernel_rfl)) rfl ?_
  exact ⟨by rw [HP.out], drew_to ((Below.refl w.heap.size w).alloc (Nat.le_refl _) _)⟩

theorem and_one {x : Nat} (hx : x < 256) (d : Nat) : bits .and .u8 ((x : Int) / 2 ^ d) 1 = ((x / 2 ^ d % 2 : Nat) : Int) := by
  have hq : x / 2 ^ d < 256 := Nat.lt_of_le_of_lt (Nat.div_le_self _ _) hx
  rw [show (x : Int) / 2 ^ d = ((x / 2 ^ d : Nat) : Int) by push_cast; rfl]
  generalize x / 2 ^ d = q at *
  rw [show (1 : Int) = ((1 : Nat) : Int) from rfl, u8_and_nat q 1 hq (by omega), Nat.and_one_is_mod]
/-- One of an array's three numbers. -/
theorem run_trio (T : Array Value) (k : Nat) (hk : k < 3) (v : Value) (h : T[k]? = some v) (w : World) : (Instr.index 37 (.agg T) (.int .i64 (k : Int))).run Try.prog w = .ok v w := by
  have hu := run_underlying (w := w) Try.underlying37
  simp [Instr.index, hu, asIntOf, go_sem, hk, h]
/-- The three places, by number. -/
theorem trio_get (s : List UInt8) (m k : Nat) (hk : k < 3) : ∃ x : Nat, x = place s k m ∧ (#[Value.int .u64 ((place s 0 m : Nat) : Int), .int .u64 ((place s 1 m : Nat) : Int), .int .u64 ((place s 2 m : Nat) : Int)])[k]? = some (.int .u64 (x : Int)) := by
  match k, hk with
  | 0, _ => exact ⟨_, rfl, rfl⟩
  | 1, _ => exact ⟨_, rfl, rfl⟩
  | 2, _ => exact ⟨_, rfl, rfl⟩
set_option maxHeartbeats 1600000 in
set_option maxRecDepth 100000 in
theorem has_any (f s : List UInt8) (w : World) (A : Option Addr) (c : Nat) (h1 : Rd w w.heap.size A (f.map B8)) (hm : f.length ≤ c) (hc : c ≤ maxLen) (hf : f.length ≤ 140737488355328) (hl : s.length ≤ maxLen) :
    Calls Try.prog 10 #[.slice A f.length c, .string ⟨s.toArray⟩] w fun e w' => e = .returned (.bool (has f s)) ∧ Below w.heap.size w w' := by
  have H1 := Lib.hid h1
  have CP := Lib.hid (places_any s f.length c A)
  unfold maxLen at hc
  clear h1
  by_cases h0 : 0 < f.length
  · obtain ⟨T, hT⟩ : ∃ T, #[Value.int .u64 ((place s 0 (8 * f.length) : Nat) : Int), .int .u64 ((place s 1 (8 * f.length) : Nat) : Int), .int .u64 ((place s 2 (8 * f.length) : Nat) : Int)] = T := ⟨_, rfl⟩
    have hTs : T.size = 3 := by rw [← hT]; rfl
    have HT : Hid (∀ k : Nat, k < 3 → T[k]? = some (.int .u64 ((place s k (8 * f.length) : Nat) : Int))) := Lib.hid fun k hk => by
      obtain ⟨x, hx, h⟩ := trio_get s (8 * f.length) k hk
      rw [← hT, h, hx]
    have CP2 : Hid (Calls Try.prog 18 #[.string ⟨s.toArray⟩, .slice A f.length c] w fun e w' => e = .returned (.agg T) ∧ Below w.heap.size w w') := by
      have h := CP.out w hl h0 hf
      rw [trio, hT] at h
      exact h
    clear CP hT
    go_enter Try.func10, Try.ntmps10
    go_wp2_with fail
    refine CP2.out.mono ?_
    rintro e w1 ⟨rfl, hb⟩
    have HB := Lib.hid hb
    clear CP2 hb
    go_wp2
    go_loop [13] (fun k => ∃ n : Nat, n ≤ 3 ∧ k = .int .i64 (n : Int) ∧ Hid (hasK f s n = true)) (fun k => 3 - (intOf k).toNat)
    case atStart => exact ⟨0, by omega, rfl, Lib.hid rfl⟩
    case round =>
      obtain ⟨k, hk, rfl, HK⟩ := hrel
      by_cases hk3 : k < 3
      · have ht := HT.out k hk3
        have hkk : hasK f s (k + 1) = (hasK f s k && bit f (place s k (8 * f.length))) := rfl
        rw [HK.out, Bool.true_and, bit_val] at hkk
        have hp : place s k (8 * f.length) < 8 * f.length := Nat.mod_lt _ (by omega)
        have HKK := Lib.hid hkk
        clear hkk HT
        generalize place s k (8 * f.length) = p at *
        obtain ⟨b, off, rfl, hbb, hcell⟩ := H1.out (by simp; omega)
        have hcx : w1.cell? ⟨b, off + p / 8, none⟩ = some (.int .u8 (((f[p / 8]'(by omega)).toNat : Nat) : Int)) := (HB.out.cell (p := ⟨b, off + p / 8, none⟩) hbb).trans (cell8 hcell (k := p / 8) (by omega))
        have hx := (f[p / 8]'(by omega)).toNat_lt
        have hg : (f[p / 8]?.getD 0).toNat = (f[p / 8]'(by omega)).toNat := by rw [List.getElem?_eq_getElem (by omega)]; rfl
        rw [hg] at HKK
        generalize (f[p / 8]'(by omega)).toNat = x at *
        clear hcell hg
        have hix : ∀ w, (Instr.index 37 (.agg T) (.int .i64 (k : Int))).run Try.prog w = .ok (.int .u64 (p : Int)) w := run_trio T k hk3 _ ht
        clear ht hTs
        have ev : bits .and .u8 ((x : Int) / 2 ^ (p % 8)) 1 = ((x / 2 ^ (p % 8) % 2 : Nat) : Int) := and_one (by omega) (p % 8)
        by_cases ht : x / 2 ^ (p % 8) % 2 = 1
        · rw [decide_eq_true ht] at HKK
          rw [ht] at ev
          go_wp2_with fail
          exact ⟨⟨k + 1, by omega, by go_num, HKK⟩, by simp only [intOf]; omega⟩
        · rw [decide_eq_false ht] at HKK
          rw [show x / 2 ^ (p % 8) % 2 = 0 by omega] at ev
          go_wp2_with fail
          go_ret
          refine ⟨?_, HB.out⟩
          rw [has, hasK_not (k := k + 1) (by omega) HKK.out, Bool.and_false]
          rfl
      · obtain rfl : k = 3 := by omega
        have HH : Hid (has f s = true) := by show _ = _; rw [has, HK.out, decide_eq_true h0]; rfl
        go_wp2_with fail
        go_ret
        exact ⟨by rw [HH.out]; rfl, HB.out⟩
  · obtain rfl : f = [] := List.length_eq_zero_iff.1 (by omega)
    clear h0
    go_enter Try.func10, Try.ntmps10
    go_wp2_with fail
    go_ret
    exact ⟨by rw [has_nil]; rfl, Below.refl _ _⟩
end Go.Proofs.Yteaafkadjglnhaa.BlPlace
