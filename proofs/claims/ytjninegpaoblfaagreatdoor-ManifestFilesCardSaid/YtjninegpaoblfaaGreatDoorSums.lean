/- The contract of frame.Sum: for all lists of parts it answers the checksum of all parts, one behind the other, and leaves the world as it is. Conditions: the table lies as the program's text lays it; lengths are at most capacities, these at most the model's greatest length. · The contract of the document's own Sum: for all bytes it answers the checksum and leaves the world as it is. And of its four bytes. Conditions: the slice's length is at most its capacity, the capacity at most the model's greatest length. · The contract of frame's own sumBytes: new memory that holds the checksum's four bytes, the lowest first; nothing that was there has changed. Conditions: those of Sum. -/
import Derived.Test.YtjninegpaoblfaaGreatDoorCrcTab
import Derived.WalkKit
import Derived.LoopTactic
import Derived.Lib.Hide
import Derived.Outline
namespace Go.Proofs.YtjninegpaoblfaaGreatDoor.Summ
open Go Go.RowKit Words Crc Tab

/-- A part: where it lies, its capacity, its bytes. -/
structure Part where
  A : Option Addr
  c : Nat
  l : List UInt8
def SV (p : Part) : Value := .slice p.A p.l.length p.c
def Good (w : World) (B : Nat) (p : Part) : Prop := Rd w B p.A (p.l.map B8) ∧ p.l.length ≤ p.c ∧ p.c ≤ maxLen
def all (ps : List Part) : List UInt8 := ps.flatMap (·.l)
theorem all_snoc {ps : List Part} {k : Nat} (h : k < ps.length) : all (ps.take (k + 1)) = all (ps.take k) ++ ps[k].l := by
  rw [List.take_succ_eq_append_getElem h, all, List.flatMap_append]
  simp [all]
theorem crcL_snoc {c : Nat} {l : List UInt8} {k : Nat} (h : k < l.length) : crcL c (l.take (k + 1)) = crcB (crcL c (l.take k)) l[k].toNat := by
  rw [List.take_succ_eq_append_getElem h, crcL_append]
  rfl
theorem max_xor (c : Nat) (h : c < 2 ^ 32) : bits .xor .u32 IntKind.u32.max (c : Int) = ((4294967295 ^^^ c : Nat) : Int) := by
  have := u32_xor_nat 4294967295 c (by omega) (by omega)
  rw [← this]
  rfl
theorem F_lt : 4294967295 < 2 ^ 32 := by decide

def Outer (ps : List Part) (c i : Value) : Prop := ∃ k : Nat, k ≤ ps.length ∧ i = .int .i64 k ∧ c = .int .u32 ((crcL 4294967295 (all (ps.take k)) : Nat) : Int)
def Inner (c0 : Nat) (l : List UInt8) (c i : Value) : Prop := ∃ j : Nat, j ≤ l.length ∧ i = .int .i64 j ∧ c = .int .u32 ((crcL c0 (l.take j) : Nat) : Int)

set_option maxHeartbeats 800000 in
set_option maxRecDepth 100000 in
theorem sum_any (ps : List Part) (A : Option Addr) (c : Nat) (w : World) (B B' : Nat) (hr : Rd w B A (ps.map SV)) (hp : ∀ p ∈ ps, Good w B p) (hc : ps.length ≤ c) (hm : c ≤ maxLen) (hL : Laid w B') :
    Calls Tryz.prog 83 #[.slice A ps.length c] w fun e w' => e = .returned (.int .u32 ((sum (all ps) : Nat) : Int)) ∧ w = w' := by
  unfold maxLen at hm
  have HR := Lib.hid hr
  have HP := Lib.hid hp
  have HL := Lib.hid hL
  clear hr hp hL
  go_enter Tryz.func83, Tryz.ntmps83
  go_wp2
  go_loop [3, 10] (fun c i => Outer ps c i) (fun _ i => ps.length - (intOf i).toNat)
  case atStart => exact ⟨0, by omega, rfl, rfl⟩
  case round =>
    obtain ⟨k, hk, rfl, rfl⟩ := hrel
    have hc0 := crcL_lt (all (ps.take k)) F_lt
    by_cases hlt : k < ps.length
    · obtain ⟨b, off, rfl, _, hcell⟩ := HR.out (by simp; omega)
      have hcx : w.cell? ⟨b, off + k, none⟩ = some (SV ps[k]) := hcell k _ (by simp [hlt])
      obtain ⟨hg1, hg2, hg3⟩ := HP.out ps[k] (List.getElem_mem hlt)
      have hsn := congrArg (crcL 4294967295) (all_snoc hlt)
      rw [crcL_append] at hsn
      generalize crcL 4294967295 (all (ps.take k)) = c0 at *
      generalize ps[k] = p at *
      obtain ⟨pA, pc, l⟩ := p
      unfold SV at hcx
      simp only at hcx hg1 hg2 hg3 hsn
      unfold maxLen at hg3
      have HG := Lib.hid hg1
      have HS := Lib.hid hsn
      clear hcell hg1 hsn
      go_wp2
      go_loop [3, 16] (fun c i => Inner c0 l c i) (fun _ i => l.length - (intOf i).toNat)
      case atStart => exact ⟨0, by omega, rfl, rfl⟩
      case round =>
        obtain ⟨j, hj, rfl, rfl⟩ := hrel
        have hd0 := crcL_lt (l.take j) hc0
        by_cases hltj : j < l.length
        · obtain ⟨b2, off2, rfl, _, hcell2⟩ := HG.out (by simp; omega)
          have hcy := cell8 hcell2 hltj
          have hst := crcL_snoc (c := c0) hltj
          have hx := l[j].toNat_lt
          generalize crcL c0 (l.take j) = d at *
          generalize l[j].toNat = x at *
          have h1 := u32_xor_nat d x (by omega) (by omega)
          have hd1 : d ^^^ x < 2 ^ 32 := Nat.xor_lt_two_pow hd0 (by omega)
          rw [← two_halves] at hst
          generalize d ^^^ x = d1 at *
          have h2 := and15 d1 hd1
          have h3 := HL.out.at (d1 % 16) (by omega)
          have h4 := half_int d1 hd1
          have hd2 : cbN 4 d1 < 2 ^ 32 := cbN_lt hd1
          generalize cbN 4 (d1 % 16) = t1 at *
          generalize cbN 4 d1 = d2 at *
          have h5 := and15 d2 hd2
          have h6 := HL.out.at (d2 % 16) (by omega)
          have h7 := half_int d2 hd2
          generalize cbN 4 (d2 % 16) = t2 at *
          generalize cbN 4 d2 = d3 at *
          have HT := Lib.hid hst
          clear hst hcell2
          go_wp2
          go_round
          case rel => exact ⟨j + 1, by omega, by go_num, by rw [HT.out]⟩
          case measure => simp [intOf]; omega
        · obtain rfl : j = l.length := by omega
          rw [List.take_length]
          rw [List.take_length] at hd0
          go_wp2
          go_round
          case rel => exact ⟨k + 1, by omega, by go_num, by rw [HS.out]⟩
          case measure => simp [intOf]; omega
    · obtain rfl : k = ps.length := by omega
      rw [List.take_length]
      rw [List.take_length] at hc0
      go_wp2
      go_ret
      refine ⟨?_, rfl⟩
      exact congrArg (fun z => Ending.returned (Value.int .u32 z)) (max_xor _ hc0)
end Go.Proofs.YtjninegpaoblfaaGreatDoor.Summ

namespace Go.Proofs.YtjninegpaoblfaaGreatDoor.RefSum
open Go Go.RowKit Words Crc Tab Summ

def OuterR (l : List UInt8) (c i : Value) : Prop := ∃ k : Nat, k ≤ l.length ∧ i = .int .i64 k ∧ c = .int .u32 ((crcL 4294967295 (l.take k) : Nat) : Int)
def InnerR (D : Nat) (c i : Value) : Prop := ∃ j e : Nat, j ≤ 8 ∧ i = .int .i64 j ∧ c = .int .u32 (e : Int) ∧ e < 2 ^ 32 ∧ Hid (cbN (8 - j) e = D)

theorem cbN_step {j e : Nat} (h : j < 8) : cbN (8 - j) e = cbN (8 - (j + 1)) (cb e) := by
  rw [show 8 - j = (8 - (j + 1)) + 1 by omega]
  rfl

set_option maxHeartbeats 800000 in
set_option maxRecDepth 100000 in
theorem refsum_any (l : List UInt8) (A : Option Addr) (c : Nat) (w : World) (B : Nat) (hr : Rd w B A (l.map B8)) (hc : l.length ≤ c) (hm : c ≤ maxLen) :
    Calls Tryz.prog 78 #[.slice A l.length c] w fun e w' => e = .returned (.int .u32 ((sum l : Nat) : Int)) ∧ w = w' := by
  unfold maxLen at hm
  have HR := Lib.hid hr
  clear hr
  go_enter Tryz.func78, Tryz.ntmps78
  go_wp2
  go_loop [3, 4] (fun c i => OuterR l c i) (fun _ i => l.length - (intOf i).toNat)
  case atStart => exact ⟨0, by omega, rfl, rfl⟩
  case round =>
    obtain ⟨k, hk, rfl, rfl⟩ := hrel
    have hc0 := crcL_lt (l.take k) F_lt
    by_cases hlt : k < l.length
    · obtain ⟨b, off, rfl, _, hcell⟩ := HR.out (by simp; omega)
      have hcx := cell8 hcell hlt
      have hsn := crcL_snoc (c := 4294967295) hlt
      have hx := l[k].toNat_lt
      unfold crcB at hsn
      generalize crcL 4294967295 (l.take k) = c0 at *
      generalize l[k].toNat = x at *
      have h1 := u32_xor_nat c0 x (by omega) (by omega)
      have hd1 : c0 ^^^ x < 2 ^ 32 := Nat.xor_lt_two_pow hc0 (by omega)
      generalize c0 ^^^ x = d1 at *
      have HS := Lib.hid hsn
      clear hsn hcell
      go_wp2
      go_loop [3, 5] (fun c i => InnerR (cbN 8 d1) c i) (fun _ i => 8 - (intOf i).toNat)
      case atStart => exact ⟨0, d1, by omega, rfl, rfl, hd1, rfl⟩
      case round =>
        obtain ⟨j, e, hj, rfl, rfl, he, hs⟩ := hrel
        by_cases hltj : j < 8
        · have hst := cbN_step (e := e) hltj
          have he1 := cb_lt he
          unfold cb at hst he1
          by_cases ho : e % 2 = 1
          · rw [if_pos ho] at hst he1
            have h2 := u32_xor_nat (e / 2) poly (by omega) (by decide)
            rw [show ((poly : Nat) : Int) = 3988292384 from rfl, Int.natCast_ediv, show ((2 : Nat) : Int) = 2 from rfl] at h2
            generalize e / 2 ^^^ poly = e1 at *
            have HT := Lib.hid hst
            clear hst
            have hb : ((e : Int) % 2 == 1) = true := by simp; omega
            go_wp2
            go_round
            case rel => exact ⟨j + 1, e1, by omega, by go_num, rfl, he1, HT.out.symm.trans hs.out⟩
            case measure => simp [intOf]; omega
          · rw [if_neg ho] at hst he1
            have HT := Lib.hid hst
            clear hst
            have hb : ((e : Int) % 2 == 1) = false := beq_eq_false_iff_ne.2 (by omega)
            go_wp2
            go_round
            case rel => exact ⟨j + 1, e / 2, by omega, by go_num, by rw [Int.natCast_ediv]; rfl, he1, HT.out.symm.trans hs.out⟩
            case measure => simp [intOf]; omega
        · obtain rfl : j = 8 := by omega
          have hs' : e = cbN 8 d1 := hs.out
          go_wp2
          go_round
          case rel => exact ⟨k + 1, by omega, by go_num, by rw [HS.out, hs']⟩
          case measure => simp [intOf]; omega
    · obtain rfl : k = l.length := by omega
      rw [List.take_length]
      rw [List.take_length] at hc0
      have hn := not_int _ hc0
      have hn1 := crcL_lt l F_lt
      go_wp2
      go_ret
      exact ⟨congrArg (fun z => Ending.returned (Value.int .u32 z)) hn.symm, rfl⟩

/-- A checksum's four bytes. -/
def four (s : Nat) : List UInt8 := [(s % 256).toUInt8, (s / 256 % 256).toUInt8, (s / 65536 % 256).toUInt8, (s / 16777216).toUInt8]
theorem four_map (s : Nat) (hs : s < 2 ^ 32) : (four s).map B8 = [.int .u8 ((s : Int) % 256), .int .u8 ((s : Int) / 256 % 256), .int .u8 ((s : Int) / 65536 % 256), .int .u8 ((s : Int) / 16777216)] := by
  simp only [four, List.map_cons, List.map_nil, B8]
  congr 1
  · congr 1; simp
  congr 1
  · congr 1; simp
  congr 1
  · congr 1; simp
  congr 1
  congr 1
  simp
  omega
theorem four_length (s : Nat) : (four s).length = 4 := rfl

set_option maxHeartbeats 800000 in
set_option maxRecDepth 100000 in
theorem four_any (s : Nat) (w : World) (hs : s < 2 ^ 32) :
    Calls Tryz.prog 77 #[.int .u32 (s : Int)] w fun e w' => ∃ A, e = .returned (.slice A 4 4) ∧ Rd w' w'.heap.size A ((four s).map B8) ∧ Below w.heap.size w w' := by
  go_enter Tryz.func77, Tryz.ntmps77
  go_wp2
  go_ret
  have hm := Rd.made w #[.int .u8 ((s : Int) % 256), .int .u8 ((s : Int) / 256 % 256), .int .u8 ((s : Int) / 65536 % 256), .int .u8 ((s : Int) / 16777216)] 5
  rw [show (#[Value.int .u8 ((s : Int) % 256), .int .u8 ((s : Int) / 256 % 256), .int .u8 ((s : Int) / 65536 % 256), .int .u8 ((s : Int) / 16777216)] : Array Value).toList = (four s).map B8 from (four_map s hs).symm] at hm
  exact ⟨_, rfl, hm.more (by simp), (Below.refl _ _).alloc (Nat.le_refl _) _⟩
end Go.Proofs.YtjninegpaoblfaaGreatDoor.RefSum

namespace Go.Proofs.YtjninegpaoblfaaGreatDoor.SumB
open Go Go.RowKit Words Crc Tab Summ RefSum

/-- Sum of one part whose row was made just now. -/
theorem sum_one (l : List UInt8) (A : Option Addr) (n c : Nat) (w : World) (B g : Nat) (hn : n = l.length) (hr : Rd w B A (l.map B8)) (hB : B ≤ w.heap.size) (hc : l.length ≤ c) (hm : c ≤ maxLen) (hL : Laid w B) (hg : g = w.heap.size) :
    Calls Tryz.prog 83 #[.slice (some ⟨g, 0, none⟩) 1 1] (w.alloc (.cells #[.slice A n c] 51)) fun e w' => e = .returned (.int .u32 ((sum l : Nat) : Int)) ∧ (w.alloc (.cells #[.slice A n c] 51)) = w' := by
  subst hg hn
  have h := sum_any [⟨A, c, l⟩] (some ⟨w.heap.size, 0, none⟩) 1 (w.alloc (.cells #[.slice A l.length c] 51)) (w.heap.size + 1) B (Rd.made w #[.slice A l.length c] 51) (fun p hp => by
    obtain rfl : p = ⟨A, c, l⟩ := by simpa using hp
    exact ⟨(hr.alloc hB _).more (by omega), hc, hm⟩) (by simp) (by unfold maxLen; omega) (hL.alloc hB _)
  have e : all [⟨A, c, l⟩] = l := by simp [all]
  rw [e] at h
  exact h

set_option maxHeartbeats 800000 in
set_option maxRecDepth 100000 in
theorem sumb_any (l : List UInt8) (A : Option Addr) (n c : Nat) (w : World) (B : Nat) (hn : n = l.length) (hr : Rd w B A (l.map B8)) (hB : B ≤ w.heap.size) (hc : l.length ≤ c) (hm : c ≤ maxLen) (hL : Laid w B) :
    Calls Tryz.prog 69 #[.slice A n c] w fun e w' => ∃ A, e = .returned (.slice A 4 4) ∧ Rd w' w'.heap.size A ((four (sum l)).map B8) ∧ Below w.heap.size w w' := by
  subst hn
  have HS := Lib.hid (sum_one l A _ c w B _ rfl hr hB hc hm hL rfl)
  have hs := sum_lt l
  generalize sum l = s at *
  clear hr hc hm hL
  go_enter Tryz.func69, Tryz.ntmps69
  go_wp2_with fail
  refine HS.out.mono ?_
  rintro e w1 ⟨rfl, rfl⟩
  go_wp2
  go_ret
  have hm := Rd.made' (w.alloc (.cells #[.slice A l.length c] 51)) #[.int .u8 ((s : Int) % 256), .int .u8 ((s : Int) / 256 % 256), .int .u8 ((s : Int) / 65536 % 256), .int .u8 ((s : Int) / 16777216)] 5
  rw [show (#[Value.int .u8 ((s : Int) % 256), .int .u8 ((s : Int) / 256 % 256), .int .u8 ((s : Int) / 65536 % 256), .int .u8 ((s : Int) / 16777216)] : Array Value).toList = (four s).map B8 from (four_map s hs).symm] at hm
  have hb : Below w.heap.size w ((w.alloc (.cells #[.slice A l.length c] 51)).alloc (.cells #[.int .u8 ((s : Int) % 256), .int .u8 ((s : Int) / 256 % 256), .int .u8 ((s : Int) / 65536 % 256), .int .u8 ((s : Int) / 16777216)] 5)) := ((Below.refl _ _).alloc (Nat.le_refl _) _).alloc (by simp) _
  exact ⟨_, rfl, by simpa using hm, hb⟩
end Go.Proofs.YtjninegpaoblfaaGreatDoor.SumB

