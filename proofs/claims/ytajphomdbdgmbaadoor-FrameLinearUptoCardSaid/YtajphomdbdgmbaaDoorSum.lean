/- The contract of frame.Sum: for all lists of parts it answers the checksum of all parts, one behind the other, and leaves the world as it is. Conditions: the table lies as the program's text lays it; lengths are at most capacities, these at most the model's greatest length. -/
import Derived.Test.YtajphomdbdgmbaaDoorTab
import Derived.WalkKit
import Derived.LoopTactic
import Derived.Lib.Hide
import Derived.Outline
namespace Go.Proofs.YtajphomdbdgmbaaDoor.Summ
open Go Go.RowKit Words Crc Tab

/-- A part: where it lies, its capacity, its bytes. -/
structure Part where
  A : Option Addr
  c : Nat
  l : List UInt8
def SV (p : Part) : Value := .slice p.A p.l.length p.c
def Good (w : World) (B : Nat) (p : Part) : Prop := Rd w B p.A (p.l.map B8) ∧ p.l.length ≤ p.c ∧ p.c ≤ maxLen
def all (ps : List Part) : List UInt8 := ps.flatMap (·.l)
theorem all_snoc {ps : List Part} {k : Nat} (h : k < ps.length) : all (ps.take (k + 1)) = all (ps.take k) ++ ps[k].l := by
  rw [List.take_succ_eq_append_getElem h, all, List.flatMap_append]
  simp [all]
theorem crcL_snoc {c : Nat} {l : List UInt8} {k : Nat} (h : k < l.length) : crcL c (l.take (k + 1)) = crcB (crcL c (l.take k)) l[k].toNat := by
  rw [List.take_succ_eq_append_getElem h, crcL_append]
  rfl
theorem max_xor (c : Nat) (h : c < 2 ^ 32) : bits .xor .u32 IntKind.u32.max (c : Int) = ((4294967295 ^^^ c : Nat) : Int) := by
  have := u32_xor_nat 4294967295 c (by omega) (by omega)
  rw [← this]
  rfl
theorem F_lt : 4294967295 < 2 ^ 32 := by decide

def Outer (ps : List Part) (c i : Value) : Prop := ∃ k : Nat, k ≤ ps.length ∧ i = .int .i64 k ∧ c = .int .u32 ((crcL 4294967295 (all (ps.take k)) : Nat) : Int)
def Inner (c0 : Nat) (l : List UInt8) (c i : Value) : Prop := ∃ j : Nat, j ≤ l.length ∧ i = .int .i64 j ∧ c = .int .u32 ((crcL c0 (l.take j) : Nat) : Int)

set_option maxHeartbeats 800000 in
set_option maxRecDepth 100000 in
theorem sum_any (ps : List Part) (A : Option Addr) (c : Nat) (w : World) (B B' : Nat) (hr : Rd w B A (ps.map SV)) (hp : ∀ p ∈ ps, Good w B p) (hc : ps.length ≤ c) (hm : c ≤ maxLen) (hL : Laid w B') :
    Calls Tryd.prog 9 #[.slice A ps.length c] w fun e w' => e = .returned (.int .u32 ((sum (all ps) : Nat) : Int)) ∧ w = w' := by
  unfold maxLen at hm
  have HR := Lib.hid hr
  have HP := Lib.hid hp
  have HL := Lib.hid hL
  clear hr hp hL
  go_enter Tryd.func9, Tryd.ntmps9
  go_wp2
  go_loop [3, 10] (fun c i => Outer ps c i) (fun _ i => ps.length - (intOf i).toNat)
  case atStart => exact ⟨0, by omega, rfl, rfl⟩
  case round =>
    obtain ⟨k, hk, rfl, rfl⟩ := hrel
    have hc0 := crcL_lt (all (ps.take k)) F_lt
    by_cases hlt : k < ps.length
    · obtain ⟨b, off, rfl, _, hcell⟩ := HR.out (by simp; omega)
      have hcx : w.cell? ⟨b, off + k, none⟩ = some (SV ps[k]) := hcell k _ (by simp [hlt])
      obtain ⟨hg1, hg2, hg3⟩ := HP.out ps[k] (List.getElem_mem hlt)
      have hsn := congrArg (crcL 4294967295) (all_snoc hlt)
      rw [crcL_append] at hsn
      generalize crcL 4294967295 (all (ps.take k)) = c0 at *
      generalize ps[k] = p at *
      obtain ⟨pA, pc, l⟩ := p
      unfold SV at hcx
      simp only at hcx hg1 hg2 hg3 hsn
      unfold maxLen at hg3
      have HG := Lib.hid hg1
      have HS := Lib.hid hsn
      clear hcell hg1 hsn
      go_wp2
      go_loop [3, 16] (fun c i => Inner c0 l c i) (fun _ i => l.length - (intOf i).toNat)
      case atStart => exact ⟨0, by omega, rfl, rfl⟩
      case round =>
        obtain ⟨j, hj, rfl, rfl⟩ := hrel
        have hd0 := crcL_lt (l.take j) hc0
        by_cases hltj : j < l.length
        · obtain ⟨b2, off2, rfl, _, hcell2⟩ := HG.out (by simp; omega)
          have hcy := cell8 hcell2 hltj
          have hst := crcL_snoc (c := c0) hltj
          have hx := l[j].toNat_lt
          generalize crcL c0 (l.take j) = d at *
          generalize l[j].toNat = x at *
          have h1 := u32_xor_nat d x (by omega) (by omega)
          have hd1 : d ^^^ x < 2 ^ 32 := Nat.xor_lt_two_pow hd0 (by omega)
          rw [← two_halves] at hst
          generalize d ^^^ x = d1 at *
          have h2 := and15 d1 hd1
          have h3 := HL.out.at (d1 % 16) (by omega)
          have h4 := half_int d1 hd1
          have hd2 : cbN 4 d1 < 2 ^ 32 := cbN_lt hd1
          generalize cbN 4 (d1 % 16) = t1 at *
          generalize cbN 4 d1 = d2 at *
          have h5 := and15 d2 hd2
          have h6 := HL.out.at (d2 % 16) (by omega)
          have h7 := half_int d2 hd2
          generalize cbN 4 (d2 % 16) = t2 at *
          generalize cbN 4 d2 = d3 at *
          have HT := Lib.hid hst
          clear hst hcell2
          go_wp2
          go_round
          case rel => exact ⟨j + 1, by omega, by go_num, by rw [HT.out]⟩
          case measure => simp [intOf]; omega
        · obtain rfl : j = l.length := by omega
          rw [List.take_length]
          rw [List.take_length] at hd0
          go_wp2
          go_round
          case rel => exact ⟨k + 1, by omega, by go_num, by rw [HS.out]⟩
          case measure => simp [intOf]; omega
    · obtain rfl : k = ps.length := by omega
      rw [List.take_length]
      rw [List.take_length] at hc0
      go_wp2
      go_ret
      refine ⟨?_, rfl⟩
      exact congrArg (fun z => Ending.returned (Value.int .u32 z)) (max_xor _ hc0)
end Go.Proofs.YtajphomdbdgmbaaDoor.Summ
