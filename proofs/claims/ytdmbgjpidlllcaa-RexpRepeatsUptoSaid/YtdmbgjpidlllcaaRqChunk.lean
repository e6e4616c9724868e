/- slices.Chunk by twos over a list of runes: its value, and what its iterator hands to a loop's body. Conditions: the list has a number of numbers that two divides, at most 2^40; the body keeps the slice's box and the number's. -/
import Derived.RangeFuncNested
import Derived.RangeFuncBound
import Derived.RangeFuncCalls
import Derived.RangeFuncLeaves
import Derived.RangeFuncWrites
import Derived.Shelf.Abstract
import Derived.Shelf.RegionOpen
import Derived.WalkKit
import Derived.WalkLawsBesides
import Derived.OwnWalkIn
import Derived.TacticsInMore
import Derived.LoopNIn
import Derived.LoopIn
import Derived.Test.YtdmbgjpidlllcaaRqMems
namespace Go.Proofs.Ytdmbgjpidlllcaa.RqChunk
open Go Go.RowKit Go.Shelf Words RxMem RqMem

attribute [local go_sem] Oper.semAt_some

/-- Which chunk a round is handed. -/
abbrev Ix (m : Nat) := { j : Nat // j < m }
/-- Chunk j of the slice at A. -/
def chV (A : Option Addr) (j : Nat) : Value := .slice (A.map (·.add (2 * j))) 2 2
def encC (A : Option Addr) (m : Nat) (x : Ix m) : Array Value := #[chV A x.1]
/-- What a round keeps: the two boxes. -/
def KpC (Bs Bn : Nat) (W W' : World) : Prop := W'.heap[Bs]? = W.heap[Bs]? ∧ W'.heap[Bn]? = W.heap[Bn]?
theorem kpC_t {Bs Bn : Nat} {X Y Z : World} (h : KpC Bs Bn X Y) (k : KpC Bs Bn Y Z) : KpC Bs Bn X Z := ⟨k.1.trans h.1, k.2.trans h.2⟩
theorem kpC_refl (Bs Bn : Nat) (X : World) : KpC Bs Bn X X := ⟨rfl, rfl⟩

set_option maxHeartbeats 800000 in
theorem chunk_any (w : World) (A : Option Addr) (n c : Nat) : Calls Try.prog 54 #[.slice A n c, .int .i64 2] w fun e w' => e = .returned (.func (.func 64) #[] #[.pointer (some ⟨w.heap.size, 0, none⟩), .pointer (some ⟨w.heap.size + 1, 0, none⟩)]) ∧
    w' = (w.alloc (.cells #[.slice A n c] 31)).alloc (.cells #[.int .i64 2] 3) := by
  go_enter Try.func54, Try.ntmps54
  go_wp2
  go_ret
  exact ⟨rfl, rfl⟩

set_option maxRecDepth 100000 in
set_option maxHeartbeats 4000000 in
theorem chunk_stops (F : Fence) (n : Nat) (hF : F.fn 64) (hro : F.round = none) (hn : 1 ≤ n) (Bs Bn c : Nat) (A : Option Addr) (m : Nat) (hl : 2 * m ≤ 1099511627776) (hlc : 2 * m ≤ c) (_hcm : c ≤ maxLen) (hA : 0 < m → ∃ b off, A = some ⟨b, off, none⟩) (w : World)
    (hBs : w.heap[Bs]? = some (.cells #[.slice A (2 * m) c] 31 (0, 0))) (hBn : w.heap[Bn]? = some (.cells #[.int .i64 2] 3 (0, 0))) :
    SeqStopsK F n Try.prog 64 #[.pointer (some ⟨Bs, 0, none⟩), .pointer (some ⟨Bn, 0, none⟩)] (encC A m) (KpC Bs Bn) (fun ys => ys.map (·.1) = List.range m) (fun _ => True) m w := by
  intro l J Jx W hW hJA _ hY h0
  have hBW := (hW.block Bs (Array.getElem?_eq_some_iff.1 hBs).1).trans hBs
  have hNW := (hW.block Bn (Array.getElem?_eq_some_iff.1 hBn).1).trans hBn
  refine callsIn_of_wp Try.func64 rfl hF ?_ hro
  simp only [Try.ntmps64, List.size_toArray, List.length_cons, List.length_nil, Nat.reduceAdd, Nat.reduceSub, Array.replicate_succ, Array.replicate_zero, List.push_toArray, List.append_toArray, List.nil_append, List.cons_append]
  unfold maxLen at _hcm
  have HLC := Lib.hid hlc
  gi_wp2
  gi_loopw [4] (fun i wr => ∃ (j : Nat) (pre : List (Ix m)), j ≤ m ∧ i = .int .i64 ((2 * j : Nat) : Int) ∧ pre.map (·.1) = List.range j ∧ J pre wr ∧ KpC Bs Bn W wr)
    (fun i _ => 2 * m - (intOf i).toNat)
  case atStart => exact ⟨0, [], Nat.zero_le _, by simp, rfl, h0, kpC_refl _ _ _⟩
  case round =>
    obtain ⟨j, pre, hm, rfl, hpre, hJ, hK⟩ := hrel
    have c0 : wr.cell? ⟨Bs, 0, none⟩ = some (.slice A (2 * m) c) := RxMem.cell_of_row (hK.1.trans hBW) rfl
    have c1 : wr.cell? ⟨Bn, 0, none⟩ = some (.int .i64 2) := RxMem.cell_of_row (hK.2.trans hNW) rfl
    by_cases hlt : j < m
    · obtain ⟨b, off, rfl⟩ := hA (by omega)
      obtain ⟨fn, tmps, assign, body, hy, hR⟩ := hY pre ⟨j, hlt⟩ wr.drew (hJA _ _ _ none hJ ⟨rfl, rfl, rfl, Nat.le_refl _, fun _ _ _ => rfl⟩ (fun _ h => by cases h)) (by
        have := congrArg List.length hpre
        rw [List.length_range, List.length_map] at this
        omega)
      unfold encC chV at hy
      simp only [Option.map_some, add_off] at hy
      have HPR : Hid ((pre ++ [(⟨j, hlt⟩ : Ix m)]).map (·.1) = List.range (j + 1)) := Lib.hid (by rw [List.map_append, hpre, List.range_succ]; rfl)
      obtain ⟨d, hd⟩ : ∃ d, 2 * j = d := ⟨_, rfl⟩
      have HD : Hid (2 * (j + 1) = d + 2) := Lib.hid (by omega)
      obtain ⟨N, hN⟩ : ∃ N, 2 * m = N := ⟨_, rfl⟩
      have hd4 : d + 2 ≤ N := by omega
      have hNl : N ≤ 1099511627776 := by omega
      have hNc : N ≤ c := by have := HLC.out; omega
      rw [hN] at c0
      rw [hd] at hy
      rw [hN, hd]
      have hmin : min (2 : Int) ((N - d : Nat) : Int) = 2 := by omega
      have ht : ((d : Int) + 2).toNat - d = 2 := by omega
      clear hN hd
      gi_wp2
      gi_region
      all_goals
        gi_wp2
        refine hR.mono ?_
        rintro e W3 (⟨rfl, hJ3, hk3⟩ | ⟨rfl, hJx3⟩)
        · have c3 : W3.cell? ⟨Bn, 0, none⟩ = some (.int .i64 2) := RxMem.cell_of_row (hk3.2.trans (hK.2.trans hNW)) rfl
          gi_wp2
          go_roundw
          case rel =>
            exact ⟨j + 1, _, hlt, congrArg (Value.int IntKind.i64) (by rw [HD.out]; omega), HPR.out, hJ3, kpC_t hK hk3⟩
          case measure => simp [intOf]; omega
        · gi_wp2
          refine bodyPost_ret (results_none rfl _ _ _) rfl ?_
          exact ⟨⟨_, rfl⟩, .inr ⟨_, trivial, hJx3⟩⟩
    · obtain rfl : j = m := by omega
      have hd : decide (((2 * j : Nat) : Int) < ((2 * j : Nat) : Int)) = false := by simp
      gi_wp2
      go_end0
      exact ⟨⟨_, rfl⟩, .inl ⟨pre, hpre, hJ⟩⟩
end Go.Proofs.Ytdmbgjpidlllcaa.RqChunk
