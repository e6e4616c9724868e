/- slices.Grow (of no memory) and slices.Concat at uint64: a new row with all the numbers, one list behind the other. Condition: at most 2^40 numbers. -/
import Derived.Test.YtfojpbbmicmooaaPsAwake
import Derived.Test.YtfojpbbmicmooaaSoKit
import Derived.Test.YtfojpbbmicmooaaUtOwn
import Derived.Test.YtfojpbbmicmooaaAppend
namespace Go.Proofs.Ytfojpbbmicmooaa.PgCat
open Go Go.RowKit Words PsLaw PsAwake SoKit UtOwn

theorem info_u64 : (Try.prog.info? 31).map (fun i => (i.zero, i.size, i.bytes)) = some (some (.int .u64 0), 1, 8) := by kernel_rfl
theorem one64s (l : List UInt64) : ∀ u ∈ l.map B64, u.oneCell' = true := by
  intro u hu
  obtain ⟨c, _, rfl⟩ := List.mem_map.1 hu
  rfl
theorem info_parts {i? : Option TypeInfo} {z : Value} {b : Nat} (h : i?.map (fun i => (i.zero, i.size, i.bytes)) = some (some z, 1, b)) : ∃ i, i? = some i ∧ i.zero = some z ∧ i.size = 1 ∧ i.bytes = b := by
  cases i? with
  | none => cases h
  | some i =>
    simp only [Option.map_some, Option.some.injEq, Prod.mk.injEq] at h
    exact ⟨i, rfl, h.1, h.2.1, h.2.2⟩

set_option maxHeartbeats 4000000 in
theorem grow_any (n : Nat) (w : World) (hn : n ≤ 1099511627776) : Calls Try.prog 35 #[.slice none 0 0, .int .i64 (n : Int)] w fun e w' => ∃ v, e = .returned v ∧ w'.ownsRow w.heap.size 31 1 v 0 [] ∧ Below w.heap.size w w' := by
  have HNil := Lib.hid (World.ownsRow_nil w w.heap.size 31 1)
  go_enter Try.func35, Try.ntmps35
  by_cases h0 : n = 0
  · subst h0
    go_wp2
    go_ret
    exact ⟨_, rfl, HNil.out, Below.refl _ _⟩
  · have hb8 : Try.t31.bytes = 8 := by kernel_rfl
    have hns : Builtin.nextslicecap n 0 = n := by unfold Builtin.nextslicecap; rw [if_pos (by omega)]
    obtain ⟨C, hC⟩ : ∃ C, (Question.appendCap n 0 31).cut (w.tape w.drawn (.appendCap n 0 31)) = C := ⟨_, rfl⟩
    have hC1 : n ≤ C ∧ C ≤ maxLen := by
      rw [← hC]
      have hlt := Nat.mod_lt (w.tape w.drawn (.appendCap n 0 31)) (show 0 < 2 ^ 63 - n by omega)
      show n ≤ n + _ % (2 ^ 63 - n) ∧ n + _ % (2 ^ 63 - n) ≤ 9223372036854775807
      omega
    go_wp2
    go_ret
    obtain ⟨h1, h2⟩ := hC1
    refine ⟨_, rfl, ⟨rfl, .inr ⟨w.heap.size, C, Builtin.zeroCells #[Value.int IntKind.u64 0] n ++ Builtin.zeroCells #[Value.int IntKind.u64 0] (C - n), rfl, Nat.le_refl _, ?_, Nat.zero_le _, h2, ?_, ?_⟩⟩, ?_⟩
    · show (w.heap.push _)[w.heap.size]? = some _
      rw [Array.getElem?_push_size]
    · rw [Array.size_append, size_zeroCells, size_zeroCells]; simp; omega
    · simp
    · have hb := (Below.refl w.heap.size w).alloc (Nat.le_refl _) (.cells (Builtin.zeroCells #[Value.int IntKind.u64 0] n ++ Builtin.zeroCells #[Value.int IntKind.u64 0] (C - n)) 31)
      exact ⟨hb.os, hb.tape, hb.output, hb.size, hb.block⟩
/-- Places of a list of slices. -/
theorem flat_take {ps : List P64} {k : Nat} (h : k < ps.length) : (nums (ps.take (k + 1))).flatten = (nums (ps.take k)).flatten ++ ps[k].l := by
  unfold nums
  rw [List.take_succ_eq_append_getElem h, List.map_append, List.flatten_append]
  simp
theorem flat_le (ps : List P64) (k : Nat) : (nums (ps.take k)).flatten.length ≤ (nums ps).flatten.length := by
  conv => rhs; rw [← List.take_append_drop k ps]
  unfold nums
  rw [List.map_append, List.flatten_append, List.length_append]
  omega
set_option maxHeartbeats 4000000 in
set_option maxRecDepth 100000 in
theorem cat_any (w : World) (ps : List P64) (A : Option Addr) (n c : Nat) (hN : Ns w A n c ps) (hl : (nums ps).flatten.length ≤ 16777216) (hn : n ≤ 1048576) :
    Calls Try.prog 23 #[.slice A n c] w (LPost w (nums ps).flatten) := by
  obtain ⟨F, hF⟩ : ∃ F : Nat → Nat, ∀ k, F k = (nums (ps.take k)).flatten.length := ⟨_, fun _ => rfl⟩
  have hFle : ∀ k, F k ≤ 16777216 := fun k => by rw [hF]; have := flat_le ps k; omega
  have hFn : F n = (nums ps).flatten.length := by rw [hF, hN.len, List.take_length]
  have hF0 : F 0 = 0 := by rw [hF]; rfl
  obtain ⟨PA, hPA⟩ : ∃ PA : Nat → Option Addr, ∀ (k : Nat) (h : k < ps.length), PA k = ps[k].A := ⟨fun k => (ps.getD k ⟨none, 0, []⟩).A, fun k h => by simp [List.getD, h]⟩
  obtain ⟨PC, hPC⟩ : ∃ PC : Nat → Nat, ∀ (k : Nat) (h : k < ps.length), PC k = ps[k].c := ⟨fun k => (ps.getD k ⟨none, 0, []⟩).c, fun k h => by simp [List.getD, h]⟩
  obtain ⟨PL, hPL⟩ : ∃ PL : Nat → List UInt64, ∀ (k : Nat) (h : k < ps.length), PL k = ps[k].l := ⟨fun k => (ps.getD k ⟨none, 0, []⟩).l, fun k h => by simp [List.getD, h]⟩
  have hstep : ∀ k, k < n → F k + (PL k).length = F (k + 1) := fun k h => by
    have hk : k < ps.length := by rw [← hN.len]; exact h
    rw [hF, hF, flat_take hk, List.length_append, hPL k hk]
  obtain ⟨b, off, hA, hcell⟩ : ∃ b off, (0 < n → A = some ⟨b, off, none⟩ ∧ b < w.heap.size) ∧ ∀ k, k < n → w.cell? ⟨b, off + k, none⟩ = some (.slice (PA k) (PL k).length (PC k)) := by
    rcases Nat.eq_zero_or_pos n with h0 | h0
    · exact ⟨0, 0, fun h => by omega, fun t h => by omega⟩
    · obtain ⟨b, off, e, hb, hc⟩ := hN.rd (by rw [List.length_map, ← hN.len]; exact h0)
      refine ⟨b, off, fun _ => ⟨e, hb⟩, fun t h => hc t _ ?_⟩
      have ht : t < ps.length := by rw [← hN.len]; exact h
      rw [List.getElem?_map, List.getElem?_eq_getElem ht, Option.map_some, hPA t ht, hPC t ht, hPL t ht]
      rfl
  have HNS : Hid (Ns w A n c ps) := hN
  have HPA : Hid _ := hPA
  have HPL : Hid _ := hPL
  clear hPA hPL hPC
  have HF : Hid (F n = (nums ps).flatten.length) := hFn
  have HA : Hid _ := hA
  have HST : Hid _ := hstep
  have HFL : Hid _ := hFle
  have HF0 : Hid _ := hF0
  clear hN hFn hA hl hstep hFle hF0 hF
  go_enter Try.func23, Try.ntmps23
  go_wp2
  go_loopw [3, 11] (fun vs vi wr => ∃ k : Nat, vs = .int .i64 (F k : Int) ∧ vi = .int .i64 (k : Int) ∧ k ≤ n ∧ w = wr) (fun _ vi _ => n - natOf vi)
  case atStart => exact ⟨0, by rw [HF0.out]; rfl, rfl, Nat.zero_le _, rfl⟩
  case round =>
    obtain ⟨k, rfl, rfl, hk, rfl⟩ := hrel
    by_cases hlt : k < n
    · obtain ⟨rfl, hb⟩ := HA.out (by omega)
      have hc := hcell k hlt
      have hs := HST.out k hlt
      have h1 := HFL.out k
      have h2 := HFL.out (k + 1)
      have es : (F k : Int) + ((PL k).length : Int) = (F (k + 1) : Int) := by omega
      clear hs
      go_wp2
      go_roundw
      case rel => exact ⟨k + 1, by first | exact trivial | rfl, by go_num, by omega, by first | exact trivial | rfl⟩
      case measure => simp [natOf]; omega
    · obtain rfl : k = n := by omega
      have hG := grow_any (F k) w (by have := HFL.out k; omega)
      go_wp2_with fail
      refine hG.mono ?_
      clear hG
      rintro e w1 ⟨v, rfl, ho, hb⟩
      have HO : Hid (w1.ownsRow w.heap.size 31 1 v 0 []) := ho
      have HB : Hid (Below w.heap.size w w1) := hb
      clear ho hb
      obtain ⟨i1, gi, gz0, gz1, gz2⟩ := info_parts info_u64
      go_wp2
      go_loopw [6, 27] (fun vs vi w2 => ∃ j : Nat, vi = .int .i64 (j : Int) ∧ j ≤ k ∧ Hid (w2.ownsRow w.heap.size 31 1 vs (F j) ((nums (ps.take j)).flatten.map B64)) ∧ Hid (Below w.heap.size w w2)) (fun _ vi _ => k - natOf vi)
      case atStart => exact ⟨0, rfl, Nat.zero_le _, by show World.ownsRow _ _ _ _ _ _ _; rw [HF0.out]; exact HO.out, HB.out⟩
      case round =>
        clear HO HB
        obtain ⟨j, rfl, hj, HO, HB⟩ := hrel
        by_cases hlt : j < k
        · obtain ⟨rfl, hb⟩ := HA.out (by omega)
          have hc : wr.cell? ⟨b, off + j, none⟩ = some (Value.slice (PA j) (PL j).length (PC j)) := by rw [HB.out.cell (p := ⟨b, off + j, none⟩) hb]; exact hcell j hlt
          have hjl : j < ps.length := by rw [← HNS.out.len]; exact hlt
          have hgd := (HNS.out.below HB.out).each ps[j] (List.getElem_mem hjl)
          have HRd : Hid (Rd wr wr.heap.size (PA j) ((PL j).map B64)) := by show Rd _ _ _ _; rw [HPA.out j hjl, HPL.out j hjl]; exact hgd.1
          clear hgd
          have h1 := HFL.out (j + 1)
          have hs := HST.out j hlt
          have h2 : F j + (PL j).length ≤ 16777216 := by omega
          have HS2 : Hid (F j + (PL j).length = F (j + 1)) := hs
          have HFT : Hid ((nums (ps.take (j + 1))).flatten = (nums (ps.take j)).flatten ++ PL j) := by show _ = _; rw [flat_take hjl, HPL.out j hjl]
          clear hs h1
          go_wp2_with (at_builtin; refine App.wpList_append_rd _ rfl (.tmp 31) (.tmp 32) 22 rfl w.heap.size 31 i1 (.int .u64 0) 8 Try.underlying22 gi gz0 gz1 gz2 rfl _ _ _ rfl HO.out wr.heap.size _ _ _ ((PL j).map B64) rfl (by simp) HRd.out (one64s (PL j)) ?c1 ?c2 HB.out.size ?_)
          case c1 => unfold maxLen; omega
          case c2 => omega
          intro v2 w2 hown2 hg2 _
          have HB2 : Hid (Below w.heap.size w w2) := App.below_app HO.out HB.out hg2
          have HO2 : Hid (w2.ownsRow w.heap.size 31 1 v2 (F (j + 1)) ((nums (ps.take (j + 1))).flatten.map B64)) := by
            show World.ownsRow _ _ _ _ _ _ _
            rw [HFT.out, List.map_append, ← HS2.out, List.map_flatten]; exact hown2
          clear hown2 hg2 h2 hc hb hcell
          go_wp2
          go_roundw
          case rel => exact ⟨j + 1, by go_num, by omega, HO2, HB2⟩
          case measure => simp [natOf]; omega
        · obtain rfl : j = k := by omega
          go_wp2
          go_ret
          refine ⟨_, rfl, ?_, HB.out⟩
          have h := HO.out
          rw [HF.out, HNS.out.len, List.take_length] at h
          exact h
end Go.Proofs.Ytfojpbbmicmooaa.PgCat
