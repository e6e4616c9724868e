/- The contract of the document's own Clone. · The contract of the document's own Append (of a disk). Conditions: the disk lies in memory as 'RefD' says; the name's length is at most the model's greatest; the file's bytes then are at most 2^47; at most 10^9 files. · The contract of the document's own Restart. Conditions: the disk lies in memory as 'RefD' says; at most 10^9 files, of at most 2^47 bytes; the numbers that are handed in are of 64 bits, and don't lie in the disk's own memory. -/
import Derived.Test.YtapbjmbakpopcaaGreatDoorRefOps
import Derived.BigRegion
import Derived.StillTailTactics
import Derived.Deep.RegionWith
import Derived.Deep.RegionLaw
import Derived.Test.YtapbjmbakpopcaaGreatDoorPdApp
import Derived.Test.YtapbjmbakpopcaaGreatDoorPuts
import Derived.OneCell
import Derived.Test.YtapbjmbakpopcaaGreatDoorPdRes
import Derived.Deep.RegionHeld3
namespace Go.Proofs.YtapbjmbakpopcaaGreatDoor.RefClone5
open Go Go.RowKit Words DkSpec RefDisk RefChange RefRow RefTake RefPut5 RefOps5 RefNew5 AppN

/-- An append whose run is known, in a region that draws its order. -/
theorem step_append_run {P : Program} {ops : Array Oper} {o : Oper} {a : Act} {w : World} {K : Act → World → Prop} {Q : Exit → Act → World → Prop} {E : Prop}
    (hg : o.guard = none) (s x : Operand) (t : TypeId) (hop : o.op = Op.call { callee := Callee.builtin Builtin.append, args := #[s, x], argTypes := #[t, t] })
    (v' : Value) (w' : World) (hrun : (Builtin.append_ #[t, t] o.type #[a.eval s, a.eval x]).run P w = .ok v' w') (hK : K (a.put o.dst v') w') :
    if Region.wanted o (yielded ops a.tmps) = true then Oper.wp P o a w K Q else E := by
  have hw : Region.wanted o (yielded ops a.tmps) = true := by simp [Region.wanted, hg]
  rw [if_pos hw]
  unfold Oper.wp
  simp [execOp, hop, resolve, invoke, builtin, hrun, Result.andThen]
  exact hK

end Go.Proofs.YtapbjmbakpopcaaGreatDoor.RefClone5

namespace Go.Proofs.YtapbjmbakpopcaaGreatDoor.RefApp5
open Go Go.RowKit Words DkSpec RefDisk RefChange RefRow RefTake RefPut5 RefOps5 RefNew5 RefClone5

theorem info_u8 : (Tryz.prog.info? 5).map (fun i => (i.zero, i.size, i.bytes)) = some (some (.int .u8 0), 1, 1) := by kernel_rfl
theorem append_nil (w : World) (a : List UInt8) (A : Option Addr) (n c : Nat) : Calls Tryz.prog 27 #[.pointer none, .string ⟨a.toArray⟩, .slice A n c] w fun e w' => e = .returned (.int .i64 2) ∧ w = w' := by
  have HC := Lib.hid (change_nil w a a)
  go_enter Tryz.func27, Tryz.ntmps27
  go_wp2_with fail
  refine HC.out.mono ?_
  rintro e w1 ⟨rfl, rfl⟩
  go_wp2
  go_ret
  exact ⟨rfl, rfl⟩
def bx (a : List UInt8) (v : Value) (s : Nat) : Array Value := #[.string ⟨a.toArray⟩, v, .int .i64 (s : Int)]
theorem box_cells {w : World} {b : Nat} {a : List UInt8} {v : Value} {s : Nat} (h : w.heap[b]? = some (.cells (bx a v s) 72 (0, 0))) : w.cell? ⟨b, 0, none⟩ = some (.string ⟨a.toArray⟩) ∧ w.cell? ⟨b, 1, none⟩ = some v ∧ w.cell? ⟨b, 2, none⟩ = some (.int .i64 (s : Int)) ∧ ∀ j, w.frozen? ⟨b, j, none⟩ = false := by
  refine ⟨?_, ?_, ?_, fun j => ?_⟩
  · unfold World.cell?; rw [h]; rfl
  · unfold World.cell?; rw [h]; rfl
  · unfold World.cell?; rw [h]; rfl
  · unfold World.frozen?; rw [h]; simp
theorem grown_below {w w' : World} (h : Below w.heap.size w w') {K : Nat → Nat} {o p : Nat} {d : DSt} (hd : RefD w K o p d) : RefD w' (fun b => if b < w.heap.size then K b else 0) o p d :=
  RefD.grow hd h.size h.block (fun i hi => if_pos hi) h.os h.tape h.output

def K6 (K : Nat → Nat) (n : Nat) : Nat → Nat := fun b => if b < n then K b else 0
/-- Behind the last append: what the store leaves, and the call of put. -/
theorem tail_ {w1 W w5 : World} {K : Nat → Nat} {o p bf s : Nat} {d : DSt} {a l1 data : List UInt8} {v1 v5 : Value} (hd : RefD w1 K o p d) (ho : o ≠ 0) (hn : d.files.length ≤ 1000000000) (hbW : Below w1.heap.size w1 W) (hbox : W.heap[bf]? = some (.cells (bx a v1 s) 72 (0, 0))) (hbf : w1.heap.size ≤ bf)
    (hown : w5.ownsRow w1.heap.size 5 1 v5 (l1.length + data.length) (l1.map B8 ++ data.map B8)) (hg : W.grownBy w5 v1.ownBlock) (hv1 : ∀ q, v1.ownBlock = some q → w1.heap.size ≤ q ∧ q ≠ bf) (hv5 : v5.ownBlock = v1.ownBlock ∨ v5.ownBlock = some W.heap.size) :
    w5.heap[bf]? = some (.cells (bx a v1 s) 72 (0, 0)) ∧ ∃ A5 c5, v5 = .slice A5 (l1 ++ data).length c5 ∧
      (w5.setCell ⟨bf, 1, none⟩ v5).heap[bf]? = some (.cells (bx a v5 s) 72 (0, 0)) ∧ Turned K (K6 K w1.heap.size) o w1 (w5.setCell ⟨bf, 1, none⟩ v5) ∧
      Calls Tryz.prog 48 #[.pointer (some ⟨p, 0, none⟩), .agg #[.string ⟨a.toArray⟩, v5, .int .i64 (s : Int)]] (w5.setCell ⟨bf, 1, none⟩ v5) (MPost (w5.setCell ⟨bf, 1, none⟩ v5) (K6 K w1.heap.size) o p { d with files := put ⟨a, l1 ++ data, s⟩ d.files }) := by
  have hbl := (Array.getElem?_eq_some_iff.1 hbox).1
  have hbox5 : w5.heap[bf]? = some (.cells (bx a v1 s) 72 (0, 0)) := (hg.block bf hbl (fun e => (hv1 bf e.symm).2 rfl)).trans hbox
  have hown' : w5.ownsRow w1.heap.size 5 1 v5 (l1 ++ data).length ((l1 ++ data).map B8) := by simpa using hown
  obtain ⟨A5, c5, hve, h51, h52, _, _⟩ := own_rd hown'
  have hv5b : v5.ownBlock ≠ some bf := by
    rcases hv5 with h | h
    · rw [h]; exact fun e => (hv1 bf e).2 rfl
    · rw [h]; intro e; injection e with e; omega
  have hown6 : (w5.setCell ⟨bf, 1, none⟩ v5).ownsRow w1.heap.size 5 1 v5 (l1 ++ data).length ((l1 ++ data).map B8) := ownsRow_setCell_other hown' hv5b v5
  have hb5 : Below w1.heap.size w1 w5 := hbW.grown hg hbW.size (fun k hk => (hv1 k hk).1)
  have hb6 : Below w1.heap.size w1 (w5.setCell ⟨bf, 1, none⟩ v5) := hb5.setCell hbf v5
  have hT : Turned K (K6 K w1.heap.size) o w1 (w5.setCell ⟨bf, 1, none⟩ v5) := ⟨hb6.os, hb6.tape, hb6.output, hb6.size, fun i hi _ => hb6.block i hi, fun i hi => if_pos hi⟩
  refine ⟨hbox5, A5, c5, hve, heap_setCell_same w5 bf 1 _ _ v5 hbox5, hT, ?_⟩
  obtain ⟨A6, c6, hve6, _, _, hrd6, hbase⟩ := own_rd hown6
  rw [hve] at hve6
  injection hve6 with eA _ ec
  subst eA ec
  have hP := put_any _ (K6 K w1.heap.size) o p d ⟨a, l1 ++ data, s⟩ A5 c5 (grown_below hb6 hd) ho hn h51 h52 hrd6 (fun b off e _ => by
    have h9 : w1.heap.size ≤ b := (hbase b off e).1
    exact if_neg (by omega))
  rw [hve] at hP ⊢
  exact hP

set_option maxHeartbeats 3200000 in
set_option maxRecDepth 100000 in
theorem append_any (w : World) (K : Nat → Nat) (o p : Nat) (d : DSt) (a data : List UInt8) (A : Option Addr) (c : Nat) (hd : RefD w K o p d) (ho : o ≠ 0) (ha : a.length ≤ maxLen) (hl1 : -1 ≤ d.left) (hl2 : d.left ≤ 9223372036854775807) (hn : d.files.length ≤ 1000000000) (hz : (old a d.files).data.length + data.length ≤ 140737488355328)
    (hr0 : Rd w w.heap.size A (data.map B8)) (hk0 : ∀ b off, A = some ⟨b, off, none⟩ → 0 < data.length → K b ≠ o) :
    Calls Tryz.prog 27 #[.pointer (some ⟨p, 0, none⟩), .string ⟨a.toArray⟩, .slice A data.length c] w (OPost w K o p (append a data d)) := by
  obtain ⟨i0, hi, hz0, hz1, hz2⟩ := info_parts info_u8
  have HC := Lib.hid (change_any w K o p d a a hd ho ha ha hl1 hl2)
  have HO := Lib.hid ho
  by_cases hr : refused a a d ≠ 0
  · have HX := Lib.hid (show append a data d = (refused a a d, d) by unfold append; rw [if_pos hr])
    have h1 : ((refused a a d : Int) != 0) = true := by simp; omega
    unfold ChPost at HC
    rw [if_pos hr] at HC
    clear hd ha hl1 hl2 hr ho hn hz hr0 hk0 hi hz0 hz1 hz2
    go_enter Tryz.func27, Tryz.ntmps27
    go_wp2_with fail
    refine HC.out.mono ?_
    rintro e w1 ⟨rfl, hd1, ht1⟩
    have HD1 := Lib.hid hd1
    have HT1 := Lib.hid ht1
    clear hd1 ht1
    go_wp2
    go_ret
    rw [HX.out]
    exact ⟨rfl, K, HD1.out, HT1.out⟩
  · unfold ChPost at HC
    rw [if_neg hr, show refused a a d = 0 by omega] at HC
    have hfl := stepped_files d
    have hfull : (stepped d).full = d.full := by unfold stepped; split <;> rfl
    cases hfu : d.full with
    | true =>
      have HX := Lib.hid (show append a data d = (20, stepped d) by unfold append; rw [if_neg hr, hfu]; rfl)
      have HFU : Hid ((stepped d).full = true) := Lib.hid (hfull.trans hfu)
      clear hd ha hl1 hl2 hr ho hn hz hr0 hk0 hi hz0 hz1 hz2 hfl hfull hfu
      go_enter Tryz.func27, Tryz.ntmps27
      go_wp2_with fail
      refine HC.out.mono ?_
      rintro e w1 ⟨rfl, hd1, ht1⟩
      have HD1 := Lib.hid hd1
      have HT1 := Lib.hid ht1
      obtain ⟨A1, c1, _, _, _, _, _, e1, _⟩ := hd1
      rw [HFU.out] at e1
      clear ht1
      go_wp2
      go_ret
      rw [HX.out]
      exact ⟨rfl, K, HD1.out, HT1.out⟩
    | false =>
      have HFU : Hid ((stepped d).full = false) := Lib.hid (hfull.trans hfu)
      have HX := Lib.hid (show append a data d = (0, { stepped d with files := put ⟨a, (old a d.files).data ++ data, (old a d.files).synced⟩ (stepped d).files }) by unfold append; rw [if_neg hr, hfu, hfl]; rfl)
      have HR0 := Lib.hid hr0
      have HK0 := Lib.hid hk0
      have HFL := Lib.hid hfl
      have HZ := Lib.hid hz
      have HN : Hid ((stepped d).files.length ≤ 1000000000) := Lib.hid (by rw [hfl]; exact hn)
      obtain ⟨i, x, hib⟩ : ∃ i x, place a d.files = (i, x) := ⟨_, _, rfl⟩
      have hle := place_le a d.files
      rw [hib] at hle
      obtain ⟨_, hle2⟩ := hle
      simp only at hle2
      have HF := fun w1 h => Lib.hid (find_any w1 K o p (stepped d) a h)
      rw [hfl, hib] at HF
      have hold : old a d.files = if x then d.files.getD i ⟨a, [], 0⟩ else ⟨a, [], 0⟩ := by unfold old; rw [hib]
      cases x with
      | false =>
        simp only [Bool.false_eq_true, if_false] at hold
        rw [hold] at HX HZ
        clear hd ha hl1 hl2 hr ho hn hz hr0 hk0 hfl hfull hfu hib hle2 hold
        go_enter Tryz.func27, Tryz.ntmps27
        go_wp2_with fail
        refine HC.out.mono ?_
        rintro e w1 ⟨rfl, hd1, ht1⟩
        have HD1 := Lib.hid hd1
        have HT1 := Lib.hid ht1
        have hb2 : Below w1.heap.size w1 (w1.alloc (.cells #[.string ⟨a.toArray⟩, .slice none 0 0, .int .i64 0] 72)) := (Below.refl _ w1).alloc (Nat.le_refl _) _
        have HB2 := Lib.hid hb2
        have HF1 := Lib.hid (HF _ (RefD.grow hd1 hb2.size hb2.block (fun _ _ => rfl) hb2.os hb2.tape hb2.output))
        have hbox2 : (w1.alloc (.cells #[.string ⟨a.toArray⟩, .slice none 0 0, .int .i64 0] 72)).heap[w1.heap.size]? = some (.cells (bx a (.slice none 0 0) 0) 72 (0, 0)) := Go.heap_alloc_new _ _
        obtain ⟨A1, c1, _, _, _, _, _, e1, _⟩ := hd1
        rw [HFU.out] at e1
        have hbox := box_cells hbox2
        have RD1 : Hid (Rd w1 w1.heap.size A (data.map B8)) := Lib.hid (PdApp.rd_away ht1 HR0.out (by simpa using HK0.out))
        have e1' : (w1.alloc (.cells #[.string ⟨a.toArray⟩, .slice none 0 0, .int .i64 0] 72)).cell? ⟨p, 1, none⟩ = some (.bool false) := (hb2.cell (p := ⟨p, 1, none⟩) (World.block_lt_of_cell? w1 _ e1)).trans e1
        obtain ⟨W, hW⟩ : ∃ W, W = w1.alloc (.cells #[.string ⟨a.toArray⟩, .slice none 0 0, .int .i64 0] 72) := ⟨_, rfl⟩
        have HWE := Lib.hid hW
        clear ht1 hb2 HF
        go_wp2_with fail
        refine HF1.out.out.mono ?_
        rw [← HWE.out]
        rw [← hW] at hbox hbox2 e1' HB2
        clear hW HWE HF1
        rintro e w2 ⟨rfl, rfl⟩
        obtain ⟨q0, q1, q2, qz⟩ := hbox
        have qz1 := qz 1
        have HBX := Lib.hid hbox2
        have hown0 := World.ownsRow_nil W w1.heap.size 5 1
        have HO0 := Lib.hid hown0
        clear qz hbox2 hown0
        go_wp2_with (at_builtin; refine App.wpList_append_rd (v := .slice none 0 0) _ rfl (.tmp 53) (.tmp 54) 38 rfl w1.heap.size 5 i0 (.int .u8 0) 1 Tryz.underlying38 hi hz0 hz1 hz2 rfl 0 [] rfl HO0.out w1.heap.size A data.length c (data.map B8) rfl (by simp) (RD1.out.below HB2.out) (one8 data) ?c1 ?c2 HB2.out.size ?_)
        case c1 => have := HZ.out; simp at this; unfold maxLen; omega
        case c2 => have := HZ.out; simp at this; omega
        intro v5 w5 hown5 hg5 hv5
        obtain ⟨hbox5, A5, c5, hve, hbox6, hT6, hput⟩ := tail_ (l1 := []) (data := data) HD1.out HO.out HN.out HB2.out HBX.out (Nat.le_refl _) (by simpa using hown5) hg5 (fun q e => by cases e) hv5
        obtain ⟨_, m1, _, mz⟩ := box_cells hbox5
        have mz1 := mz 1
        subst hve
        obtain ⟨n0, n1, n2, _⟩ := box_cells hbox6
        have HPUT := Lib.hid hput
        have HT6 := Lib.hid hT6
        clear hown5 hg5 hv5 hbox5 hbox6 hput hT6 mz
        go_wp2_with fail
        refine HPUT.out.mono ?_
        rintro e w7 ⟨rfl, K7, hd7, ht7⟩
        have HD7 := Lib.hid hd7
        have HT7 := Lib.hid ht7
        clear hd7 ht7
        go_wp2
        go_ret
        rw [HX.out]
        exact ⟨rfl, K7, HD7.out, HT1.out.trans (HT6.out.trans HT7.out)⟩
      | true =>
        have hil := (hle2 rfl).1
        have hnm := (hle2 rfl).2
        simp only [if_true] at hold
        have hget : d.files.getD i ⟨a, [], 0⟩ = d.files[i] := by simp [List.getD, hil]
        rw [hget] at hold hnm
        rw [hold] at HX HZ
        have HI := Lib.hid hil
        clear hd ha hl1 hl2 hr ho hn hz hr0 hk0 hfl hfull hfu hib hle2 hold hget hnm
        go_enter Tryz.func27, Tryz.ntmps27
        go_wp2_with fail
        refine HC.out.mono ?_
        rintro e w1 ⟨rfl, hd1, ht1⟩
        have HD1 := Lib.hid hd1
        have HT1 := Lib.hid ht1
        have hb2 : Below w1.heap.size w1 (w1.alloc (.cells #[.string ⟨a.toArray⟩, .slice none 0 0, .int .i64 0] 72)) := (Below.refl _ w1).alloc (Nat.le_refl _) _
        have HB2 := Lib.hid hb2
        have HF1 := Lib.hid (HF _ (RefD.grow hd1 hb2.size hb2.block (fun _ _ => rfl) hb2.os hb2.tape hb2.output))
        have hbox2 : (w1.alloc (.cells #[.string ⟨a.toArray⟩, .slice none 0 0, .int .i64 0] 72)).heap[w1.heap.size]? = some (.cells (bx a (.slice none 0 0) 0) 72 (0, 0)) := Go.heap_alloc_new _ _
        obtain ⟨A1, c1, hc1, hm1, hp1, _, e0, e1, _, _, _, _, _, _, _, hf1⟩ := hd1
        rw [HFU.out] at e1
        rw [HFL.out] at e0 hf1 hc1
        obtain ⟨g, off, rfl, hgl, _, _, hcell⟩ := hf1 (by have := HI.out; omega)
        obtain ⟨_, ⟨A', c', k1, hcc, hcm, hrd, _⟩, k2⟩ := hcell i (d.files[i]'HI.out) (List.getElem?_eq_getElem HI.out)
        have RD1 : Hid (Rd w1 w1.heap.size A (data.map B8)) := Lib.hid (PdApp.rd_away ht1 HR0.out (by simpa using HK0.out))
        generalize hfi : (d.files[i]'HI.out) = f at *
        have hil := HI.out
        clear hcell hf1 hfi ht1 HF
        unfold maxLen at hm1 hcm
        obtain ⟨n, hn⟩ : ∃ n, d.files.length = n := ⟨_, rfl⟩
        rw [hn] at e0 hil hc1
        clear hn
        have e1' : (w1.alloc (.cells #[.string ⟨a.toArray⟩, .slice none 0 0, .int .i64 0] 72)).cell? ⟨p, 1, none⟩ = some (.bool false) := (hb2.cell (p := ⟨p, 1, none⟩) hp1).trans e1
        have e0' : (w1.alloc (.cells #[.string ⟨a.toArray⟩, .slice none 0 0, .int .i64 0] 72)).cell? ⟨p, 0, none⟩ = some (.slice (some ⟨g, off, none⟩) n c1) := (hb2.cell (p := ⟨p, 0, none⟩) hp1).trans e0
        have k2' : (w1.alloc (.cells #[.string ⟨a.toArray⟩, .slice none 0 0, .int .i64 0] 72)).cell? ⟨g, off + i * 3 + 2, none⟩ = some (.int .i64 (f.synced : Int)) := (hb2.cell (p := ⟨g, off + i * 3 + 2, none⟩) hgl).trans k2
        have k1' : (w1.alloc (.cells #[.string ⟨a.toArray⟩, .slice none 0 0, .int .i64 0] 72)).cell? ⟨g, off + i * 3 + 1, none⟩ = some (.slice A' f.data.length c') := (hb2.cell (p := ⟨g, off + i * 3 + 1, none⟩) hgl).trans k1
        obtain ⟨W, hW⟩ : ∃ W, W = w1.alloc (.cells #[.string ⟨a.toArray⟩, .slice none 0 0, .int .i64 0] 72) := ⟨_, rfl⟩
        have HWE := Lib.hid hW
        have HGL := Lib.hid (And.intro hgl hp1)
        have HRD := Lib.hid hrd
        clear hb2 hgl hp1 e0 k1 k2 hrd
        go_wp2_with fail
        refine HF1.out.out.mono ?_
        rw [← HWE.out]
        rw [← hW] at hbox2 e1' e0' k2' k1' HB2
        rintro e w2 ⟨rfl, rfl⟩
        obtain ⟨q0, q1, q2, qz⟩ := box_cells hbox2
        have qz2 := qz 2
        have hbox9 := heap_setCell_same W w1.heap.size 2 _ _ (.int .i64 (f.synced : Int)) hbox2
        obtain ⟨W9, hW9⟩ : ∃ W9, W9 = W.setCell ⟨w1.heap.size, 2, none⟩ (.int .i64 (f.synced : Int)) := ⟨_, rfl⟩
        have HW9 := Lib.hid hW9
        rw [← hW9] at hbox9
        have hbox9' : W9.heap[w1.heap.size]? = some (.cells (bx a (.slice none 0 0) f.synced) 72 (0, 0)) := hbox9
        have hb9 : Below w1.heap.size w1 W9 := by rw [hW9]; exact HB2.out.setCell (Nat.le_refl _) _
        have hso : ∀ b off, b < w1.heap.size → W9.cell? ⟨b, off, none⟩ = W.cell? ⟨b, off, none⟩ := fun b off hb => by
          rw [hW9]
          exact cell_of (heap_setCell_other W _ b _ (by show b ≠ w1.heap.size; omega))
        have e0'' := (hso p 0 HGL.out.2).trans e0'
        have k1'' := (hso g (off + i * 3 + 1) HGL.out.1).trans k1'
        have HB9 := Lib.hid hb9
        have HBOX9 := Lib.hid hbox9'
        clear hW HWE HF1 hW9 qz q0 hbox2 hbox9 hbox9' hb9 hso
        go_wp2
        rw [← HW9.out]
        obtain ⟨_, r1, _, rz⟩ := box_cells HBOX9.out
        have rz1 := rz 1
        have hrd9 : Rd W9.drew w1.heap.size A' (f.data.map B8) := HRD.out.below HB9.out.drew
        obtain ⟨v', w', hrun, hown', hg', hnf⟩ := App.run_append_rd (P := Tryz.prog) W9.drew w1.heap.size 38 38 5 i0 (.int .u8 0) 1 Tryz.underlying38 hi hz0 hz1 hz2 rfl (.slice none 0 0) 0 [] (World.ownsRow_nil _ _ _ _) w1.heap.size A' f.data.length c' (f.data.map B8) (by simp) hrd9 (one8 f.data) (by have := HZ.out; unfold maxLen; omega) (by have := HZ.out; omega) HB9.out.size
        simp only [Nat.zero_add, List.nil_append] at hown'
        obtain ⟨A2, c2, rfl, _, _, _, _⟩ := own_rd hown'
        have hbox' : w'.heap[w1.heap.size]? = some (.cells (bx a (.slice none 0 0) f.synced) 72 (0, 0)) := (hg'.block _ (Array.getElem?_eq_some_iff.1 HBOX9.out).1 (fun e => by cases e)).trans HBOX9.out
        obtain ⟨_, s1, _, sz⟩ := box_cells hbox'
        have sz1 := sz 1
        have hb' : Below w1.heap.size w1 w' := (HB9.out.drew).grown hg' HB9.out.size (fun k hk => by cases hk)
        have hnq : ∀ q, (Value.slice A2 f.data.length c2).ownBlock = some q → w1.heap.size ≤ q ∧ q ≠ w1.heap.size := fun q hq => by
          rcases hnf with h | h
          · rw [h] at hq; cases hq
          · rw [h] at hq
            injection hq with hq
            have h1 := (Array.getElem?_eq_some_iff.1 HBOX9.out).1
            have h2 : W9.drew.heap.size = W9.heap.size := rfl
            omega
        have hbox10 := heap_setCell_same w' w1.heap.size 1 _ _ (.slice A2 f.data.length c2) hbox'
        have hbox10' : (w'.setCell ⟨w1.heap.size, 1, none⟩ (.slice A2 f.data.length c2)).heap[w1.heap.size]? = some (.cells (bx a (.slice A2 f.data.length c2) f.synced) 72 (0, 0)) := hbox10
        have HB10 : Hid (Below w1.heap.size w1 (w'.setCell ⟨w1.heap.size, 1, none⟩ (.slice A2 f.data.length c2))) := Lib.hid (hb'.setCell (Nat.le_refl _) _)
        have HO10 : Hid ((w'.setCell ⟨w1.heap.size, 1, none⟩ (.slice A2 f.data.length c2)).ownsRow w1.heap.size 5 1 (.slice A2 f.data.length c2) f.data.length (f.data.map B8)) := Lib.hid (ownsRow_setCell_other hown' (fun e => (hnq _ e).2 rfl) _)
        have HBOX10 := Lib.hid hbox10'
        have HNQ := Lib.hid hnq
        clear hown' hg' hnf hbox' hb' hnq hbox10 hbox10' rz sz hrd9
        go_region_law (refine step_append_run rfl (.tmp 41) (.tmp 49) 38 rfl _ w' hrun ?_)
        all_goals
          clear hrun
          obtain ⟨W10, hW10⟩ : ∃ W10, W10 = w'.setCell ⟨w1.heap.size, 1, none⟩ (.slice A2 f.data.length c2) := ⟨_, rfl⟩
          rw [← hW10] at HB10 HO10 HBOX10 ⊢
          obtain ⟨t0, t1, t2, tz⟩ := box_cells HBOX10.out
          have tz1 := tz 1
          clear hW10 tz
          go_wp2_with (at_builtin; refine App.wpList_append_rd (v := .slice A2 f.data.length c2) _ rfl (.tmp 53) (.tmp 54) 38 rfl w1.heap.size 5 i0 (.int .u8 0) 1 Tryz.underlying38 hi hz0 hz1 hz2 rfl _ _ rfl HO10.out w1.heap.size A data.length c (data.map B8) rfl (by simp) (RD1.out.below HB10.out) (one8 data) ?c1 ?c2 HB10.out.size ?_)
          case c1 => have := HZ.out; unfold maxLen; omega
          case c2 => have := HZ.out; omega
          intro v5 w5 hown5 hg5 hv5
          obtain ⟨hbox5, A5, c5, hve, hbox6, hT6, hput⟩ := tail_ (l1 := f.data) (data := data) HD1.out HO.out HN.out HB10.out HBOX10.out (Nat.le_refl _) hown5 hg5 HNQ.out hv5
          obtain ⟨N5, hN5⟩ : ∃ N, (f.data ++ data).length = N := ⟨_, rfl⟩
          rw [hN5] at hve
          clear hN5
          obtain ⟨_, m1, _, mz⟩ := box_cells hbox5
          have mz1 := mz 1
          subst hve
          obtain ⟨n0, n1, n2, _⟩ := box_cells hbox6
          have HPUT := Lib.hid hput
          have HT6 := Lib.hid hT6
          clear hown5 hg5 hv5 hbox5 hbox6 hput hT6 mz
          go_wp2_with fail
          refine HPUT.out.mono ?_
          rintro e w7 ⟨rfl, K7, hd7, ht7⟩
          have HD7 := Lib.hid hd7
          have HT7 := Lib.hid ht7
          clear hd7 ht7
          go_wp2
          go_ret
          rw [HX.out]
          exact ⟨rfl, K7, HD7.out, HT1.out.trans (HT6.out.trans HT7.out)⟩
end Go.Proofs.YtapbjmbakpopcaaGreatDoor.RefApp5

namespace Go.Proofs.YtapbjmbakpopcaaGreatDoor.RefRes5
open Go Go.RowKit Words DkSpec RefDisk RefChange RefRow RefTake RefPut5 RefOps5 RefNew5 RefClone5 RefApp5 RefSync5 PdRes

theorem FRow.data {w : World} {K : Nat → Nat} {o g off i : Nat} {l : List DFile} {A2 : Option Addr} {c2 : Nat} {l2 : List UInt8} (h : FRow w K o (some ⟨g, off, none⟩) l) (hi : i < l.length) (ho : o ≠ 0) (hr2 : Rd w w.heap.size A2 (l2.map B8)) (hk2 : ∀ b off, A2 = some ⟨b, off, none⟩ → 0 < l2.length → K b = 0) (hc2 : l2.length ≤ c2) (hm2 : c2 ≤ maxLen) :
    FRow (w.setCell ⟨g, off + i * 3 + 1, none⟩ (.slice A2 l2.length c2)) K o (some ⟨g, off, none⟩) (l.modify i fun f => { f with data := l2 }) := fun hn => by
  obtain ⟨g', off', e, hg, hk, hz, hcell⟩ := h (by omega)
  injection e with e
  injection e with e1 e2
  subst e1 e2
  have ne : ∀ (b x : Nat), b ≠ g ∨ x ≠ off + i * 3 + 1 → (w.setCell ⟨g, off + i * 3 + 1, none⟩ (.slice A2 l2.length c2)).cell? ⟨b, x, none⟩ = w.cell? ⟨b, x, none⟩ := fun b x hb => World.cell?_setCell_other w _ _ _ (fun e => by
    injection e with e1 e2
    rcases hb with hb | hb
    · exact hb e1.symm
    · exact hb e2.symm)
  refine ⟨g, off, rfl, by simpa using hg, hk, fun j => by rw [World.frozen?_setCell]; exact hz j, fun j f hj => ?_⟩
  have hdata : ∀ (A' : Option Addr) (vs : List Value), Rd w w.heap.size A' vs → (∀ b off', A' = some ⟨b, off', none⟩ → 0 < vs.length → K b = 0) → Rd (w.setCell ⟨g, off + i * 3 + 1, none⟩ (.slice A2 l2.length c2)) (w.setCell ⟨g, off + i * 3 + 1, none⟩ (.slice A2 l2.length c2)).heap.size A' vs := fun A' vs hr h0 hp => by
    obtain ⟨b2, off2, e2, hb2, hc2⟩ := hr hp
    refine ⟨b2, off2, e2, by simpa using hb2, fun j' u' hu => (ne _ _ (.inl ?_)).trans (hc2 j' u' hu)⟩
    have h1 := h0 b2 off2 e2 hp
    intro e
    rw [e, hk] at h1
    exact ho h1
  rw [List.getElem?_modify] at hj
  cases hf : l[j]? with
  | none => rw [hf] at hj; simp at hj
  | some f0 =>
    rw [hf] at hj
    obtain ⟨k0, ⟨A', c', k1, k1a, k1b, k1c, k1d⟩, k2⟩ := hcell j f0 hf
    by_cases hij : i = j
    · subst hij
      simp only [if_pos, Option.map_eq_map, Option.map_some, Option.some.injEq] at hj
      subst hj
      exact ⟨(ne _ _ (.inr (by omega))).trans k0, ⟨A2, c2, World.cell?_setCell_same _ _ _ k1, hc2, hm2, hdata _ _ hr2 (by simpa using hk2), hk2⟩, (ne _ _ (.inr (by omega))).trans k2⟩
    · simp only [if_neg hij, Option.map_eq_map, Option.map_some, id_eq, Option.some.injEq] at hj
      subst hj
      exact ⟨(ne _ _ (.inr (by omega))).trans k0, ⟨A', c', (ne _ _ (.inr (by omega))).trans k1, k1a, k1b, hdata _ _ k1c (by simpa using k1d), k1d⟩, (ne _ _ (.inr (by omega))).trans k2⟩
theorem RefD.data {w : World} {K : Nat → Nat} {o p g off c i : Nat} {d : DSt} {A2 : Option Addr} {c2 : Nat} {l2 : List UInt8} (h : RefD w K o p d) (ho : o ≠ 0) (hA : w.cell? ⟨p, 0, none⟩ = some (.slice (some ⟨g, off, none⟩) d.files.length c)) (hi : i < d.files.length)
    (hr2 : Rd w w.heap.size A2 (l2.map B8)) (hk2 : ∀ b off, A2 = some ⟨b, off, none⟩ → 0 < l2.length → K b = 0) (hc2 : l2.length ≤ c2) (hm2 : c2 ≤ maxLen) :
    RefD (w.setCell ⟨g, off + i * 3 + 1, none⟩ (.slice A2 l2.length c2)) K o p { d with files := d.files.modify i fun f => { f with data := l2 } } := by
  obtain ⟨A, c', hc, hm, hp, hk, c0, c1, c2', c3, f0, f1, f2, f3, hAp, hf⟩ := h
  have e := c0.symm.trans hA
  injection e with e
  injection e with e1 _ e3
  subst e1 e3
  have hgp := hAp g off rfl
  have ne : ∀ x : Nat, (w.setCell ⟨g, off + i * 3 + 1, none⟩ (.slice A2 l2.length c2)).cell? ⟨p, x, none⟩ = w.cell? ⟨p, x, none⟩ := fun x => World.cell?_setCell_other w _ _ _ (fun e => hgp (by injection e))
  have hlen : (d.files.modify i fun f => { f with data := l2 }).length = d.files.length := List.length_modify _ _ _
  refine ⟨some ⟨g, off, none⟩, c', by simp only [hlen]; exact hc, hm, by simpa using hp, hk, by simp only [hlen]; exact (ne 0).trans c0, (ne 1).trans c1, (ne 2).trans c2', (ne 3).trans c3, ?_, ?_, ?_, ?_, hAp, FRow.data hf hi ho hr2 hk2 hc2 hm2⟩
  all_goals rw [World.frozen?_setCell]; assumption

theorem keptTo_len (i : Nat) (l : List DFile) (ks : List Int) : (keptTo i l ks).length = l.length := by
  have h := congrArg List.length (keptTo_names i l ks)
  simpa using h
theorem modify_two {l : List DFile} {i n : Nat} {f : DFile} {x : Int} (hf : l[i]? = some f) (hn : n = stays f x) : ((l.modify i fun g => { g with data := f.data.take n }).modify i fun g => { g with synced := n }) = l.modify i fun g => cr g x := by
  apply List.ext_getElem?
  intro j
  rw [List.getElem?_modify, List.getElem?_modify, List.getElem?_modify]
  by_cases hij : i = j
  · subst hij
    rw [hf]
    simp [cr, hn]
  · simp [hij]
/-- The loop over the files. -/
def Rel (w : World) (K : Nat → Nat) (o p : Nat) (l : List DFile) (ks : List Int) (i : Value) (wr : World) : Prop := ∃ k : Nat, k ≤ l.length ∧ i = .int .i64 (k : Int) ∧ Hid (∃ K', RefD wr K' o p ⟨keptTo k l ks, false, false, -1⟩ ∧ Turned K K' o w wr)
/-- The loop over a file's bytes. -/
def RelI (s len : Nat) (x : Int) (vn vk : Value) : Prop := ∃ j : Nat, j ≤ x.toNat ∧ s + j ≤ len ∧ vn = .int .i64 ((s + j : Nat) : Int) ∧ vk = .int .i64 (j : Int)

theorem restart_nil (w : World) (A : Option Addr) (n c : Nat) : Calls Tryz.prog 25 #[.pointer none, .slice A n c] w fun e w' => e = .returned (.tuple #[]) ∧ w = w' := by
  have hne := eq_nil
  go_enter Tryz.func25, Tryz.ntmps25
  go_wp2
  refine bodyPost_ret (results_none rfl _ _ _) rfl ?_
  exact ⟨rfl, rfl⟩

set_option maxHeartbeats 1600000 in
set_option maxRecDepth 100000 in
theorem restart_any (w : World) (K : Nat → Nat) (o p : Nat) (d : DSt) (ks : List Int) (A : Option Addr) (c : Nat) (hd : RefD w K o p d) (ho : o ≠ 0) (hn : d.files.length ≤ 1000000000) (hz : ∀ f ∈ d.files, f.synced ≤ f.data.length ∧ f.data.length ≤ 140737488355328)
    (hr : Rd w w.heap.size A (ks.map I64)) (hk0 : ∀ b off, A = some ⟨b, off, none⟩ → 0 < ks.length → K b ≠ o) (hks : ∀ k ∈ ks, -9223372036854775808 ≤ k ∧ k ≤ 9223372036854775807) (hc : ks.length ≤ c) (hm : c ≤ maxLen) :
    Calls Tryz.prog 25 #[.pointer (some ⟨p, 0, none⟩), .slice A ks.length c] w (MPost w K o p (restart ks d)) := by
  obtain ⟨i0, hi, hz0, hz1, hz2⟩ := info_parts info_u8
  have HD0 : Hid (RefD (((w.setCell ⟨p, 1, none⟩ (.bool false)).setCell ⟨p, 2, none⟩ (.bool false)).setCell ⟨p, 3, none⟩ (.int .i64 (-1))) K o p ⟨d.files, false, false, -1⟩) := Lib.hid (RefD.left (RefD.toOff (RefD.toFull hd ho false) ho false) ho (-1))
  obtain ⟨A1, c1, hc1, hm1, hp, hk, e0, e1, e2, e3, f0, f1, f2, f3, _, _⟩ := hd
  have HT0 : Hid (Turned K K o w (((w.setCell ⟨p, 1, none⟩ (.bool false)).setCell ⟨p, 2, none⟩ (.bool false)).setCell ⟨p, 3, none⟩ (.int .i64 (-1)))) := Lib.hid ((turned_poke hk).trans ((turned_poke hk).trans (turned_poke hk)))
  have hne := fun w => RefOps5.ne_nil p 0 w
  have hnq : ∀ w : World, (binOp .eql 27 (.pointer (some ⟨p, 0, none⟩)) (.pointer none)).run Tryz.prog w = .ok (.bool false) w := fun w => by kernel_rfl
  have HR := Lib.hid hr
  have HK0 := Lib.hid hk0
  have HKS := Lib.hid hks
  have HZ := Lib.hid hz
  have HO := Lib.hid ho
  have HKA := Lib.hid (keptTo_all d.files ks)
  obtain ⟨l, hl⟩ : ∃ l, d.files = l := ⟨_, rfl⟩
  have HRS : Hid (restart ks d = ⟨kept l ks, false, false, -1⟩) := Lib.hid (by rw [← hl]; rfl)
  rw [hl] at HD0 hn HZ HKA
  unfold maxLen at hm
  clear hr hk0 hks hz ho e0 f0 hc1 hm1 hl hk
  go_enter Tryz.func25, Tryz.ntmps25
  go_wp2
  go_loopw [4] (fun i wr => Rel w K o p l ks i wr) (fun i _ => l.length - (intOf i).toNat)
  case atStart => exact ⟨0, Nat.zero_le _, rfl, Lib.hid ⟨K, HD0.out, HT0.out⟩⟩
  case round =>
    obtain ⟨k, hk, rfl, hst⟩ := hrel
    obtain ⟨K1, hd1, ht1⟩ := hst.out
    have HD1 := Lib.hid hd1
    have HT1 := Lib.hid ht1
    obtain ⟨A2, c2, hc2, hm2, hp2, hkp, e0, _, _, _, _, _, _, _, hAp, hf⟩ := hd1
    have hll := keptTo_len k l ks
    simp only [hll] at e0 hc2
    unfold maxLen at hm2
    clear hst ht1 e1 e2 e3 f1 f2 f3
    by_cases hlt : k < l.length
    · obtain ⟨g, off, rfl, hg, hkg, hgz, hcell⟩ := hf (by simp only [hll]; omega)
      have hfk : (keptTo k l ks)[k]? = some l[k] := (keptTo_get k l ks).trans (List.getElem?_eq_getElem hlt)
      obtain ⟨_, ⟨A', c', k1, hcc, hcm, hrd, _⟩, k2⟩ := hcell k l[k] hfk
      have hzk := HZ.out l[k] (List.getElem_mem hlt)
      have HFK := Lib.hid hfk
      generalize l[k] = f at *
      obtain ⟨hzs, hzl⟩ := hzk
      have hgp := hAp g off rfl
      have HRD := Lib.hid hrd
      have HST : Hid (∀ x, stays f x = min f.data.length (f.synced + x.toNat)) := Lib.hid (fun _ => rfl)
      unfold maxLen at hcm
      clear hcell hf hfk hrd
      have HEND : Hid (∀ nn x, nn = stays f x → ks.getD k 0 = x → ∃ A3 c3 w', (Builtin.append_ #[38, 38] 38 #[.slice none 0 0, .slice A' nn c']).run Tryz.prog wr.drew = .ok (.slice A3 nn c3) w' ∧ nn ≤ f.data.length ∧ w'.cell? ⟨p, 0, none⟩ = some (.slice (some ⟨g, off, none⟩) l.length c2) ∧ w'.cell? ⟨g, off + k * 3 + 1, none⟩ = some (.slice A' f.data.length c') ∧ w'.frozen? ⟨g, off + k * 3 + 1, none⟩ = false ∧
          (w'.setCell ⟨g, off + k * 3 + 1, none⟩ (.slice A3 nn c3)).cell? ⟨p, 0, none⟩ = some (.slice (some ⟨g, off, none⟩) l.length c2) ∧ (w'.setCell ⟨g, off + k * 3 + 1, none⟩ (.slice A3 nn c3)).cell? ⟨g, off + k * 3 + 2, none⟩ = some (.int .i64 (f.synced : Int)) ∧ (w'.setCell ⟨g, off + k * 3 + 1, none⟩ (.slice A3 nn c3)).frozen? ⟨g, off + k * 3 + 2, none⟩ = false ∧
          Hid (∃ K', RefD ((w'.setCell ⟨g, off + k * 3 + 1, none⟩ (.slice A3 nn c3)).setCell ⟨g, off + k * 3 + 2, none⟩ (.int .i64 (nn : Int))) K' o p ⟨keptTo (k + 1) l ks, false, false, -1⟩ ∧ Turned K K' o w ((w'.setCell ⟨g, off + k * 3 + 1, none⟩ (.slice A3 nn c3)).setCell ⟨g, off + k * 3 + 2, none⟩ (.int .i64 (nn : Int))))) := Lib.hid (fun nn x hnn hx => by
        have hnl : nn ≤ f.data.length := by rw [hnn, HST.out]; omega
        have htl : (f.data.take nn).length = nn := by simp; omega
        obtain ⟨v3, w', hrun, hown, hgr, hnf⟩ := App.run_append_rd (P := Tryz.prog) wr.drew wr.heap.size 38 38 5 i0 (.int .u8 0) 1 Tryz.underlying38 hi hz0 hz1 hz2 rfl (.slice none 0 0) 0 [] (World.ownsRow_nil _ _ _ _) wr.heap.size A' nn c' ((f.data.take nn).map B8) (by rw [List.length_map, htl]) (by rw [List.map_take]; exact (HRD.out.take nn : Rd wr wr.heap.size A' ((f.data.map B8).take nn))) (one8 _) (by unfold maxLen; omega) (by omega) (Nat.le_refl _)
        simp only [Nat.zero_add, List.nil_append] at hown
        obtain ⟨A3, c3, rfl, h31, h32, hrd3, hbase⟩ := own_rd hown
        have hb : Below wr.heap.size wr w' := ((Below.refl _ wr).drew).grown hgr (Nat.le_refl _) (fun q hq => by cases hq)
        have hcl : ∀ b x, b < wr.heap.size → w'.cell? ⟨b, x, none⟩ = wr.cell? ⟨b, x, none⟩ := fun b x hb2 => cell_of (hb.block b hb2)
        have hfz : ∀ b x, b < wr.heap.size → w'.frozen? ⟨b, x, none⟩ = wr.frozen? ⟨b, x, none⟩ := fun b x hb2 => by unfold World.frozen?; rw [hb.block b hb2]
        have hd' := grown_below hb HD1.out
        have hne1 : ∀ (u : Value) (x y : Nat), (w'.setCell ⟨g, x, none⟩ u).cell? ⟨p, y, none⟩ = w'.cell? ⟨p, y, none⟩ := fun u x y => World.cell?_setCell_other w' _ _ _ (fun e => hgp (by injection e))
        have hne2 : ∀ (u : Value), (w'.setCell ⟨g, off + k * 3 + 1, none⟩ u).cell? ⟨g, off + k * 3 + 2, none⟩ = w'.cell? ⟨g, off + k * 3 + 2, none⟩ := fun u => World.cell?_setCell_other w' _ _ _ (fun e => by injection e with _ e; omega)
        have g0 := (hcl p 0 hp2).trans e0
        have hd2 := RefD.data (A2 := A3) (c2 := c3) (l2 := f.data.take nn) hd' HO.out (by simp only [hll]; exact g0) (by simp only [hll]; exact hlt) hrd3 (fun b off e _ => by
          have h9 : wr.heap.size ≤ b := (hbase b off e).1
          exact if_neg (by omega)) (by rw [htl]; exact h31) h32
        rw [htl] at hd2
        have hd3 := RefD.synced (i := k) (n := nn) hd2 HO.out (by simp only [List.length_modify, hll]; exact (hne1 _ _ _).trans g0) (by simp only [List.length_modify, hll]; exact hlt)
        refine ⟨A3, c3, w', hrun, hnl, g0, (hcl g _ hg).trans k1, (hfz g _ hg).trans (hgz _), (hne1 _ _ _).trans g0, (hne2 _).trans ((hcl g _ hg).trans k2), by rw [World.frozen?_setCell]; exact (hfz g _ hg).trans (hgz _), Lib.hid ⟨K6 K1 wr.heap.size, ?_, ?_⟩⟩
        · refine RefD.world hd3 ?_
          simp only
          rw [keptTo_succ, hx]
          exact congrArg (fun z => (⟨z, false, false, -1⟩ : DSt)) (modify_two HFK.out hnn)
        · have hkg' : K6 K1 wr.heap.size g = o := (if_pos hg).trans hkg
          have t1 : Turned K1 (K6 K1 wr.heap.size) o wr w' := ⟨hb.os, hb.tape, hb.output, hb.size, fun i hi _ => hb.block i hi, fun i hi => if_pos hi⟩
          have t2 : Turned (K6 K1 wr.heap.size) (K6 K1 wr.heap.size) o w' (w'.setCell ⟨g, off + k * 3 + 1, none⟩ (.slice A3 nn c3)) := turned_poke hkg'
          have t3 : Turned (K6 K1 wr.heap.size) (K6 K1 wr.heap.size) o (w'.setCell ⟨g, off + k * 3 + 1, none⟩ (.slice A3 nn c3)) ((w'.setCell ⟨g, off + k * 3 + 1, none⟩ (.slice A3 nn c3)).setCell ⟨g, off + k * 3 + 2, none⟩ (.int .i64 (nn : Int))) := turned_poke hkg'
          exact HT1.out.trans (t1.trans (t2.trans t3)))
      have kz1 := hgz (off + k * 3 + 1)
      clear hgz hkg hAp hkp
      by_cases hkb : k < ks.length
      · obtain ⟨bk, offk, rfl, hbk, hcellk⟩ := HR.out (by simp; omega)
        have hgd : ks.getD k 0 = ks[k] := by simp [List.getD, hkb]
        have kx : wr.cell? ⟨bk, offk + k, none⟩ = some (.int .i64 ks[k]) := by
          rw [cell_of (HT1.out.block bk hbk (HK0.out bk offk rfl (by omega)))]
          exact hcellk k (I64 ks[k]) (by simp [hkb])
        have hxx := HKS.out _ (List.getElem_mem hkb)
        generalize ks[k] = x at *
        obtain ⟨hx1, hx2⟩ := hxx
        clear hcellk
        go_wp2
        go_loop [5, 6] (fun vn vk => RelI f.synced f.data.length x vn vk) (fun _ vk => x.toNat - (intOf vk).toNat)
        case atStart => exact ⟨0, Nat.zero_le _, by omega, rfl, rfl⟩
        case round =>
          obtain ⟨j, hj1, hj2, rfl, rfl⟩ := hrel
          have HJ : Hid (¬ ((j : Int) < x ∧ f.synced + j < f.data.length) → f.synced + j = stays f x) := Lib.hid (fun h => by rw [HST.out]; omega)
          generalize hsj : f.synced + j = sj at *
          by_cases hcond : (j : Int) < x ∧ sj < f.data.length
          · have hd1 : decide ((j : Int) < x) = true := decide_eq_true hcond.1
            have hjx := hcond.1
            have hsl := hcond.2
            have hd2 : decide ((sj : Int) < (f.data.length : Int)) = true := by simp; omega
            clear hcond
            go_wp2
            go_round
            case rel => exact ⟨j + 1, by omega, by omega, by rw [← hsj]; go_num, by go_num⟩
            case measure => simp [intOf]; omega
          · obtain ⟨A3, c3, w', hrun, hnl, g0, g1, gz1, g2, g3, gz3, hfin⟩ := HEND.out sj x (HJ.out hcond) hgd
            have hcc2 : (sj : Int) ≤ (c' : Int) := by omega
            have hb2 : ((j : Int) < x) → ¬ ((sj : Int) < (f.data.length : Int)) := fun h1 h2 => hcond ⟨h1, by omega⟩
            by_cases hjx : (j : Int) < x
            · have hd1 : decide ((j : Int) < x) = true := decide_eq_true hjx
              have hd2 : decide ((sj : Int) < (f.data.length : Int)) = false := decide_eq_false (hb2 hjx)
              have hsl : ¬ sj < f.data.length := by have := hb2 hjx; omega
              clear hcond hb2
              go_wp2
              go_region_law (refine step_append_run rfl (.tmp 70) (.tmp 80) 38 rfl _ w' hrun ?_)
              all_goals
                go_wp2
                go_roundw
                case rel => exact ⟨k + 1, by omega, by go_num, hfin⟩
                case measure => simp [intOf]; omega
            · have hd1 : decide ((j : Int) < x) = false := decide_eq_false hjx
              clear hcond hb2
              go_wp2
              go_region_law (refine step_append_run rfl (.tmp 70) (.tmp 80) 38 rfl _ w' hrun ?_)
              all_goals
                go_wp2
                go_roundw
                case rel => exact ⟨k + 1, by omega, by go_num, hfin⟩
                case measure => simp [intOf]; omega

      · obtain ⟨x, hx⟩ : ∃ x : Int, x = 0 := ⟨0, rfl⟩
        have hgd : ks.getD k 0 = x := by rw [hx]; simp [List.getD, List.getElem?_eq_none (Nat.le_of_not_lt hkb)]
        go_wp2
        go_loop [5, 6] (fun vn vk => RelI f.synced f.data.length x vn vk) (fun _ vk => x.toNat - (intOf vk).toNat)
        case atStart => exact ⟨0, Nat.zero_le _, by omega, rfl, rfl⟩
        case round =>
          obtain ⟨j, hj1, hj2, rfl, rfl⟩ := hrel
          have HJ : Hid (¬ ((j : Int) < x ∧ f.synced + j < f.data.length) → f.synced + j = stays f x) := Lib.hid (fun h => by rw [HST.out]; omega)
          generalize hsj : f.synced + j = sj at *
          obtain ⟨A3, c3, w', hrun, hnl, g0, g1, gz1, g2, g3, gz3, hfin⟩ := HEND.out sj x (HJ.out (fun h => by omega)) hgd
          have hcc2 : (sj : Int) ≤ (c' : Int) := by omega
          go_wp2
          go_region_law (refine step_append_run rfl (.tmp 70) (.tmp 80) 38 rfl _ w' hrun ?_)
          all_goals
            go_wp2
            go_roundw
            case rel => exact ⟨k + 1, by omega, by go_num, hfin⟩
            case measure => simp [intOf]; omega

    · have hkn : k = l.length := by omega
      subst hkn
      have HD2 : Hid (RefD wr K1 o p ⟨kept l ks, false, false, -1⟩) := Lib.hid (by rw [← HKA.out]; exact HD1.out)
      clear hf hkp
      go_wp2
      go_end0
      exact ⟨rfl, K1, by rw [HRS.out]; exact HD2.out, HT1.out⟩
end Go.Proofs.YtapbjmbakpopcaaGreatDoor.RefRes5

