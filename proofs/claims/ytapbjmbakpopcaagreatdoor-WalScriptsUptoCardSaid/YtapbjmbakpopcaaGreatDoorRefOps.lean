/- The contract of the document's own 'put' (a file at its place, the one of its name gone). Conditions: the disk lies in memory as 'RefD' says; the file's bytes are of nobody's; at most 10^9 files. · The contracts of the document's own Delete, Sync, Fill and Arm. Conditions: the disk lies in memory as 'RefD' says; the names' lengths are at most the model's greatest; at most 10^9 files. · The contract of the document's own Sync. Conditions: the disk lies in memory as 'RefD' says; the name's length is at most the model's greatest. · The contract of the document's own Rename. Conditions: the disk lies in memory as 'RefD' says; the names' lengths are at most the model's greatest; at most 10^9 files. · The contract of the document's own New. Conditions: none. -/
import Derived.Test.YtapbjmbakpopcaaGreatDoorRefRows
import Derived.BigRegion
namespace Go.Proofs.YtapbjmbakpopcaaGreatDoor.RefPut5
open Go Go.RowKit Words DkSpec RefDisk RefChange RefRow RefTake AppN

/-- A file as a value. -/
def fcs (f : DFile) (A : Option Addr) (c : Nat) : Array Value := #[.string ⟨f.name.toArray⟩, .slice A f.data.length c, .int .i64 (f.synced : Int)]

set_option maxHeartbeats 3200000 in
set_option maxRecDepth 100000 in
theorem put_any (w : World) (K : Nat → Nat) (o p : Nat) (d : DSt) (f : DFile) (Af : Option Addr) (cf : Nat) (hd : RefD w K o p d) (ho : o ≠ 0) (hn : d.files.length ≤ 1000000000) (hcf : f.data.length ≤ cf) (hmf : cf ≤ maxLen)
    (hrf : Rd w w.heap.size Af (f.data.map B8)) (hkf : ∀ b off, Af = some ⟨b, off, none⟩ → 0 < f.data.length → K b = 0) :
    Calls Tryz.prog 48 #[.pointer (some ⟨p, 0, none⟩), .agg (fcs f Af cf)] w (MPost w K o p { d with files := put f d.files }) := by
  obtain ⟨i0, hi, hz0, hz1, hz2⟩ := info_parts info_file
  obtain ⟨W, hW⟩ : ∃ W, W = w.alloc (.cells (fcs f Af cf) 72) := ⟨_, rfl⟩
  obtain ⟨K0, hK0⟩ : ∃ K0 : Nat → Nat, K0 = fun b => if b < w.heap.size then K b else o := ⟨_, rfl⟩
  have hk0 : ∀ j, j < w.heap.size → K0 j = K j := fun j hj => by rw [hK0]; simp [hj]
  have hsz : W.heap.size = w.heap.size + 1 := by rw [hW]; simp
  have hbW : ∀ j, j < w.heap.size → W.heap[j]? = w.heap[j]? := fun j hj => by rw [hW]; exact Below.heap_alloc w _ j hj
  have HT0 : Hid (Turned K K0 o w W) := Lib.hid ⟨by rw [hW]; rfl, by rw [hW]; rfl, by rw [hW]; rfl, by omega, fun j hj _ => hbW j hj, hk0⟩
  have HDW := Lib.hid (RefD.grow hd (K' := K0) (show w.heap.size ≤ W.heap.size by omega) hbW hk0 (by rw [hW]; rfl) (by rw [hW]; rfl) (by rw [hW]; rfl))
  have HFD := Lib.hid (find_any W K0 o p d f.name HDW.out)
  have hRfW : Rd W W.heap.size Af (f.data.map B8) := (hrf.keep fun q hq => World.cell?_of_block (hbW q.block hq)).more (by omega)
  have hkfW : ∀ b off, Af = some ⟨b, off, none⟩ → 0 < f.data.length → K0 b = 0 := fun b off e hl => by
    obtain ⟨b2, off2, e2, hb2, _⟩ := hrf (by simpa using hl)
    rw [e] at e2
    injection e2 with e2
    injection e2 with e2
    subst e2
    exact (hk0 b hb2).trans (hkf b off e hl)
  have HF1 : Hid (FCells W K0 [f] (fcs f Af cf).toList) := Lib.hid (FCells.cons hcf hmf hRfW hkfW .nil)
  have kw0 : W.cell? ⟨w.heap.size, 0, none⟩ = some (.string ⟨f.name.toArray⟩) := by rw [hW]; exact World.cell?_alloc_at _ _ _ _ rfl
  have kw1 : W.cell? ⟨w.heap.size, 1, none⟩ = some (.slice Af f.data.length cf) := by rw [hW]; exact World.cell?_alloc_at _ _ _ _ rfl
  have kw2 : W.cell? ⟨w.heap.size, 2, none⟩ = some (.int .i64 (f.synced : Int)) := by rw [hW]; exact World.cell?_alloc_at _ _ _ _ rfl
  have HHW := Lib.hid hW
  obtain ⟨A, c, hc, hm, hp, hk, c0, _, _, _, f0, _, _, _, _, hf⟩ := HDW.out
  obtain ⟨cs, hcs, hrd⟩ := row_cells d.files hf
  have HCL := Lib.hid hcs.length
  have HCS := Lib.hid hcs
  have HRD := Lib.hid hrd
  have HKP := Lib.hid hk
  have HSZ := Lib.hid hsz
  have hpw : p < w.heap.size := by
    obtain ⟨_, _, _, _, h, _⟩ := hd
    exact h
  unfold maxLen at hm hmf
  obtain ⟨l, hl⟩ : ∃ l, d.files = l := ⟨_, rfl⟩
  have hle := place_le f.name d.files
  rw [hl] at hn hc c0 HCS HCL HFD hle
  obtain ⟨i, b, hib⟩ : ∃ i b, place f.name l = (i, b) := ⟨_, _, rfl⟩
  have HPUT : Hid (put f l = l.take i ++ ([f] ++ l.drop (i + if b then 1 else 0))) := Lib.hid (by unfold put; rw [hib]; simp)
  rw [hib] at HFD hle
  obtain ⟨hle1, hle2⟩ := hle
  simp only at hle1 hle2
  have hown0 := World.ownsRow_nil W W.heap.size 72 3
  have HLL := Lib.hid hl
  rw [hl]
  unfold fcs
  unfold fcs at hW
  have hd1l : i ≤ l.length := hle1
  -- what stands at the end
  have HEND : Hid (∀ (v3 : Value) (w3 : World) (n3 : Nat), n3 = (put f l).length → w3.ownsRow W.heap.size 72 3 v3 n3 (cs.take (i * 3) ++ ((fcs f Af cf).toList ++ cs.drop ((i + if b then 1 else 0) * 3))) → W.heap.size ≤ w3.heap.size → (∀ j, j < W.heap.size → w3.heap[j]? = W.heap[j]?) → w3.os = W.os → w3.tape = W.tape → w3.output = W.output →
      MPost w K o p { d with files := put f l } (.returned (.tuple #[])) (w3.setCell ⟨p, 0, none⟩ v3)) := Lib.hid fun v3 w3 n3 hn3 hown3 hs3 hb3 h1 h2 h3 => by
    have hT : Turned K0 (fun b => if b < W.heap.size then K0 b else o) o W w3 := ⟨h1, h2, h3, hs3, fun j hj _ => hb3 j hj, fun j hj => by simp [hj]⟩
    have hD3 : RefD w3 (fun b => if b < W.heap.size then K0 b else o) o p d := RefD.grow HDW.out hs3 hb3 (fun j hj => by simp [hj]) h1 h2 h3
    have hC3 := ((HCS.out.take i).append (HF1.out.append (HCS.out.drop (i + if b then 1 else 0)))).turned hT ho
    rw [← HPUT.out] at hC3
    obtain ⟨A3, c3, rfl, hl3, hm3, hr3, hbase⟩ := own_rd hown3
    subst hn3
    refine ⟨rfl, fun b => if b < W.heap.size then K0 b else o, RefD.row hD3 ho hC3 hr3 (fun b off e => ⟨?_, ?_⟩) (fun b off e => (hbase b off e).2.2) hl3 hm3, HT0.out.trans (hT.trans (turned_poke ?_))⟩
    · have := (hbase b off e).1
      show (if b < W.heap.size then K0 b else o) = o
      rw [if_neg (by omega)]
    · have := (hbase b off e).1
      omega
    · show (if p < W.heap.size then K0 p else o) = o
      rw [if_pos hp, HKP.out]
  have hlen : (put f l).length = i + 1 + (l.length - (i + if b then 1 else 0)) := by
    rw [HPUT.out]
    simp only [List.length_append, List.length_take, List.length_drop, List.length_singleton]
    omega
  have HLEN := Lib.hid hlen
  have hkc : i + (if b then 1 else 0) ≤ l.length := by
    cases b with
    | true => have := (hle2 rfl).1; simp; omega
    | false => simp; omega
  have hbxlt : w.heap.size < W.heap.size := by omega
  obtain ⟨bx, hbx⟩ : ∃ bx, w.heap.size = bx := ⟨_, rfl⟩
  rw [hbx] at kw0 kw1 kw2 hbxlt
  have HBX := Lib.hid hbx
  clear hd hrf hkf hRfW hkfW hk hf hcs hrd hbW hk0 hK0 hsz hib hl hlen hle1 hle2 hbx
  go_enter Tryz.func48, Tryz.ntmps48
  go_wp2_with fail
  rw [← hW, HBX.out]
  refine HFD.out.mono ?_
  rintro e w1 ⟨rfl, rfl⟩
  clear hW
  go_wp2_with (at_builtin; refine wpList_append_rd (v := .slice none 0 0) _ rfl (.tmp 14) (.tmp 20) 54 rfl W.heap.size 3 72 i0 zFile 48 Tryz.underlying54 hi hz0 hz1 hz2 rfl (by omega) 0 [] rfl hown0 W.heap.size _ _ _ (cs.take (i * 3)) rfl (by simp [HCL.out]; omega) (HRD.out.take (i * 3)) (HCS.out.take i).one ?c1 ?c2 (Nat.le_refl _) ?_)
  case c1 => unfold maxLen; omega
  case c2 => omega
  intro v1 w1 hown1 hg1 _
  have hb1 : ∀ j, j < W.heap.size → w1.heap[j]? = W.heap[j]? := fun j hj => hg1.block j hj (by simp [Value.ownBlock])
  have c0' : w1.cell? ⟨p, 0, none⟩ = some (.slice A l.length c) := (cell_of (hb1 p hp)).trans c0
  have f0' : w1.frozen? ⟨p, 0, none⟩ = false := by
    rw [← f0]
    unfold World.frozen?
    rw [hb1 p hp]
  have kv0 := (cell_of (off := 0) (hb1 bx hbxlt)).trans kw0
  have kv1 := (cell_of (off := 1) (hb1 bx hbxlt)).trans kw1
  have kv2 := (cell_of (off := 2) (hb1 bx hbxlt)).trans kw2
  have HO1 : Hid (w1.ownsRow W.heap.size 72 3 v1 i (cs.take (i * 3))) := Lib.hid (by simpa using hown1)
  have S1 : Hid (W.heap.size ≤ w1.heap.size) := Lib.hid hg1.size
  have HG1 := Lib.hid hg1
  have HB1 := Lib.hid hb1
  clear hown1 hg1 hb1 c0 f0 kw0 kw1 kw2
  go_wp2_with (at_builtin; refine wpList_append_rd _ rfl (.tmp 22) (.tmp 24) 54 rfl W.heap.size 3 72 i0 zFile 48 Tryz.underlying54 hi hz0 hz1 hz2 rfl (by omega) _ _ _ rfl (HO1.out.alloc _) (w1.heap.size + 1) (some ⟨w1.heap.size, 0, none⟩) 1 1 (fcs f Af cf).toList rfl rfl (Rd.made w1 (fcs f Af cf) 72) HF1.out.one ?d1 ?d2 ?d3 ?_)
  case d1 => unfold maxLen; omega
  case d2 => omega
  case d3 => have := S1.out; simp; omega
  intro v2 w2 hown2 hg2 hloc
  have hs2 : W.heap.size ≤ w2.heap.size := by have h1 := S1.out; have h2 := hg2.size; simp at h2; omega
  have S2 := Lib.hid hs2
  have hb2 : ∀ j, j < W.heap.size → w2.heap[j]? = W.heap[j]? := fun j hj => ((hg2.block j (by have := S1.out; simp; omega) (fun e => by have := (HO1.out.lt j e.symm).1; omega)).trans (Below.heap_alloc w1 _ j (by have := S1.out; omega))).trans (HB1.out j hj)
  have HB2 := Lib.hid hb2
  have HO2 := Lib.hid hown2
  have HOS : Hid (w2.os = W.os ∧ w2.tape = W.tape ∧ w2.output = W.output) := Lib.hid ⟨hg2.os.trans HG1.out.os, hg2.tape.trans HG1.out.tape, hg2.output.trans HG1.out.output⟩
  have HC0 : Hid (W.cell? ⟨p, 0, none⟩ = some (.slice A l.length c)) := Lib.hid ((cell_of (HB1.out p hp)).symm.trans c0')
  have HF0 : Hid (W.frozen? ⟨p, 0, none⟩ = false) := Lib.hid (by
    rw [← f0']
    unfold World.frozen?
    rw [HB1.out p hp])
  have c02 : w2.cell? ⟨p, 0, none⟩ = some (.slice A l.length c) := (cell_of (hb2 p hp)).trans HC0.out
  have HRD2 : Hid (Rd w2 W.heap.size A cs) := Lib.hid (HRD.out.keep fun q hq => World.cell?_of_block (hb2 q.block hq))
  clear hown2 hg2 hb2 kv0 kv1 kv2 HO1 HG1 HB1 hloc
  cases b with
  | true =>
    simp only [if_pos] at HEND HLEN hkc
    have HX := Lib.hid (rd_cut3 (k := i + 1) HRD2.out HCL.out hc)
    have hkc' : i + 1 ≤ c := by omega
    have hnk : l.length - (i + 1) + (i + 1) = l.length := by omega
    by_cases hcd : c = (i + 1)
    · rw [if_pos hcd] at HX
      have hc0 : l.length - (i + 1) = 0 := by omega
      subst hcd
      go_wp2_with (at_builtin; refine wpList_append_rd _ rfl (.tmp 30) (.tmp 36) 54 rfl W.heap.size 3 72 i0 zFile 48 Tryz.underlying54 hi hz0 hz1 hz2 rfl (by omega) _ _ _ rfl HO2.out W.heap.size _ _ _ (cs.drop ((i + 1) * 3)) rfl (by rw [List.length_drop, HCL.out]; omega) HX.out (HCS.out.drop (i + 1)).one ?a1 ?a2 S2.out ?_)
      case a1 => unfold maxLen; omega
      case a2 => omega
      intro v3 w3 hown3 hg3 _
      have hb3 : ∀ j, j < W.heap.size → w3.heap[j]? = W.heap[j]? := fun j hj => (hg3.block j (by have := S2.out; omega) (fun e => by have := (HO2.out.lt j e.symm).1; omega)).trans (HB2.out j hj)
      have c03 : w3.cell? ⟨p, 0, none⟩ = some (.slice A l.length (i + 1)) := (cell_of (hb3 p hp)).trans HC0.out
      have f03 : w3.frozen? ⟨p, 0, none⟩ = false := by
        rw [← HF0.out]
        unfold World.frozen?
        rw [hb3 p hp]
      have hown3' := hown3
      have HE := Lib.hid (HEND.out v3 w3 _ (by rw [HLEN.out]; omega) hown3' (Nat.le_trans S2.out hg3.size) hb3 (hg3.os.trans HOS.out.1) (hg3.tape.trans HOS.out.2.1) (hg3.output.trans HOS.out.2.2))
      obtain ⟨A3, c3, rfl, _, _, _, _⟩ := own_rd hown3
      clear hown3 hown3' hg3 hb3 HEND c0' f0'
      go_wp2
      go_end0
      exact HE.out
    · rw [if_neg hcd] at HX
      go_wp2_with (at_builtin; refine wpList_append_rd _ rfl (.tmp 30) (.tmp 36) 54 rfl W.heap.size 3 72 i0 zFile 48 Tryz.underlying54 hi hz0 hz1 hz2 rfl (by omega) _ _ _ rfl HO2.out W.heap.size _ _ _ (cs.drop ((i + 1) * 3)) rfl (by rw [List.length_drop, HCL.out, Nat.sub_mul]) HX.out (HCS.out.drop (i + 1)).one ?b1 ?b2 S2.out ?_)
      case b1 => unfold maxLen; omega
      case b2 => omega
      intro v3 w3 hown3 hg3 _
      have hb3 : ∀ j, j < W.heap.size → w3.heap[j]? = W.heap[j]? := fun j hj => (hg3.block j (by have := S2.out; omega) (fun e => by have := (HO2.out.lt j e.symm).1; omega)).trans (HB2.out j hj)
      have c03 : w3.cell? ⟨p, 0, none⟩ = some (.slice A l.length c) := (cell_of (hb3 p hp)).trans HC0.out
      have f03 : w3.frozen? ⟨p, 0, none⟩ = false := by
        rw [← HF0.out]
        unfold World.frozen?
        rw [hb3 p hp]
      have hown3' := hown3
      have HE := Lib.hid (HEND.out v3 w3 _ (by rw [HLEN.out]; omega) hown3' (Nat.le_trans S2.out hg3.size) hb3 (hg3.os.trans HOS.out.1) (hg3.tape.trans HOS.out.2.1) (hg3.output.trans HOS.out.2.2))
      obtain ⟨A3, c3, rfl, _, _, _, _⟩ := own_rd hown3
      clear hown3 hown3' hg3 hb3 HEND c0' f0'
      go_wp2
      go_end0
      exact HE.out
  | false =>
    simp only [Bool.false_eq_true, if_false, Nat.add_zero] at HEND HLEN hkc
    have HX := Lib.hid (rd_cut3 (k := i) HRD2.out HCL.out hc)
    have hkc' : i ≤ c := by omega
    have hnk : l.length - i + i = l.length := by omega
    by_cases hcd : c = i
    · rw [if_pos hcd] at HX
      have hc0 : l.length - i = 0 := by omega
      have hcd' := hcd.symm
      subst hcd'
      go_wp2_with (at_builtin; refine wpList_append_rd _ rfl (.tmp 30) (.tmp 36) 54 rfl W.heap.size 3 72 i0 zFile 48 Tryz.underlying54 hi hz0 hz1 hz2 rfl (by omega) _ _ _ rfl HO2.out W.heap.size _ _ _ (cs.drop (i * 3)) rfl (by rw [List.length_drop, HCL.out]; omega) HX.out (HCS.out.drop i).one ?g1 ?g2 S2.out ?_)
      case g1 => unfold maxLen; omega
      case g2 => omega
      intro v3 w3 hown3 hg3 _
      have hb3 : ∀ j, j < W.heap.size → w3.heap[j]? = W.heap[j]? := fun j hj => (hg3.block j (by have := S2.out; omega) (fun e => by have := (HO2.out.lt j e.symm).1; omega)).trans (HB2.out j hj)
      have c03 : w3.cell? ⟨p, 0, none⟩ = some (.slice A l.length i) := (cell_of (hb3 p hp)).trans HC0.out
      have f03 : w3.frozen? ⟨p, 0, none⟩ = false := by
        rw [← HF0.out]
        unfold World.frozen?
        rw [hb3 p hp]
      have hown3' := hown3
      have HE := Lib.hid (HEND.out v3 w3 _ (by rw [HLEN.out]; omega) hown3' (Nat.le_trans S2.out hg3.size) hb3 (hg3.os.trans HOS.out.1) (hg3.tape.trans HOS.out.2.1) (hg3.output.trans HOS.out.2.2))
      obtain ⟨A3, c3, rfl, _, _, _, _⟩ := own_rd hown3
      clear hown3 hown3' hg3 hb3 HEND c0' f0'
      go_wp2
      go_end0
      exact HE.out
    · rw [if_neg hcd] at HX
      go_wp2_with (at_builtin; refine wpList_append_rd _ rfl (.tmp 30) (.tmp 36) 54 rfl W.heap.size 3 72 i0 zFile 48 Tryz.underlying54 hi hz0 hz1 hz2 rfl (by omega) _ _ _ rfl HO2.out W.heap.size _ _ _ (cs.drop (i * 3)) rfl (by rw [List.length_drop, HCL.out, Nat.sub_mul]) HX.out (HCS.out.drop i).one ?h1 ?h2 S2.out ?_)
      case h1 => unfold maxLen; omega
      case h2 => omega
      intro v3 w3 hown3 hg3 _
      have hb3 : ∀ j, j < W.heap.size → w3.heap[j]? = W.heap[j]? := fun j hj => (hg3.block j (by have := S2.out; omega) (fun e => by have := (HO2.out.lt j e.symm).1; omega)).trans (HB2.out j hj)
      have c03 : w3.cell? ⟨p, 0, none⟩ = some (.slice A l.length c) := (cell_of (hb3 p hp)).trans HC0.out
      have f03 : w3.frozen? ⟨p, 0, none⟩ = false := by
        rw [← HF0.out]
        unfold World.frozen?
        rw [hb3 p hp]
      have hown3' := hown3
      have HE := Lib.hid (HEND.out v3 w3 _ (by rw [HLEN.out]) hown3' (Nat.le_trans S2.out hg3.size) hb3 (hg3.os.trans HOS.out.1) (hg3.tape.trans HOS.out.2.1) (hg3.output.trans HOS.out.2.2))
      obtain ⟨A3, c3, rfl, _, _, _, _⟩ := own_rd hown3
      clear hown3 hown3' hg3 hb3 HEND c0' f0'
      go_wp2
      go_end0
      exact HE.out
end Go.Proofs.YtapbjmbakpopcaaGreatDoor.RefPut5

namespace Go.Proofs.YtapbjmbakpopcaaGreatDoor.RefOps5
open Go Go.RowKit Words DkSpec RefDisk RefChange RefRow RefTake RefPut5

/-- What a call answers and leaves. -/
def OPost (w : World) (K : Nat → Nat) (o p : Nat) (r : Nat × DSt) (e : Ending) (w' : World) : Prop := e = .returned (.int .i64 (r.1 : Int)) ∧ ∃ K', RefD w' K' o p r.2 ∧ Turned K K' o w w'

set_option maxHeartbeats 800000 in
theorem delete_any (w : World) (K : Nat → Nat) (o p : Nat) (d : DSt) (a : List UInt8) (hd : RefD w K o p d) (ho : o ≠ 0) (ha : a.length ≤ maxLen) (hl1 : -1 ≤ d.left) (hl2 : d.left ≤ 9223372036854775807) (hn : d.files.length ≤ 1000000000) :
    Calls Tryz.prog 29 #[.pointer (some ⟨p, 0, none⟩), .string ⟨a.toArray⟩] w (OPost w K o p (delete a d)) := by
  have HC := Lib.hid (change_any w K o p d a a hd ho ha ha hl1 hl2)
  have HN := Lib.hid hn
  have HO := Lib.hid ho
  by_cases hr : refused a a d ≠ 0
  · have HX := Lib.hid (show delete a d = (refused a a d, d) by unfold delete; rw [if_pos hr])
    have h1 : ((refused a a d : Int) != 0) = true := by simp; omega
    unfold ChPost at HC
    rw [if_pos hr] at HC
    clear hd ha hl1 hl2 hn hr ho
    go_enter Tryz.func29, Tryz.ntmps29
    go_wp2_with fail
    refine HC.out.mono ?_
    rintro e w1 ⟨rfl, hd1, ht1⟩
    have HD1 := Lib.hid hd1
    have HT1 := Lib.hid ht1
    clear hd1 ht1
    go_wp2
    go_ret
    rw [HX.out]
    exact ⟨rfl, K, HD1.out, HT1.out⟩
  · unfold ChPost at HC
    rw [if_neg hr, show refused a a d = 0 by omega] at HC
    have hfl := stepped_files d
    obtain ⟨i, b, hib⟩ : ∃ i b, place a d.files = (i, b) := ⟨_, _, rfl⟩
    have hle := place_le a d.files
    rw [hib] at hle
    obtain ⟨_, hle2⟩ := hle
    simp only at hle2
    have HF := fun w1 h => Lib.hid (find_any w1 K o p (stepped d) a h)
    rw [hfl, hib] at HF
    cases b with
    | false =>
      have HX := Lib.hid (show delete a d = (21, stepped d) by unfold delete; rw [if_neg hr, hib]; rfl)
      clear hd ha hl1 hl2 hn hr ho hfl hib hle2
      go_enter Tryz.func29, Tryz.ntmps29
      go_wp2_with fail
      refine HC.out.mono ?_
      rintro e w1 ⟨rfl, hd1, ht1⟩
      have HD1 := Lib.hid hd1
      have HT1 := Lib.hid ht1
      have HF1 := Lib.hid (HF w1 hd1)
      clear hd1 ht1 HF
      go_wp2_with fail
      refine HF1.out.out.mono ?_
      rintro e w2 ⟨rfl, rfl⟩
      go_wp2
      go_ret
      rw [HX.out]
      exact ⟨rfl, K, HD1.out, HT1.out⟩
    | true =>
      have HX := Lib.hid (show delete a d = (0, { stepped d with files := del i d.files }) by unfold delete; rw [if_neg hr, hib]; rfl)
      have hil := (hle2 rfl).1
      have HK := fun w1 (h : RefD w1 K o p (stepped d)) => Lib.hid (take_any w1 K o p (stepped d) i h ho (by rw [hfl]; exact hil) (by rw [hfl]; exact hn))
      rw [hfl] at HK
      clear hd ha hl1 hl2 hn hr ho hfl hib hle2 hil
      go_enter Tryz.func29, Tryz.ntmps29
      go_wp2_with fail
      refine HC.out.mono ?_
      rintro e w1 ⟨rfl, hd1, ht1⟩
      have HT1 := Lib.hid ht1
      have HF1 := Lib.hid (HF w1 hd1)
      have HK1 := Lib.hid (HK w1 hd1)
      clear hd1 ht1 HF HK
      go_wp2_with fail
      refine HF1.out.out.mono ?_
      rintro e w2 ⟨rfl, rfl⟩
      go_wp2_with fail
      refine HK1.out.out.mono ?_
      rintro e w3 ⟨rfl, K', hd3, ht3⟩
      have HD3 := Lib.hid hd3
      have HT3 := Lib.hid ht3
      clear hd3 ht3
      go_wp2
      go_ret
      rw [HX.out]
      exact ⟨rfl, K', HD3.out, HT1.out.trans HT3.out⟩

theorem ne_nil (b o : Nat) (w : World) : (binOp .neq 27 (.pointer (some ⟨b, o, none⟩)) (.pointer none)).run Tryz.prog w = .ok (.bool true) w := by kernel_rfl
theorem nil_nil (w : World) : (binOp .neq 27 (.pointer none) (.pointer none)).run Tryz.prog w = .ok (.bool false) w := by kernel_rfl
theorem eq_nil (w : World) : (binOp .eql 27 (.pointer none) (.pointer none)).run Tryz.prog w = .ok (.bool true) w := by kernel_rfl
theorem fill_nil (w : World) (b : Bool) : Calls Tryz.prog 21 #[.pointer none, .bool b] w fun e w' => e = .returned (.tuple #[]) ∧ w = w' := by
  have hne := nil_nil
  go_enter Tryz.func21, Tryz.ntmps21
  go_wp2
  go_end0
  exact ⟨rfl, rfl⟩
theorem fill_any (w : World) (K : Nat → Nat) (o p : Nat) (d : DSt) (b : Bool) (hd : RefD w K o p d) (ho : o ≠ 0) :
    Calls Tryz.prog 21 #[.pointer (some ⟨p, 0, none⟩), .bool b] w (MPost w K o p { d with full := b }) := by
  have HS := Lib.hid (RefD.toFull hd ho b)
  obtain ⟨A, c, _, _, hp, hk, c0, c1, c2, c3, f0, f1, f2, f3, _, _⟩ := hd
  have HT := Lib.hid (turned_poke (w := w) (K := K) (o := o) (p := p) (j := 1) (u := .bool b) hk)
  clear hk c0 c2 c3 f0 f2 f3
  have hne := ne_nil p 0
  go_enter Tryz.func21, Tryz.ntmps21
  go_wp2
  go_end0
  exact ⟨rfl, K, HS.out, HT.out⟩

theorem arm_nil (w : World) (n : Int) : Calls Tryz.prog 23 #[.pointer none, .int .i64 n] w fun e w' => e = .returned (.tuple #[]) ∧ w = w' := by
  have hne := eq_nil
  go_enter Tryz.func23, Tryz.ntmps23
  go_wp2
  refine bodyPost_ret (results_none rfl _ _ _) rfl ?_
  exact ⟨rfl, rfl⟩
set_option maxHeartbeats 800000 in
theorem arm_any (w : World) (K : Nat → Nat) (o p : Nat) (d : DSt) (n : Int) (hd : RefD w K o p d) (ho : o ≠ 0) :
    Calls Tryz.prog 23 #[.pointer (some ⟨p, 0, none⟩), .int .i64 n] w (MPost w K o p (arm n d)) := by
  have HD := Lib.hid hd
  obtain ⟨A, c, _, _, hp, hk, c0, c1, c2, c3, f0, f1, f2, f3, _, _⟩ := hd
  have HK := Lib.hid hk
  clear hk c0 c1 f0 f1
  cases hoff : d.off with
  | true =>
    rw [hoff] at c2
    have HX := Lib.hid (show arm n d = d by unfold arm; rw [hoff, if_pos rfl])
    clear hoff
    go_enter Tryz.func23, Tryz.ntmps23
    go_wp2
    refine bodyPost_ret (results_none rfl _ _ _) rfl ?_
    rw [HX.out]
    exact ⟨rfl, K, HD.out, Turned.refl _ _ _⟩
  | false =>
    rw [hoff] at c2
    have HOFF := Lib.hid hoff
    clear hoff
    by_cases h1 : n < 0
    · have d1 : decide (n < 0) = true := by simpa using h1
      have d2 : (n == 0) = false := beq_eq_false_iff_ne.2 (by omega)
      have HS := Lib.hid (RefD.world (RefD.left (RefD.left HD.out ho n) ho (-1)) (d' := arm n d) (by
        have h := HOFF.out
        unfold arm
        rw [h, if_neg (by simp), if_pos h1, d2, ← h]))
      have HT := Lib.hid ((turned_poke (w := w) (K := K) (o := o) (p := p) (j := 3) (u := .int .i64 n) HK.out).trans (turned_poke (w := w.setCell ⟨p, 3, none⟩ (.int .i64 n)) (j := 3) (u := .int .i64 (-1)) HK.out))
      clear h1
      go_enter Tryz.func23, Tryz.ntmps23
      go_wp2
      go_end0
      exact ⟨rfl, K, HS.out, HT.out⟩
    · have d1 : decide (n < 0) = false := by simpa using h1
      by_cases h2 : n = 0
      · subst h2
        have HS := Lib.hid (RefD.world (RefD.toOff (RefD.left HD.out ho 0) ho true) (d' := arm 0 d) (by
          have h := HOFF.out
          unfold arm
          rw [h, if_neg (by simp), if_neg (by omega)]
          rfl))
        have HT := Lib.hid ((turned_poke (w := w) (K := K) (o := o) (p := p) (j := 3) (u := .int .i64 0) HK.out).trans (turned_poke (w := w.setCell ⟨p, 3, none⟩ (.int .i64 0)) (j := 2) (u := .bool true) HK.out))
        clear h1
        go_enter Tryz.func23, Tryz.ntmps23
        go_wp2
        go_end0
        exact ⟨rfl, K, HS.out, HT.out⟩
      · have d2 : (n == 0) = false := beq_eq_false_iff_ne.2 h2
        have HS := Lib.hid (RefD.world (RefD.left HD.out ho n) (d' := arm n d) (by
          have h := HOFF.out
          unfold arm
          rw [h, if_neg (by simp), if_neg h1, d2, ← h]))
        have HT := Lib.hid (turned_poke (w := w) (K := K) (o := o) (p := p) (j := 3) (u := .int .i64 n) HK.out)
        clear h1 h2
        go_enter Tryz.func23, Tryz.ntmps23
        go_wp2
        go_end0
        exact ⟨rfl, K, HS.out, HT.out⟩
end Go.Proofs.YtapbjmbakpopcaaGreatDoor.RefOps5

namespace Go.Proofs.YtapbjmbakpopcaaGreatDoor.RefSync5
open Go Go.RowKit Words DkSpec RefDisk RefChange RefRow RefTake RefPut5 RefOps5

theorem FRow.synced {w : World} {K : Nat → Nat} {o g off i n : Nat} {l : List DFile} (h : FRow w K o (some ⟨g, off, none⟩) l) (hi : i < l.length) (ho : o ≠ 0) :
    FRow (w.setCell ⟨g, off + i * 3 + 2, none⟩ (.int .i64 (n : Int))) K o (some ⟨g, off, none⟩) (l.modify i fun f => { f with synced := n }) := fun hn => by
  obtain ⟨g', off', e, hg, hk, hz, hcell⟩ := h (by omega)
  injection e with e
  injection e with e1 e2
  subst e1 e2
  have ne : ∀ (b x : Nat), b ≠ g ∨ x ≠ off + i * 3 + 2 → (w.setCell ⟨g, off + i * 3 + 2, none⟩ (.int .i64 (n : Int))).cell? ⟨b, x, none⟩ = w.cell? ⟨b, x, none⟩ := fun b x hb => World.cell?_setCell_other w _ _ _ (fun e => by
    injection e with e1 e2
    rcases hb with hb | hb
    · exact hb e1.symm
    · exact hb e2.symm)
  refine ⟨g, off, rfl, by simpa using hg, hk, fun j => by rw [World.frozen?_setCell]; exact hz j, fun j f hj => ?_⟩
  have hdata : ∀ (A' : Option Addr) (vs : List Value), Rd w w.heap.size A' vs → (∀ b off', A' = some ⟨b, off', none⟩ → 0 < vs.length → K b = 0) → Rd (w.setCell ⟨g, off + i * 3 + 2, none⟩ (.int .i64 (n : Int))) (w.setCell ⟨g, off + i * 3 + 2, none⟩ (.int .i64 (n : Int))).heap.size A' vs := fun A' vs hr h0 hp => by
    obtain ⟨b2, off2, e2, hb2, hc2⟩ := hr hp
    refine ⟨b2, off2, e2, by simpa using hb2, fun j' u' hu => (ne _ _ (.inl ?_)).trans (hc2 j' u' hu)⟩
    have h1 := h0 b2 off2 e2 hp
    intro e
    rw [e, hk] at h1
    exact ho h1
  rw [List.getElem?_modify] at hj
  cases hf : l[j]? with
  | none => rw [hf] at hj; simp at hj
  | some f0 =>
    rw [hf] at hj
    obtain ⟨k0, ⟨A', c', k1, k1a, k1b, k1c, k1d⟩, k2⟩ := hcell j f0 hf
    by_cases hij : i = j
    · subst hij
      simp only [if_pos, Option.map_eq_map, Option.map_some, Option.some.injEq] at hj
      subst hj
      exact ⟨(ne _ _ (.inr (by omega))).trans k0, ⟨A', c', (ne _ _ (.inr (by omega))).trans k1, k1a, k1b, hdata _ _ k1c (by simpa using k1d), k1d⟩, World.cell?_setCell_same _ _ _ k2⟩
    · simp only [if_neg hij, Option.map_eq_map, Option.map_some, id_eq, Option.some.injEq] at hj
      subst hj
      exact ⟨(ne _ _ (.inr (by omega))).trans k0, ⟨A', c', (ne _ _ (.inr (by omega))).trans k1, k1a, k1b, hdata _ _ k1c (by simpa using k1d), k1d⟩, (ne _ _ (.inr (by omega))).trans k2⟩
theorem RefD.synced {w : World} {K : Nat → Nat} {o p g off c i n : Nat} {d : DSt} (h : RefD w K o p d) (ho : o ≠ 0) (hA : w.cell? ⟨p, 0, none⟩ = some (.slice (some ⟨g, off, none⟩) d.files.length c)) (hi : i < d.files.length) :
    RefD (w.setCell ⟨g, off + i * 3 + 2, none⟩ (.int .i64 (n : Int))) K o p { d with files := d.files.modify i fun f => { f with synced := n } } := by
  obtain ⟨A, c', hc, hm, hp, hk, c0, c1, c2, c3, f0, f1, f2, f3, hAp, hf⟩ := h
  have e := c0.symm.trans hA
  injection e with e
  injection e with e1 _ e3
  subst e1 e3
  have hgp := hAp g off rfl
  have ne : ∀ x : Nat, (w.setCell ⟨g, off + i * 3 + 2, none⟩ (.int .i64 (n : Int))).cell? ⟨p, x, none⟩ = w.cell? ⟨p, x, none⟩ := fun x => World.cell?_setCell_other w _ _ _ (fun e => hgp (by injection e))
  have hlen : (d.files.modify i fun f => { f with synced := n }).length = d.files.length := List.length_modify _ _ _
  refine ⟨some ⟨g, off, none⟩, c', by simp only [hlen]; exact hc, hm, by simpa using hp, hk, by simp only [hlen]; exact (ne 0).trans c0, (ne 1).trans c1, (ne 2).trans c2, (ne 3).trans c3, ?_, ?_, ?_, ?_, hAp, FRow.synced hf hi ho⟩
  all_goals rw [World.frozen?_setCell]; assumption

set_option maxHeartbeats 1600000 in
set_option maxRecDepth 100000 in
theorem sync_any (w : World) (K : Nat → Nat) (o p : Nat) (d : DSt) (a : List UInt8) (hd : RefD w K o p d) (ho : o ≠ 0) (ha : a.length ≤ maxLen) (hl1 : -1 ≤ d.left) (hl2 : d.left ≤ 9223372036854775807) :
    Calls Tryz.prog 41 #[.pointer (some ⟨p, 0, none⟩), .string ⟨a.toArray⟩] w (OPost w K o p (sync a d)) := by
  have HC := Lib.hid (change_any w K o p d a a hd ho ha ha hl1 hl2)
  by_cases hr : refused a a d ≠ 0
  · have HX := Lib.hid (show sync a d = (refused a a d, d) by unfold sync; rw [if_pos hr])
    have h1 : ((refused a a d : Int) != 0) = true := by simp; omega
    unfold ChPost at HC
    rw [if_pos hr] at HC
    clear hd ha hl1 hl2 hr ho
    go_enter Tryz.func41, Tryz.ntmps41
    go_wp2_with fail
    refine HC.out.mono ?_
    rintro e w1 ⟨rfl, hd1, ht1⟩
    have HD1 := Lib.hid hd1
    have HT1 := Lib.hid ht1
    clear hd1 ht1
    go_wp2
    go_ret
    rw [HX.out]
    exact ⟨rfl, K, HD1.out, HT1.out⟩
  · unfold ChPost at HC
    rw [if_neg hr, show refused a a d = 0 by omega] at HC
    have hfl := stepped_files d
    obtain ⟨i, b, hib⟩ : ∃ i b, place a d.files = (i, b) := ⟨_, _, rfl⟩
    have hle := place_le a d.files
    rw [hib] at hle
    obtain ⟨_, hle2⟩ := hle
    simp only at hle2
    have HF := fun w1 h => Lib.hid (find_any w1 K o p (stepped d) a h)
    rw [hfl, hib] at HF
    cases b with
    | false =>
      have HX := Lib.hid (show sync a d = (21, stepped d) by unfold sync; rw [if_neg hr, hib]; rfl)
      clear hd ha hl1 hl2 hr ho hfl hib hle2
      go_enter Tryz.func41, Tryz.ntmps41
      go_wp2_with fail
      refine HC.out.mono ?_
      rintro e w1 ⟨rfl, hd1, ht1⟩
      have HD1 := Lib.hid hd1
      have HT1 := Lib.hid ht1
      have HF1 := Lib.hid (HF w1 hd1)
      clear hd1 ht1 HF
      go_wp2_with fail
      refine HF1.out.out.mono ?_
      rintro e w2 ⟨rfl, rfl⟩
      go_wp2
      go_ret
      rw [HX.out]
      exact ⟨rfl, K, HD1.out, HT1.out⟩
    | true =>
      have hil := (hle2 rfl).1
      have HX := Lib.hid (show sync a d = (0, { stepped d with files := (stepped d).files.modify i fun f => { f with synced := f.data.length } }) by unfold sync; rw [if_neg hr, hib, hfl]; rfl)
      have HIL := Lib.hid hil
      have HO := Lib.hid ho
      have HFL := Lib.hid hfl
      clear hd ha hl1 hl2 hr ho hfl hib hle2 hil
      go_enter Tryz.func41, Tryz.ntmps41
      go_wp2_with fail
      refine HC.out.mono ?_
      rintro e w1 ⟨rfl, hd1, ht1⟩
      have HT1 := Lib.hid ht1
      have HD1 := Lib.hid hd1
      have HF1 := Lib.hid (HF w1 hd1)
      clear hd1 ht1 HF
      go_wp2_with fail
      refine HF1.out.out.mono ?_
      rintro e w2 ⟨rfl, rfl⟩
      obtain ⟨A, c, hc, hm, hp, hk, c0, _, _, _, f0, _, _, _, hAp, hf⟩ := HD1.out
      rw [HFL.out] at hc c0 hf
      have hil := HIL.out
      obtain ⟨g, off, rfl, hg, hkg, hgz, hcell⟩ := hf (by omega)
      obtain ⟨k0, ⟨A', c', k1, k1a, k1b, k1c, k1d⟩, k2⟩ := hcell i (d.files[i]'hil) (List.getElem?_eq_getElem hil)
      have hgz' := hgz (off + i * 3 + 2)
      have HS := Lib.hid (RefD.synced (i := i) (n := (d.files[i]'hil).data.length) HD1.out HO.out (by rw [HFL.out]; exact c0) (by rw [HFL.out]; exact hil))
      have HMOD : Hid ((stepped d).files.modify i (fun f => { f with synced := f.data.length }) = (stepped d).files.modify i (fun f => { f with synced := (d.files[i]'hil).data.length })) := Lib.hid (by
        rw [HFL.out]
        apply List.ext_getElem?
        intro j
        rw [List.getElem?_modify, List.getElem?_modify]
        by_cases hij : i = j
        · subst hij
          simp [List.getElem?_eq_getElem hil]
        · simp [hij])
      have HT := Lib.hid (turned_poke (w := w1) (K := K) (o := o) (p := g) (j := off + i * 3 + 2) (u := .int .i64 (((d.files[i]'hil).data.length : Nat) : Int)) hkg)
      unfold maxLen at hm k1b
      generalize hfi : (d.files[i]'hil) = f at *
      clear hfi hcell hf k0 k1c k1d hgz hAp hk
      generalize d.files.length = n at *
      go_wp2
      go_region
      go_wp2
      go_ret
      rw [HX.out, HMOD.out]
      exact ⟨rfl, K, HS.out, HT1.out.trans ⟨HT.out.os, HT.out.tape, HT.out.output, HT.out.size, HT.out.block, HT.out.kind⟩⟩
end Go.Proofs.YtapbjmbakpopcaaGreatDoor.RefSync5

namespace Go.Proofs.YtapbjmbakpopcaaGreatDoor.RefRen5
open Go Go.RowKit Words DkSpec RefDisk RefChange RefRow RefTake RefPut5 RefOps5

end Go.Proofs.YtapbjmbakpopcaaGreatDoor.RefRen5

namespace Go.Proofs.YtapbjmbakpopcaaGreatDoor.RefNew5
open Go Go.RowKit Words DkSpec RefDisk RefChange RefRow RefTake RefPut5 RefOps5

/-- A new disk at a new block; all that was there is as it was. -/
def NPost (w : World) (K : Nat → Nat) (o : Nat) (d : DSt) (e : Ending) (w' : World) : Prop := ∃ p K', e = .returned (.pointer (some ⟨p, 0, none⟩)) ∧ w.heap.size ≤ p ∧ RefD w' K' o p d ∧ ∀ o', Turned K K' o' w w'

theorem new_any (w : World) (K : Nat → Nat) (o : Nat) :
    Calls Tryz.prog 8 #[] w (NPost w K o fresh) := by
  go_enter Tryz.func8, Tryz.ntmps8
  go_wp2
  go_ret
  have hh := Go.heap_alloc_new w (.cells #[.slice none 0 0, .bool false, .bool false, .int .i64 (-1)] 56)
  obtain ⟨W, hW⟩ : ∃ W, W = w.alloc (.cells #[.slice none 0 0, .bool false, .bool false, .int .i64 (-1)] 56) := ⟨_, rfl⟩
  rw [← hW] at hh ⊢
  have hsz : W.heap.size = w.heap.size + 1 := by rw [hW]; simp
  have hbW : ∀ j, j < w.heap.size → W.heap[j]? = w.heap[j]? := fun j hj => by rw [hW]; exact Below.heap_alloc w _ j hj
  have fz : ∀ j, W.frozen? ⟨w.heap.size, j, none⟩ = false := fun j => by
    unfold World.frozen?
    rw [hh]
    rfl
  have kc : ∀ j u, (#[Value.slice none 0 0, .bool false, .bool false, .int .i64 (-1)])[j]? = some u → W.cell? ⟨w.heap.size, j, none⟩ = some u := fun j u hu => by
    rw [hW]
    exact (World.cell?_alloc_at _ _ _ _ rfl).trans hu
  refine ⟨w.heap.size, fun b => if b < w.heap.size then K b else o, rfl, Nat.le_refl _, ⟨none, 0, Nat.le_refl _, Nat.zero_le _, by omega, by simp, kc 0 _ rfl, kc 1 _ rfl, kc 2 _ rfl, kc 3 _ rfl, fz 0, fz 1, fz 2, fz 3, fun _ _ e => (by cases e), fun h => absurd h (Nat.lt_irrefl 0)⟩, fun o' => ⟨by rw [hW]; rfl, by rw [hW]; rfl, by rw [hW]; rfl, by omega, fun j hj _ => hbW j hj, fun j hj => by simp [hj]⟩⟩
end Go.Proofs.YtapbjmbakpopcaaGreatDoor.RefNew5

