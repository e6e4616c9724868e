/- The contract of the document's own 'put' (a file at its place, the one of its name gone). Conditions: the disk lies in memory as 'RefD' says; the file's bytes are of nobody's; at most 10^9 files. -/
import Derived.Test.YtfblekedgenacaaRefTake
namespace Go.Proofs.Ytfblekedgenacaa.RefPut5
open Go Go.RowKit Words DkSpec RefDisk RefChange RefRow RefTake AppN

/-- A file as a value. -/
def fcs (f : DFile) (A : Option Addr) (c : Nat) : Array Value := #[.string ⟨f.name.toArray⟩, .slice A f.data.length c, .int .i64 (f.synced : Int)]

set_option maxHeartbeats 3200000 in
set_option maxRecDepth 100000 in
theorem put_any (w : World) (K : Nat → Nat) (o p : Nat) (d : DSt) (f : DFile) (Af : Option Addr) (cf : Nat) (hd : RefD w K o p d) (ho : o ≠ 0) (hn : d.files.length ≤ 1000000000) (hcf : f.data.length ≤ cf) (hmf : cf ≤ maxLen)
    (hrf : Rd w w.heap.size Af (f.data.map B8)) (hkf : ∀ b off, Af = some ⟨b, off, none⟩ → 0 < f.data.length → K b = 0) :
    Calls Try.prog 42 #[.pointer (some ⟨p, 0, none⟩), .agg (fcs f Af cf)] w (MPost w K o p { d with files := put f d.files }) := by
  obtain ⟨i0, hi, hz0, hz1, hz2⟩ := info_parts info_file
  obtain ⟨W, hW⟩ : ∃ W, W = w.alloc (.cells (fcs f Af cf) 68) := ⟨_, rfl⟩
  obtain ⟨K0, hK0⟩ : ∃ K0 : Nat → Nat, K0 = fun b => if b < w.heap.size then K b else o := ⟨_, rfl⟩
  have hk0 : ∀ j, j < w.heap.size → K0 j = K j := fun j hj => by rw [hK0]; simp [hj]
  have hsz : W.heap.size = w.heap.size + 1 := by rw [hW]; simp
  have hbW : ∀ j, j < w.heap.size → W.heap[j]? = w.heap[j]? := fun j hj => by rw [hW]; exact Below.heap_alloc w _ j hj
  have HT0 : Hid (Turned K K0 o w W) := Lib.hid ⟨by rw [hW]; rfl, by rw [hW]; rfl, by rw [hW]; rfl, by omega, fun j hj _ => hbW j hj, hk0⟩
  have HDW := Lib.hid (RefD.grow hd (K' := K0) (show w.heap.size ≤ W.heap.size by omega) hbW hk0 (by rw [hW]; rfl) (by rw [hW]; rfl) (by rw [hW]; rfl))
  have HFD := Lib.hid (find_any W K0 o p d f.name HDW.out)
  have hRfW : Rd W W.heap.size Af (f.data.map B8) := (hrf.keep fun q hq => World.cell?_of_block (hbW q.block hq)).more (by omega)
  have hkfW : ∀ b off, Af = some ⟨b, off, none⟩ → 0 < f.data.length → K0 b = 0 := fun b off e hl => by
    obtain ⟨b2, off2, e2, hb2, _⟩ := hrf (by simpa using hl)
    rw [e] at e2
    injection e2 with e2
    injection e2 with e2
    subst e2
    exact (hk0 b hb2).trans (hkf b off e hl)
  have HF1 : Hid (FCells W K0 [f] (fcs f Af cf).toList) := Lib.hid (FCells.cons hcf hmf hRfW hkfW .nil)
  have kw0 : W.cell? ⟨w.heap.size, 0, none⟩ = some (.string ⟨f.name.toArray⟩) := by rw [hW]; exact World.cell?_alloc_at _ _ _ _ rfl
  have kw1 : W.cell? ⟨w.heap.size, 1, none⟩ = some (.slice Af f.data.length cf) := by rw [hW]; exact World.cell?_alloc_at _ _ _ _ rfl
  have kw2 : W.cell? ⟨w.heap.size, 2, none⟩ = some (.int .i64 (f.synced : Int)) := by rw [hW]; exact World.cell?_alloc_at _ _ _ _ rfl
  have HHW := Lib.hid hW
  obtain ⟨A, c, hc, hm, hp, hk, c0, _, _, _, f0, _, _, _, _, hf⟩ := HDW.out
  obtain ⟨cs, hcs, hrd⟩ := row_cells d.files hf
  have HCL := Lib.hid hcs.length
  have HCS := Lib.hid hcs
  have HRD := Lib.hid hrd
  have HKP := Lib.hid hk
  have HSZ := Lib.hid hsz
  have hpw : p < w.heap.size := by
    obtain ⟨_, _, _, _, h, _⟩ := hd
    exact h
  unfold maxLen at hm hmf
  obtain ⟨l, hl⟩ : ∃ l, d.files = l := ⟨_, rfl⟩
  have hle := place_le f.name d.files
  rw [hl] at hn hc c0 HCS HCL HFD hle
  obtain ⟨i, b, hib⟩ : ∃ i b, place f.name l = (i, b) := ⟨_, _, rfl⟩
  have HPUT : Hid (put f l = l.take i ++ ([f] ++ l.drop (i + if b then 1 else 0))) := Lib.hid (by unfold put; rw [hib]; simp)
  rw [hib] at HFD hle
  obtain ⟨hle1, hle2⟩ := hle
  simp only at hle1 hle2
  have hown0 := World.ownsRow_nil W W.heap.size 68 3
  have HLL := Lib.hid hl
  rw [hl]
  unfold fcs
  unfold fcs at hW
  have hd1l : i ≤ l.length := hle1
  -- what stands at the end
  have HEND : Hid (∀ (v3 : Value) (w3 : World) (n3 : Nat), n3 = (put f l).length → w3.ownsRow W.heap.size 68 3 v3 n3 (cs.take (i * 3) ++ ((fcs f Af cf).toList ++ cs.drop ((i + if b then 1 else 0) * 3))) → W.heap.size ≤ w3.heap.size → (∀ j, j < W.heap.size → w3.heap[j]? = W.heap[j]?) → w3.os = W.os → w3.tape = W.tape → w3.output = W.output →
      MPost w K o p { d with files := put f l } (.returned (.tuple #[])) (w3.setCell ⟨p, 0, none⟩ v3)) := Lib.hid fun v3 w3 n3 hn3 hown3 hs3 hb3 h1 h2 h3 => by
    have hT : Turned K0 (fun b => if b < W.heap.size then K0 b else o) o W w3 := ⟨h1, h2, h3, hs3, fun j hj _ => hb3 j hj, fun j hj => by simp [hj]⟩
    have hD3 : RefD w3 (fun b => if b < W.heap.size then K0 b else o) o p d := RefD.grow HDW.out hs3 hb3 (fun j hj => by simp [hj]) h1 h2 h3
    have hC3 := ((HCS.out.take i).append (HF1.out.append (HCS.out.drop (i + if b then 1 else 0)))).turned hT ho
    rw [← HPUT.out] at hC3
    obtain ⟨A3, c3, rfl, hl3, hm3, hr3, hbase⟩ := own_rd hown3
    subst hn3
    refine ⟨rfl, fun b => if b < W.heap.size then K0 b else o, RefD.row hD3 ho hC3 hr3 (fun b off e => ⟨?_, ?_⟩) (fun b off e => (hbase b off e).2.2) hl3 hm3, HT0.out.trans (hT.trans (turned_poke ?_))⟩
    · have := (hbase b off e).1
      show (if b < W.heap.size then K0 b else o) = o
      rw [if_neg (by omega)]
    · have := (hbase b off e).1
      omega
    · show (if p < W.heap.size then K0 p else o) = o
      rw [if_pos hp, HKP.out]
  have hlen : (put f l).length = i + 1 + (l.length - (i + if b then 1 else 0)) := by
    rw [HPUT.out]
    simp only [List.length_append, List.length_take, List.length_drop, List.length_singleton]
    omega
  have HLEN := Lib.hid hlen
  have hkc : i + (if b then 1 else 0) ≤ l.length := by
    cases b with
    | true => have := (hle2 rfl).1; simp; omega
    | false => simp; omega
  have hbxlt : w.heap.size < W.heap.size := by omega
  obtain ⟨bx, hbx⟩ : ∃ bx, w.heap.size = bx := ⟨_, rfl⟩
  rw [hbx] at kw0 kw1 kw2 hbxlt
  have HBX := Lib.hid hbx
  clear hd hrf hkf hRfW hkfW hk hf hcs hrd hbW hk0 hK0 hsz hib hl hlen hle1 hle2 hbx
  go_enter Try.func42, Try.ntmps42
  go_wp2_with fail
  rw [← hW, HBX.out]
  refine HFD.out.mono ?_
  rintro e w1 ⟨rfl, rfl⟩
  clear hW
  go_wp2_with (at_builtin; refine wpList_append_rd (v := .slice none 0 0) _ rfl (.tmp 14) (.tmp 20) 59 rfl W.heap.size 3 68 i0 zFile 48 Try.underlying59 hi hz0 hz1 hz2 rfl (by omega) 0 [] rfl hown0 W.heap.size _ _ _ (cs.take (i * 3)) rfl (by simp [HCL.out]; omega) (HRD.out.take (i * 3)) (HCS.out.take i).one ?c1 ?c2 (Nat.le_refl _) ?_)
  case c1 => unfold maxLen; omega
  case c2 => omega
  intro v1 w1 hown1 hg1 _
  have hb1 : ∀ j, j < W.heap.size → w1.heap[j]? = W.heap[j]? := fun j hj => hg1.block j hj (by simp [Value.ownBlock])
  have c0' : w1.cell? ⟨p, 0, none⟩ = some (.slice A l.length c) := (cell_of (hb1 p hp)).trans c0
  have f0' : w1.frozen? ⟨p, 0, none⟩ = false := by
    rw [← f0]
    unfold World.frozen?
    rw [hb1 p hp]
  have kv0 := (cell_of (off := 0) (hb1 bx hbxlt)).trans kw0
  have kv1 := (cell_of (off := 1) (hb1 bx hbxlt)).trans kw1
  have kv2 := (cell_of (off := 2) (hb1 bx hbxlt)).trans kw2
  have HO1 : Hid (w1.ownsRow W.heap.size 68 3 v1 i (cs.take (i * 3))) := Lib.hid (by simpa using hown1)
  have S1 : Hid (W.heap.size ≤ w1.heap.size) := Lib.hid hg1.size
  have HG1 := Lib.hid hg1
  have HB1 := Lib.hid hb1
  clear hown1 hg1 hb1 c0 f0 kw0 kw1 kw2
  go_wp2_with (at_builtin; refine wpList_append_rd _ rfl (.tmp 22) (.tmp 24) 59 rfl W.heap.size 3 68 i0 zFile 48 Try.underlying59 hi hz0 hz1 hz2 rfl (by omega) _ _ _ rfl (HO1.out.alloc _) (w1.heap.size + 1) (some ⟨w1.heap.size, 0, none⟩) 1 1 (fcs f Af cf).toList rfl rfl (Rd.made w1 (fcs f Af cf) 68) HF1.out.one ?d1 ?d2 ?d3 ?_)
  case d1 => unfold maxLen; omega
  case d2 => omega
  case d3 => have := S1.out; simp; omega
  intro v2 w2 hown2 hg2 hloc
  have hs2 : W.heap.size ≤ w2.heap.size := by have h1 := S1.out; have h2 := hg2.size; simp at h2; omega
  have S2 := Lib.hid hs2
  have hb2 : ∀ j, j < W.heap.size → w2.heap[j]? = W.heap[j]? := fun j hj => ((hg2.block j (by have := S1.out; simp; omega) (fun e => by have := (HO1.out.lt j e.symm).1; omega)).trans (Below.heap_alloc w1 _ j (by have := S1.out; omega))).trans (HB1.out j hj)
  have HB2 := Lib.hid hb2
  have HO2 := Lib.hid hown2
  have HOS : Hid (w2.os = W.os ∧ w2.tape = W.tape ∧ w2.output = W.output) := Lib.hid ⟨hg2.os.trans HG1.out.os, hg2.tape.trans HG1.out.tape, hg2.output.trans HG1.out.output⟩
  have HC0 : Hid (W.cell? ⟨p, 0, none⟩ = some (.slice A l.length c)) := Lib.hid ((cell_of (HB1.out p hp)).symm.trans c0')
  have HF0 : Hid (W.frozen? ⟨p, 0, none⟩ = false) := Lib.hid (by
    rw [← f0']
    unfold World.frozen?
    rw [HB1.out p hp])
  have c02 : w2.cell? ⟨p, 0, none⟩ = some (.slice A l.length c) := (cell_of (hb2 p hp)).trans HC0.out
  have HRD2 : Hid (Rd w2 W.heap.size A cs) := Lib.hid (HRD.out.keep fun q hq => World.cell?_of_block (hb2 q.block hq))
  clear hown2 hg2 hb2 kv0 kv1 kv2 HO1 HG1 HB1 hloc
  cases b with
  | true =>
    simp only [if_pos] at HEND HLEN hkc
    have HX := Lib.hid (rd_cut3 (k := i + 1) HRD2.out HCL.out hc)
    have hkc' : i + 1 ≤ c := by omega
    have hnk : l.length - (i + 1) + (i + 1) = l.length := by omega
    by_cases hcd : c = (i + 1)
    · rw [if_pos hcd] at HX
      have hc0 : l.length - (i + 1) = 0 := by omega
      subst hcd
      go_wp2_with (at_builtin; refine wpList_append_rd _ rfl (.tmp 30) (.tmp 36) 59 rfl W.heap.size 3 68 i0 zFile 48 Try.underlying59 hi hz0 hz1 hz2 rfl (by omega) _ _ _ rfl HO2.out W.heap.size _ _ _ (cs.drop ((i + 1) * 3)) rfl (by rw [List.length_drop, HCL.out]; omega) HX.out (HCS.out.drop (i + 1)).one ?a1 ?a2 S2.out ?_)
      case a1 => unfold maxLen; omega
      case a2 => omega
      intro v3 w3 hown3 hg3 _
      have hb3 : ∀ j, j < W.heap.size → w3.heap[j]? = W.heap[j]? := fun j hj => (hg3.block j (by have := S2.out; omega) (fun e => by have := (HO2.out.lt j e.symm).1; omega)).trans (HB2.out j hj)
      have c03 : w3.cell? ⟨p, 0, none⟩ = some (.slice A l.length (i + 1)) := (cell_of (hb3 p hp)).trans HC0.out
      have f03 : w3.frozen? ⟨p, 0, none⟩ = false := by
        rw [← HF0.out]
        unfold World.frozen?
        rw [hb3 p hp]
      have hown3' := hown3
      have HE := Lib.hid (HEND.out v3 w3 _ (by rw [HLEN.out]; omega) hown3' (Nat.le_trans S2.out hg3.size) hb3 (hg3.os.trans HOS.out.1) (hg3.tape.trans HOS.out.2.1) (hg3.output.trans HOS.out.2.2))
      obtain ⟨A3, c3, rfl, _, _, _, _⟩ := own_rd hown3
      clear hown3 hown3' hg3 hb3 HEND c0' f0'
      go_wp2
      go_end0
      exact HE.out
    · rw [if_neg hcd] at HX
      go_wp2_with (at_builtin; refine wpList_append_rd _ rfl (.tmp 30) (.tmp 36) 59 rfl W.heap.size 3 68 i0 zFile 48 Try.underlying59 hi hz0 hz1 hz2 rfl (by omega) _ _ _ rfl HO2.out W.heap.size _ _ _ (cs.drop ((i + 1) * 3)) rfl (by rw [List.length_drop, HCL.out, Nat.sub_mul]) HX.out (HCS.out.drop (i + 1)).one ?b1 ?b2 S2.out ?_)
      case b1 => unfold maxLen; omega
      case b2 => omega
      intro v3 w3 hown3 hg3 _
      have hb3 : ∀ j, j < W.heap.size → w3.heap[j]? = W.heap[j]? := fun j hj => (hg3.block j (by have := S2.out; omega) (fun e => by have := (HO2.out.lt j e.symm).1; omega)).trans (HB2.out j hj)
      have c03 : w3.cell? ⟨p, 0, none⟩ = some (.slice A l.length c) := (cell_of (hb3 p hp)).trans HC0.out
      have f03 : w3.frozen? ⟨p, 0, none⟩ = false := by
        rw [← HF0.out]
        unfold World.frozen?
        rw [hb3 p hp]
      have hown3' := hown3
      have HE := Lib.hid (HEND.out v3 w3 _ (by rw [HLEN.out]; omega) hown3' (Nat.le_trans S2.out hg3.size) hb3 (hg3.os.trans HOS.out.1) (hg3.tape.trans HOS.out.2.1) (hg3.output.trans HOS.out.2.2))
      obtain ⟨A3, c3, rfl, _, _, _, _⟩ := own_rd hown3
      clear hown3 hown3' hg3 hb3 HEND c0' f0'
      go_wp2
      go_end0
      exact HE.out
  | false =>
    simp only [Bool.false_eq_true, if_false, Nat.add_zero] at HEND HLEN hkc
    have HX := Lib.hid (rd_cut3 (k := i) HRD2.out HCL.out hc)
    have hkc' : i ≤ c := by omega
    have hnk : l.length - i + i = l.length := by omega
    by_cases hcd : c = i
    · rw [if_pos hcd] at HX
      have hc0 : l.length - i = 0 := by omega
      have hcd' := hcd.symm
      subst hcd'
      go_wp2_with (at_builtin; refine wpList_append_rd _ rfl (.tmp 30) (.tmp 36) 59 rfl W.heap.size 3 68 i0 zFile 48 Try.underlying59 hi hz0 hz1 hz2 rfl (by omega) _ _ _ rfl HO2.out W.heap.size _ _ _ (cs.drop (i * 3)) rfl (by rw [List.length_drop, HCL.out]; omega) HX.out (HCS.out.drop i).one ?g1 ?g2 S2.out ?_)
      case g1 => unfold maxLen; omega
      case g2 => omega
      intro v3 w3 hown3 hg3 _
      have hb3 : ∀ j, j < W.heap.size → w3.heap[j]? = W.heap[j]? := fun j hj => (hg3.block j (by have := S2.out; omega) (fun e => by have := (HO2.out.lt j e.symm).1; omega)).trans (HB2.out j hj)
      have c03 : w3.cell? ⟨p, 0, none⟩ = some (.slice A l.length i) := (cell_of (hb3 p hp)).trans HC0.out
      have f03 : w3.frozen? ⟨p, 0, none⟩ = false := by
        rw [← HF0.out]
        unfold World.frozen?
        rw [hb3 p hp]
      have hown3' := hown3
      have HE := Lib.hid (HEND.out v3 w3 _ (by rw [HLEN.out]; omega) hown3' (Nat.le_trans S2.out hg3.size) hb3 (hg3.os.trans HOS.out.1) (hg3.tape.trans HOS.out.2.1) (hg3.output.trans HOS.out.2.2))
      obtain ⟨A3, c3, rfl, _, _, _, _⟩ := own_rd hown3
      clear hown3 hown3' hg3 hb3 HEND c0' f0'
      go_wp2
      go_end0
      exact HE.out
    · rw [if_neg hcd] at HX
      go_wp2_with (at_builtin; refine wpList_append_rd _ rfl (.tmp 30) (.tmp 36) 59 rfl W.heap.size 3 68 i0 zFile 48 Try.underlying59 hi hz0 hz1 hz2 rfl (by omega) _ _ _ rfl HO2.out W.heap.size _ _ _ (cs.drop (i * 3)) rfl (by rw [List.length_drop, HCL.out, Nat.sub_mul]) HX.out (HCS.out.drop i).one ?h1 ?h2 S2.out ?_)
      case h1 => unfold maxLen; omega
      case h2 => omega
      intro v3 w3 hown3 hg3 _
      have hb3 : ∀ j, j < W.heap.size → w3.heap[j]? = W.heap[j]? := fun j hj => (hg3.block j (by have := S2.out; omega) (fun e => by have := (HO2.out.lt j e.symm).1; omega)).trans (HB2.out j hj)
      have c03 : w3.cell? ⟨p, 0, none⟩ = some (.slice A l.length c) := (cell_of (hb3 p hp)).trans HC0.out
      have f03 : w3.frozen? ⟨p, 0, none⟩ = false := by
        rw [← HF0.out]
        unfold World.frozen?
        rw [hb3 p hp]
      have hown3' := hown3
      have HE := Lib.hid (HEND.out v3 w3 _ (by rw [HLEN.out]) hown3' (Nat.le_trans S2.out hg3.size) hb3 (hg3.os.trans HOS.out.1) (hg3.tape.trans HOS.out.2.1) (hg3.output.trans HOS.out.2.2))
      obtain ⟨A3, c3, rfl, _, _, _, _⟩ := own_rd hown3
      clear hown3 hown3' hg3 hb3 HEND c0' f0'
      go_wp2
      go_end0
      exact HE.out
end Go.Proofs.Ytfblekedgenacaa.RefPut5
