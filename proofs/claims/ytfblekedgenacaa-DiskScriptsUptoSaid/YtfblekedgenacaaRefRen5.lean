/- The contract of the document's own Rename. Conditions: the disk lies in memory as 'RefD' says; the names' lengths are at most the model's greatest; at most 10^9 files. -/
import Derived.Test.YtfblekedgenacaaRefSync5
namespace Go.Proofs.Ytfblekedgenacaa.RefRen5
open Go Go.RowKit Words DkSpec RefDisk RefChange RefRow RefTake RefPut5 RefOps5

set_option maxHeartbeats 1600000 in
set_option maxRecDepth 100000 in
theorem rename_any (w : World) (K : Nat → Nat) (o p : Nat) (d : DSt) (a b : List UInt8) (hd : RefD w K o p d) (ho : o ≠ 0) (ha : a.length ≤ maxLen) (hb : b.length ≤ maxLen) (hl1 : -1 ≤ d.left) (hl2 : d.left ≤ 9223372036854775807) (hn : d.files.length ≤ 1000000000) :
    Calls Try.prog 28 #[.pointer (some ⟨p, 0, none⟩), .string ⟨a.toArray⟩, .string ⟨b.toArray⟩] w (OPost w K o p (rename a b d)) := by
  have HC := Lib.hid (change_any w K o p d a b hd ho ha hb hl1 hl2)
  by_cases hr : refused a b d ≠ 0
  · have HX := Lib.hid (show rename a b d = (refused a b d, d) by unfold rename; rw [if_pos hr])
    have h1 : ((refused a b d : Int) != 0) = true := by simp; omega
    unfold ChPost at HC
    rw [if_pos hr] at HC
    clear hd ha hb hl1 hl2 hr ho hn
    go_enter Try.func28, Try.ntmps28
    go_wp2_with fail
    refine HC.out.mono ?_
    rintro e w1 ⟨rfl, hd1, ht1⟩
    have HD1 := Lib.hid hd1
    have HT1 := Lib.hid ht1
    clear hd1 ht1
    go_wp2
    go_ret
    rw [HX.out]
    exact ⟨rfl, K, HD1.out, HT1.out⟩
  · unfold ChPost at HC
    rw [if_neg hr, show refused a b d = 0 by omega] at HC
    have hfl := stepped_files d
    obtain ⟨i, x, hib⟩ : ∃ i x, place a d.files = (i, x) := ⟨_, _, rfl⟩
    have hle := place_le a d.files
    rw [hib] at hle
    obtain ⟨_, hle2⟩ := hle
    simp only at hle2
    have HF := fun w1 h => Lib.hid (find_any w1 K o p (stepped d) a h)
    rw [hfl, hib] at HF
    cases x with
    | false =>
      have HX := Lib.hid (show rename a b d = (21, stepped d) by unfold rename; rw [if_neg hr, hib]; rfl)
      clear hd ha hb hl1 hl2 hr ho hfl hib hle2 hn
      go_enter Try.func28, Try.ntmps28
      go_wp2_with fail
      refine HC.out.mono ?_
      rintro e w1 ⟨rfl, hd1, ht1⟩
      have HD1 := Lib.hid hd1
      have HT1 := Lib.hid ht1
      have HF1 := Lib.hid (HF w1 hd1)
      clear hd1 ht1 HF
      go_wp2_with fail
      refine HF1.out.out.mono ?_
      rintro e w2 ⟨rfl, rfl⟩
      go_wp2
      go_ret
      rw [HX.out]
      exact ⟨rfl, K, HD1.out, HT1.out⟩
    | true =>
      have hil := (hle2 rfl).1
      have HX := Lib.hid (show rename a b d = (0, { stepped d with files := put { (d.files[i]'hil) with name := b } (del i d.files) }) by
        unfold rename
        rw [if_neg hr, hib]
        have : old a d.files = d.files[i]'hil := by
          unfold old
          rw [hib]
          simp [List.getD, List.getElem?_eq_getElem hil]
        rw [this]
        rfl)
      have HIL := Lib.hid hil
      have HO := Lib.hid ho
      have HFL := Lib.hid hfl
      have HN := Lib.hid hn
      clear hd ha hb hl1 hl2 hr ho hfl hib hle2 hn
      go_enter Try.func28, Try.ntmps28
      go_wp2_with fail
      refine HC.out.mono ?_
      rintro e w1 ⟨rfl, hd1, ht1⟩
      have HT1 := Lib.hid ht1
      have HD1 := Lib.hid hd1
      have HF1 := Lib.hid (HF w1 hd1)
      clear hd1 ht1 HF
      go_wp2_with fail
      refine HF1.out.out.mono ?_
      rintro e w2 ⟨rfl, rfl⟩
      obtain ⟨A, c, hc, hm, hp, hk, c0, _, _, _, f0, _, _, _, hAp, hf⟩ := HD1.out
      rw [HFL.out] at hc c0 hf
      obtain ⟨g, off, rfl, hg, hkg, hgz, hcell⟩ := hf (by omega)
      obtain ⟨k0, ⟨A', c', k1, k1a, k1b, k1c, k1d⟩, k2⟩ := hcell i (d.files[i]'hil) (List.getElem?_eq_getElem hil)
      have HA := Lib.hid k1a
      have HBm := Lib.hid k1b
      have HCr := Lib.hid k1c
      have HDk := Lib.hid k1d
      have HILf := Lib.hid hil
      unfold maxLen at hm
      unfold S8 at k0
      generalize hfi : (d.files[i]'hil) = f at *
      clear hfi hcell hf k1a k1b k1c k1d hgz hAp hk hkg
      obtain ⟨W, hW⟩ : ∃ W, W = w1.alloc (.cells #[.string ⟨f.name.toArray⟩, .slice A' f.data.length c', .int .i64 (f.synced : Int)] 68) := ⟨_, rfl⟩
      obtain ⟨K0, hK0⟩ : ∃ K0 : Nat → Nat, K0 = fun b => if b < w1.heap.size then K b else o + 1 := ⟨_, rfl⟩
      have hk0 : ∀ j, j < w1.heap.size → K0 j = K j := fun j hj => by rw [hK0]; simp [hj]
      have hkb : K0 w1.heap.size = o + 1 := by rw [hK0]; simp
      have hsz : W.heap.size = w1.heap.size + 1 := by rw [hW]; simp
      have hbW : ∀ j, j < w1.heap.size → W.heap[j]? = w1.heap[j]? := fun j hj => by rw [hW]; exact Below.heap_alloc w1 _ j hj
      have HDW := Lib.hid (RefD.grow HD1.out (K' := K0) (show w1.heap.size ≤ W.heap.size by omega) hbW hk0 (by rw [hW]; rfl) (by rw [hW]; rfl) (by rw [hW]; rfl))
      have HOS : Hid (W.os = w1.os ∧ W.tape = w1.tape ∧ W.output = w1.output) := Lib.hid ⟨by rw [hW]; rfl, by rw [hW]; rfl, by rw [hW]; rfl⟩
      have HK := Lib.hid (take_any W K0 o p (stepped d) i HDW.out HO.out (by rw [HFL.out]; exact HIL.out) (by rw [HFL.out]; exact HN.out))
      have kw0 : W.cell? ⟨w1.heap.size, 0, none⟩ = some (.string ⟨f.name.toArray⟩) := by rw [hW]; exact World.cell?_alloc_at _ _ _ _ rfl
      have kw1 : W.cell? ⟨w1.heap.size, 1, none⟩ = some (.slice A' f.data.length c') := by rw [hW]; exact World.cell?_alloc_at _ _ _ _ rfl
      have kw2 : W.cell? ⟨w1.heap.size, 2, none⟩ = some (.int .i64 (f.synced : Int)) := by rw [hW]; exact World.cell?_alloc_at _ _ _ _ rfl
      have fw0 : W.frozen? ⟨w1.heap.size, 0, none⟩ = false := by
        have hh : W.heap[w1.heap.size]? = some (.cells #[.string ⟨f.name.toArray⟩, .slice A' f.data.length c', .int .i64 (f.synced : Int)] 68) := by rw [hW]; exact Go.heap_alloc_new w1 _
        unfold World.frozen?
        rw [hh]
        rfl
      have hRfW : Rd W W.heap.size A' (f.data.map B8) := (HCr.out.keep fun q hq => World.cell?_of_block (hbW q.block hq)).more (by omega)
      have hkfW : ∀ b off, A' = some ⟨b, off, none⟩ → 0 < f.data.length → K0 b = 0 := fun b off e hl => by
        obtain ⟨b2, off2, e2, hb2, _⟩ := HCr.out (by simpa using hl)
        rw [e] at e2
        injection e2 with e2
        injection e2 with e2
        subst e2
        exact (hk0 b hb2).trans (HDk.out b off e hl)
      have HRfW := Lib.hid hRfW
      have HKfW := Lib.hid hkfW
      have HHK := Lib.hid hk0
      have HKB := Lib.hid hkb
      have HSZ := Lib.hid hsz
      have HBW := Lib.hid hbW
      have HWW := Lib.hid hW
      obtain ⟨bx, hbx⟩ : ∃ bx, w1.heap.size = bx := ⟨_, rfl⟩
      have HBX := Lib.hid hbx
      rw [hbx] at kw0 kw1 kw2 fw0 HKB HHK HSZ HBW
      clear hK0 hk0 hkb hsz hbW hRfW hkfW hbx
      go_wp2_with fail
      rw [← hW, HBX.out]
      refine HK.out.mono ?_
      rintro e w3 ⟨rfl, K3, hd3, ht3⟩
      clear hW k1 k2 c0 f0
      have hbl : bx < W.heap.size := by have := HSZ.out; omega
      have hb3 : w3.heap[bx]? = W.heap[bx]? := ht3.block bx hbl (by rw [HKB.out]; omega)
      have kv0 := (cell_of (off := 0) hb3).trans kw0
      have kv1 := (cell_of (off := 1) hb3).trans kw1
      have kv2 := (cell_of (off := 2) hb3).trans kw2
      have fv0 : w3.frozen? ⟨bx, 0, none⟩ = false := by
        rw [← fw0]
        unfold World.frozen?
        rw [hb3]
      have HD3 := Lib.hid hd3
      have HT3 := Lib.hid ht3
      have hk3 : K3 bx = o + 1 := (ht3.kind bx hbl).trans HKB.out
      have HT34 := Lib.hid (turned_poke (w := w3) (K := K3) (o := o + 1) (p := bx) (j := 0) (u := .string ⟨b.toArray⟩) hk3)
      have HD4 := Lib.hid (RefD.turned HD3.out HT34.out (by omega) (by omega))
      have hR3 := rd_turned HT3.out HO.out HRfW.out (by simpa using HKfW.out)
      have hk3f : ∀ b' off, A' = some ⟨b', off, none⟩ → 0 < f.data.length → K3 b' = 0 := fun b' off e hl => by
        obtain ⟨b2, off2, e2, hb2, _⟩ := HRfW.out (by simpa using hl)
        rw [e] at e2
        injection e2 with e2
        injection e2 with e2
        subst e2
        exact (HT3.out.kind b' hb2).trans (HKfW.out b' off e hl)
      have hR4 := rd_turned HT34.out (by omega) hR3 (by simpa using hk3f)
      have HPU := Lib.hid (put_any (w3.setCell ⟨bx, 0, none⟩ (.string ⟨b.toArray⟩)) K3 o p { stepped d with files := del i (stepped d).files } { f with name := b } A' c' HD4.out HO.out (by
        have h1 := HN.out
        rw [HFL.out]
        unfold del
        simp only [List.length_append, List.length_take, List.length_drop]
        omega) HA.out HBm.out hR4 hk3f)
      unfold fcs at HPU
      have HS3 := Lib.hid ht3.size
      clear hd3 ht3 hb3 kw0 kw1 kw2 fw0 hR3 hR4 hk3f HK hk3
      go_wp2_with fail
      refine HPU.out.mono ?_
      rintro e w5 ⟨rfl, K5, hd5, ht5⟩
      have HD5 := Lib.hid hd5
      have HT5 := Lib.hid ht5
      clear hd5 ht5
      go_wp2
      go_ret
      rw [HX.out]
      rw [HFL.out] at HD5
      have s1 := HT1.out.size
      have s2 := HBX.out
      have s3 := HSZ.out
      have s4 := HS3.out
      have s5 := HT5.out.size
      have s6 : (w3.setCell ⟨bx, 0, none⟩ (.string ⟨b.toArray⟩)).heap.size = w3.heap.size := by simp
      have kk : ∀ j, j < w.heap.size → K3 j = K j := fun j hj => (HT3.out.kind j (by omega)).trans (HHK.out j (by omega))
      refine ⟨rfl, K5, HD5.out, ?_, ?_, ?_, by omega, fun j hj hkj => ?_, fun j hj => (HT5.out.kind j (by omega)).trans (kk j hj)⟩
      · exact HT5.out.os.trans (HT3.out.os.trans (HOS.out.1.trans HT1.out.os))
      · exact HT5.out.tape.trans (HT3.out.tape.trans (HOS.out.2.1.trans HT1.out.tape))
      · exact HT5.out.output.trans (HT3.out.output.trans (HOS.out.2.2.trans HT1.out.output))
      · have hne : bx ≠ j := by omega
        have b4 : (w3.setCell ⟨bx, 0, none⟩ (.string ⟨b.toArray⟩)).heap[j]? = w3.heap[j]? := by simp [World.setCell, Array.getElem?_modify, hne]
        have k0j : K0 j = K j := HHK.out j (by omega)
        exact (HT5.out.block j (by omega) (by rw [kk j hj]; exact hkj)).trans (b4.trans ((HT3.out.block j (by omega) (by rw [k0j]; exact hkj)).trans ((HBW.out j (by omega)).trans (HT1.out.block j hj hkj))))
end Go.Proofs.Ytfblekedgenacaa.RefRen5
