/- The contract of the document's own Sync. Conditions: the disk lies in memory as 'RefD' says; the name's length is at most the model's greatest. -/
import Derived.Test.YtfblekedgenacaaRefOps5
import Derived.BigRegion
namespace Go.Proofs.Ytfblekedgenacaa.RefSync5
open Go Go.RowKit Words DkSpec RefDisk RefChange RefRow RefTake RefPut5 RefOps5

theorem FRow.synced {w : World} {K : Nat → Nat} {o g off i n : Nat} {l : List DFile} (h : FRow w K o (some ⟨g, off, none⟩) l) (hi : i < l.length) (ho : o ≠ 0) :
    FRow (w.setCell ⟨g, off + i * 3 + 2, none⟩ (.int .i64 (n : Int))) K o (some ⟨g, off, none⟩) (l.modify i fun f => { f with synced := n }) := fun hn => by
  obtain ⟨g', off', e, hg, hk, hz, hcell⟩ := h (by omega)
  injection e with e
  injection e with e1 e2
  subst e1 e2
  have ne : ∀ (b x : Nat), b ≠ g ∨ x ≠ off + i * 3 + 2 → (w.setCell ⟨g, off + i * 3 + 2, none⟩ (.int .i64 (n : Int))).cell? ⟨b, x, none⟩ = w.cell? ⟨b, x, none⟩ := fun b x hb => World.cell?_setCell_other w _ _ _ (fun e => by
    injection e with e1 e2
    rcases hb with hb | hb
    · exact hb e1.symm
    · exact hb e2.symm)
  refine ⟨g, off, rfl, by simpa using hg, hk, fun j => by rw [World.frozen?_setCell]; exact hz j, fun j f hj => ?_⟩
  have hdata : ∀ (A' : Option Addr) (vs : List Value), Rd w w.heap.size A' vs → (∀ b off', A' = some ⟨b, off', none⟩ → 0 < vs.length → K b = 0) → Rd (w.setCell ⟨g, off + i * 3 + 2, none⟩ (.int .i64 (n : Int))) (w.setCell ⟨g, off + i * 3 + 2, none⟩ (.int .i64 (n : Int))).heap.size A' vs := fun A' vs hr h0 hp => by
    obtain ⟨b2, off2, e2, hb2, hc2⟩ := hr hp
    refine ⟨b2, off2, e2, by simpa using hb2, fun j' u' hu => (ne _ _ (.inl ?_)).trans (hc2 j' u' hu)⟩
    have h1 := h0 b2 off2 e2 hp
    intro e
    rw [e, hk] at h1
    exact ho h1
  rw [List.getElem?_modify] at hj
  cases hf : l[j]? with
  | none => rw [hf] at hj; simp at hj
  | some f0 =>
    rw [hf] at hj
    obtain ⟨k0, ⟨A', c', k1, k1a, k1b, k1c, k1d⟩, k2⟩ := hcell j f0 hf
    by_cases hij : i = j
    · subst hij
      simp only [if_pos, Option.map_eq_map, Option.map_some, Option.some.injEq] at hj
      subst hj
      exact ⟨(ne _ _ (.inr (by omega))).trans k0, ⟨A', c', (ne _ _ (.inr (by omega))).trans k1, k1a, k1b, hdata _ _ k1c (by simpa using k1d), k1d⟩, World.cell?_setCell_same _ _ _ k2⟩
    · simp only [if_neg hij, Option.map_eq_map, Option.map_some, id_eq, Option.some.injEq] at hj
      subst hj
      exact ⟨(ne _ _ (.inr (by omega))).trans k0, ⟨A', c', (ne _ _ (.inr (by omega))).trans k1, k1a, k1b, hdata _ _ k1c (by simpa using k1d), k1d⟩, (ne _ _ (.inr (by omega))).trans k2⟩
theorem RefD.synced {w : World} {K : Nat → Nat} {o p g off c i n : Nat} {d : DSt} (h : RefD w K o p d) (ho : o ≠ 0) (hA : w.cell? ⟨p, 0, none⟩ = some (.slice (some ⟨g, off, none⟩) d.files.length c)) (hi : i < d.files.length) :
    RefD (w.setCell ⟨g, off + i * 3 + 2, none⟩ (.int .i64 (n : Int))) K o p { d with files := d.files.modify i fun f => { f with synced := n } } := by
  obtain ⟨A, c', hc, hm, hp, hk, c0, c1, c2, c3, f0, f1, f2, f3, hAp, hf⟩ := h
  have e := c0.symm.trans hA
  injection e with e
  injection e with e1 _ e3
  subst e1 e3
  have hgp := hAp g off rfl
  have ne : ∀ x : Nat, (w.setCell ⟨g, off + i * 3 + 2, none⟩ (.int .i64 (n : Int))).cell? ⟨p, x, none⟩ = w.cell? ⟨p, x, none⟩ := fun x => World.cell?_setCell_other w _ _ _ (fun e => hgp (by injection e))
  have hlen : (d.files.modify i fun f => { f with synced := n }).length = d.files.length := List.length_modify _ _ _
  refine ⟨some ⟨g, off, none⟩, c', by simp only [hlen]; exact hc, hm, by simpa using hp, hk, by simp only [hlen]; exact (ne 0).trans c0, (ne 1).trans c1, (ne 2).trans c2, (ne 3).trans c3, ?_, ?_, ?_, ?_, hAp, FRow.synced hf hi ho⟩
  all_goals rw [World.frozen?_setCell]; assumption

set_option maxHeartbeats 1600000 in
set_option maxRecDepth 100000 in
theorem sync_any (w : World) (K : Nat → Nat) (o p : Nat) (d : DSt) (a : List UInt8) (hd : RefD w K o p d) (ho : o ≠ 0) (ha : a.length ≤ maxLen) (hl1 : -1 ≤ d.left) (hl2 : d.left ≤ 9223372036854775807) :
    Calls Try.prog 27 #[.pointer (some ⟨p, 0, none⟩), .string ⟨a.toArray⟩] w (OPost w K o p (sync a d)) := by
  have HC := Lib.hid (change_any w K o p d a a hd ho ha ha hl1 hl2)
  by_cases hr : refused a a d ≠ 0
  · have HX := Lib.hid (show sync a d = (refused a a d, d) by unfold sync; rw [if_pos hr])
    have h1 : ((refused a a d : Int) != 0) = true := by simp; omega
    unfold ChPost at HC
    rw [if_pos hr] at HC
    clear hd ha hl1 hl2 hr ho
    go_enter Try.func27, Try.ntmps27
    go_wp2_with fail
    refine HC.out.mono ?_
    rintro e w1 ⟨rfl, hd1, ht1⟩
    have HD1 := Lib.hid hd1
    have HT1 := Lib.hid ht1
    clear hd1 ht1
    go_wp2
    go_ret
    rw [HX.out]
    exact ⟨rfl, K, HD1.out, HT1.out⟩
  · unfold ChPost at HC
    rw [if_neg hr, show refused a a d = 0 by omega] at HC
    have hfl := stepped_files d
    obtain ⟨i, b, hib⟩ : ∃ i b, place a d.files = (i, b) := ⟨_, _, rfl⟩
    have hle := place_le a d.files
    rw [hib] at hle
    obtain ⟨_, hle2⟩ := hle
    simp only at hle2
    have HF := fun w1 h => Lib.hid (find_any w1 K o p (stepped d) a h)
    rw [hfl, hib] at HF
    cases b with
    | false =>
      have HX := Lib.hid (show sync a d = (21, stepped d) by unfold sync; rw [if_neg hr, hib]; rfl)
      clear hd ha hl1 hl2 hr ho hfl hib hle2
      go_enter Try.func27, Try.ntmps27
      go_wp2_with fail
      refine HC.out.mono ?_
      rintro e w1 ⟨rfl, hd1, ht1⟩
      have HD1 := Lib.hid hd1
      have HT1 := Lib.hid ht1
      have HF1 := Lib.hid (HF w1 hd1)
      clear hd1 ht1 HF
      go_wp2_with fail
      refine HF1.out.out.mono ?_
      rintro e w2 ⟨rfl, rfl⟩
      go_wp2
      go_ret
      rw [HX.out]
      exact ⟨rfl, K, HD1.out, HT1.out⟩
    | true =>
      have hil := (hle2 rfl).1
      have HX := Lib.hid (show sync a d = (0, { stepped d with files := (stepped d).files.modify i fun f => { f with synced := f.data.length } }) by unfold sync; rw [if_neg hr, hib, hfl]; rfl)
      have HIL := Lib.hid hil
      have HO := Lib.hid ho
      have HFL := Lib.hid hfl
      clear hd ha hl1 hl2 hr ho hfl hib hle2 hil
      go_enter Try.func27, Try.ntmps27
      go_wp2_with fail
      refine HC.out.mono ?_
      rintro e w1 ⟨rfl, hd1, ht1⟩
      have HT1 := Lib.hid ht1
      have HD1 := Lib.hid hd1
      have HF1 := Lib.hid (HF w1 hd1)
      clear hd1 ht1 HF
      go_wp2_with fail
      refine HF1.out.out.mono ?_
      rintro e w2 ⟨rfl, rfl⟩
      obtain ⟨A, c, hc, hm, hp, hk, c0, _, _, _, f0, _, _, _, hAp, hf⟩ := HD1.out
      rw [HFL.out] at hc c0 hf
      have hil := HIL.out
      obtain ⟨g, off, rfl, hg, hkg, hgz, hcell⟩ := hf (by omega)
      obtain ⟨k0, ⟨A', c', k1, k1a, k1b, k1c, k1d⟩, k2⟩ := hcell i (d.files[i]'hil) (List.getElem?_eq_getElem hil)
      have hgz' := hgz (off + i * 3 + 2)
      have HS := Lib.hid (RefD.synced (i := i) (n := (d.files[i]'hil).data.length) HD1.out HO.out (by rw [HFL.out]; exact c0) (by rw [HFL.out]; exact hil))
      have HMOD : Hid ((stepped d).files.modify i (fun f => { f with synced := f.data.length }) = (stepped d).files.modify i (fun f => { f with synced := (d.files[i]'hil).data.length })) := Lib.hid (by
        rw [HFL.out]
        apply List.ext_getElem?
        intro j
        rw [List.getElem?_modify, List.getElem?_modify]
        by_cases hij : i = j
        · subst hij
          simp [List.getElem?_eq_getElem hil]
        · simp [hij])
      have HT := Lib.hid (turned_poke (w := w1) (K := K) (o := o) (p := g) (j := off + i * 3 + 2) (u := .int .i64 (((d.files[i]'hil).data.length : Nat) : Int)) hkg)
      unfold maxLen at hm k1b
      generalize hfi : (d.files[i]'hil) = f at *
      clear hfi hcell hf k0 k1c k1d hgz hAp hk
      generalize d.files.length = n at *
      go_wp2
      go_region
      go_wp2
      go_ret
      rw [HX.out, HMOD.out]
      exact ⟨rfl, K, HS.out, HT1.out.trans ⟨HT.out.os, HT.out.tape, HT.out.output, HT.out.size, HT.out.block, HT.out.kind⟩⟩
end Go.Proofs.Ytfblekedgenacaa.RefSync5
