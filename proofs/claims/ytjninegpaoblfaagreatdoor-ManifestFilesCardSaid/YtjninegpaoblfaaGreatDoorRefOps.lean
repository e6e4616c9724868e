/- The contracts of the document's own Delete, Sync, Fill and Arm. Conditions: the disk lies in memory as 'RefD' says; the names' lengths are at most the model's greatest; at most 10^9 files. · The contract of the document's own Sync. Conditions: the disk lies in memory as 'RefD' says; the name's length is at most the model's greatest. · The contract of the document's own Rename. Conditions: the disk lies in memory as 'RefD' says; the names' lengths are at most the model's greatest; at most 10^9 files. · The contract of the document's own New. Conditions: none. · The contract of the document's own Clone. -/
import Derived.Test.YtjninegpaoblfaaGreatDoorRefRows
import Derived.BigRegion
import Derived.StillTailTactics
import Derived.Deep.RegionWith
import Derived.Deep.RegionLaw
namespace Go.Proofs.YtjninegpaoblfaaGreatDoor.RefOps5
open Go Go.RowKit Words DkSpec RefDisk RefChange RefRow RefTake RefPut5

/-- What a call answers and leaves. -/
def OPost (w : World) (K : Nat → Nat) (o p : Nat) (r : Nat × DSt) (e : Ending) (w' : World) : Prop := e = .returned (.int .i64 (r.1 : Int)) ∧ ∃ K', RefD w' K' o p r.2 ∧ Turned K K' o w w'

set_option maxHeartbeats 800000 in
theorem delete_any (w : World) (K : Nat → Nat) (o p : Nat) (d : DSt) (a : List UInt8) (hd : RefD w K o p d) (ho : o ≠ 0) (ha : a.length ≤ maxLen) (hl1 : -1 ≤ d.left) (hl2 : d.left ≤ 9223372036854775807) (hn : d.files.length ≤ 1000000000) :
    Calls Tryz.prog 33 #[.pointer (some ⟨p, 0, none⟩), .string ⟨a.toArray⟩] w (OPost w K o p (delete a d)) := by
  have HC := Lib.hid (change_any w K o p d a a hd ho ha ha hl1 hl2)
  have HN := Lib.hid hn
  have HO := Lib.hid ho
  by_cases hr : refused a a d ≠ 0
  · have HX := Lib.hid (show delete a d = (refused a a d, d) by unfold delete; rw [if_pos hr])
    have h1 : ((refused a a d : Int) != 0) = true := by simp; omega
    unfold ChPost at HC
    rw [if_pos hr] at HC
    clear hd ha hl1 hl2 hn hr ho
    go_enter Tryz.func33, Tryz.ntmps33
    go_wp2_with fail
    refine HC.out.mono ?_
    rintro e w1 ⟨rfl, hd1, ht1⟩
    have HD1 := Lib.hid hd1
    have HT1 := Lib.hid ht1
    clear hd1 ht1
    go_wp2
    go_ret
    rw [HX.out]
    exact ⟨rfl, K, HD1.out, HT1.out⟩
  · unfold ChPost at HC
    rw [if_neg hr, show refused a a d = 0 by omega] at HC
    have hfl := stepped_files d
    obtain ⟨i, b, hib⟩ : ∃ i b, place a d.files = (i, b) := ⟨_, _, rfl⟩
    have hle := place_le a d.files
    rw [hib] at hle
    obtain ⟨_, hle2⟩ := hle
    simp only at hle2
    have HF := fun w1 h => Lib.hid (find_any w1 K o p (stepped d) a h)
    rw [hfl, hib] at HF
    cases b with
    | false =>
      have HX := Lib.hid (show delete a d = (21, stepped d) by unfold delete; rw [if_neg hr, hib]; rfl)
      clear hd ha hl1 hl2 hn hr ho hfl hib hle2
      go_enter Tryz.func33, Tryz.ntmps33
      go_wp2_with fail
      refine HC.out.mono ?_
      rintro e w1 ⟨rfl, hd1, ht1⟩
      have HD1 := Lib.hid hd1
      have HT1 := Lib.hid ht1
      have HF1 := Lib.hid (HF w1 hd1)
      clear hd1 ht1 HF
      go_wp2_with fail
      refine HF1.out.out.mono ?_
      rintro e w2 ⟨rfl, rfl⟩
      go_wp2
      go_ret
      rw [HX.out]
      exact ⟨rfl, K, HD1.out, HT1.out⟩
    | true =>
      have HX := Lib.hid (show delete a d = (0, { stepped d with files := del i d.files }) by unfold delete; rw [if_neg hr, hib]; rfl)
      have hil := (hle2 rfl).1
      have HK := fun w1 (h : RefD w1 K o p (stepped d)) => Lib.hid (take_any w1 K o p (stepped d) i h ho (by rw [hfl]; exact hil) (by rw [hfl]; exact hn))
      rw [hfl] at HK
      clear hd ha hl1 hl2 hn hr ho hfl hib hle2 hil
      go_enter Tryz.func33, Tryz.ntmps33
      go_wp2_with fail
      refine HC.out.mono ?_
      rintro e w1 ⟨rfl, hd1, ht1⟩
      have HT1 := Lib.hid ht1
      have HF1 := Lib.hid (HF w1 hd1)
      have HK1 := Lib.hid (HK w1 hd1)
      clear hd1 ht1 HF HK
      go_wp2_with fail
      refine HF1.out.out.mono ?_
      rintro e w2 ⟨rfl, rfl⟩
      go_wp2_with fail
      refine HK1.out.out.mono ?_
      rintro e w3 ⟨rfl, K', hd3, ht3⟩
      have HD3 := Lib.hid hd3
      have HT3 := Lib.hid ht3
      clear hd3 ht3
      go_wp2
      go_ret
      rw [HX.out]
      exact ⟨rfl, K', HD3.out, HT1.out.trans HT3.out⟩

theorem ne_nil (b o : Nat) (w : World) : (binOp .neq 28 (.pointer (some ⟨b, o, none⟩)) (.pointer none)).run Tryz.prog w = .ok (.bool true) w := by kernel_rfl
theorem nil_nil (w : World) : (binOp .neq 28 (.pointer none) (.pointer none)).run Tryz.prog w = .ok (.bool false) w := by kernel_rfl
theorem eq_nil (w : World) : (binOp .eql 28 (.pointer none) (.pointer none)).run Tryz.prog w = .ok (.bool true) w := by kernel_rfl
theorem fill_nil (w : World) (b : Bool) : Calls Tryz.prog 10 #[.pointer none, .bool b] w fun e w' => e = .returned (.tuple #[]) ∧ w = w' := by
  have hne := nil_nil
  go_enter Tryz.func10, Tryz.ntmps10
  go_wp2
  go_end0
  exact ⟨rfl, rfl⟩
theorem fill_any (w : World) (K : Nat → Nat) (o p : Nat) (d : DSt) (b : Bool) (hd : RefD w K o p d) (ho : o ≠ 0) :
    Calls Tryz.prog 10 #[.pointer (some ⟨p, 0, none⟩), .bool b] w (MPost w K o p { d with full := b }) := by
  have HS := Lib.hid (RefD.toFull hd ho b)
  obtain ⟨A, c, _, _, hp, hk, c0, c1, c2, c3, f0, f1, f2, f3, _, _⟩ := hd
  have HT := Lib.hid (turned_poke (w := w) (K := K) (o := o) (p := p) (j := 1) (u := .bool b) hk)
  clear hk c0 c2 c3 f0 f2 f3
  have hne := ne_nil p 0
  go_enter Tryz.func10, Tryz.ntmps10
  go_wp2
  go_end0
  exact ⟨rfl, K, HS.out, HT.out⟩

theorem arm_nil (w : World) (n : Int) : Calls Tryz.prog 8 #[.pointer none, .int .i64 n] w fun e w' => e = .returned (.tuple #[]) ∧ w = w' := by
  have hne := eq_nil
  go_enter Tryz.func8, Tryz.ntmps8
  go_wp2
  refine bodyPost_ret (results_none rfl _ _ _) rfl ?_
  exact ⟨rfl, rfl⟩
set_option maxHeartbeats 800000 in
theorem arm_any (w : World) (K : Nat → Nat) (o p : Nat) (d : DSt) (n : Int) (hd : RefD w K o p d) (ho : o ≠ 0) :
    Calls Tryz.prog 8 #[.pointer (some ⟨p, 0, none⟩), .int .i64 n] w (MPost w K o p (arm n d)) := by
  have HD := Lib.hid hd
  obtain ⟨A, c, _, _, hp, hk, c0, c1, c2, c3, f0, f1, f2, f3, _, _⟩ := hd
  have HK := Lib.hid hk
  clear hk c0 c1 f0 f1
  cases hoff : d.off with
  | true =>
    rw [hoff] at c2
    have HX := Lib.hid (show arm n d = d by unfold arm; rw [hoff, if_pos rfl])
    clear hoff
    go_enter Tryz.func8, Tryz.ntmps8
    go_wp2
    refine bodyPost_ret (results_none rfl _ _ _) rfl ?_
    rw [HX.out]
    exact ⟨rfl, K, HD.out, Turned.refl _ _ _⟩
  | false =>
    rw [hoff] at c2
    have HOFF := Lib.hid hoff
    clear hoff
    by_cases h1 : n < 0
    · have d1 : decide (n < 0) = true := by simpa using h1
      have d2 : (n == 0) = false := beq_eq_false_iff_ne.2 (by omega)
      have HS := Lib.hid (RefD.world (RefD.left (RefD.left HD.out ho n) ho (-1)) (d' := arm n d) (by
        have h := HOFF.out
        unfold arm
        rw [h, if_neg (by simp), if_pos h1, d2, ← h]))
      have HT := Lib.hid ((turned_poke (w := w) (K := K) (o := o) (p := p) (j := 3) (u := .int .i64 n) HK.out).trans (turned_poke (w := w.setCell ⟨p, 3, none⟩ (.int .i64 n)) (j := 3) (u := .int .i64 (-1)) HK.out))
      clear h1
      go_enter Tryz.func8, Tryz.ntmps8
      go_wp2
      go_end0
      exact ⟨rfl, K, HS.out, HT.out⟩
    · have d1 : decide (n < 0) = false := by simpa using h1
      by_cases h2 : n = 0
      · subst h2
        have HS := Lib.hid (RefD.world (RefD.toOff (RefD.left HD.out ho 0) ho true) (d' := arm 0 d) (by
          have h := HOFF.out
          unfold arm
          rw [h, if_neg (by simp), if_neg (by omega)]
          rfl))
        have HT := Lib.hid ((turned_poke (w := w) (K := K) (o := o) (p := p) (j := 3) (u := .int .i64 0) HK.out).trans (turned_poke (w := w.setCell ⟨p, 3, none⟩ (.int .i64 0)) (j := 2) (u := .bool true) HK.out))
        clear h1
        go_enter Tryz.func8, Tryz.ntmps8
        go_wp2
        go_end0
        exact ⟨rfl, K, HS.out, HT.out⟩
      · have d2 : (n == 0) = false := beq_eq_false_iff_ne.2 h2
        have HS := Lib.hid (RefD.world (RefD.left HD.out ho n) (d' := arm n d) (by
          have h := HOFF.out
          unfold arm
          rw [h, if_neg (by simp), if_neg h1, d2, ← h]))
        have HT := Lib.hid (turned_poke (w := w) (K := K) (o := o) (p := p) (j := 3) (u := .int .i64 n) HK.out)
        clear h1 h2
        go_enter Tryz.func8, Tryz.ntmps8
        go_wp2
        go_end0
        exact ⟨rfl, K, HS.out, HT.out⟩
end Go.Proofs.YtjninegpaoblfaaGreatDoor.RefOps5

namespace Go.Proofs.YtjninegpaoblfaaGreatDoor.RefSync5
open Go Go.RowKit Words DkSpec RefDisk RefChange RefRow RefTake RefPut5 RefOps5

theorem FRow.synced {w : World} {K : Nat → Nat} {o g off i n : Nat} {l : List DFile} (h : FRow w K o (some ⟨g, off, none⟩) l) (hi : i < l.length) (ho : o ≠ 0) :
    FRow (w.setCell ⟨g, off + i * 3 + 2, none⟩ (.int .i64 (n : Int))) K o (some ⟨g, off, none⟩) (l.modify i fun f => { f with synced := n }) := fun hn => by
  obtain ⟨g', off', e, hg, hk, hz, hcell⟩ := h (by omega)
  injection e with e
  injection e with e1 e2
  subst e1 e2
  have ne : ∀ (b x : Nat), b ≠ g ∨ x ≠ off + i * 3 + 2 → (w.setCell ⟨g, off + i * 3 + 2, none⟩ (.int .i64 (n : Int))).cell? ⟨b, x, none⟩ = w.cell? ⟨b, x, none⟩ := fun b x hb => World.cell?_setCell_other w _ _ _ (fun e => by
    injection e with e1 e2
    rcases hb with hb | hb
    · exact hb e1.symm
    · exact hb e2.symm)
  refine ⟨g, off, rfl, by simpa using hg, hk, fun j => by rw [World.frozen?_setCell]; exact hz j, fun j f hj => ?_⟩
  have hdata : ∀ (A' : Option Addr) (vs : List Value), Rd w w.heap.size A' vs → (∀ b off', A' = some ⟨b, off', none⟩ → 0 < vs.length → K b = 0) → Rd (w.setCell ⟨g, off + i * 3 + 2, none⟩ (.int .i64 (n : Int))) (w.setCell ⟨g, off + i * 3 + 2, none⟩ (.int .i64 (n : Int))).heap.size A' vs := fun A' vs hr h0 hp => by
    obtain ⟨b2, off2, e2, hb2, hc2⟩ := hr hp
    refine ⟨b2, off2, e2, by simpa using hb2, fun j' u' hu => (ne _ _ (.inl ?_)).trans (hc2 j' u' hu)⟩
    have h1 := h0 b2 off2 e2 hp
    intro e
    rw [e, hk] at h1
    exact ho h1
  rw [List.getElem?_modify] at hj
  cases hf : l[j]? with
  | none => rw [hf] at hj; simp at hj
  | some f0 =>
    rw [hf] at hj
    obtain ⟨k0, ⟨A', c', k1, k1a, k1b, k1c, k1d⟩, k2⟩ := hcell j f0 hf
    by_cases hij : i = j
    · subst hij
      simp only [if_pos, Option.map_eq_map, Option.map_some, Option.some.injEq] at hj
      subst hj
      exact ⟨(ne _ _ (.inr (by omega))).trans k0, ⟨A', c', (ne _ _ (.inr (by omega))).trans k1, k1a, k1b, hdata _ _ k1c (by simpa using k1d), k1d⟩, World.cell?_setCell_same _ _ _ k2⟩
    · simp only [if_neg hij, Option.map_eq_map, Option.map_some, Option.some.injEq] at hj
      subst hj
      exact ⟨(ne _ _ (.inr (by omega))).trans k0, ⟨A', c', (ne _ _ (.inr (by omega))).trans k1, k1a, k1b, hdata _ _ k1c (by simpa using k1d), k1d⟩, (ne _ _ (.inr (by omega))).trans k2⟩
theorem RefD.synced {w : World} {K : Nat → Nat} {o p g off c i n : Nat} {d : DSt} (h : RefD w K o p d) (ho : o ≠ 0) (hA : w.cell? ⟨p, 0, none⟩ = some (.slice (some ⟨g, off, none⟩) d.files.length c)) (hi : i < d.files.length) :
    RefD (w.setCell ⟨g, off + i * 3 + 2, none⟩ (.int .i64 (n : Int))) K o p { d with files := d.files.modify i fun f => { f with synced := n } } := by
  obtain ⟨A, c', hc, hm, hp, hk, c0, c1, c2, c3, f0, f1, f2, f3, hAp, hf⟩ := h
  have e := c0.symm.trans hA
  injection e with e
  injection e with e1 _ e3
  subst e1 e3
  have hgp := hAp g off rfl
  have ne : ∀ x : Nat, (w.setCell ⟨g, off + i * 3 + 2, none⟩ (.int .i64 (n : Int))).cell? ⟨p, x, none⟩ = w.cell? ⟨p, x, none⟩ := fun x => World.cell?_setCell_other w _ _ _ (fun e => hgp (by injection e))
  have hlen : (d.files.modify i fun f => { f with synced := n }).length = d.files.length := List.length_modify _ _ _
  refine ⟨some ⟨g, off, none⟩, c', by simp only [hlen]; exact hc, hm, by simpa using hp, hk, by simp only [hlen]; exact (ne 0).trans c0, (ne 1).trans c1, (ne 2).trans c2, (ne 3).trans c3, ?_, ?_, ?_, ?_, hAp, FRow.synced hf hi ho⟩
  all_goals rw [World.frozen?_setCell]; assumption

set_option maxHeartbeats 1600000 in
set_option maxRecDepth 100000 in
theorem sync_any (w : World) (K : Nat → Nat) (o p : Nat) (d : DSt) (a : List UInt8) (hd : RefD w K o p d) (ho : o ≠ 0) (ha : a.length ≤ maxLen) (hl1 : -1 ≤ d.left) (hl2 : d.left ≤ 9223372036854775807) :
    Calls Tryz.prog 35 #[.pointer (some ⟨p, 0, none⟩), .string ⟨a.toArray⟩] w (OPost w K o p (sync a d)) := by
  have HC := Lib.hid (change_any w K o p d a a hd ho ha ha hl1 hl2)
  by_cases hr : refused a a d ≠ 0
  · have HX := Lib.hid (show sync a d = (refused a a d, d) by unfold sync; rw [if_pos hr])
    have h1 : ((refused a a d : Int) != 0) = true := by simp; omega
    unfold ChPost at HC
    rw [if_pos hr] at HC
    clear hd ha hl1 hl2 hr ho
    go_enter Tryz.func35, Tryz.ntmps35
    go_wp2_with fail
    refine HC.out.mono ?_
    rintro e w1 ⟨rfl, hd1, ht1⟩
    have HD1 := Lib.hid hd1
    have HT1 := Lib.hid ht1
    clear hd1 ht1
    go_wp2
    go_ret
    rw [HX.out]
    exact ⟨rfl, K, HD1.out, HT1.out⟩
  · unfold ChPost at HC
    rw [if_neg hr, show refused a a d = 0 by omega] at HC
    have hfl := stepped_files d
    obtain ⟨i, b, hib⟩ : ∃ i b, place a d.files = (i, b) := ⟨_, _, rfl⟩
    have hle := place_le a d.files
    rw [hib] at hle
    obtain ⟨_, hle2⟩ := hle
    simp only at hle2
    have HF := fun w1 h => Lib.hid (find_any w1 K o p (stepped d) a h)
    rw [hfl, hib] at HF
    cases b with
    | false =>
      have HX := Lib.hid (show sync a d = (21, stepped d) by unfold sync; rw [if_neg hr, hib]; rfl)
      clear hd ha hl1 hl2 hr ho hfl hib hle2
      go_enter Tryz.func35, Tryz.ntmps35
      go_wp2_with fail
      refine HC.out.mono ?_
      rintro e w1 ⟨rfl, hd1, ht1⟩
      have HD1 := Lib.hid hd1
      have HT1 := Lib.hid ht1
      have HF1 := Lib.hid (HF w1 hd1)
      clear hd1 ht1 HF
      go_wp2_with fail
      refine HF1.out.out.mono ?_
      rintro e w2 ⟨rfl, rfl⟩
      go_wp2
      go_ret
      rw [HX.out]
      exact ⟨rfl, K, HD1.out, HT1.out⟩
    | true =>
      have hil := (hle2 rfl).1
      have HX := Lib.hid (show sync a d = (0, { stepped d with files := (stepped d).files.modify i fun f => { f with synced := f.data.length } }) by unfold sync; rw [if_neg hr, hib, hfl]; rfl)
      have HIL := Lib.hid hil
      have HO := Lib.hid ho
      have HFL := Lib.hid hfl
      clear hd ha hl1 hl2 hr ho hfl hib hle2 hil
      go_enter Tryz.func35, Tryz.ntmps35
      go_wp2_with fail
      refine HC.out.mono ?_
      rintro e w1 ⟨rfl, hd1, ht1⟩
      have HT1 := Lib.hid ht1
      have HD1 := Lib.hid hd1
      have HF1 := Lib.hid (HF w1 hd1)
      clear hd1 ht1 HF
      go_wp2_with fail
      refine HF1.out.out.mono ?_
      rintro e w2 ⟨rfl, rfl⟩
      obtain ⟨A, c, hc, hm, hp, hk, c0, _, _, _, f0, _, _, _, hAp, hf⟩ := HD1.out
      rw [HFL.out] at hc c0 hf
      have hil := HIL.out
      obtain ⟨g, off, rfl, hg, hkg, hgz, hcell⟩ := hf (by omega)
      obtain ⟨k0, ⟨A', c', k1, k1a, k1b, k1c, k1d⟩, k2⟩ := hcell i (d.files[i]'hil) (List.getElem?_eq_getElem hil)
      have hgz' := hgz (off + i * 3 + 2)
      have HS := Lib.hid (RefD.synced (i := i) (n := (d.files[i]'hil).data.length) HD1.out HO.out (by rw [HFL.out]; exact c0) (by rw [HFL.out]; exact hil))
      have HMOD : Hid ((stepped d).files.modify i (fun f => { f with synced := f.data.length }) = (stepped d).files.modify i (fun f => { f with synced := (d.files[i]'hil).data.length })) := Lib.hid (by
        rw [HFL.out]
        apply List.ext_getElem?
        intro j
        rw [List.getElem?_modify, List.getElem?_modify]
        by_cases hij : i = j
        · subst hij
          simp [List.getElem?_eq_getElem hil]
        · simp [hij])
      have HT := Lib.hid (turned_poke (w := w1) (K := K) (o := o) (p := g) (j := off + i * 3 + 2) (u := .int .i64 (((d.files[i]'hil).data.length : Nat) : Int)) hkg)
      unfold maxLen at hm k1b
      generalize hfi : (d.files[i]'hil) = f at *
      clear hfi hcell hf k0 k1c k1d hgz hAp hk
      generalize d.files.length = n at *
      go_wp2
      go_region
      go_wp2
      go_ret
      rw [HX.out, HMOD.out]
      exact ⟨rfl, K, HS.out, HT1.out.trans ⟨HT.out.os, HT.out.tape, HT.out.output, HT.out.size, HT.out.block, HT.out.kind⟩⟩
end Go.Proofs.YtjninegpaoblfaaGreatDoor.RefSync5

namespace Go.Proofs.YtjninegpaoblfaaGreatDoor.RefRen5
open Go Go.RowKit Words DkSpec RefDisk RefChange RefRow RefTake RefPut5 RefOps5

set_option maxHeartbeats 1600000 in
set_option maxRecDepth 100000 in
theorem rename_any (w : World) (K : Nat → Nat) (o p : Nat) (d : DSt) (a b : List UInt8) (hd : RefD w K o p d) (ho : o ≠ 0) (ha : a.length ≤ maxLen) (hb : b.length ≤ maxLen) (hl1 : -1 ≤ d.left) (hl2 : d.left ≤ 9223372036854775807) (hn : d.files.length ≤ 1000000000) :
    Calls Tryz.prog 36 #[.pointer (some ⟨p, 0, none⟩), .string ⟨a.toArray⟩, .string ⟨b.toArray⟩] w (OPost w K o p (rename a b d)) := by
  have HC := Lib.hid (change_any w K o p d a b hd ho ha hb hl1 hl2)
  by_cases hr : refused a b d ≠ 0
  · have HX := Lib.hid (show rename a b d = (refused a b d, d) by unfold rename; rw [if_pos hr])
    have h1 : ((refused a b d : Int) != 0) = true := by simp; omega
    unfold ChPost at HC
    rw [if_pos hr] at HC
    clear hd ha hb hl1 hl2 hr ho hn
    go_enter Tryz.func36, Tryz.ntmps36
    go_wp2_with fail
    refine HC.out.mono ?_
    rintro e w1 ⟨rfl, hd1, ht1⟩
    have HD1 := Lib.hid hd1
    have HT1 := Lib.hid ht1
    clear hd1 ht1
    go_wp2
    go_ret
    rw [HX.out]
    exact ⟨rfl, K, HD1.out, HT1.out⟩
  · unfold ChPost at HC
    rw [if_neg hr, show refused a b d = 0 by omega] at HC
    have hfl := stepped_files d
    obtain ⟨i, x, hib⟩ : ∃ i x, place a d.files = (i, x) := ⟨_, _, rfl⟩
    have hle := place_le a d.files
    rw [hib] at hle
    obtain ⟨_, hle2⟩ := hle
    simp only at hle2
    have HF := fun w1 h => Lib.hid (find_any w1 K o p (stepped d) a h)
    rw [hfl, hib] at HF
    cases x with
    | false =>
      have HX := Lib.hid (show rename a b d = (21, stepped d) by unfold rename; rw [if_neg hr, hib]; rfl)
      clear hd ha hb hl1 hl2 hr ho hfl hib hle2 hn
      go_enter Tryz.func36, Tryz.ntmps36
      go_wp2_with fail
      refine HC.out.mono ?_
      rintro e w1 ⟨rfl, hd1, ht1⟩
      have HD1 := Lib.hid hd1
      have HT1 := Lib.hid ht1
      have HF1 := Lib.hid (HF w1 hd1)
      clear hd1 ht1 HF
      go_wp2_with fail
      refine HF1.out.out.mono ?_
      rintro e w2 ⟨rfl, rfl⟩
      go_wp2
      go_ret
      rw [HX.out]
      exact ⟨rfl, K, HD1.out, HT1.out⟩
    | true =>
      have hil := (hle2 rfl).1
      have HX := Lib.hid (show rename a b d = (0, { stepped d with files := put { (d.files[i]'hil) with name := b } (del i d.files) }) by
        unfold rename
        rw [if_neg hr, hib]
        have : old a d.files = d.files[i]'hil := by
          unfold old
          rw [hib]
          simp [List.getD, List.getElem?_eq_getElem hil]
        rw [this]
        rfl)
      have HIL := Lib.hid hil
      have HO := Lib.hid ho
      have HFL := Lib.hid hfl
      have HN := Lib.hid hn
      clear hd ha hb hl1 hl2 hr ho hfl hib hle2 hn
      go_enter Tryz.func36, Tryz.ntmps36
      go_wp2_with fail
      refine HC.out.mono ?_
      rintro e w1 ⟨rfl, hd1, ht1⟩
      have HT1 := Lib.hid ht1
      have HD1 := Lib.hid hd1
      have HF1 := Lib.hid (HF w1 hd1)
      clear hd1 ht1 HF
      go_wp2_with fail
      refine HF1.out.out.mono ?_
      rintro e w2 ⟨rfl, rfl⟩
      obtain ⟨A, c, hc, hm, hp, hk, c0, _, _, _, f0, _, _, _, hAp, hf⟩ := HD1.out
      rw [HFL.out] at hc c0 hf
      obtain ⟨g, off, rfl, hg, hkg, hgz, hcell⟩ := hf (by omega)
      obtain ⟨k0, ⟨A', c', k1, k1a, k1b, k1c, k1d⟩, k2⟩ := hcell i (d.files[i]'hil) (List.getElem?_eq_getElem hil)
      have HA := Lib.hid k1a
      have HBm := Lib.hid k1b
      have HCr := Lib.hid k1c
      have HDk := Lib.hid k1d
      have HILf := Lib.hid hil
      unfold maxLen at hm
      unfold S8 at k0
      generalize hfi : (d.files[i]'hil) = f at *
      clear hfi hcell hf k1a k1b k1c k1d hgz hAp hk hkg
      obtain ⟨W, hW⟩ : ∃ W, W = w1.alloc (.cells #[.string ⟨f.name.toArray⟩, .slice A' f.data.length c', .int .i64 (f.synced : Int)] 69) := ⟨_, rfl⟩
      obtain ⟨K0, hK0⟩ : ∃ K0 : Nat → Nat, K0 = fun b => if b < w1.heap.size then K b else o + 1 := ⟨_, rfl⟩
      have hk0 : ∀ j, j < w1.heap.size → K0 j = K j := fun j hj => by rw [hK0]; simp [hj]
      have hkb : K0 w1.heap.size = o + 1 := by rw [hK0]; simp
      have hsz : W.heap.size = w1.heap.size + 1 := by rw [hW]; simp
      have hbW : ∀ j, j < w1.heap.size → W.heap[j]? = w1.heap[j]? := fun j hj => by rw [hW]; exact Below.heap_alloc w1 _ j hj
      have HDW := Lib.hid (RefD.grow HD1.out (K' := K0) (show w1.heap.size ≤ W.heap.size by omega) hbW hk0 (by rw [hW]; rfl) (by rw [hW]; rfl) (by rw [hW]; rfl))
      have HOS : Hid (W.os = w1.os ∧ W.tape = w1.tape ∧ W.output = w1.output) := Lib.hid ⟨by rw [hW]; rfl, by rw [hW]; rfl, by rw [hW]; rfl⟩
      have HK := Lib.hid (take_any W K0 o p (stepped d) i HDW.out HO.out (by rw [HFL.out]; exact HIL.out) (by rw [HFL.out]; exact HN.out))
      have kw0 : W.cell? ⟨w1.heap.size, 0, none⟩ = some (.string ⟨f.name.toArray⟩) := by rw [hW]; exact World.cell?_alloc_at _ _ _ _ rfl
      have kw1 : W.cell? ⟨w1.heap.size, 1, none⟩ = some (.slice A' f.data.length c') := by rw [hW]; exact World.cell?_alloc_at _ _ _ _ rfl
      have kw2 : W.cell? ⟨w1.heap.size, 2, none⟩ = some (.int .i64 (f.synced : Int)) := by rw [hW]; exact World.cell?_alloc_at _ _ _ _ rfl
      have fw0 : W.frozen? ⟨w1.heap.size, 0, none⟩ = false := by
        have hh : W.heap[w1.heap.size]? = some (.cells #[.string ⟨f.name.toArray⟩, .slice A' f.data.length c', .int .i64 (f.synced : Int)] 69) := by rw [hW]; exact Go.heap_alloc_new w1 _
        unfold World.frozen?
        rw [hh]
        rfl
      have hRfW : Rd W W.heap.size A' (f.data.map B8) := (HCr.out.keep fun q hq => World.cell?_of_block (hbW q.block hq)).more (by omega)
      have hkfW : ∀ b off, A' = some ⟨b, off, none⟩ → 0 < f.data.length → K0 b = 0 := fun b off e hl => by
        obtain ⟨b2, off2, e2, hb2, _⟩ := HCr.out (by simpa using hl)
        rw [e] at e2
        injection e2 with e2
        injection e2 with e2
        subst e2
        exact (hk0 b hb2).trans (HDk.out b off e hl)
      have HRfW := Lib.hid hRfW
      have HKfW := Lib.hid hkfW
      have HHK := Lib.hid hk0
      have HKB := Lib.hid hkb
      have HSZ := Lib.hid hsz
      have HBW := Lib.hid hbW
      have HWW := Lib.hid hW
      obtain ⟨bx, hbx⟩ : ∃ bx, w1.heap.size = bx := ⟨_, rfl⟩
      have HBX := Lib.hid hbx
      rw [hbx] at kw0 kw1 kw2 fw0 HKB HHK HSZ HBW
      clear hK0 hk0 hkb hsz hbW hRfW hkfW hbx
      go_wp2_with fail
      rw [← hW, HBX.out]
      refine HK.out.mono ?_
      rintro e w3 ⟨rfl, K3, hd3, ht3⟩
      clear hW k1 k2 c0 f0
      have hbl : bx < W.heap.size := by have := HSZ.out; omega
      have hb3 : w3.heap[bx]? = W.heap[bx]? := ht3.block bx hbl (by rw [HKB.out]; omega)
      have kv0 := (cell_of (off := 0) hb3).trans kw0
      have kv1 := (cell_of (off := 1) hb3).trans kw1
      have kv2 := (cell_of (off := 2) hb3).trans kw2
      have fv0 : w3.frozen? ⟨bx, 0, none⟩ = false := by
        rw [← fw0]
        unfold World.frozen?
        rw [hb3]
      have HD3 := Lib.hid hd3
      have HT3 := Lib.hid ht3
      have hk3 : K3 bx = o + 1 := (ht3.kind bx hbl).trans HKB.out
      have HT34 := Lib.hid (turned_poke (w := w3) (K := K3) (o := o + 1) (p := bx) (j := 0) (u := .string ⟨b.toArray⟩) hk3)
      have HD4 := Lib.hid (RefD.turned HD3.out HT34.out (by omega) (by omega))
      have hR3 := rd_turned HT3.out HO.out HRfW.out (by simpa using HKfW.out)
      have hk3f : ∀ b' off, A' = some ⟨b', off, none⟩ → 0 < f.data.length → K3 b' = 0 := fun b' off e hl => by
        obtain ⟨b2, off2, e2, hb2, _⟩ := HRfW.out (by simpa using hl)
        rw [e] at e2
        injection e2 with e2
        injection e2 with e2
        subst e2
        exact (HT3.out.kind b' hb2).trans (HKfW.out b' off e hl)
      have hR4 := rd_turned HT34.out (by omega) hR3 (by simpa using hk3f)
      have HPU := Lib.hid (put_any (w3.setCell ⟨bx, 0, none⟩ (.string ⟨b.toArray⟩)) K3 o p { stepped d with files := del i (stepped d).files } { f with name := b } A' c' HD4.out HO.out (by
        have h1 := HN.out
        rw [HFL.out]
        unfold del
        simp only [List.length_append, List.length_take, List.length_drop]
        omega) HA.out HBm.out hR4 hk3f)
      unfold fcs at HPU
      have HS3 := Lib.hid ht3.size
      clear hd3 ht3 hb3 kw0 kw1 kw2 fw0 hR3 hR4 hk3f HK hk3
      go_wp2_with fail
      refine HPU.out.mono ?_
      rintro e w5 ⟨rfl, K5, hd5, ht5⟩
      have HD5 := Lib.hid hd5
      have HT5 := Lib.hid ht5
      clear hd5 ht5
      go_wp2
      go_ret
      rw [HX.out]
      rw [HFL.out] at HD5
      have s1 := HT1.out.size
      have s2 := HBX.out
      have s3 := HSZ.out
      have s4 := HS3.out
      have s5 := HT5.out.size
      have s6 : (w3.setCell ⟨bx, 0, none⟩ (.string ⟨b.toArray⟩)).heap.size = w3.heap.size := by simp
      have kk : ∀ j, j < w.heap.size → K3 j = K j := fun j hj => (HT3.out.kind j (by omega)).trans (HHK.out j (by omega))
      refine ⟨rfl, K5, HD5.out, ?_, ?_, ?_, by omega, fun j hj hkj => ?_, fun j hj => (HT5.out.kind j (by omega)).trans (kk j hj)⟩
      · exact HT5.out.os.trans (HT3.out.os.trans (HOS.out.1.trans HT1.out.os))
      · exact HT5.out.tape.trans (HT3.out.tape.trans (HOS.out.2.1.trans HT1.out.tape))
      · exact HT5.out.output.trans (HT3.out.output.trans (HOS.out.2.2.trans HT1.out.output))
      · have hne : bx ≠ j := by omega
        have b4 : (w3.setCell ⟨bx, 0, none⟩ (.string ⟨b.toArray⟩)).heap[j]? = w3.heap[j]? := by simp [World.setCell, Array.getElem?_modify, hne]
        have k0j : K0 j = K j := HHK.out j (by omega)
        exact (HT5.out.block j (by omega) (by rw [kk j hj]; exact hkj)).trans (b4.trans ((HT3.out.block j (by omega) (by rw [k0j]; exact hkj)).trans ((HBW.out j (by omega)).trans (HT1.out.block j hj hkj))))
end Go.Proofs.YtjninegpaoblfaaGreatDoor.RefRen5

namespace Go.Proofs.YtjninegpaoblfaaGreatDoor.RefNew5
open Go Go.RowKit Words DkSpec RefDisk RefChange RefRow RefTake RefPut5 RefOps5

/-- A new disk at a new block; all that was there is as it was. -/
def NPost (w : World) (K : Nat → Nat) (o : Nat) (d : DSt) (e : Ending) (w' : World) : Prop := ∃ p K', e = .returned (.pointer (some ⟨p, 0, none⟩)) ∧ w.heap.size ≤ p ∧ RefD w' K' o p d ∧ ∀ o', Turned K K' o' w w'

theorem new_any (w : World) (K : Nat → Nat) (o : Nat) :
    Calls Tryz.prog 6 #[] w (NPost w K o fresh) := by
  go_enter Tryz.func6, Tryz.ntmps6
  go_wp2
  go_ret
  have hh := Go.heap_alloc_new w (.cells #[.slice none 0 0, .bool false, .bool false, .int .i64 (-1)] 41)
  obtain ⟨W, hW⟩ : ∃ W, W = w.alloc (.cells #[.slice none 0 0, .bool false, .bool false, .int .i64 (-1)] 41) := ⟨_, rfl⟩
  rw [← hW] at hh ⊢
  have hsz : W.heap.size = w.heap.size + 1 := by rw [hW]; simp
  have hbW : ∀ j, j < w.heap.size → W.heap[j]? = w.heap[j]? := fun j hj => by rw [hW]; exact Below.heap_alloc w _ j hj
  have fz : ∀ j, W.frozen? ⟨w.heap.size, j, none⟩ = false := fun j => by
    unfold World.frozen?
    rw [hh]
    rfl
  have kc : ∀ j u, (#[Value.slice none 0 0, .bool false, .bool false, .int .i64 (-1)])[j]? = some u → W.cell? ⟨w.heap.size, j, none⟩ = some u := fun j u hu => by
    rw [hW]
    exact (World.cell?_alloc_at _ _ _ _ rfl).trans hu
  refine ⟨w.heap.size, fun b => if b < w.heap.size then K b else o, rfl, Nat.le_refl _, ⟨none, 0, Nat.le_refl _, Nat.zero_le _, by omega, by simp, kc 0 _ rfl, kc 1 _ rfl, kc 2 _ rfl, kc 3 _ rfl, fz 0, fz 1, fz 2, fz 3, fun _ _ e => (by cases e), fun h => absurd h (Nat.lt_irrefl 0)⟩, fun o' => ⟨by rw [hW]; rfl, by rw [hW]; rfl, by rw [hW]; rfl, by omega, fun j hj _ => hbW j hj, fun j hj => by simp [hj]⟩⟩
end Go.Proofs.YtjninegpaoblfaaGreatDoor.RefNew5

namespace Go.Proofs.YtjninegpaoblfaaGreatDoor.RefClone5
open Go Go.RowKit Words DkSpec RefDisk RefChange RefRow RefTake RefPut5 RefOps5 RefNew5 AppN

/-- An append whose run is known, in a region that draws its order. -/
theorem step_append_run {P : Program} {ops : Array Oper} {o : Oper} {a : Act} {w : World} {K : Act → World → Prop} {Q : Exit → Act → World → Prop} {E : Prop}
    (hg : o.guard = none) (s x : Operand) (t : TypeId) (hop : o.op = Op.call { callee := Callee.builtin Builtin.append, args := #[s, x], argTypes := #[t, t] })
    (v' : Value) (w' : World) (hrun : (Builtin.append_ #[t, t] o.type #[a.eval s, a.eval x]).run P w = .ok v' w') (hK : K (a.put o.dst v') w') :
    if Region.wanted o (yielded ops a.tmps) = true then Oper.wp P o a w K Q else E := by
  have hw : Region.wanted o (yielded ops a.tmps) = true := by simp [Region.wanted, hg]
  rw [if_pos hw]
  unfold Oper.wp
  simp [execOp, hop, resolve, invoke, builtin, hrun, Result.andThen]
  exact hK

end Go.Proofs.YtjninegpaoblfaaGreatDoor.RefClone5

