/- The contract of the document's own Restart. Conditions: the disk lies in memory as 'RefD' says; at most 10^9 files, of at most 2^47 bytes; the numbers that are handed in are of 64 bits, and don't lie in the disk's own memory. -/
import Derived.Test.YtjninegpaoblfaaGreatDoorPdApps
import Derived.Test.YtjninegpaoblfaaGreatDoorRefOps
import Derived.Test.YtjninegpaoblfaaGreatDoorPdRes
import Derived.Deep.RegionHeld3
namespace Go.Proofs.YtjninegpaoblfaaGreatDoor.RefRes5
open Go Go.RowKit Words DkSpec RefDisk RefChange RefRow RefTake RefPut5 RefOps5 RefNew5 RefClone5 RefApp5 RefSync5 PdRes

theorem FRow.data {w : World} {K : Nat → Nat} {o g off i : Nat} {l : List DFile} {A2 : Option Addr} {c2 : Nat} {l2 : List UInt8} (h : FRow w K o (some ⟨g, off, none⟩) l) (hi : i < l.length) (ho : o ≠ 0) (hr2 : Rd w w.heap.size A2 (l2.map B8)) (hk2 : ∀ b off, A2 = some ⟨b, off, none⟩ → 0 < l2.length → K b = 0) (hc2 : l2.length ≤ c2) (hm2 : c2 ≤ maxLen) :
    FRow (w.setCell ⟨g, off + i * 3 + 1, none⟩ (.slice A2 l2.length c2)) K o (some ⟨g, off, none⟩) (l.modify i fun f => { f with data := l2 }) := fun hn => by
  obtain ⟨g', off', e, hg, hk, hz, hcell⟩ := h (by omega)
  injection e with e
  injection e with e1 e2
  subst e1 e2
  have ne : ∀ (b x : Nat), b ≠ g ∨ x ≠ off + i * 3 + 1 → (w.setCell ⟨g, off + i * 3 + 1, none⟩ (.slice A2 l2.length c2)).cell? ⟨b, x, none⟩ = w.cell? ⟨b, x, none⟩ := fun b x hb => World.cell?_setCell_other w _ _ _ (fun e => by
    injection e with e1 e2
    rcases hb with hb | hb
    · exact hb e1.symm
    · exact hb e2.symm)
  refine ⟨g, off, rfl, by simpa using hg, hk, fun j => by rw [World.frozen?_setCell]; exact hz j, fun j f hj => ?_⟩
  have hdata : ∀ (A' : Option Addr) (vs : List Value), Rd w w.heap.size A' vs → (∀ b off', A' = some ⟨b, off', none⟩ → 0 < vs.length → K b = 0) → Rd (w.setCell ⟨g, off + i * 3 + 1, none⟩ (.slice A2 l2.length c2)) (w.setCell ⟨g, off + i * 3 + 1, none⟩ (.slice A2 l2.length c2)).heap.size A' vs := fun A' vs hr h0 hp => by
    obtain ⟨b2, off2, e2, hb2, hc2⟩ := hr hp
    refine ⟨b2, off2, e2, by simpa using hb2, fun j' u' hu => (ne _ _ (.inl ?_)).trans (hc2 j' u' hu)⟩
    have h1 := h0 b2 off2 e2 hp
    intro e
    rw [e, hk] at h1
    exact ho h1
  rw [List.getElem?_modify] at hj
  cases hf : l[j]? with
  | none => rw [hf] at hj; simp at hj
  | some f0 =>
    rw [hf] at hj
    obtain ⟨k0, ⟨A', c', k1, k1a, k1b, k1c, k1d⟩, k2⟩ := hcell j f0 hf
    by_cases hij : i = j
    · subst hij
      simp only [if_pos, Option.map_eq_map, Option.map_some, Option.some.injEq] at hj
      subst hj
      exact ⟨(ne _ _ (.inr (by omega))).trans k0, ⟨A2, c2, World.cell?_setCell_same _ _ _ k1, hc2, hm2, hdata _ _ hr2 (by simpa using hk2), hk2⟩, (ne _ _ (.inr (by omega))).trans k2⟩
    · simp only [if_neg hij, Option.map_eq_map, Option.map_some, Option.some.injEq] at hj
      subst hj
      exact ⟨(ne _ _ (.inr (by omega))).trans k0, ⟨A', c', (ne _ _ (.inr (by omega))).trans k1, k1a, k1b, hdata _ _ k1c (by simpa using k1d), k1d⟩, (ne _ _ (.inr (by omega))).trans k2⟩
theorem RefD.data {w : World} {K : Nat → Nat} {o p g off c i : Nat} {d : DSt} {A2 : Option Addr} {c2 : Nat} {l2 : List UInt8} (h : RefD w K o p d) (ho : o ≠ 0) (hA : w.cell? ⟨p, 0, none⟩ = some (.slice (some ⟨g, off, none⟩) d.files.length c)) (hi : i < d.files.length)
    (hr2 : Rd w w.heap.size A2 (l2.map B8)) (hk2 : ∀ b off, A2 = some ⟨b, off, none⟩ → 0 < l2.length → K b = 0) (hc2 : l2.length ≤ c2) (hm2 : c2 ≤ maxLen) :
    RefD (w.setCell ⟨g, off + i * 3 + 1, none⟩ (.slice A2 l2.length c2)) K o p { d with files := d.files.modify i fun f => { f with data := l2 } } := by
  obtain ⟨A, c', hc, hm, hp, hk, c0, c1, c2', c3, f0, f1, f2, f3, hAp, hf⟩ := h
  have e := c0.symm.trans hA
  injection e with e
  injection e with e1 _ e3
  subst e1 e3
  have hgp := hAp g off rfl
  have ne : ∀ x : Nat, (w.setCell ⟨g, off + i * 3 + 1, none⟩ (.slice A2 l2.length c2)).cell? ⟨p, x, none⟩ = w.cell? ⟨p, x, none⟩ := fun x => World.cell?_setCell_other w _ _ _ (fun e => hgp (by injection e))
  have hlen : (d.files.modify i fun f => { f with data := l2 }).length = d.files.length := List.length_modify _ _ _
  refine ⟨some ⟨g, off, none⟩, c', by simp only [hlen]; exact hc, hm, by simpa using hp, hk, by simp only [hlen]; exact (ne 0).trans c0, (ne 1).trans c1, (ne 2).trans c2', (ne 3).trans c3, ?_, ?_, ?_, ?_, hAp, FRow.data hf hi ho hr2 hk2 hc2 hm2⟩
  all_goals rw [World.frozen?_setCell]; assumption

theorem keptTo_len (i : Nat) (l : List DFile) (ks : List Int) : (keptTo i l ks).length = l.length := by
  have h := congrArg List.length (keptTo_names i l ks)
  simpa using h
theorem modify_two {l : List DFile} {i n : Nat} {f : DFile} {x : Int} (hf : l[i]? = some f) (hn : n = stays f x) : ((l.modify i fun g => { g with data := f.data.take n }).modify i fun g => { g with synced := n }) = l.modify i fun g => cr g x := by
  apply List.ext_getElem?
  intro j
  rw [List.getElem?_modify, List.getElem?_modify, List.getElem?_modify]
  by_cases hij : i = j
  · subst hij
    rw [hf]
    simp [cr, hn]
  · simp [hij]
/-- The loop over the files. -/
def Rel (w : World) (K : Nat → Nat) (o p : Nat) (l : List DFile) (ks : List Int) (i : Value) (wr : World) : Prop := ∃ k : Nat, k ≤ l.length ∧ i = .int .i64 (k : Int) ∧ Hid (∃ K', RefD wr K' o p ⟨keptTo k l ks, false, false, -1⟩ ∧ Turned K K' o w wr)
/-- The loop over a file's bytes. -/
def RelI (s len : Nat) (x : Int) (vn vk : Value) : Prop := ∃ j : Nat, j ≤ x.toNat ∧ s + j ≤ len ∧ vn = .int .i64 ((s + j : Nat) : Int) ∧ vk = .int .i64 (j : Int)

theorem restart_nil (w : World) (A : Option Addr) (n c : Nat) : Calls Tryz.prog 18 #[.pointer none, .slice A n c] w fun e w' => e = .returned (.tuple #[]) ∧ w = w' := by
  have hne := eq_nil
  go_enter Tryz.func18, Tryz.ntmps18
  go_wp2
  refine bodyPost_ret (results_none rfl _ _ _) rfl ?_
  exact ⟨rfl, rfl⟩

set_option maxHeartbeats 1600000 in
set_option maxRecDepth 100000 in
theorem restart_any (w : World) (K : Nat → Nat) (o p : Nat) (d : DSt) (ks : List Int) (A : Option Addr) (c : Nat) (hd : RefD w K o p d) (ho : o ≠ 0) (hn : d.files.length ≤ 1000000000) (hz : ∀ f ∈ d.files, f.synced ≤ f.data.length ∧ f.data.length ≤ 140737488355328)
    (hr : Rd w w.heap.size A (ks.map I64)) (hk0 : ∀ b off, A = some ⟨b, off, none⟩ → 0 < ks.length → K b ≠ o) (hks : ∀ k ∈ ks, -9223372036854775808 ≤ k ∧ k ≤ 9223372036854775807) (hc : ks.length ≤ c) (hm : c ≤ maxLen) :
    Calls Tryz.prog 18 #[.pointer (some ⟨p, 0, none⟩), .slice A ks.length c] w (MPost w K o p (restart ks d)) := by
  obtain ⟨i0, hi, hz0, hz1, hz2⟩ := info_parts info_u8
  have HD0 : Hid (RefD (((w.setCell ⟨p, 1, none⟩ (.bool false)).setCell ⟨p, 2, none⟩ (.bool false)).setCell ⟨p, 3, none⟩ (.int .i64 (-1))) K o p ⟨d.files, false, false, -1⟩) := Lib.hid (RefD.left (RefD.toOff (RefD.toFull hd ho false) ho false) ho (-1))
  obtain ⟨A1, c1, hc1, hm1, hp, hk, e0, e1, e2, e3, f0, f1, f2, f3, _, _⟩ := hd
  have HT0 : Hid (Turned K K o w (((w.setCell ⟨p, 1, none⟩ (.bool false)).setCell ⟨p, 2, none⟩ (.bool false)).setCell ⟨p, 3, none⟩ (.int .i64 (-1)))) := Lib.hid ((turned_poke hk).trans ((turned_poke hk).trans (turned_poke hk)))
  have hne := fun w => RefOps5.ne_nil p 0 w
  have hnq : ∀ w : World, (binOp .eql 28 (.pointer (some ⟨p, 0, none⟩)) (.pointer none)).run Tryz.prog w = .ok (.bool false) w := fun w => by kernel_rfl
  have HR := Lib.hid hr
  have HK0 := Lib.hid hk0
  have HKS := Lib.hid hks
  have HZ := Lib.hid hz
  have HO := Lib.hid ho
  have HKA := Lib.hid (keptTo_all d.files ks)
  obtain ⟨l, hl⟩ : ∃ l, d.files = l := ⟨_, rfl⟩
  have HRS : Hid (restart ks d = ⟨kept l ks, false, false, -1⟩) := Lib.hid (by rw [← hl]; rfl)
  rw [hl] at HD0 hn HZ HKA
  unfold maxLen at hm
  clear hr hk0 hks hz ho e0 f0 hc1 hm1 hl hk
  go_enter Tryz.func18, Tryz.ntmps18
  go_wp2
  go_loopw [4] (fun i wr => Rel w K o p l ks i wr) (fun i _ => l.length - (intOf i).toNat)
  case atStart => exact ⟨0, Nat.zero_le _, rfl, Lib.hid ⟨K, HD0.out, HT0.out⟩⟩
  case round =>
    obtain ⟨k, hk, rfl, hst⟩ := hrel
    obtain ⟨K1, hd1, ht1⟩ := hst.out
    have HD1 := Lib.hid hd1
    have HT1 := Lib.hid ht1
    obtain ⟨A2, c2, hc2, hm2, hp2, hkp, e0, _, _, _, _, _, _, _, hAp, hf⟩ := hd1
    have hll := keptTo_len k l ks
    simp only [hll] at e0 hc2
    unfold maxLen at hm2
    clear hst ht1 e1 e2 e3 f1 f2 f3
    by_cases hlt : k < l.length
    · obtain ⟨g, off, rfl, hg, hkg, hgz, hcell⟩ := hf (by simp only [hll]; omega)
      have hfk : (keptTo k l ks)[k]? = some l[k] := (keptTo_get k l ks).trans (List.getElem?_eq_getElem hlt)
      obtain ⟨_, ⟨A', c', k1, hcc, hcm, hrd, _⟩, k2⟩ := hcell k l[k] hfk
      have hzk := HZ.out l[k] (List.getElem_mem hlt)
      have HFK := Lib.hid hfk
      generalize l[k] = f at *
      obtain ⟨hzs, hzl⟩ := hzk
      have hgp := hAp g off rfl
      have HRD := Lib.hid hrd
      have HST : Hid (∀ x, stays f x = min f.data.length (f.synced + x.toNat)) := Lib.hid (fun _ => rfl)
      unfold maxLen at hcm
      clear hcell hf hfk hrd
      have HEND : Hid (∀ nn x, nn = stays f x → ks.getD k 0 = x → ∃ A3 c3 w', (Builtin.append_ #[51, 51] 51 #[.slice none 0 0, .slice A' nn c']).run Tryz.prog wr.drew = .ok (.slice A3 nn c3) w' ∧ nn ≤ f.data.length ∧ w'.cell? ⟨p, 0, none⟩ = some (.slice (some ⟨g, off, none⟩) l.length c2) ∧ w'.cell? ⟨g, off + k * 3 + 1, none⟩ = some (.slice A' f.data.length c') ∧ w'.frozen? ⟨g, off + k * 3 + 1, none⟩ = false ∧
          (w'.setCell ⟨g, off + k * 3 + 1, none⟩ (.slice A3 nn c3)).cell? ⟨p, 0, none⟩ = some (.slice (some ⟨g, off, none⟩) l.length c2) ∧ (w'.setCell ⟨g, off + k * 3 + 1, none⟩ (.slice A3 nn c3)).cell? ⟨g, off + k * 3 + 2, none⟩ = some (.int .i64 (f.synced : Int)) ∧ (w'.setCell ⟨g, off + k * 3 + 1, none⟩ (.slice A3 nn c3)).frozen? ⟨g, off + k * 3 + 2, none⟩ = false ∧
          Hid (∃ K', RefD ((w'.setCell ⟨g, off + k * 3 + 1, none⟩ (.slice A3 nn c3)).setCell ⟨g, off + k * 3 + 2, none⟩ (.int .i64 (nn : Int))) K' o p ⟨keptTo (k + 1) l ks, false, false, -1⟩ ∧ Turned K K' o w ((w'.setCell ⟨g, off + k * 3 + 1, none⟩ (.slice A3 nn c3)).setCell ⟨g, off + k * 3 + 2, none⟩ (.int .i64 (nn : Int))))) := Lib.hid (fun nn x hnn hx => by
        have hnl : nn ≤ f.data.length := by rw [hnn, HST.out]; omega
        have htl : (f.data.take nn).length = nn := by simp; omega
        obtain ⟨v3, w', hrun, hown, hgr, hnf⟩ := App.run_append_rd (P := Tryz.prog) wr.drew wr.heap.size 51 51 5 i0 (.int .u8 0) 1 Tryz.underlying51 hi hz0 hz1 hz2 rfl (.slice none 0 0) 0 [] (World.ownsRow_nil _ _ _ _) wr.heap.size A' nn c' ((f.data.take nn).map B8) (by rw [List.length_map, htl]) (by rw [List.map_take]; exact (HRD.out.take nn : Rd wr wr.heap.size A' ((f.data.map B8).take nn))) (one8 _) (by unfold maxLen; omega) (by omega) (Nat.le_refl _)
        simp only [Nat.zero_add, List.nil_append] at hown
        obtain ⟨A3, c3, rfl, h31, h32, hrd3, hbase⟩ := own_rd hown
        have hb : Below wr.heap.size wr w' := ((Below.refl _ wr).drew).grown hgr (Nat.le_refl _) (fun q hq => by cases hq)
        have hcl : ∀ b x, b < wr.heap.size → w'.cell? ⟨b, x, none⟩ = wr.cell? ⟨b, x, none⟩ := fun b x hb2 => cell_of (hb.block b hb2)
        have hfz : ∀ b x, b < wr.heap.size → w'.frozen? ⟨b, x, none⟩ = wr.frozen? ⟨b, x, none⟩ := fun b x hb2 => by unfold World.frozen?; rw [hb.block b hb2]
        have hd' := grown_below hb HD1.out
        have hne1 : ∀ (u : Value) (x y : Nat), (w'.setCell ⟨g, x, none⟩ u).cell? ⟨p, y, none⟩ = w'.cell? ⟨p, y, none⟩ := fun u x y => World.cell?_setCell_other w' _ _ _ (fun e => hgp (by injection e))
        have hne2 : ∀ (u : Value), (w'.setCell ⟨g, off + k * 3 + 1, none⟩ u).cell? ⟨g, off + k * 3 + 2, none⟩ = w'.cell? ⟨g, off + k * 3 + 2, none⟩ := fun u => World.cell?_setCell_other w' _ _ _ (fun e => by injection e with _ e; omega)
        have g0 := (hcl p 0 hp2).trans e0
        have hd2 := RefD.data (A2 := A3) (c2 := c3) (l2 := f.data.take nn) hd' HO.out (by simp only [hll]; exact g0) (by simp only [hll]; exact hlt) hrd3 (fun b off e _ => by
          have h9 : wr.heap.size ≤ b := (hbase b off e).1
          exact if_neg (by omega)) (by rw [htl]; exact h31) h32
        rw [htl] at hd2
        have hd3 := RefD.synced (i := k) (n := nn) hd2 HO.out (by simp only [List.length_modify, hll]; exact (hne1 _ _ _).trans g0) (by simp only [List.length_modify, hll]; exact hlt)
        refine ⟨A3, c3, w', hrun, hnl, g0, (hcl g _ hg).trans k1, (hfz g _ hg).trans (hgz _), (hne1 _ _ _).trans g0, (hne2 _).trans ((hcl g _ hg).trans k2), by rw [World.frozen?_setCell]; exact (hfz g _ hg).trans (hgz _), Lib.hid ⟨K6 K1 wr.heap.size, ?_, ?_⟩⟩
        · refine RefD.world hd3 ?_
          simp only
          rw [keptTo_succ, hx]
          exact congrArg (fun z => (⟨z, false, false, -1⟩ : DSt)) (modify_two HFK.out hnn)
        · have hkg' : K6 K1 wr.heap.size g = o := (if_pos hg).trans hkg
          have t1 : Turned K1 (K6 K1 wr.heap.size) o wr w' := ⟨hb.os, hb.tape, hb.output, hb.size, fun i hi _ => hb.block i hi, fun i hi => if_pos hi⟩
          have t2 : Turned (K6 K1 wr.heap.size) (K6 K1 wr.heap.size) o w' (w'.setCell ⟨g, off + k * 3 + 1, none⟩ (.slice A3 nn c3)) := turned_poke hkg'
          have t3 : Turned (K6 K1 wr.heap.size) (K6 K1 wr.heap.size) o (w'.setCell ⟨g, off + k * 3 + 1, none⟩ (.slice A3 nn c3)) ((w'.setCell ⟨g, off + k * 3 + 1, none⟩ (.slice A3 nn c3)).setCell ⟨g, off + k * 3 + 2, none⟩ (.int .i64 (nn : Int))) := turned_poke hkg'
          exact HT1.out.trans (t1.trans (t2.trans t3)))
      have kz1 := hgz (off + k * 3 + 1)
      clear hgz hkg hAp hkp
      by_cases hkb : k < ks.length
      · obtain ⟨bk, offk, rfl, hbk, hcellk⟩ := HR.out (by simp; omega)
        have hgd : ks.getD k 0 = ks[k] := by simp [List.getD, hkb]
        have kx : wr.cell? ⟨bk, offk + k, none⟩ = some (.int .i64 ks[k]) := by
          rw [cell_of (HT1.out.block bk hbk (HK0.out bk offk rfl (by omega)))]
          exact hcellk k (I64 ks[k]) (by simp [hkb])
        have hxx := HKS.out _ (List.getElem_mem hkb)
        generalize ks[k] = x at *
        obtain ⟨hx1, hx2⟩ := hxx
        clear hcellk
        go_wp2
        go_loop [5, 6] (fun vn vk => RelI f.synced f.data.length x vn vk) (fun _ vk => x.toNat - (intOf vk).toNat)
        case atStart => exact ⟨0, Nat.zero_le _, by omega, rfl, rfl⟩
        case round =>
          obtain ⟨j, hj1, hj2, rfl, rfl⟩ := hrel
          have HJ : Hid (¬ ((j : Int) < x ∧ f.synced + j < f.data.length) → f.synced + j = stays f x) := Lib.hid (fun h => by rw [HST.out]; omega)
          generalize hsj : f.synced + j = sj at *
          by_cases hcond : (j : Int) < x ∧ sj < f.data.length
          · have hd1 : decide ((j : Int) < x) = true := decide_eq_true hcond.1
            have hjx := hcond.1
            have hsl := hcond.2
            have hd2 : decide ((sj : Int) < (f.data.length : Int)) = true := by simp; omega
            clear hcond
            go_wp2
            go_round
            case rel => exact ⟨j + 1, by omega, by omega, by rw [← hsj]; go_num, by go_num⟩
            case measure => simp [intOf]; omega
          · obtain ⟨A3, c3, w', hrun, hnl, g0, g1, gz1, g2, g3, gz3, hfin⟩ := HEND.out sj x (HJ.out hcond) hgd
            have hcc2 : (sj : Int) ≤ (c' : Int) := by omega
            have hb2 : ((j : Int) < x) → ¬ ((sj : Int) < (f.data.length : Int)) := fun h1 h2 => hcond ⟨h1, by omega⟩
            by_cases hjx : (j : Int) < x
            · have hd1 : decide ((j : Int) < x) = true := decide_eq_true hjx
              have hd2 : decide ((sj : Int) < (f.data.length : Int)) = false := decide_eq_false (hb2 hjx)
              have hsl : ¬ sj < f.data.length := by have := hb2 hjx; omega
              clear hcond hb2
              go_wp2
              go_region_law (refine step_append_run rfl (.tmp 70) (.tmp 80) 51 rfl _ w' hrun ?_)
              all_goals
                go_wp2
                go_roundw
                case rel => exact ⟨k + 1, by omega, by go_num, hfin⟩
                case measure => simp [intOf]; omega
            · have hd1 : decide ((j : Int) < x) = false := decide_eq_false hjx
              clear hcond hb2
              go_wp2
              go_region_law (refine step_append_run rfl (.tmp 70) (.tmp 80) 51 rfl _ w' hrun ?_)
              all_goals
                go_wp2
                go_roundw
                case rel => exact ⟨k + 1, by omega, by go_num, hfin⟩
                case measure => simp [intOf]; omega

      · obtain ⟨x, hx⟩ : ∃ x : Int, x = 0 := ⟨0, rfl⟩
        have hgd : ks.getD k 0 = x := by rw [hx]; simp [List.getD, List.getElem?_eq_none (Nat.le_of_not_lt hkb)]
        go_wp2
        go_loop [5, 6] (fun vn vk => RelI f.synced f.data.length x vn vk) (fun _ vk => x.toNat - (intOf vk).toNat)
        case atStart => exact ⟨0, Nat.zero_le _, by omega, rfl, rfl⟩
        case round =>
          obtain ⟨j, hj1, hj2, rfl, rfl⟩ := hrel
          have HJ : Hid (¬ ((j : Int) < x ∧ f.synced + j < f.data.length) → f.synced + j = stays f x) := Lib.hid (fun h => by rw [HST.out]; omega)
          generalize hsj : f.synced + j = sj at *
          obtain ⟨A3, c3, w', hrun, hnl, g0, g1, gz1, g2, g3, gz3, hfin⟩ := HEND.out sj x (HJ.out (fun h => by omega)) hgd
          have hcc2 : (sj : Int) ≤ (c' : Int) := by omega
          go_wp2
          go_region_law (refine step_append_run rfl (.tmp 70) (.tmp 80) 51 rfl _ w' hrun ?_)
          all_goals
            go_wp2
            go_roundw
            case rel => exact ⟨k + 1, by omega, by go_num, hfin⟩
            case measure => simp [intOf]; omega

    · have hkn : k = l.length := by omega
      subst hkn
      have HD2 : Hid (RefD wr K1 o p ⟨kept l ks, false, false, -1⟩) := Lib.hid (by rw [← HKA.out]; exact HD1.out)
      clear hf hkp
      go_wp2
      go_end0
      exact ⟨rfl, K1, by rw [HRS.out]; exact HD2.out, HT1.out⟩
end Go.Proofs.YtjninegpaoblfaaGreatDoor.RefRes5
