/- The contracts of strings.Clone and of Rename. Conditions: the disk lies in memory as 'PDisk' says; the names' lengths are at most the model's greatest; at most 10^9 files. -/
import Derived.Test.YtfblekedgenacaaPdSync
import Derived.Test.YtfblekedgenacaaPdList
import Derived.Deep.RegionHeld3
namespace Go.Proofs.Ytfblekedgenacaa.PdRen
open Go Go.RowKit Go.Maps Words DkSpec PdLook RefDisk PdDisk PdChange PdOps PdSync

theorem clone_str (a : List UInt8) (w : World) (ha : a.length ≤ 281474976710656) : Calls Try.prog 38 #[.string ⟨a.toArray⟩] w fun e w' => e = .returned (.string ⟨a.toArray⟩) ∧ Below w.heap.size w w' := by
  have HC := Lib.hid (Try.stringslite_Clone ⟨a.toArray⟩ w (by show a.toArray.size ≤ _; simpa using ha))
  go_enter Try.func38, Try.ntmps38
  go_wp2_with fail
  refine HC.out.mono ?_
  rintro e w1 ⟨rfl, hb⟩
  have HB := Lib.hid hb
  clear hb
  go_wp2
  go_ret
  exact ⟨rfl, HB.out⟩

section
variable {w w' : World} {K K' : Nat → Nat} {o p M : Nat} {D : DataW Unit} {L : Int} {G : List UInt8 → Nat} {Q : List UInt8 → Value} {d : DSt}
theorem PAt.below (h : PAt w K o p M D L G Q d) (hb : Below w.heap.size w w') : PAt w' K o p M D L G Q d := h.keep (fun i hi _ => hb.block i hi) (fun _ _ => rfl)
theorem FileAt.below {g : Nat} {v : Value} {f : DFile} (h : FileAt w K o g v f) (hb : Below w.heap.size w w') : FileAt w' K o g v f :=
  h.keep (hb.block g (lt_of h.box)) (fun q hq => hb.block q (h.row.lt q hq).2) (fun _ _ => rfl)
theorem turned_map (h : w.mapTurned w' M) (hM : K M = o) : Turned K K o w w' :=
  have hg := h.grown
  ⟨hg.os, hg.tape, hg.output, hg.size, fun i hi hk => hg.block i hi (fun e => hk (by injection e with e; rw [e]; exact hM)), fun _ _ => rfl⟩
theorem map_other (h : w.mapTurned w' M) : ∀ i, i ≠ M → w'.heap[i]? = w.heap[i]? := by
  obtain ⟨es, clock, es', clock', hM, rfl⟩ := h
  exact fun i hi => Go.ChangeMaps.heap_setBlock_other hM _ hi
/-- A name is laid in the map. -/
theorem named_run (h : PAt w K o p M D L G Q d) (s : List UInt8) (hs : s.length ≤ maxLen) (hn : d.files.length ≤ 1000000000) (g : Nat) :
    ∃ w', (Instr.mapUpdate 56 (.map (some M)) (.string ⟨s.toArray⟩) (.pointer (some ⟨g, 0, none⟩))).run Try.prog w = .ok () w' ∧ w'.ownsMap Try.prog 9 ptrR M (Maps.size D + 1) (D.put (.string s) (datum g)) ∧ w.mapTurned w' M :=
  h.map.store keyed Try.underlying56 (by rw [PdList.size_files h]; unfold maxLen; omega) (key s hs) (ptrR_ptr g)
end

set_option maxHeartbeats 1600000 in
set_option maxRecDepth 100000 in
theorem rename_any (w : World) (K : Nat → Nat) (o p : Nat) (d : DSt) (a b : List UInt8) (hd : PDisk w K o p d) (ha : a.length ≤ 281474976710656) (hb : b.length ≤ 281474976710656) (hn : d.files.length ≤ 1000000000) :
    Calls Try.prog 20 #[.pointer (some ⟨p, 0, none⟩), .string ⟨a.toArray⟩, .string ⟨b.toArray⟩] w (OPost w K o p (rename a b d)) := by
  obtain ⟨M, D, L, G, Q, h⟩ := hd
  have ha' : a.length ≤ maxLen := by unfold maxLen; omega
  have hb' : b.length ≤ maxLen := by unfold maxLen; omega
  have HC := Lib.hid (change_two h a b ha' hb')
  by_cases hr : refused a b d ≠ 0
  · have HX := Lib.hid (show rename a b d = (refused a b d, d) by unfold rename; rw [if_pos hr])
    have h1 : ((refused a b d : Int) != 0) = true := by simp; omega
    unfold ChPost2 at HC
    rw [if_pos hr] at HC
    clear h ha hr hb ha' hb' hn
    go_enter Try.func20, Try.ntmps20
    go_wp2_with fail
    refine HC.out.mono ?_
    rintro e w1 ⟨rfl, ⟨L1, hd1⟩, ht1⟩
    have HD1 := Lib.hid hd1
    have HT1 := Lib.hid ht1
    clear hd1 ht1
    go_wp2
    go_ret
    rw [HX.out]
    exact ⟨rfl, K, ⟨M, D, L1, G, Q, HD1.out⟩, HT1.out⟩
  · unfold ChPost2 at HC
    rw [if_neg hr, show refused a b d = 0 by omega] at HC
    have hfl := stepped_files d
    have hpl := place_look (s := a) h.good.1
    cases hl : fileOf a d.files with
    | none =>
      rw [hl] at hpl
      have HX := Lib.hid (show rename a b d = (21, stepped d) by unfold rename; rw [if_neg hr, hpl]; rfl)
      have HL := Lib.hid (show fileOf a (stepped d).files = none by rw [hfl, hl])
      have HA := Lib.hid ha'
      have hfn := fnil_nil
      clear h ha hr hfl hpl hl hb ha' hb' hn
      go_enter Try.func20, Try.ntmps20
      go_wp2_with fail
      refine HC.out.mono ?_
      rintro e w1 ⟨rfl, ⟨L1, hd1⟩, ht1⟩
      have HD1 := Lib.hid hd1
      have HT1 := Lib.hid ht1
      obtain ⟨c0, _, _⟩ := PAt.cells hd1
      have hlk := look_nil hd1 HA.out HL.out
      unfold S8 at hlk
      clear hd1 ht1
      go_wp2
      go_ret
      rw [HX.out]
      exact ⟨rfl, K, ⟨M, D, L1, G, Q, HD1.out⟩, HT1.out⟩
    | some f =>
      rw [hl] at hpl
      have hold := old_look (s := a) h.good.1
      rw [hl] at hold
      have HX := Lib.hid (show rename a b d = (0, { stepped d with files := put { f with name := b } (del (place a d.files).1 d.files) }) by unfold rename; rw [if_neg hr, hpl, hold]; rfl)
      have HG3 := Lib.hid (good_rename (a := a) (b := b) h.good)
      have HG2 : Hid (DkSpec.Good { stepped d with files := del (place a d.files).1 d.files }) := Lib.hid ⟨del_rises h.good.1 _, fun g hg => h.good.2 g (mem_del hg)⟩
      have HL := Lib.hid (show fileOf a (stepped d).files = some f by rw [hfl, hl])
      have HLK := Lib.hid (fun s' => look_del (a := a) s' h.good.1 (by rw [hl]; rfl))
      have HN : Hid ((del (place a d.files).1 d.files).length ≤ 1000000000) := Lib.hid (by
        refine Nat.le_trans ?_ hn
        unfold del
        simp only [List.length_append, List.length_take, List.length_drop]
        omega)
      have HFL := Lib.hid hfl
      have HA := Lib.hid ha'
      have HB' := Lib.hid hb'
      have hfn := feq_nil
      have HCL := fun W => Lib.hid (clone_str b W hb)
      clear h ha hr hfl hpl hl hb ha' hb' hn hold
      go_enter Try.func20, Try.ntmps20
      go_wp2_with fail
      refine HC.out.mono ?_
      rintro e w1 ⟨rfl, ⟨L1, hd1⟩, ht1⟩
      have HD1 := Lib.hid hd1
      have HT1 := Lib.hid ht1
      obtain ⟨c0, _, _⟩ := PAt.cells hd1
      have hlk := look_some hd1 HA.out HL.out
      unfold S8 ptr at hlk
      clear hd1 ht1
      go_wp2_with (at_delete; refine wpList_delete_own _ rfl _ _ 56 9 rfl 62 keyed Try.underlying56 ptrR M _ D rfl HD1.out.map _ _ rfl (key a HA.out) ?_; intro w2 hown2 hturn2)
      have HD2 : Hid (PAt w2 K o p M (D.del (.string a)) L1 G Q { stepped d with files := del (place a d.files).1 d.files }) := Lib.hid (by
        refine HD1.out.gone hown2 (map_other hturn2) HG2.out (fun s' => ?_) rfl rfl rfl
        rw [HFL.out]
        exact HLK.out s')
      have HT2 : Hid (Turned K K o w w2) := Lib.hid (HT1.out.trans (turned_map hturn2 HD1.out.kM))
      have HF2 : Hid (FileAt w2 K o (G a) (Q a) { f with name := b }) := Lib.hid (by
        obtain ⟨_, hf⟩ := HD1.out.at_ a f HL.out
        have hf2 := hf.keep (map_other hturn2 _ (HD1.out.ne_g HL.out).2) (fun q hq => map_other hturn2 q (HD1.out.ne_q HL.out hq).2.1) (fun _ _ => rfl)
        exact ⟨hf2.box, hf2.row, hf2.kind, hf2.rkind⟩)
      have HAP : Hid (∀ s' f', fileOf s' (del (place a d.files).1 d.files) = some f' → G s' ≠ G a ∧ ∀ q, (Q s').ownBlock = some q → (Q a).ownBlock ≠ some q) := Lib.hid (fun s' f' hf' => by
        rw [HLK.out] at hf'
        split at hf'
        · cases hf'
        · rename_i hne
          exact HD1.out.apart s' a f' f (by rw [HFL.out]; exact hf') HL.out hne)
      obtain ⟨c0', _, _⟩ := PAt.cells HD2.out
      have HST : Hid (∀ W w3, W.heap = w2.heap → W.os = w2.os → W.tape = w2.tape → W.output = w2.output → Below W.heap.size W w3 → ∃ w4, (Instr.mapUpdate 56 (.map (some M)) (.string ⟨b.toArray⟩) (.pointer (some ⟨G a, 0, none⟩))).run Try.prog w3 = .ok () w4 ∧
          Hid (PDisk w4 K o p (rename a b d).2 ∧ Turned K K o w w4) ∧ w3.cell? ⟨p, 0, none⟩ = some (.map (some M)) ∧ w4.cell? ⟨p, 0, none⟩ = some (.map (some M))) := Lib.hid (fun W w3 e1 e2 e3 e4 hb3 => by
        have hb3' : Below w2.heap.size w2 w3 := ⟨hb3.os.trans e2, hb3.tape.trans e3, hb3.output.trans e4, e1 ▸ hb3.size, fun k hk => (hb3.block k (by rw [e1]; exact hk)).trans (by rw [e1])⟩
        have h3 := PAt.below HD2.out hb3'
        have hf3 := FileAt.below HF2.out hb3'
        obtain ⟨w4, hrun, hown, hturn⟩ := named_run h3 b HB'.out HN.out (G a)
        have h4 := h3.named (d' := (rename a b d).2) (f := { f with name := b }) hown (map_other hturn) hf3 (fun s' f' hf' _ => HAP.out s' f' hf') HG3.out (fun s' => by rw [HX.out]; exact look_put _ s' _) (by rw [HX.out]) (by rw [HX.out]) (by rw [HX.out])
        exact ⟨w4, hrun, Lib.hid ⟨⟨M, _, L1, _, _, h4⟩, HT2.out.trans ((turned_below hb3').trans (turned_map hturn h3.kM))⟩, (PAt.cells h3).1, (PAt.cells h4).1⟩)
      have HK0 : Hid (w2.cell? ⟨p, 0, none⟩ = some (.map (some M))) := Lib.hid c0'
      clear hown2 hturn2 hlk c0
      go_wp2
      go_region_held3 (fun w' => w'.cell? ⟨p, 0, none⟩ = some (.map (some M))) (first | go_keep | assumption) ((go_at_call 38; refine (HCL _).out.mono ?_; rintro e w3 ⟨rfl, hb3⟩; obtain ⟨w4, hrun4, hpost4, hcell3, hcell4⟩ := HST.out w2.drew w3 rfl rfl rfl rfl hb3))
      all_goals
        go_wp2
        go_ret
        exact ⟨by rw [HX.out]; rfl, K, hpost4.out.1, hpost4.out.2⟩
end Go.Proofs.Ytfblekedgenacaa.PdRen
