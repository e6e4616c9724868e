/- The contract of Append. Conditions: the disk lies in memory as 'PDisk' says; the name's length is at most 2^48; the file's bytes then are at most 2^47; at most 10^9 files; the bytes that are handed in don't lie in the disk's own memory. · The contract of the document's own Append (of a disk). Conditions: the disk lies in memory as 'RefD' says; the name's length is at most the model's greatest; the file's bytes then are at most 2^47; at most 10^9 files. -/
import Derived.Test.YtjninegpaoblfaaGreatDoorPdReads
import Derived.Test.YtjninegpaoblfaaGreatDoorRefOps
import Derived.Test.YtjninegpaoblfaaGreatDoorPuts
import Derived.OneCell
namespace Go.Proofs.YtjninegpaoblfaaGreatDoor.PdApp
open Go Go.RowKit Go.Maps Words App DkSpec PdLook RefDisk PdDisk PdChange PdOps PdSync PdRen PdRead

section
variable {w w' : World} {K K' : Nat → Nat} {o p M : Nat} {D : DataW Unit} {L : Int} {G : List UInt8 → Nat} {Q : List UInt8 → Value} {d : DSt}
/-- Bytes that lie elsewhere stay. -/
theorem rd_away {A : Option Addr} {vs : List Value} (ht : Turned K K' o w w') (hr : Rd w w.heap.size A vs) (hk : ∀ b off, A = some ⟨b, off, none⟩ → 0 < vs.length → K b ≠ o) : Rd w' w'.heap.size A vs := fun hn => by
  obtain ⟨b, off, e, hb, hc⟩ := hr hn
  exact ⟨b, off, e, Nat.lt_of_lt_of_le hb ht.size, fun j u hu => (cell_of (ht.block b hb (hk b off e hn))).trans (hc j u hu)⟩
/-- A new block of the disk's own. -/
theorem turned_new (x : Obj) : Turned K (ext K w.heap.size o) o w (w.alloc x) :=
  ⟨rfl, rfl, rfl, by simp, fun i hi _ => Below.heap_alloc w x i hi, fun _ hi => ext_old hi⟩
/-- Behind the append and the store. -/
theorem PAt.appended (h : PAt w K o p M D L G Q d) {a : List UInt8} {f : DFile} {data : List UInt8} {v5 : Value} {w5 : World} (hl : fileOf a d.files = some f) (hown : w5.ownsRow 0 5 1 v5 (f.data.length + data.length) (f.data.map B8 ++ data.map B8)) (hg5 : w.grownBy w5 (Q a).ownBlock) (hv5 : v5.ownBlock = (Q a).ownBlock ∨ v5.ownBlock = some w.heap.size)
    {d' : DSt} (hg : DkSpec.Good d') (hlook : ∀ s', fileOf s' d'.files = if s' = a then some ⟨a, f.data ++ data, f.synced⟩ else fileOf s' d.files) (h1 : d'.full = d.full) (h2 : d'.off = d.off) (h3 : d'.left = d.left) :
    PDisk (w5.setCell ⟨G a, 0, none⟩ v5) (ext K w.heap.size o) o p d' ∧ Turned K (ext K w.heap.size o) o w (w5.setCell ⟨G a, 0, none⟩ v5) := by
  obtain ⟨_, hf⟩ := h.at_ a f hl
  have hqg : ∀ q, (Q a).ownBlock = some q → q ≠ G a := fun q e => (h.ne_q hl e).2.2 a f hl
  have hgl := lt_of hf.box
  have hbox5 : w5.heap[G a]? = some (.cells #[Q a, .int .i64 (f.synced : Int)] 73 (0, 0)) := (hg5.block _ hgl (fun e => hqg _ e.symm rfl)).trans hf.box
  have hv5g : ∀ q, v5.ownBlock = some q → q ≠ G a := fun q e e2 => by
    rcases hv5 with h | h
    · exact hqg q (h.symm.trans e) e2
    · rw [e] at h; injection h with h; omega
  have hK : ∀ q, v5.ownBlock = some q → ext K w.heap.size o q = o := fun q e => by
    rcases hv5 with h | h
    · have hq := h.symm.trans e
      rw [ext_old (hf.row.lt q hq).2]
      exact hf.rkind q hq
    · rw [e] at h; injection h with h; exact ext_new (by omega)
  have hF : FileAt (w5.setCell ⟨G a, 0, none⟩ v5) (ext K w.heap.size o) o (G a) v5 ⟨a, f.data ++ data, f.synced⟩ := by
    refine ⟨heap_setCell_same w5 (G a) 0 _ _ v5 hbox5, ?_, (ext_old hgl).trans hf.kind, hK⟩
    have h5 : w5.ownsRow 0 5 1 v5 (f.data ++ data).length ((f.data ++ data).map B8) := by simpa using hown
    exact row_same h5 (fun q e => heap_setCell_other w5 _ q _ (hv5g q e))
  refine ⟨⟨M, D, L, G, _, h.file (fun i hi => ext_old hi) hl hF (fun i hi hi1 hi2 => (heap_setCell_other w5 _ i _ hi1).trans (hg5.block i hi (fun e => hi2 e.symm))) (fun q e => ?_) hg hlook h1 h2 h3⟩, ⟨hg5.os, hg5.tape, hg5.output, by simpa using hg5.size, fun i hi hk => ?_, fun i hi => ext_old hi⟩⟩
  · rcases hv5 with h | h
    · exact .inl (h.symm.trans e)
    · rw [e] at h; injection h with h; exact .inr (by omega)
  · refine (heap_setCell_other w5 _ i _ (fun e => hk ?_)).trans (hg5.block i hi (fun e => hk ?_))
    · rw [e]; exact hf.kind
    · exact hf.rkind i e.symm
end

set_option maxHeartbeats 1600000 in
set_option maxRecDepth 100000 in
theorem append_any (w : World) (K : Nat → Nat) (o p : Nat) (d : DSt) (a data : List UInt8) (A : Option Addr) (c : Nat) (hd : PDisk w K o p d) (ha : a.length ≤ 281474976710656) (hn : d.files.length ≤ 1000000000) (hz : (old a d.files).data.length + data.length ≤ 140737488355328)
    (hr0 : Rd w w.heap.size A (data.map B8)) (hk0 : ∀ b off, A = some ⟨b, off, none⟩ → 0 < data.length → K b ≠ o) :
    Calls Tryz.prog 29 #[.pointer (some ⟨p, 0, none⟩), .string ⟨a.toArray⟩, .slice A data.length c] w (OPost w K o p (append a data d)) := by
  obtain ⟨i0, hi, hz0, hz1, hz2⟩ := info_parts info_u8
  obtain ⟨M, D, L, G, Q, h⟩ := hd
  have ha' : a.length ≤ maxLen := by unfold maxLen; omega
  have HC := Lib.hid (change_one h a ha')
  by_cases hr : refused a a d ≠ 0
  · have HX := Lib.hid (show append a data d = (refused a a d, d) by unfold append; rw [if_pos hr])
    have h1 : ((refused a a d : Int) != 0) = true := by simp; omega
    unfold ChPost2 at HC
    rw [if_pos hr] at HC
    clear h ha hr ha' hn hz hr0 hk0 hi hz0 hz1 hz2
    go_enter Tryz.func29, Tryz.ntmps29
    go_wp2_with fail
    refine HC.out.mono ?_
    rintro e w1 ⟨rfl, ⟨L1, hd1⟩, ht1⟩
    have HD1 := Lib.hid hd1
    have HT1 := Lib.hid ht1
    clear hd1 ht1
    go_wp2
    go_ret
    rw [HX.out]
    exact ⟨rfl, K, ⟨M, D, L1, G, Q, HD1.out⟩, HT1.out⟩
  · unfold ChPost2 at HC
    rw [if_neg hr, show refused a a d = 0 by omega] at HC
    have hfl := stepped_files d
    have hfull : (stepped d).full = d.full := by unfold stepped; split <;> rfl
    cases hfu : d.full with
    | true =>
      have HX := Lib.hid (show append a data d = (20, stepped d) by unfold append; rw [if_neg hr, hfu]; rfl)
      have HFU : Hid ((stepped d).full = true) := Lib.hid (hfull.trans hfu)
      clear h ha hr ha' hn hz hr0 hk0 hi hz0 hz1 hz2 hfl hfull hfu
      go_enter Tryz.func29, Tryz.ntmps29
      go_wp2_with fail
      refine HC.out.mono ?_
      rintro e w1 ⟨rfl, ⟨L1, hd1⟩, ht1⟩
      have HD1 := Lib.hid hd1
      have HT1 := Lib.hid ht1
      obtain ⟨_, c1, _⟩ := PAt.cells hd1
      rw [HFU.out] at c1
      clear hd1 ht1
      go_wp2
      go_ret
      rw [HX.out]
      exact ⟨rfl, K, ⟨M, D, L1, G, Q, HD1.out⟩, HT1.out⟩
    | false =>
      have HFU : Hid ((stepped d).full = false) := Lib.hid (hfull.trans hfu)
      have hold := old_look (s := a) h.good.1
      have HG3 := Lib.hid (good_append (name := a) (data := data) h.good)
      have HX := Lib.hid (show append a data d = (0, { stepped d with files := put ⟨a, (old a d.files).data ++ data, (old a d.files).synced⟩ d.files }) by unfold append; rw [if_neg hr, hfu]; rfl)
      have HLP : Hid (∀ s', fileOf s' (put ⟨a, (old a d.files).data ++ data, (old a d.files).synced⟩ d.files) = if s' = a then some ⟨a, (old a d.files).data ++ data, (old a d.files).synced⟩ else fileOf s' d.files) := Lib.hid (fun s' => look_put _ s' _)
      have HR0 := Lib.hid hr0
      have HK0 := Lib.hid hk0
      have HFL := Lib.hid hfl
      have HA := Lib.hid ha'
      cases hl : fileOf a d.files with
      | some f =>
        rw [hl] at hold
        simp only [Option.getD_some] at hold
        rw [hold] at HX HLP hz
        have HZ := Lib.hid hz
        have HL := Lib.hid (show fileOf a (stepped d).files = some f by rw [hfl, hl])
        have hfn := feq_nil
        clear h ha hr hfl hfull hfu ha' hn hz hr0 hk0 hold hl
        go_enter Tryz.func29, Tryz.ntmps29
        go_wp2_with fail
        refine HC.out.mono ?_
        rintro e w1 ⟨rfl, ⟨L1, hd1⟩, ht1⟩
        have HD1 := Lib.hid hd1
        have HT1 := Lib.hid ht1
        obtain ⟨c0, c1, _⟩ := PAt.cells hd1
        rw [HFU.out] at c1
        have hlk := look_some hd1 HA.out HL.out
        unfold S8 ptr at hlk
        obtain ⟨_, hfile⟩ := hd1.at_ a f HL.out
        obtain ⟨k0, _, kz⟩ := FileAt.cells hfile
        have HROW := Lib.hid hfile.row
        have HRD : Hid (Rd w1 w1.heap.size A (data.map B8)) := Lib.hid (rd_away ht1 HR0.out (by simpa using HK0.out))
        have HBOX := Lib.hid hfile.box
        have HQG : Hid (∀ q, (Q a).ownBlock = some q → q ≠ G a) := Lib.hid (fun q e => (hd1.ne_q HL.out e).2.2 a f HL.out)
        generalize hqa : Q a = qa at k0 HROW HBOX HQG
        clear hd1 ht1 hfile kz
        go_wp2_with (at_builtin; refine wpList_append_rd (v := qa) _ rfl (.tmp 41) (.tmp 42) 51 rfl 0 5 i0 (.int .u8 0) 1 Tryz.underlying51 hi hz0 hz1 hz2 rfl _ _ rfl HROW.out _ A data.length c (data.map B8) rfl (by simp) HRD.out (Words.one8 data) ?c1 ?c2 (Nat.zero_le _) ?_)
        case c1 => have := HZ.out; unfold maxLen; omega
        case c2 => have := HZ.out; omega
        intro v5 w5 hown5 hg5 hv5
        obtain ⟨A5, c5, hve, _, _⟩ := RefTake.own_rd hown5
        have hbox5 : w5.heap[G a]? = some (.cells #[qa, .int .i64 (f.synced : Int)] 73 (0, 0)) := (hg5.block _ (lt_of HBOX.out) (fun e => HQG.out _ e.symm rfl)).trans HBOX.out
        have k5 : w5.cell? ⟨G a, 0, none⟩ = some qa := by unfold World.cell?; rw [hbox5]; rfl
        have kz5 : w5.frozen? ⟨G a, 0, none⟩ = false := by unfold World.frozen?; rw [hbox5]; simp
        subst hqa
        have HP := Lib.hid (PAt.appended (d' := (append a data d).2) HD1.out HL.out hown5 hg5 hv5 HG3.out (fun s' => by rw [HX.out, HFL.out]; exact HLP.out s') (by rw [HX.out]) (by rw [HX.out]) (by rw [HX.out]))
        clear hown5 hg5 hv5 hbox5 hlk c0 c1 k0
        subst hve
        go_wp2
        go_ret
        exact ⟨by rw [HX.out]; rfl, _, HP.out.1, HT1.out.trans HP.out.2⟩
      | none =>
        rw [hl] at hold
        simp only [Option.getD_none] at hold
        rw [hold] at HX HLP hz
        have HZ := Lib.hid hz
        have HL := Lib.hid (show fileOf a (stepped d).files = none by rw [hfl, hl])
        have HLD := Lib.hid hl
        have HN := Lib.hid hn
        have HG2 : Hid (DkSpec.Good { stepped d with files := put ⟨a, [], 0⟩ d.files }) := Lib.hid ⟨put_rises h.good.1, fun f hf => by
          rcases mem_put hf with rfl | hf
          · exact ⟨(refused_ok (by omega)).1, Nat.le_refl _⟩
          · exact h.good.2 f hf⟩
        have HCL := fun W => Lib.hid (clone_str a W ha)
        have hfn := fnil_nil
        clear h ha hr hfl hfull hfu ha' hn hz hr0 hk0 hold hl
        go_enter Tryz.func29, Tryz.ntmps29
        go_wp2_with fail
        refine HC.out.mono ?_
        rintro e w1 ⟨rfl, ⟨L1, hd1⟩, ht1⟩
        have HD1 := Lib.hid hd1
        have HT1 := Lib.hid ht1
        obtain ⟨c0, c1, _⟩ := PAt.cells hd1
        rw [HFU.out] at c1
        have hlk := look_nil hd1 HA.out HL.out
        unfold S8 at hlk
        obtain ⟨w2, hw2⟩ : ∃ w2, w2 = w1.alloc (.cells #[.slice none 0 0, .int .i64 0] 73) := ⟨_, rfl⟩
        have hbox2 : w2.heap[w1.heap.size]? = some (.cells #[.slice none 0 0, .int .i64 0] 73 (0, 0)) := by rw [hw2]; exact Go.heap_alloc_new _ _
        have HT2 : Hid (Turned K (ext K w1.heap.size o) o w w2) := Lib.hid (ht1.trans (by rw [hw2]; exact turned_new _))
        have HD2 : Hid (PAt w2 (ext K w1.heap.size o) o p M D L1 G Q (stepped d)) := Lib.hid (by
          rw [hw2]
          exact hd1.keep (fun i hi _ => Below.heap_alloc w1 _ i hi) (fun i hi => ext_old hi))
        have HF2 : Hid (FileAt w2 (ext K w1.heap.size o) o w1.heap.size (.slice none 0 0) ⟨a, [], 0⟩) := Lib.hid ⟨hbox2, World.ownsRow_nil _ _ _ _, ext_new (Nat.le_refl _), fun q e => by cases e⟩
        have HAP : Hid (∀ s' f', fileOf s' (stepped d).files = some f' → G s' ≠ w1.heap.size ∧ ∀ q, (Q s').ownBlock = some q → (Value.slice none 0 0).ownBlock ≠ some q) := Lib.hid (fun s' f' hf' =>
          ⟨fun e => by have := lt_of (hd1.at_ s' f' hf').2.box; omega, fun q _ e => by cases e⟩)
        have HST : Hid (∀ W w3, W.heap = w2.heap → W.os = w2.os → W.tape = w2.tape → W.output = w2.output → Below W.heap.size W w3 → ∃ w4, (Instr.mapUpdate 58 (.map (some M)) (.string ⟨a.toArray⟩) (.pointer (some ⟨w1.heap.size, 0, none⟩))).run Tryz.prog w3 = .ok () w4 ∧
            Hid (∃ K4 D4 G4 Q4, G4 a = w1.heap.size ∧ Q4 a = .slice none 0 0 ∧ PAt w4 K4 o p M D4 L1 G4 Q4 { stepped d with files := put ⟨a, [], 0⟩ d.files } ∧ Turned K K4 o w w4) ∧ w3.cell? ⟨p, 0, none⟩ = some (.map (some M)) ∧ w4.cell? ⟨p, 0, none⟩ = some (.map (some M))) := Lib.hid (fun W w3 e1 e2 e3 e4 hb3 => by
          have hb3' : Below w2.heap.size w2 w3 := ⟨hb3.os.trans e2, hb3.tape.trans e3, hb3.output.trans e4, e1 ▸ hb3.size, fun k hk => (hb3.block k (by rw [e1]; exact hk)).trans (by rw [e1])⟩
          have h3 := PAt.below HD2.out hb3'
          have hf3 := FileAt.below HF2.out hb3'
          obtain ⟨w4, hrun, hown, hturn⟩ := named_run h3 a HA.out (by rw [HFL.out]; exact HN.out) w1.heap.size
          have h4 := h3.named (d' := { stepped d with files := put ⟨a, [], 0⟩ d.files }) (f := ⟨a, [], 0⟩) hown (map_other hturn) hf3 (fun s' f' hf' _ => HAP.out s' f' hf') HG2.out (fun s' => by rw [HFL.out]; exact look_put _ s' _) rfl rfl rfl
          exact ⟨w4, hrun, Lib.hid ⟨_, _, _, _, if_pos rfl, if_pos rfl, h4, HT2.out.trans ((turned_below hb3').trans (turned_map hturn h3.kM))⟩, (PAt.cells h3).1, (PAt.cells h4).1⟩)
        have c2' : w2.cell? ⟨p, 0, none⟩ = some (.map (some M)) := (PAt.cells HD2.out).1
        clear hd1 ht1 hbox2
        subst hw2
        go_wp2
        go_region_held3 (fun w' => w'.cell? ⟨p, 0, none⟩ = some (.map (some M))) (first | go_keep | assumption) ((go_at_call 53; refine (HCL _).out.mono ?_; rintro e w3 ⟨rfl, hb3⟩; obtain ⟨w4, hrun4, hpost4, hcell3, hcell4⟩ := HST.out (w1.alloc (.cells #[.slice none 0 0, .int .i64 0] 73)).drew w3 rfl rfl rfl rfl hb3))
        obtain ⟨K4, D4, G4, Q4, hG4, hQ4, hd4, ht4⟩ := hpost4.out
        have HL4 : Hid (fileOf a (put ⟨a, [], 0⟩ d.files) = some ⟨a, [], 0⟩) := Lib.hid (by rw [look_put]; exact if_pos rfl)
        have HD4 := Lib.hid hd4
        have HT4 := Lib.hid ht4
        obtain ⟨_, hfile⟩ := hd4.at_ a ⟨a, [], 0⟩ HL4.out
        rw [hG4, hQ4] at hfile
        obtain ⟨k0, _, _⟩ := FileAt.cells hfile
        have HROW : Hid (w4.ownsRow 0 5 1 (.slice none 0 0) 0 []) := Lib.hid hfile.row
        have HBOX := Lib.hid hfile.box
        have HRD : Hid (Rd w4 w4.heap.size A (data.map B8)) := Lib.hid (rd_away ht4 HR0.out (by simpa using HK0.out))
        have HGQ := Lib.hid (show G4 a = w1.heap.size ∧ Q4 a = .slice none 0 0 from ⟨hG4, hQ4⟩)
        clear hd4 ht4 hfile hpost4 hG4 hQ4 hcell3 hlk c0 c1 hrun4 c2'
        go_wp2_with (at_builtin; refine wpList_append_rd (v := .slice none 0 0) _ rfl (.tmp 41) (.tmp 42) 51 rfl 0 5 i0 (.int .u8 0) 1 Tryz.underlying51 hi hz0 hz1 hz2 rfl 0 [] rfl HROW.out _ A data.length c (data.map B8) rfl (by simp) HRD.out (Words.one8 data) ?c1 ?c2 (Nat.zero_le _) ?_)
        case c1 => have := HZ.out; unfold maxLen; simp at this; omega
        case c2 => have := HZ.out; simp at this; omega
        intro v5 w5 hown5 hg5 hv5
        obtain ⟨A5, c5, hve, _, _⟩ := RefTake.own_rd hown5
        have hbox5 : w5.heap[w1.heap.size]? = some (.cells #[.slice none 0 0, .int .i64 0] 73 (0, 0)) := (hg5.block _ (lt_of HBOX.out) (fun e => by cases e)).trans HBOX.out
        have k5 : w5.cell? ⟨w1.heap.size, 0, none⟩ = some (.slice none 0 0) := by unfold World.cell?; rw [hbox5]; rfl
        have kz5 : w5.frozen? ⟨w1.heap.size, 0, none⟩ = false := by unfold World.frozen?; rw [hbox5]; simp
        have HP : Hid (PDisk (w5.setCell ⟨w1.heap.size, 0, none⟩ v5) (ext K4 w4.heap.size o) o p (append a data d).2 ∧ Turned K4 (ext K4 w4.heap.size o) o w4 (w5.setCell ⟨w1.heap.size, 0, none⟩ v5)) := Lib.hid (by
          have hp := PAt.appended (d' := (append a data d).2) HD4.out HL4.out (data := data) (v5 := v5) (w5 := w5) (by simpa using hown5) (by rw [HGQ.out.2]; exact hg5) (by rw [HGQ.out.2]; exact hv5) HG3.out (fun s' => by
            rw [HX.out]
            refine (HLP.out s').trans ?_
            show _ = if s' = a then _ else fileOf s' (put ⟨a, [], 0⟩ d.files)
            rw [look_put]
            by_cases e : s' = a
            · rw [if_pos e, if_pos e]
            · rw [if_neg e, if_neg e, if_neg e]) (by rw [HX.out]) (by rw [HX.out]) (by rw [HX.out])
          rw [HGQ.out.1] at hp
          exact hp)
        clear hown5 hg5 hv5 hbox5 k0
        subst hve
        go_wp2
        go_ret
        exact ⟨by rw [HX.out]; rfl, _, HP.out.1, HT4.out.trans HP.out.2⟩
end Go.Proofs.YtjninegpaoblfaaGreatDoor.PdApp

namespace Go.Proofs.YtjninegpaoblfaaGreatDoor.RefApp5
open Go Go.RowKit Words DkSpec RefDisk RefChange RefRow RefTake RefPut5 RefOps5 RefNew5 RefClone5

theorem info_u8 : (Tryz.prog.info? 5).map (fun i => (i.zero, i.size, i.bytes)) = some (some (.int .u8 0), 1, 1) := by kernel_rfl
theorem append_nil (w : World) (a : List UInt8) (A : Option Addr) (n c : Nat) : Calls Tryz.prog 34 #[.pointer none, .string ⟨a.toArray⟩, .slice A n c] w fun e w' => e = .returned (.int .i64 2) ∧ w = w' := by
  have HC := Lib.hid (change_nil w a a)
  go_enter Tryz.func34, Tryz.ntmps34
  go_wp2_with fail
  refine HC.out.mono ?_
  rintro e w1 ⟨rfl, rfl⟩
  go_wp2
  go_ret
  exact ⟨rfl, rfl⟩
def bx (a : List UInt8) (v : Value) (s : Nat) : Array Value := #[.string ⟨a.toArray⟩, v, .int .i64 (s : Int)]
theorem box_cells {w : World} {b : Nat} {a : List UInt8} {v : Value} {s : Nat} (h : w.heap[b]? = some (.cells (bx a v s) 69 (0, 0))) : w.cell? ⟨b, 0, none⟩ = some (.string ⟨a.toArray⟩) ∧ w.cell? ⟨b, 1, none⟩ = some v ∧ w.cell? ⟨b, 2, none⟩ = some (.int .i64 (s : Int)) ∧ ∀ j, w.frozen? ⟨b, j, none⟩ = false := by
  refine ⟨?_, ?_, ?_, fun j => ?_⟩
  · unfold World.cell?; rw [h]; rfl
  · unfold World.cell?; rw [h]; rfl
  · unfold World.cell?; rw [h]; rfl
  · unfold World.frozen?; rw [h]; simp
theorem grown_below {w w' : World} (h : Below w.heap.size w w') {K : Nat → Nat} {o p : Nat} {d : DSt} (hd : RefD w K o p d) : RefD w' (fun b => if b < w.heap.size then K b else 0) o p d :=
  RefD.grow hd h.size h.block (fun _i hi => if_pos hi) h.os h.tape h.output

def K6 (K : Nat → Nat) (n : Nat) : Nat → Nat := fun b => if b < n then K b else 0
/-- Behind the last append: what the store leaves, and the call of put. -/
theorem tail_ {w1 W w5 : World} {K : Nat → Nat} {o p bf s : Nat} {d : DSt} {a l1 data : List UInt8} {v1 v5 : Value} (hd : RefD w1 K o p d) (ho : o ≠ 0) (hn : d.files.length ≤ 1000000000) (hbW : Below w1.heap.size w1 W) (hbox : W.heap[bf]? = some (.cells (bx a v1 s) 69 (0, 0))) (hbf : w1.heap.size ≤ bf)
    (hown : w5.ownsRow w1.heap.size 5 1 v5 (l1.length + data.length) (l1.map B8 ++ data.map B8)) (hg : W.grownBy w5 v1.ownBlock) (hv1 : ∀ q, v1.ownBlock = some q → w1.heap.size ≤ q ∧ q ≠ bf) (hv5 : v5.ownBlock = v1.ownBlock ∨ v5.ownBlock = some W.heap.size) :
    w5.heap[bf]? = some (.cells (bx a v1 s) 69 (0, 0)) ∧ ∃ A5 c5, v5 = .slice A5 (l1 ++ data).length c5 ∧
      (w5.setCell ⟨bf, 1, none⟩ v5).heap[bf]? = some (.cells (bx a v5 s) 69 (0, 0)) ∧ Turned K (K6 K w1.heap.size) o w1 (w5.setCell ⟨bf, 1, none⟩ v5) ∧
      Calls Tryz.prog 60 #[.pointer (some ⟨p, 0, none⟩), .agg #[.string ⟨a.toArray⟩, v5, .int .i64 (s : Int)]] (w5.setCell ⟨bf, 1, none⟩ v5) (MPost (w5.setCell ⟨bf, 1, none⟩ v5) (K6 K w1.heap.size) o p { d with files := put ⟨a, l1 ++ data, s⟩ d.files }) := by
  have hbl := (Array.getElem?_eq_some_iff.1 hbox).1
  have hbox5 : w5.heap[bf]? = some (.cells (bx a v1 s) 69 (0, 0)) := (hg.block bf hbl (fun e => (hv1 bf e.symm).2 rfl)).trans hbox
  have hown' : w5.ownsRow w1.heap.size 5 1 v5 (l1 ++ data).length ((l1 ++ data).map B8) := by simpa using hown
  obtain ⟨A5, c5, hve, h51, h52, _, _⟩ := own_rd hown'
  have hv5b : v5.ownBlock ≠ some bf := by
    rcases hv5 with h | h
    · rw [h]; exact fun e => (hv1 bf e).2 rfl
    · rw [h]; intro e; injection e with e; omega
  have hown6 : (w5.setCell ⟨bf, 1, none⟩ v5).ownsRow w1.heap.size 5 1 v5 (l1 ++ data).length ((l1 ++ data).map B8) := ownsRow_setCell_other hown' hv5b v5
  have hb5 : Below w1.heap.size w1 w5 := hbW.grown hg hbW.size (fun k hk => (hv1 k hk).1)
  have hb6 : Below w1.heap.size w1 (w5.setCell ⟨bf, 1, none⟩ v5) := hb5.setCell hbf v5
  have hT : Turned K (K6 K w1.heap.size) o w1 (w5.setCell ⟨bf, 1, none⟩ v5) := ⟨hb6.os, hb6.tape, hb6.output, hb6.size, fun i hi _ => hb6.block i hi, fun i hi => if_pos hi⟩
  refine ⟨hbox5, A5, c5, hve, heap_setCell_same w5 bf 1 _ _ v5 hbox5, hT, ?_⟩
  obtain ⟨A6, c6, hve6, _, _, hrd6, hbase⟩ := own_rd hown6
  rw [hve] at hve6
  injection hve6 with eA _ ec
  subst eA ec
  have hP := put_any _ (K6 K w1.heap.size) o p d ⟨a, l1 ++ data, s⟩ A5 c5 (grown_below hb6 hd) ho hn h51 h52 hrd6 (fun b off e _ => by
    have h9 : w1.heap.size ≤ b := (hbase b off e).1
    exact if_neg (by omega))
  rw [hve] at hP ⊢
  exact hP

set_option maxHeartbeats 3200000 in
set_option maxRecDepth 100000 in
theorem append_any (w : World) (K : Nat → Nat) (o p : Nat) (d : DSt) (a data : List UInt8) (A : Option Addr) (c : Nat) (hd : RefD w K o p d) (ho : o ≠ 0) (ha : a.length ≤ maxLen) (hl1 : -1 ≤ d.left) (hl2 : d.left ≤ 9223372036854775807) (hn : d.files.length ≤ 1000000000) (hz : (old a d.files).data.length + data.length ≤ 140737488355328)
    (hr0 : Rd w w.heap.size A (data.map B8)) (hk0 : ∀ b off, A = some ⟨b, off, none⟩ → 0 < data.length → K b ≠ o) :
    Calls Tryz.prog 34 #[.pointer (some ⟨p, 0, none⟩), .string ⟨a.toArray⟩, .slice A data.length c] w (OPost w K o p (append a data d)) := by
  obtain ⟨i0, hi, hz0, hz1, hz2⟩ := info_parts info_u8
  have HC := Lib.hid (change_any w K o p d a a hd ho ha ha hl1 hl2)
  have HO := Lib.hid ho
  by_cases hr : refused a a d ≠ 0
  · have HX := Lib.hid (show append a data d = (refused a a d, d) by unfold append; rw [if_pos hr])
    have h1 : ((refused a a d : Int) != 0) = true := by simp; omega
    unfold ChPost at HC
    rw [if_pos hr] at HC
    clear hd ha hl1 hl2 hr ho hn hz hr0 hk0 hi hz0 hz1 hz2
    go_enter Tryz.func34, Tryz.ntmps34
    go_wp2_with fail
    refine HC.out.mono ?_
    rintro e w1 ⟨rfl, hd1, ht1⟩
    have HD1 := Lib.hid hd1
    have HT1 := Lib.hid ht1
    clear hd1 ht1
    go_wp2
    go_ret
    rw [HX.out]
    exact ⟨rfl, K, HD1.out, HT1.out⟩
  · unfold ChPost at HC
    rw [if_neg hr, show refused a a d = 0 by omega] at HC
    have hfl := stepped_files d
    have hfull : (stepped d).full = d.full := by unfold stepped; split <;> rfl
    cases hfu : d.full with
    | true =>
      have HX := Lib.hid (show append a data d = (20, stepped d) by unfold append; rw [if_neg hr, hfu]; rfl)
      have HFU : Hid ((stepped d).full = true) := Lib.hid (hfull.trans hfu)
      clear hd ha hl1 hl2 hr ho hn hz hr0 hk0 hi hz0 hz1 hz2 hfl hfull hfu
      go_enter Tryz.func34, Tryz.ntmps34
      go_wp2_with fail
      refine HC.out.mono ?_
      rintro e w1 ⟨rfl, hd1, ht1⟩
      have HD1 := Lib.hid hd1
      have HT1 := Lib.hid ht1
      obtain ⟨A1, c1, _, _, _, _, _, e1, _⟩ := hd1
      rw [HFU.out] at e1
      clear ht1
      go_wp2
      go_ret
      rw [HX.out]
      exact ⟨rfl, K, HD1.out, HT1.out⟩
    | false =>
      have HFU : Hid ((stepped d).full = false) := Lib.hid (hfull.trans hfu)
      have HX := Lib.hid (show append a data d = (0, { stepped d with files := put ⟨a, (old a d.files).data ++ data, (old a d.files).synced⟩ (stepped d).files }) by unfold append; rw [if_neg hr, hfu, hfl]; rfl)
      have HR0 := Lib.hid hr0
      have HK0 := Lib.hid hk0
      have HFL := Lib.hid hfl
      have HZ := Lib.hid hz
      have HN : Hid ((stepped d).files.length ≤ 1000000000) := Lib.hid (by rw [hfl]; exact hn)
      obtain ⟨i, x, hib⟩ : ∃ i x, place a d.files = (i, x) := ⟨_, _, rfl⟩
      have hle := place_le a d.files
      rw [hib] at hle
      obtain ⟨_, hle2⟩ := hle
      simp only at hle2
      have HF := fun w1 h => Lib.hid (find_any w1 K o p (stepped d) a h)
      rw [hfl, hib] at HF
      have hold : old a d.files = if x then d.files.getD i ⟨a, [], 0⟩ else ⟨a, [], 0⟩ := by unfold old; rw [hib]
      cases x with
      | false =>
        simp only [Bool.false_eq_true, if_false] at hold
        rw [hold] at HX HZ
        clear hd ha hl1 hl2 hr ho hn hz hr0 hk0 hfl hfull hfu hib hle2 hold
        go_enter Tryz.func34, Tryz.ntmps34
        go_wp2_with fail
        refine HC.out.mono ?_
        rintro e w1 ⟨rfl, hd1, ht1⟩
        have HD1 := Lib.hid hd1
        have HT1 := Lib.hid ht1
        have hb2 : Below w1.heap.size w1 (w1.alloc (.cells #[.string ⟨a.toArray⟩, .slice none 0 0, .int .i64 0] 69)) := (Below.refl _ w1).alloc (Nat.le_refl _) _
        have HB2 := Lib.hid hb2
        have HF1 := Lib.hid (HF _ (RefD.grow hd1 hb2.size hb2.block (fun _ _ => rfl) hb2.os hb2.tape hb2.output))
        have hbox2 : (w1.alloc (.cells #[.string ⟨a.toArray⟩, .slice none 0 0, .int .i64 0] 69)).heap[w1.heap.size]? = some (.cells (bx a (.slice none 0 0) 0) 69 (0, 0)) := Go.heap_alloc_new _ _
        obtain ⟨A1, c1, _, _, _, _, _, e1, _⟩ := hd1
        rw [HFU.out] at e1
        have hbox := box_cells hbox2
        have RD1 : Hid (Rd w1 w1.heap.size A (data.map B8)) := Lib.hid (PdApp.rd_away ht1 HR0.out (by simpa using HK0.out))
        have e1' : (w1.alloc (.cells #[.string ⟨a.toArray⟩, .slice none 0 0, .int .i64 0] 69)).cell? ⟨p, 1, none⟩ = some (.bool false) := (hb2.cell (p := ⟨p, 1, none⟩) (World.block_lt_of_cell? w1 _ e1)).trans e1
        obtain ⟨W, hW⟩ : ∃ W, W = w1.alloc (.cells #[.string ⟨a.toArray⟩, .slice none 0 0, .int .i64 0] 69) := ⟨_, rfl⟩
        have HWE := Lib.hid hW
        clear ht1 hb2 HF
        go_wp2_with fail
        refine HF1.out.out.mono ?_
        rw [← HWE.out]
        rw [← hW] at hbox hbox2 e1' HB2
        clear hW HWE HF1
        rintro e w2 ⟨rfl, rfl⟩
        obtain ⟨q0, q1, q2, qz⟩ := hbox
        have qz1 := qz 1
        have HBX := Lib.hid hbox2
        have hown0 := World.ownsRow_nil W w1.heap.size 5 1
        have HO0 := Lib.hid hown0
        clear qz hbox2 hown0
        go_wp2_with (at_builtin; refine App.wpList_append_rd (v := .slice none 0 0) _ rfl (.tmp 53) (.tmp 54) 51 rfl w1.heap.size 5 i0 (.int .u8 0) 1 Tryz.underlying51 hi hz0 hz1 hz2 rfl 0 [] rfl HO0.out w1.heap.size A data.length c (data.map B8) rfl (by simp) (RD1.out.below HB2.out) (one8 data) ?c1 ?c2 HB2.out.size ?_)
        case c1 => have := HZ.out; simp at this; unfold maxLen; omega
        case c2 => have := HZ.out; simp at this; omega
        intro v5 w5 hown5 hg5 hv5
        obtain ⟨hbox5, A5, c5, hve, hbox6, hT6, hput⟩ := tail_ (l1 := []) (data := data) HD1.out HO.out HN.out HB2.out HBX.out (Nat.le_refl _) (by simpa using hown5) hg5 (fun q e => by cases e) hv5
        obtain ⟨_, m1, _, mz⟩ := box_cells hbox5
        have mz1 := mz 1
        subst hve
        obtain ⟨n0, n1, n2, _⟩ := box_cells hbox6
        have HPUT := Lib.hid hput
        have HT6 := Lib.hid hT6
        clear hown5 hg5 hv5 hbox5 hbox6 hput hT6 mz
        go_wp2_with fail
        refine HPUT.out.mono ?_
        rintro e w7 ⟨rfl, K7, hd7, ht7⟩
        have HD7 := Lib.hid hd7
        have HT7 := Lib.hid ht7
        clear hd7 ht7
        go_wp2
        go_ret
        rw [HX.out]
        exact ⟨rfl, K7, HD7.out, HT1.out.trans (HT6.out.trans HT7.out)⟩
      | true =>
        have hil := (hle2 rfl).1
        have hnm := (hle2 rfl).2
        simp only [if_true] at hold
        have hget : d.files.getD i ⟨a, [], 0⟩ = d.files[i] := by simp [List.getD, hil]
        rw [hget] at hold hnm
        rw [hold] at HX HZ
        have HI := Lib.hid hil
        clear hd ha hl1 hl2 hr ho hn hz hr0 hk0 hfl hfull hfu hib hle2 hold hget hnm
        go_enter Tryz.func34, Tryz.ntmps34
        go_wp2_with fail
        refine HC.out.mono ?_
        rintro e w1 ⟨rfl, hd1, ht1⟩
        have HD1 := Lib.hid hd1
        have HT1 := Lib.hid ht1
        have hb2 : Below w1.heap.size w1 (w1.alloc (.cells #[.string ⟨a.toArray⟩, .slice none 0 0, .int .i64 0] 69)) := (Below.refl _ w1).alloc (Nat.le_refl _) _
        have HB2 := Lib.hid hb2
        have HF1 := Lib.hid (HF _ (RefD.grow hd1 hb2.size hb2.block (fun _ _ => rfl) hb2.os hb2.tape hb2.output))
        have hbox2 : (w1.alloc (.cells #[.string ⟨a.toArray⟩, .slice none 0 0, .int .i64 0] 69)).heap[w1.heap.size]? = some (.cells (bx a (.slice none 0 0) 0) 69 (0, 0)) := Go.heap_alloc_new _ _
        obtain ⟨A1, c1, hc1, hm1, hp1, _, e0, e1, _, _, _, _, _, _, _, hf1⟩ := hd1
        rw [HFU.out] at e1
        rw [HFL.out] at e0 hf1 hc1
        obtain ⟨g, off, rfl, hgl, _, _, hcell⟩ := hf1 (by have := HI.out; omega)
        obtain ⟨_, ⟨A', c', k1, hcc, hcm, hrd, _⟩, k2⟩ := hcell i (d.files[i]'HI.out) (List.getElem?_eq_getElem HI.out)
        have RD1 : Hid (Rd w1 w1.heap.size A (data.map B8)) := Lib.hid (PdApp.rd_away ht1 HR0.out (by simpa using HK0.out))
        generalize hfi : (d.files[i]'HI.out) = f at *
        have hil := HI.out
        clear hcell hf1 hfi ht1 HF
        unfold maxLen at hm1 hcm
        obtain ⟨n, hn⟩ : ∃ n, d.files.length = n := ⟨_, rfl⟩
        rw [hn] at e0 hil hc1
        clear hn
        have e1' : (w1.alloc (.cells #[.string ⟨a.toArray⟩, .slice none 0 0, .int .i64 0] 69)).cell? ⟨p, 1, none⟩ = some (.bool false) := (hb2.cell (p := ⟨p, 1, none⟩) hp1).trans e1
        have e0' : (w1.alloc (.cells #[.string ⟨a.toArray⟩, .slice none 0 0, .int .i64 0] 69)).cell? ⟨p, 0, none⟩ = some (.slice (some ⟨g, off, none⟩) n c1) := (hb2.cell (p := ⟨p, 0, none⟩) hp1).trans e0
        have k2' : (w1.alloc (.cells #[.string ⟨a.toArray⟩, .slice none 0 0, .int .i64 0] 69)).cell? ⟨g, off + i * 3 + 2, none⟩ = some (.int .i64 (f.synced : Int)) := (hb2.cell (p := ⟨g, off + i * 3 + 2, none⟩) hgl).trans k2
        have k1' : (w1.alloc (.cells #[.string ⟨a.toArray⟩, .slice none 0 0, .int .i64 0] 69)).cell? ⟨g, off + i * 3 + 1, none⟩ = some (.slice A' f.data.length c') := (hb2.cell (p := ⟨g, off + i * 3 + 1, none⟩) hgl).trans k1
        obtain ⟨W, hW⟩ : ∃ W, W = w1.alloc (.cells #[.string ⟨a.toArray⟩, .slice none 0 0, .int .i64 0] 69) := ⟨_, rfl⟩
        have HWE := Lib.hid hW
        have HGL := Lib.hid (And.intro hgl hp1)
        have HRD := Lib.hid hrd
        clear hb2 hgl hp1 e0 k1 k2 hrd
        go_wp2_with fail
        refine HF1.out.out.mono ?_
        rw [← HWE.out]
        rw [← hW] at hbox2 e1' e0' k2' k1' HB2
        rintro e w2 ⟨rfl, rfl⟩
        obtain ⟨q0, q1, q2, qz⟩ := box_cells hbox2
        have qz2 := qz 2
        have hbox9 := heap_setCell_same W w1.heap.size 2 _ _ (.int .i64 (f.synced : Int)) hbox2
        obtain ⟨W9, hW9⟩ : ∃ W9, W9 = W.setCell ⟨w1.heap.size, 2, none⟩ (.int .i64 (f.synced : Int)) := ⟨_, rfl⟩
        have HW9 := Lib.hid hW9
        rw [← hW9] at hbox9
        have hbox9' : W9.heap[w1.heap.size]? = some (.cells (bx a (.slice none 0 0) f.synced) 69 (0, 0)) := hbox9
        have hb9 : Below w1.heap.size w1 W9 := by rw [hW9]; exact HB2.out.setCell (Nat.le_refl _) _
        have hso : ∀ b off, b < w1.heap.size → W9.cell? ⟨b, off, none⟩ = W.cell? ⟨b, off, none⟩ := fun b off hb => by
          rw [hW9]
          exact cell_of (heap_setCell_other W _ b _ (by show b ≠ w1.heap.size; omega))
        have e0'' := (hso p 0 HGL.out.2).trans e0'
        have k1'' := (hso g (off + i * 3 + 1) HGL.out.1).trans k1'
        have HB9 := Lib.hid hb9
        have HBOX9 := Lib.hid hbox9'
        clear hW HWE HF1 hW9 qz q0 hbox2 hbox9 hbox9' hb9 hso
        go_wp2
        rw [← HW9.out]
        obtain ⟨_, r1, _, rz⟩ := box_cells HBOX9.out
        have rz1 := rz 1
        have hrd9 : Rd W9.drew w1.heap.size A' (f.data.map B8) := HRD.out.below HB9.out.drew
        obtain ⟨v', w', hrun, hown', hg', hnf⟩ := App.run_append_rd (P := Tryz.prog) W9.drew w1.heap.size 51 51 5 i0 (.int .u8 0) 1 Tryz.underlying51 hi hz0 hz1 hz2 rfl (.slice none 0 0) 0 [] (World.ownsRow_nil _ _ _ _) w1.heap.size A' f.data.length c' (f.data.map B8) (by simp) hrd9 (one8 f.data) (by have := HZ.out; unfold maxLen; omega) (by have := HZ.out; omega) HB9.out.size
        simp only [Nat.zero_add, List.nil_append] at hown'
        obtain ⟨A2, c2, rfl, _, _, _, _⟩ := own_rd hown'
        have hbox' : w'.heap[w1.heap.size]? = some (.cells (bx a (.slice none 0 0) f.synced) 69 (0, 0)) := (hg'.block _ (Array.getElem?_eq_some_iff.1 HBOX9.out).1 (fun e => by cases e)).trans HBOX9.out
        obtain ⟨_, s1, _, sz⟩ := box_cells hbox'
        have sz1 := sz 1
        have hb' : Below w1.heap.size w1 w' := (HB9.out.drew).grown hg' HB9.out.size (fun k hk => by cases hk)
        have hnq : ∀ q, (Value.slice A2 f.data.length c2).ownBlock = some q → w1.heap.size ≤ q ∧ q ≠ w1.heap.size := fun q hq => by
          rcases hnf with h | h
          · rw [h] at hq; cases hq
          · rw [h] at hq
            injection hq with hq
            have h1 := (Array.getElem?_eq_some_iff.1 HBOX9.out).1
            have h2 : W9.drew.heap.size = W9.heap.size := rfl
            omega
        have hbox10 := heap_setCell_same w' w1.heap.size 1 _ _ (.slice A2 f.data.length c2) hbox'
        have hbox10' : (w'.setCell ⟨w1.heap.size, 1, none⟩ (.slice A2 f.data.length c2)).heap[w1.heap.size]? = some (.cells (bx a (.slice A2 f.data.length c2) f.synced) 69 (0, 0)) := hbox10
        have HB10 : Hid (Below w1.heap.size w1 (w'.setCell ⟨w1.heap.size, 1, none⟩ (.slice A2 f.data.length c2))) := Lib.hid (hb'.setCell (Nat.le_refl _) _)
        have HO10 : Hid ((w'.setCell ⟨w1.heap.size, 1, none⟩ (.slice A2 f.data.length c2)).ownsRow w1.heap.size 5 1 (.slice A2 f.data.length c2) f.data.length (f.data.map B8)) := Lib.hid (ownsRow_setCell_other hown' (fun e => (hnq _ e).2 rfl) _)
        have HBOX10 := Lib.hid hbox10'
        have HNQ := Lib.hid hnq
        clear hown' hg' hnf hbox' hb' hnq hbox10 hbox10' rz sz hrd9
        go_region_law (refine step_append_run rfl (.tmp 41) (.tmp 49) 51 rfl _ w' hrun ?_)
        all_goals
          clear hrun
          obtain ⟨W10, hW10⟩ : ∃ W10, W10 = w'.setCell ⟨w1.heap.size, 1, none⟩ (.slice A2 f.data.length c2) := ⟨_, rfl⟩
          rw [← hW10] at HB10 HO10 HBOX10 ⊢
          obtain ⟨t0, t1, t2, tz⟩ := box_cells HBOX10.out
          have tz1 := tz 1
          clear hW10 tz
          go_wp2_with (at_builtin; refine App.wpList_append_rd (v := .slice A2 f.data.length c2) _ rfl (.tmp 53) (.tmp 54) 51 rfl w1.heap.size 5 i0 (.int .u8 0) 1 Tryz.underlying51 hi hz0 hz1 hz2 rfl _ _ rfl HO10.out w1.heap.size A data.length c (data.map B8) rfl (by simp) (RD1.out.below HB10.out) (one8 data) ?c1 ?c2 HB10.out.size ?_)
          case c1 => have := HZ.out; unfold maxLen; omega
          case c2 => have := HZ.out; omega
          intro v5 w5 hown5 hg5 hv5
          obtain ⟨hbox5, A5, c5, hve, hbox6, hT6, hput⟩ := tail_ (l1 := f.data) (data := data) HD1.out HO.out HN.out HB10.out HBOX10.out (Nat.le_refl _) hown5 hg5 HNQ.out hv5
          obtain ⟨N5, hN5⟩ : ∃ N, (f.data ++ data).length = N := ⟨_, rfl⟩
          rw [hN5] at hve
          clear hN5
          obtain ⟨_, m1, _, mz⟩ := box_cells hbox5
          have mz1 := mz 1
          subst hve
          obtain ⟨n0, n1, n2, _⟩ := box_cells hbox6
          have HPUT := Lib.hid hput
          have HT6 := Lib.hid hT6
          clear hown5 hg5 hv5 hbox5 hbox6 hput hT6 mz
          go_wp2_with fail
          refine HPUT.out.mono ?_
          rintro e w7 ⟨rfl, K7, hd7, ht7⟩
          have HD7 := Lib.hid hd7
          have HT7 := Lib.hid ht7
          clear hd7 ht7
          go_wp2
          go_ret
          rw [HX.out]
          exact ⟨rfl, K7, HD7.out, HT1.out.trans (HT6.out.trans HT7.out)⟩
end Go.Proofs.YtjninegpaoblfaaGreatDoor.RefApp5

