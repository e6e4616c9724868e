/- The contract of Append. Conditions: the disk lies in memory as 'PDisk' says; the name's length is at most 2^48; the file's bytes then are at most 2^47; at most 10^9 files; the bytes that are handed in don't lie in the disk's own memory. · The contract of the document's own Append (of a disk). Conditions: the disk lies in memory as 'RefD' says; the name's length is at most the model's greatest; the file's bytes then are at most 2^47; at most 10^9 files. -/
import Derived.Test.YtjninegpaoblfaaDoorPdReads
import Derived.Test.YtjninegpaoblfaaDoorRefNames
import Derived.Test.YtjninegpaoblfaaDoorPuts
import Derived.OneCell
namespace Go.Proofs.YtjninegpaoblfaaDoor.PdApp
open Go Go.RowKit Go.Maps Words App DkSpec PdLook RefDisk PdDisk PdChange PdOps PdSync PdRen PdRead

section
variable {w w' : World} {K K' : Nat → Nat} {o p M : Nat} {D : DataW Unit} {L : Int} {G : List UInt8 → Nat} {Q : List UInt8 → Value} {d : DSt}
/-- Bytes that lie elsewhere stay. -/
theorem rd_away {A : Option Addr} {vs : List Value} (ht : Turned K K' o w w') (hr : Rd w w.heap.size A vs) (hk : ∀ b off, A = some ⟨b, off, none⟩ → 0 < vs.length → K b ≠ o) : Rd w' w'.heap.size A vs := fun hn => by
  obtain ⟨b, off, e, hb, hc⟩ := hr hn
  exact ⟨b, off, e, Nat.lt_of_lt_of_le hb ht.size, fun j u hu => (cell_of (ht.block b hb (hk b off e hn))).trans (hc j u hu)⟩
/-- A new block of the disk's own. -/
theorem turned_new (x : Obj) : Turned K (ext K w.heap.size o) o w (w.alloc x) :=
  ⟨rfl, rfl, rfl, by simp, fun i hi _ => Below.heap_alloc w x i hi, fun _ hi => ext_old hi⟩
/-- Behind the append and the store. -/
theorem PAt.appended (h : PAt w K o p M D L G Q d) {a : List UInt8} {f : DFile} {data : List UInt8} {v5 : Value} {w5 : World} (hl : fileOf a d.files = some f) (hown : w5.ownsRow 0 5 1 v5 (f.data.length + data.length) (f.data.map B8 ++ data.map B8)) (hg5 : w.grownBy w5 (Q a).ownBlock) (hv5 : v5.ownBlock = (Q a).ownBlock ∨ v5.ownBlock = some w.heap.size)
    {d' : DSt} (hg : DkSpec.Good d') (hlook : ∀ s', fileOf s' d'.files = if s' = a then some ⟨a, f.data ++ data, f.synced⟩ else fileOf s' d.files) (h1 : d'.full = d.full) (h2 : d'.off = d.off) (h3 : d'.left = d.left) :
    PDisk (w5.setCell ⟨G a, 0, none⟩ v5) (ext K w.heap.size o) o p d' ∧ Turned K (ext K w.heap.size o) o w (w5.setCell ⟨G a, 0, none⟩ v5) := by
  obtain ⟨_, hf⟩ := h.at_ a f hl
  have hqg : ∀ q, (Q a).ownBlock = some q → q ≠ G a := fun q e => (h.ne_q hl e).2.2 a f hl
  have hgl := lt_of hf.box
  have hbox5 : w5.heap[G a]? = some (.cells #[Q a, .int .i64 (f.synced : Int)] 93 (0, 0)) := (hg5.block _ hgl (fun e => hqg _ e.symm rfl)).trans hf.box
  have hv5g : ∀ q, v5.ownBlock = some q → q ≠ G a := fun q e e2 => by
    rcases hv5 with h | h
    · exact hqg q (h.symm.trans e) e2
    · rw [e] at h; injection h with h; omega
  have hK : ∀ q, v5.ownBlock = some q → ext K w.heap.size o q = o := fun q e => by
    rcases hv5 with h | h
    · have hq := h.symm.trans e
      rw [ext_old (hf.row.lt q hq).2]
      exact hf.rkind q hq
    · rw [e] at h; injection h with h; exact ext_new (by omega)
  have hF : FileAt (w5.setCell ⟨G a, 0, none⟩ v5) (ext K w.heap.size o) o (G a) v5 ⟨a, f.data ++ data, f.synced⟩ := by
    refine ⟨heap_setCell_same w5 (G a) 0 _ _ v5 hbox5, ?_, (ext_old hgl).trans hf.kind, hK⟩
    have h5 : w5.ownsRow 0 5 1 v5 (f.data ++ data).length ((f.data ++ data).map B8) := by simpa using hown
    exact row_same h5 (fun q e => heap_setCell_other w5 _ q _ (hv5g q e))
  refine ⟨⟨M, D, L, G, _, h.file (fun i hi => ext_old hi) hl hF (fun i hi hi1 hi2 => (heap_setCell_other w5 _ i _ hi1).trans (hg5.block i hi (fun e => hi2 e.symm))) (fun q e => ?_) hg hlook h1 h2 h3⟩, ⟨hg5.os, hg5.tape, hg5.output, by simpa using hg5.size, fun i hi hk => ?_, fun i hi => ext_old hi⟩⟩
  · rcases hv5 with h | h
    · exact .inl (h.symm.trans e)
    · rw [e] at h; injection h with h; exact .inr (by omega)
  · refine (heap_setCell_other w5 _ i _ (fun e => hk ?_)).trans (hg5.block i hi (fun e => hk ?_))
    · rw [e]; exact hf.kind
    · exact hf.rkind i e.symm
end

set_option maxHeartbeats 1600000 in
set_option maxRecDepth 100000 in
theorem append_any (w : World) (K : Nat → Nat) (o p : Nat) (d : DSt) (a data : List UInt8) (A : Option Addr) (c : Nat) (hd : PDisk w K o p d) (ha : a.length ≤ 281474976710656) (hn : d.files.length ≤ 1000000000) (hz : (old a d.files).data.length + data.length ≤ 140737488355328)
    (hr0 : Rd w w.heap.size A (data.map B8)) (hk0 : ∀ b off, A = some ⟨b, off, none⟩ → 0 < data.length → K b ≠ o) :
    Calls Tryd.prog 51 #[.pointer (some ⟨p, 0, none⟩), .string ⟨a.toArray⟩, .slice A data.length c] w (OPost w K o p (append a data d)) := by
  obtain ⟨i0, hi, hz0, hz1, hz2⟩ := info_parts info_u8
  obtain ⟨M, D, L, G, Q, h⟩ := hd
  have ha' : a.length ≤ maxLen := by unfold maxLen; omega
  have HC := Lib.hid (change_one h a ha')
  by_cases hr : refused a a d ≠ 0
  · have HX := Lib.hid (show append a data d = (refused a a d, d) by unfold append; rw [if_pos hr])
    have h1 : ((refused a a d : Int) != 0) = true := by simp; omega
    unfold ChPost2 at HC
    rw [if_pos hr] at HC
    clear h ha hr ha' hn hz hr0 hk0 hi hz0 hz1 hz2
    go_enter Tryd.func51, Tryd.ntmps51
    go_wp2_with fail
    refine HC.out.mono ?_
    rintro e w1 ⟨rfl, ⟨L1, hd1⟩, ht1⟩
    have HD1 := Lib.hid hd1
    have HT1 := Lib.hid ht1
    clear hd1 ht1
    go_wp2
    go_ret
    rw [HX.out]
    exact ⟨rfl, K, ⟨M, D, L1, G, Q, HD1.out⟩, HT1.out⟩
  · unfold ChPost2 at HC
    rw [if_neg hr, show refused a a d = 0 by omega] at HC
    have hfl := stepped_files d
    have hfull : (stepped d).full = d.full := by unfold stepped; split <;> rfl
    cases hfu : d.full with
    | true =>
      have HX := Lib.hid (show append a data d = (20, stepped d) by unfold append; rw [if_neg hr, hfu]; rfl)
      have HFU : Hid ((stepped d).full = true) := Lib.hid (hfull.trans hfu)
      clear h ha hr ha' hn hz hr0 hk0 hi hz0 hz1 hz2 hfl hfull hfu
      go_enter Tryd.func51, Tryd.ntmps51
      go_wp2_with fail
      refine HC.out.mono ?_
      rintro e w1 ⟨rfl, ⟨L1, hd1⟩, ht1⟩
      have HD1 := Lib.hid hd1
      have HT1 := Lib.hid ht1
      obtain ⟨_, c1, _⟩ := PAt.cells hd1
      rw [HFU.out] at c1
      clear hd1 ht1
      go_wp2
      go_ret
      rw [HX.out]
      exact ⟨rfl, K, ⟨M, D, L1, G, Q, HD1.out⟩, HT1.out⟩
    | false =>
      have HFU : Hid ((stepped d).full = false) := Lib.hid (hfull.trans hfu)
      have hold := old_look (s := a) h.good.1
      have HG3 := Lib.hid (good_append (name := a) (data := data) h.good)
      have HX := Lib.hid (show append a data d = (0, { stepped d with files := put ⟨a, (old a d.files).data ++ data, (old a d.files).synced⟩ d.files }) by unfold append; rw [if_neg hr, hfu]; rfl)
      have HLP : Hid (∀ s', fileOf s' (put ⟨a, (old a d.files).data ++ data, (old a d.files).synced⟩ d.files) = if s' = a then some ⟨a, (old a d.files).data ++ data, (old a d.files).synced⟩ else fileOf s' d.files) := Lib.hid (fun s' => look_put _ s' _)
      have HR0 := Lib.hid hr0
      have HK0 := Lib.hid hk0
      have HFL := Lib.hid hfl
      have HA := Lib.hid ha'
      cases hl : fileOf a d.files with
      | some f =>
        rw [hl] at hold
        simp only [Option.getD_some] at hold
        rw [hold] at HX HLP hz
        have HZ := Lib.hid hz
        have HL := Lib.hid (show fileOf a (stepped d).files = some f by rw [hfl, hl])
        have hfn := feq_nil
        clear h ha hr hfl hfull hfu ha' hn hz hr0 hk0 hold hl
        go_enter Tryd.func51, Tryd.ntmps51
        go_wp2_with fail
        refine HC.out.mono ?_
        rintro e w1 ⟨rfl, ⟨L1, hd1⟩, ht1⟩
        have HD1 := Lib.hid hd1
        have HT1 := Lib.hid ht1
        obtain ⟨c0, c1, _⟩ := PAt.cells hd1
        rw [HFU.out] at c1
        have hlk := look_some hd1 HA.out HL.out
        unfold S8 ptr at hlk
        obtain ⟨_, hfile⟩ := hd1.at_ a f HL.out
        obtain ⟨k0, _, kz⟩ := FileAt.cells hfile
        have HROW := Lib.hid hfile.row
        have HRD : Hid (Rd w1 w1.heap.size A (data.map B8)) := Lib.hid (rd_away ht1 HR0.out (by simpa using HK0.out))
        have HBOX := Lib.hid hfile.box
        have HQG : Hid (∀ q, (Q a).ownBlock = some q → q ≠ G a) := Lib.hid (fun q e => (hd1.ne_q HL.out e).2.2 a f HL.out)
        generalize hqa : Q a = qa at k0 HROW HBOX HQG
        clear hd1 ht1 hfile kz
        go_wp2_with (at_builtin; refine wpList_append_rd (v := qa) _ rfl (.tmp 41) (.tmp 42) 26 rfl 0 5 i0 (.int .u8 0) 1 Tryd.underlying26 hi hz0 hz1 hz2 rfl _ _ rfl HROW.out _ A data.length c (data.map B8) rfl (by simp) HRD.out (Words.one8 data) ?c1 ?c2 (Nat.zero_le _) ?_)
        case c1 => have := HZ.out; unfold maxLen; omega
        case c2 => have := HZ.out; omega
        intro v5 w5 hown5 hg5 hv5
        obtain ⟨A5, c5, hve, _, _⟩ := RefTake.own_rd hown5
        have hbox5 : w5.heap[G a]? = some (.cells #[qa, .int .i64 (f.synced : Int)] 93 (0, 0)) := (hg5.block _ (lt_of HBOX.out) (fun e => HQG.out _ e.symm rfl)).trans HBOX.out
        have k5 : w5.cell? ⟨G a, 0, none⟩ = some qa := by unfold World.cell?; rw [hbox5]; rfl
        have kz5 : w5.frozen? ⟨G a, 0, none⟩ = false := by unfold World.frozen?; rw [hbox5]; simp
        subst hqa
        have HP := Lib.hid (PAt.appended (d' := (append a data d).2) HD1.out HL.out hown5 hg5 hv5 HG3.out (fun s' => by rw [HX.out, HFL.out]; exact HLP.out s') (by rw [HX.out]) (by rw [HX.out]) (by rw [HX.out]))
        clear hown5 hg5 hv5 hbox5 hlk c0 c1 k0
        subst hve
        go_wp2
        go_ret
        exact ⟨by rw [HX.out]; rfl, _, HP.out.1, HT1.out.trans HP.out.2⟩
      | none =>
        rw [hl] at hold
        simp only [Option.getD_none] at hold
        rw [hold] at HX HLP hz
        have HZ := Lib.hid hz
        have HL := Lib.hid (show fileOf a (stepped d).files = none by rw [hfl, hl])
        have HLD := Lib.hid hl
        have HN := Lib.hid hn
        have HG2 : Hid (DkSpec.Good { stepped d with files := put ⟨a, [], 0⟩ d.files }) := Lib.hid ⟨put_rises h.good.1, fun f hf => by
          rcases mem_put hf with rfl | hf
          · exact ⟨(refused_ok (by omega)).1, Nat.le_refl _⟩
          · exact h.good.2 f hf⟩
        have HCL := fun W => Lib.hid (clone_str a W ha)
        have hfn := fnil_nil
        clear h ha hr hfl hfull hfu ha' hn hz hr0 hk0 hold hl
        go_enter Tryd.func51, Tryd.ntmps51
        go_wp2_with fail
        refine HC.out.mono ?_
        rintro e w1 ⟨rfl, ⟨L1, hd1⟩, ht1⟩
        have HD1 := Lib.hid hd1
        have HT1 := Lib.hid ht1
        obtain ⟨c0, c1, _⟩ := PAt.cells hd1
        rw [HFU.out] at c1
        have hlk := look_nil hd1 HA.out HL.out
        unfold S8 at hlk
        obtain ⟨w2, hw2⟩ : ∃ w2, w2 = w1.alloc (.cells #[.slice none 0 0, .int .i64 0] 93) := ⟨_, rfl⟩
        have hbox2 : w2.heap[w1.heap.size]? = some (.cells #[.slice none 0 0, .int .i64 0] 93 (0, 0)) := by rw [hw2]; exact Go.heap_alloc_new _ _
        have HT2 : Hid (Turned K (ext K w1.heap.size o) o w w2) := Lib.hid (ht1.trans (by rw [hw2]; exact turned_new _))
        have HD2 : Hid (PAt w2 (ext K w1.heap.size o) o p M D L1 G Q (stepped d)) := Lib.hid (by
          rw [hw2]
          exact hd1.keep (fun i hi _ => Below.heap_alloc w1 _ i hi) (fun i hi => ext_old hi))
        have HF2 : Hid (FileAt w2 (ext K w1.heap.size o) o w1.heap.size (.slice none 0 0) ⟨a, [], 0⟩) := Lib.hid ⟨hbox2, World.ownsRow_nil _ _ _ _, ext_new (Nat.le_refl _), fun q e => by cases e⟩
        have HAP : Hid (∀ s' f', fileOf s' (stepped d).files = some f' → G s' ≠ w1.heap.size ∧ ∀ q, (Q s').ownBlock = some q → (Value.slice none 0 0).ownBlock ≠ some q) := Lib.hid (fun s' f' hf' =>
          ⟨fun e => by have := lt_of (hd1.at_ s' f' hf').2.box; omega, fun q _ e => by cases e⟩)
        have HST : Hid (∀ W w3, W.heap = w2.heap → W.os = w2.os → W.tape = w2.tape → W.output = w2.output → Below W.heap.size W w3 → ∃ w4, (Instr.mapUpdate 71 (.map (some M)) (.string ⟨a.toArray⟩) (.pointer (some ⟨w1.heap.size, 0, none⟩))).run Tryd.prog w3 = .ok () w4 ∧
            Hid (∃ K4 D4 G4 Q4, G4 a = w1.heap.size ∧ Q4 a = .slice none 0 0 ∧ PAt w4 K4 o p M D4 L1 G4 Q4 { stepped d with files := put ⟨a, [], 0⟩ d.files } ∧ Turned K K4 o w w4) ∧ w3.cell? ⟨p, 0, none⟩ = some (.map (some M)) ∧ w4.cell? ⟨p, 0, none⟩ = some (.map (some M))) := Lib.hid (fun W w3 e1 e2 e3 e4 hb3 => by
          have hb3' : Below w2.heap.size w2 w3 := ⟨hb3.os.trans e2, hb3.tape.trans e3, hb3.output.trans e4, e1 ▸ hb3.size, fun k hk => (hb3.block k (by rw [e1]; exact hk)).trans (by rw [e1])⟩
          have h3 := PAt.below HD2.out hb3'
          have hf3 := FileAt.below HF2.out hb3'
          obtain ⟨w4, hrun, hown, hturn⟩ := named_run h3 a HA.out (by rw [HFL.out]; exact HN.out) w1.heap.size
          have h4 := h3.named (d' := { stepped d with files := put ⟨a, [], 0⟩ d.files }) (f := ⟨a, [], 0⟩) hown (map_other hturn) hf3 (fun s' f' hf' _ => HAP.out s' f' hf') HG2.out (fun s' => by rw [HFL.out]; exact look_put _ s' _) rfl rfl rfl
          exact ⟨w4, hrun, Lib.hid ⟨_, _, _, _, if_pos rfl, if_pos rfl, h4, HT2.out.trans ((turned_below hb3').trans (turned_map hturn h3.kM))⟩, (PAt.cells h3).1, (PAt.cells h4).1⟩)
        have c2' : w2.cell? ⟨p, 0, none⟩ = some (.map (some M)) := (PAt.cells HD2.out).1
        clear hd1 ht1 hbox2
        subst hw2
        go_wp2
        go_region_held3 (fun w' => w'.cell? ⟨p, 0, none⟩ = some (.map (some M))) (first | go_keep | assumption) ((go_at_call 61; refine (HCL _).out.mono ?_; rintro e w3 ⟨rfl, hb3⟩; obtain ⟨w4, hrun4, hpost4, hcell3, hcell4⟩ := HST.out (w1.alloc (.cells #[.slice none 0 0, .int .i64 0] 93)).drew w3 rfl rfl rfl rfl hb3))
        obtain ⟨K4, D4, G4, Q4, hG4, hQ4, hd4, ht4⟩ := hpost4.out
        have HL4 : Hid (fileOf a (put ⟨a, [], 0⟩ d.files) = some ⟨a, [], 0⟩) := Lib.hid (by rw [look_put]; exact if_pos rfl)
        have HD4 := Lib.hid hd4
        have HT4 := Lib.hid ht4
        obtain ⟨_, hfile⟩ := hd4.at_ a ⟨a, [], 0⟩ HL4.out
        rw [hG4, hQ4] at hfile
        obtain ⟨k0, _, _⟩ := FileAt.cells hfile
        have HROW : Hid (w4.ownsRow 0 5 1 (.slice none 0 0) 0 []) := Lib.hid hfile.row
        have HBOX := Lib.hid hfile.box
        have HRD : Hid (Rd w4 w4.heap.size A (data.map B8)) := Lib.hid (rd_away ht4 HR0.out (by simpa using HK0.out))
        have HGQ := Lib.hid (show G4 a = w1.heap.size ∧ Q4 a = .slice none 0 0 from ⟨hG4, hQ4⟩)
        clear hd4 ht4 hfile hpost4 hG4 hQ4 hcell3 hlk c0 c1 hrun4 c2'
        go_wp2_with (at_builtin; refine wpList_append_rd (v := .slice none 0 0) _ rfl (.tmp 41) (.tmp 42) 26 rfl 0 5 i0 (.int .u8 0) 1 Tryd.underlying26 hi hz0 hz1 hz2 rfl 0 [] rfl HROW.out _ A data.length c (data.map B8) rfl (by simp) HRD.out (Words.one8 data) ?c1 ?c2 (Nat.zero_le _) ?_)
        case c1 => have := HZ.out; unfold maxLen; simp at this; omega
        case c2 => have := HZ.out; simp at this; omega
        intro v5 w5 hown5 hg5 hv5
        obtain ⟨A5, c5, hve, _, _⟩ := RefTake.own_rd hown5
        have hbox5 : w5.heap[w1.heap.size]? = some (.cells #[.slice none 0 0, .int .i64 0] 93 (0, 0)) := (hg5.block _ (lt_of HBOX.out) (fun e => by cases e)).trans HBOX.out
        have k5 : w5.cell? ⟨w1.heap.size, 0, none⟩ = some (.slice none 0 0) := by unfold World.cell?; rw [hbox5]; rfl
        have kz5 : w5.frozen? ⟨w1.heap.size, 0, none⟩ = false := by unfold World.frozen?; rw [hbox5]; simp
        have HP : Hid (PDisk (w5.setCell ⟨w1.heap.size, 0, none⟩ v5) (ext K4 w4.heap.size o) o p (append a data d).2 ∧ Turned K4 (ext K4 w4.heap.size o) o w4 (w5.setCell ⟨w1.heap.size, 0, none⟩ v5)) := Lib.hid (by
          have hp := PAt.appended (d' := (append a data d).2) HD4.out HL4.out (data := data) (v5 := v5) (w5 := w5) (by simpa using hown5) (by rw [HGQ.out.2]; exact hg5) (by rw [HGQ.out.2]; exact hv5) HG3.out (fun s' => by
            rw [HX.out]
            refine (HLP.out s').trans ?_
            show _ = if s' = a then _ else fileOf s' (put ⟨a, [], 0⟩ d.files)
            rw [look_put]
            by_cases e : s' = a
            · rw [if_pos e, if_pos e]
            · rw [if_neg e, if_neg e, if_neg e]) (by rw [HX.out]) (by rw [HX.out]) (by rw [HX.out])
          rw [HGQ.out.1] at hp
          exact hp)
        clear hown5 hg5 hv5 hbox5 k0
        subst hve
        go_wp2
        go_ret
        exact ⟨by rw [HX.out]; rfl, _, HP.out.1, HT4.out.trans HP.out.2⟩
end Go.Proofs.YtjninegpaoblfaaDoor.PdApp

namespace Go.Proofs.YtjninegpaoblfaaDoor.RefApp5
open Go Go.RowKit Words DkSpec RefDisk RefChange RefRow RefTake RefPut5 RefOps5 RefNew5 RefClone5

theorem info_u8 : (Tryd.prog.info? 5).map (fun i => (i.zero, i.size, i.bytes)) = some (some (.int .u8 0), 1, 1) := by kernel_rfl
def bx (a : List UInt8) (v : Value) (s : Nat) : Array Value := #[.string ⟨a.toArray⟩, v, .int .i64 (s : Int)]
theorem grown_below {w w' : World} (h : Below w.heap.size w w') {K : Nat → Nat} {o p : Nat} {d : DSt} (hd : RefD w K o p d) : RefD w' (fun b => if b < w.heap.size then K b else 0) o p d :=
  RefD.grow hd h.size h.block (fun _i hi => if_pos hi) h.os h.tape h.output

def K6 (K : Nat → Nat) (n : Nat) : Nat → Nat := fun b => if b < n then K b else 0
end Go.Proofs.YtjninegpaoblfaaDoor.RefApp5

