/- The contracts of Sync, and of a file's crash. Conditions: the disk lies in memory as 'PDisk' says; the names' lengths are at most the model's greatest. -/
import Derived.Test.YtapbjmbakpopcaaGreatDoorPdOps
import Derived.BigRegion
import Derived.Deep.QuietTactic
import Derived.BigQuiet
import Derived.WalkLawsBesides
namespace Go.Proofs.YtapbjmbakpopcaaGreatDoor.PdSync
open Go Go.RowKit Go.Maps Words DkSpec PdLook RefDisk PdDisk PdChange PdOps

section
variable {w w' : World} {K K' : Nat → Nat} {o p M : Nat} {D : DataW Unit} {L : Int} {G : List UInt8 → Nat} {Q : List UInt8 → Value} {d : DSt}
theorem FileAt.open_ {g : Nat} {v : Value} {f : DFile} (h : FileAt w K o g v f) : ∃ A c, v = .slice A f.data.length c ∧ f.data.length ≤ c ∧ c ≤ maxLen ∧ Rd w w.heap.size A (f.data.map B8) := by
  obtain ⟨A, c, h1, h2, h3, h4, _⟩ := RefTake.own_rd h.row
  exact ⟨A, c, h1, h2, h3, h4⟩
theorem turned_drew (h : Turned K K' o w w') : Turned K K' o w w'.drew := ⟨h.os, h.tape, h.output, h.size, h.block, h.kind⟩
/-- How many bytes are synced. -/
theorem PAt.setSynced (h : PAt w K o p M D L G Q d) {s : List UInt8} {f : DFile} (hl : fileOf s d.files = some f) (n : Nat) {d' : DSt} (hg : DkSpec.Good d') (hlook : ∀ s', fileOf s' d'.files = if s' = s then some { f with synced := n } else fileOf s' d.files) (h1 : d'.full = d.full) (h2 : d'.off = d.off) (h3 : d'.left = d.left) :
    PAt (w.setCell ⟨G s, 1, none⟩ (.int .i64 (n : Int))) K o p M D L G (fun s' => if s' = s then Q s else Q s') d' := by
  obtain ⟨_, hf⟩ := h.at_ s f hl
  have hq : ∀ q, (Q s).ownBlock = some q → q ≠ G s := fun q e => (h.ne_q hl e).2.2 s f hl
  refine h.file (f' := { f with synced := n }) (v' := Q s) (fun _ _ => rfl) hl ⟨heap_setCell_same w (G s) 1 _ _ _ hf.box, row_same hf.row (fun q e => heap_setCell_other w _ q _ (hq q e)), hf.kind, hf.rkind⟩ (fun i _ hi _ => heap_setCell_other w _ i _ hi) (fun q e => .inl e) hg hlook h1 h2 h3
end

set_option maxHeartbeats 800000 in
set_option maxRecDepth 100000 in
theorem sync_any (w : World) (K : Nat → Nat) (o p : Nat) (d : DSt) (a : List UInt8) (hd : PDisk w K o p d) (ha : a.length ≤ maxLen) :
    Calls Tryz.prog 40 #[.pointer (some ⟨p, 0, none⟩), .string ⟨a.toArray⟩] w (OPost w K o p (sync a d)) := by
  obtain ⟨M, D, L, G, Q, h⟩ := hd
  have HC := Lib.hid (change_one h a ha)
  by_cases hr : refused a a d ≠ 0
  · have HX := Lib.hid (show sync a d = (refused a a d, d) by unfold sync; rw [if_pos hr])
    have h1 : ((refused a a d : Int) != 0) = true := by simp; omega
    unfold ChPost2 at HC
    rw [if_pos hr] at HC
    clear h ha hr
    go_enter Tryz.func40, Tryz.ntmps40
    go_wp2_with fail
    refine HC.out.mono ?_
    rintro e w1 ⟨rfl, ⟨L1, hd1⟩, ht1⟩
    have HD1 := Lib.hid hd1
    have HT1 := Lib.hid ht1
    clear hd1 ht1
    go_wp2
    go_ret
    rw [HX.out]
    exact ⟨rfl, K, ⟨M, D, L1, G, Q, HD1.out⟩, HT1.out⟩
  · unfold ChPost2 at HC
    rw [if_neg hr, show refused a a d = 0 by omega] at HC
    have hfl := stepped_files d
    have hpl := place_look (s := a) h.good.1
    cases hl : fileOf a d.files with
    | none =>
      rw [hl] at hpl
      have HX := Lib.hid (show sync a d = (21, stepped d) by unfold sync; rw [if_neg hr, hpl]; rfl)
      have HL := Lib.hid (show fileOf a (stepped d).files = none by rw [hfl, hl])
      have HA := Lib.hid ha
      have hfn := fnil_nil
      clear h ha hr hfl hpl hl
      go_enter Tryz.func40, Tryz.ntmps40
      go_wp2_with fail
      refine HC.out.mono ?_
      rintro e w1 ⟨rfl, ⟨L1, hd1⟩, ht1⟩
      have HD1 := Lib.hid hd1
      have HT1 := Lib.hid ht1
      obtain ⟨c0, _, _⟩ := PAt.cells hd1
      have hlk := look_nil hd1 HA.out HL.out
      unfold S8 at hlk
      clear hd1 ht1
      go_wp2
      go_ret
      rw [HX.out]
      exact ⟨rfl, K, ⟨M, D, L1, G, Q, HD1.out⟩, HT1.out⟩
    | some f =>
      rw [hl] at hpl
      have HX := Lib.hid (show sync a d = (0, { stepped d with files := d.files.modify (place a d.files).1 fun f => { f with synced := f.data.length } }) by unfold sync; rw [if_neg hr, hpl]; rfl)
      have HG2 := Lib.hid (good_sync (name := a) h.good)
      have HL := Lib.hid (show fileOf a (stepped d).files = some f by rw [hfl, hl])
      have HLK : Hid (∀ s', fileOf s' (d.files.modify (place a d.files).1 fun f => { f with synced := f.data.length }) = if s' = a then some { f with synced := f.data.length } else fileOf s' d.files) := Lib.hid (fun s' => by
        rw [look_modify (a := a) s' (fun f => { f with synced := f.data.length }) (fun _ => rfl) h.good.1 (by rw [hl]; rfl), hl]; rfl)
      have HFL := Lib.hid hfl
      have HA := Lib.hid ha
      have hfn := feq_nil
      clear h ha hr hfl hpl hl
      go_enter Tryz.func40, Tryz.ntmps40
      go_wp2_with fail
      refine HC.out.mono ?_
      rintro e w1 ⟨rfl, ⟨L1, hd1⟩, ht1⟩
      have HT1 := Lib.hid ht1
      have HS : Hid (PAt (w1.setCell ⟨G a, 1, none⟩ (.int .i64 (f.data.length : Int))) K o p M D L1 G (fun s' => if s' = a then Q a else Q s') (sync a d).2) := Lib.hid (by
        have hfiles : (sync a d).2 = { stepped d with files := d.files.modify (place a d.files).1 fun f => { f with synced := f.data.length } } := by rw [HX.out]
        refine PAt.setSynced hd1 HL.out f.data.length HG2.out (fun s' => ?_) (by rw [hfiles]) (by rw [hfiles]) (by rw [hfiles])
        rw [hfiles, HFL.out]
        exact HLK.out s')
      obtain ⟨c0, _, _⟩ := PAt.cells hd1
      have hlk := look_some hd1 HA.out HL.out
      unfold S8 ptr at hlk
      obtain ⟨_, hfile⟩ := hd1.at_ a f HL.out
      have HT2 : Hid (Turned K K o w (w1.setCell ⟨G a, 1, none⟩ (.int .i64 (f.data.length : Int)))) := Lib.hid (HT1.out.trans (turned_setCell hfile.kind))
      obtain ⟨k0, k1, kz⟩ := FileAt.cells hfile
      obtain ⟨A, c, hv, hc1, hc2, _⟩ := FileAt.open_ hfile
      rw [hv] at k0
      have kz1 := kz 1
      unfold maxLen at hc2
      clear hd1 ht1 hfile hv kz
      generalize f.data.length = n at *
      go_wp2
      go_ret
      exact ⟨by rw [HX.out]; rfl, K, ⟨M, D, L1, G, _, HS.out⟩, HT2.out⟩

/-- A file's crash: its box's two cells. -/
def CrPost (w : World) (g : Nat) (A : Option Addr) (c n : Nat) (e : Ending) (w' : World) : Prop := e = .returned (.tuple #[]) ∧ w'.heap = ((w.setCell ⟨g, 1, none⟩ (.int .i64 (n : Int))).setCell ⟨g, 0, none⟩ (.slice A n c)).heap ∧ w'.os = w.os ∧ w'.tape = w.tape ∧ w'.output = w.output
set_option maxHeartbeats 800000 in
set_option maxRecDepth 100000 in
theorem crash_any (w : World) (K : Nat → Nat) (o g : Nat) (v : Value) (f : DFile) (k : Int) (h : FileAt w K o g v f) (hs : f.synced ≤ f.data.length) (A : Option Addr) (c : Nat) (hv : v = .slice A f.data.length c) (hk1 : -9223372036854775808 ≤ k) (hk2 : k ≤ 9223372036854775807) :
    Calls Tryz.prog 43 #[.pointer (some ⟨g, 0, none⟩), .int .i64 k] w (CrPost w g A c (stays f k)) := by
  obtain ⟨k0, k1, kz⟩ := FileAt.cells h
  obtain ⟨A', c', hv', hc1, hc2, _⟩ := FileAt.open_ h
  rw [hv] at hv' k0
  injection hv' with hA _ hcc
  subst hA hcc
  unfold maxLen at hc2
  have HST : Hid (stays f k = min f.data.length (f.synced + k.toNat)) := Lib.hid rfl
  generalize stays f k = z at *
  generalize f.data.length = n at *
  generalize f.synced = s at *
  have kz0 := kz 0
  have kz1 := kz 1
  have hz1 : (s : Int) + min (max k 0) ((n : Int) - (s : Int)) = (z : Int) := by rw [HST.out]; omega
  have hz2 : z ≤ n := by rw [HST.out]; omega
  clear h kz hv HST
  go_enter Tryz.func43, Tryz.ntmps43
  go_wp2
  go_quiet (fail)
  go_wp2
  go_region
  go_wp2
  go_end0
  exact ⟨rfl, rfl, rfl, rfl, rfl⟩
end Go.Proofs.YtapbjmbakpopcaaGreatDoor.PdSync
