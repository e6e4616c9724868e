/- The contracts of bytes.Clone, Read, names and List. Conditions: the disk lies in memory as 'PDisk' says; the names' lengths are at most the model's greatest; a file's bytes are at most 2^47; at most 10^9 files. · The contracts of names and List. Conditions: the disk lies in memory as 'PDisk' says; at most 10^9 files. · The contracts of strings.Clone and of Rename. Conditions: the disk lies in memory as 'PDisk' says; the names' lengths are at most the model's greatest; at most 10^9 files. -/
import Derived.Test.YtapbjmbakpopcaaGreatDoorPdOps
import Derived.Test.YtapbjmbakpopcaaGreatDoorPuts
import Derived.Test.YtapbjmbakpopcaaGreatDoorPdShelf
import Derived.CallsIn
import Derived.Test.YtapbjmbakpopcaaGreatDoorPdSync
import Derived.Deep.RegionHeld3
namespace Go.Proofs.YtapbjmbakpopcaaGreatDoor.PdRead
open Go Go.RowKit Go.Maps Go.Sort Go.Shelf Words App DkSpec PdLook RefDisk PdDisk PdChange PdOps

theorem info_u8 : (Tryz.prog.info? 5).map (fun i => (i.zero, i.size, i.bytes)) = some (some (.int .u8 0), 1, 1) := by kernel_rfl
theorem one8 (l : List UInt8) : ∀ u ∈ l.map B8, u.oneCell' = true := fun u hu => by obtain ⟨c, _, rfl⟩ := List.mem_map.1 hu; rfl
theorem own_mono {w : World} {base base' n : Nat} {e : TypeId} {v : Value} {xs : List Value} (h : w.ownsRow base e 1 v n xs) (hb : base' ≤ base) : w.ownsRow base' e 1 v n xs :=
  ⟨h.1, h.2.imp id fun ⟨g, cap, cur, e1, hg, r⟩ => ⟨g, cap, cur, e1, Nat.le_trans hb hg, r⟩⟩
theorem sl_nil (c : Nat) (w : World) : (binOp .eql 38 (.slice none 0 c) (.slice none 0 0)).run Tryz.prog w = .ok (.bool true) w := by kernel_rfl
theorem sl_some (a : Addr) (n c : Nat) (w : World) : (binOp .eql 38 (.slice (some a) n c) (.slice none 0 0)).run Tryz.prog w = .ok (.bool false) w := by kernel_rfl
set_option maxHeartbeats 800000 in
theorem clone_any (l : List UInt8) (A : Option Addr) (n c : Nat) (w : World) (B : Nat) (hn : n = l.length) (hr : Rd w B A (l.map B8)) (hB : B ≤ w.heap.size) (hl : l.length ≤ 140737488355328) :
    Calls Tryz.prog 52 #[.slice A n c] w fun e w' => ∃ v, e = .returned v ∧ w'.ownsRow w.heap.size 5 1 v l.length (l.map B8) ∧ Below w.heap.size w w' := by
  obtain ⟨i0, hi, hz0, hz1, hz2⟩ := info_parts info_u8
  subst hn
  have HR := Lib.hid hr
  cases A with
  | none =>
    have h0 : l = [] := by
      by_cases h : l = []
      · exact h
      · obtain ⟨b, off, e, _⟩ := hr (by simp; exact List.length_pos_iff.2 h)
        cases e
    subst h0
    clear hr
    have he := sl_nil c
    go_enter Tryz.func52, Tryz.ntmps52
    go_wp2
    go_ret
    exact ⟨_, rfl, World.ownsRow_nil _ _ _ _, Below.refl _ _⟩
  | some a =>
    clear hr
    have hown0 := World.ownsRow_lit (base := w.heap.size) (e := 5) (size := 1) w #[] 0 (Nat.le_refl _) (by unfold maxLen; omega) rfl
    have HB1 := Lib.hid ((Below.refl w.heap.size w).alloc (Nat.le_refl _) (.cells #[] 5))
    have he := sl_some a l.length c
    go_enter Tryz.func52, Tryz.ntmps52
    go_wp2_with (at_builtin; refine wpList_append_rd (v := .slice (some ⟨w.heap.size, 0, none⟩) 0 0) _ rfl (.tmp 5) (.tmp 6) 38 rfl w.heap.size 5 i0 (.int .u8 0) 1 Tryz.underlying38 hi hz0 hz1 hz2 rfl 0 [] rfl hown0 B (some a) l.length c (l.map B8) rfl (by simp) (HR.out.alloc hB _) (one8 l) ?c1 ?c2 HB1.out.size ?_)
    case c1 => unfold maxLen; omega
    try (case c2 => omega)
    intro v2 w2 hown2 hg2 _
    have HB2 := Lib.hid (below_app hown0 HB1.out hg2)
    have hown3 : w2.ownsRow w.heap.size 5 1 v2 l.length (l.map B8) := by simpa using hown2
    have HO2 := Lib.hid hown3
    clear hown0 hown2 hown3 hg2
    go_wp2
    go_ret
    exact ⟨v2, rfl, HO2.out, HB2.out⟩

/-- What Read answers. -/
def RdPost (w : World) (r : Nat × List UInt8) (e : Ending) (w' : World) : Prop := ∃ v, e = .returned (.tuple #[v, .int .i64 (r.1 : Int)]) ∧ w'.ownsRow w.heap.size 5 1 v r.2.length (r.2.map B8) ∧ Below w.heap.size w w'
theorem rdpost_err {w w' : World} {r : Nat × List UInt8} {n : Nat} {x : Int} (hr : r = (n, [])) (hx : x = (n : Int)) (hb : Below w.heap.size w w') : RdPost w r (.returned (.tuple #[.slice none 0 0, .int .i64 x])) w' := by
  subst hr hx
  exact ⟨_, rfl, World.ownsRow_nil _ _ _ _, hb⟩
theorem refusal_nil (w : World) (A : Option Addr) (n c : Nat) : Calls Tryz.prog 51 #[.pointer none, .slice A n c] w fun e w' => e = .returned (.int .i64 2) ∧ w = w' := PdChange.refusal_nil w A n c
set_option maxHeartbeats 800000 in
set_option maxRecDepth 100000 in
theorem read_any (w : World) (K : Nat → Nat) (o p : Nat) (d : DSt) (a : List UInt8) (hd : PDisk w K o p d) (ha : a.length ≤ maxLen) (hz : ∀ f ∈ d.files, f.data.length ≤ 140737488355328) :
    Calls Tryz.prog 34 #[.pointer (some ⟨p, 0, none⟩), .string ⟨a.toArray⟩] w (RdPost w (read a d)) := by
  obtain ⟨M, D, L, G, Q, h⟩ := hd
  have HC := Lib.hid (refusal_one h a ha)
  have HB1 := Lib.hid ((Below.refl w.heap.size w).alloc (Nat.le_refl _) (.cells #[.string ⟨a.toArray⟩] 9))
  by_cases hr : refused a a d ≠ 0
  · have HX := Lib.hid (show read a d = (refused a a d, []) by unfold DkSpec.read; rw [if_pos hr])
    have h1 : ((refused a a d : Int) != 0) = true := by simp; omega
    clear h ha hr hz
    go_enter Tryz.func34, Tryz.ntmps34
    go_wp2_with fail
    refine HC.out.mono ?_
    rintro e w1 ⟨rfl, rfl⟩
    go_wp2
    go_ret2
    exact rdpost_err HX.out rfl HB1.out
  · rw [show refused a a d = 0 by omega] at HC
    have hpl := place_look (s := a) h.good.1
    have hold := old_look (s := a) h.good.1
    have HD1 := PAt.alloc h (.cells #[.string ⟨a.toArray⟩] 9)
    obtain ⟨c0, _, _⟩ := PAt.cells HD1
    cases hl : fileOf a d.files with
    | none =>
      rw [hl] at hpl
      have HX := Lib.hid (show read a d = (21, []) by unfold DkSpec.read; rw [if_neg hr, hpl]; rfl)
      have hlk := look_nil HD1 ha hl
      unfold S8 at hlk
      have hfn := fnil_nil
      clear h ha hr hpl hl hold HD1 hz
      go_enter Tryz.func34, Tryz.ntmps34
      go_wp2_with fail
      refine HC.out.mono ?_
      rintro e w1 ⟨rfl, rfl⟩
      go_wp2
      go_ret2
      exact rdpost_err HX.out rfl HB1.out
    | some f =>
      rw [hl] at hpl hold
      have HX := Lib.hid (show read a d = (0, f.data) by unfold DkSpec.read; rw [if_neg hr, hpl, hold]; rfl)
      have hlk := look_some HD1 ha hl
      unfold S8 ptr at hlk
      have hfn := feq_nil
      obtain ⟨_, hfile⟩ := HD1.at_ a f hl
      obtain ⟨k0, k1, _⟩ := FileAt.cells hfile
      obtain ⟨A, c, hv, _, _, hrd, _⟩ := RefTake.own_rd hfile.row
      rw [hv] at k0
      have HCL := Lib.hid (clone_any f.data A f.data.length c _ _ rfl hrd (Nat.le_refl _) (hz f (look_name hl).2))
      clear h ha hr hpl hl hold HD1 hz hfile hv hrd
      generalize hbs : f.data = bs at *
      go_enter Tryz.func34, Tryz.ntmps34
      go_wp2_with fail
      refine HC.out.mono ?_
      rintro e w1 ⟨rfl, rfl⟩
      go_wp2_with fail
      refine HCL.out.mono ?_
      rintro e w2 ⟨v, rfl, hown, hb2⟩
      have HO := Lib.hid hown
      have HB2 := Lib.hid hb2
      clear hown hb2
      go_wp2
      go_ret2
      refine ⟨v, by rw [HX.out]; rfl, ?_, HB1.out.trans (HB2.out.mono (by simp))⟩
      rw [HX.out]
      exact own_mono HO.out (by simp)
end Go.Proofs.YtapbjmbakpopcaaGreatDoor.PdRead

namespace Go.Proofs.YtapbjmbakpopcaaGreatDoor.PdList
open Go Go.RowKit Go.Maps Go.Sort Go.Shelf Words DkSpec PdLook RefDisk PdDisk PdChange PdOps PdRead

theorem names_perm {w : World} {K : Nat → Nat} {o p M : Nat} {D : DataW Unit} {L : Int} {G : List UInt8 → Nat} {Q : List UInt8 → Value} {d : DSt} (h : PAt w K o p M D L G Q d) : (d.files.map (·.name)).Perm (strKeys D) := by
  obtain ⟨es, hD, hpw, _⟩ := h.map.entries keyed
  obtain ⟨es', hD', hko⟩ := h.map.keysOf
  obtain rfl : es = es' := by rw [hD] at hD'; simpa using hD'
  have ht := h.tells
  subst hD
  exact perm_strKeys hpw (fun p hp => by obtain ⟨v, hv⟩ := hko p hp; obtain ⟨x, _, hx, _⟩ := Maps.keyOf_str Tryz.underlying9 hv; exact ⟨x, hx⟩) (names_nodup h.good.1) (fun x => by rw [mem_names, ht])
theorem size_files {w : World} {K : Nat → Nat} {o p M : Nat} {D : DataW Unit} {L : Int} {G : List UInt8 → Nat} {Q : List UInt8 → Value} {d : DSt} (h : PAt w K o p M D L G Q d) : Maps.size D = d.files.length := by
  have hp := (names_perm h).length_eq
  obtain ⟨es, hD⟩ := h.map.isMap
  subst hD
  simp [strKeys] at hp
  simp [Maps.size, hp]

/-- What names answers. -/
def NmPost (w : World) (l : List (List UInt8)) (e : Ending) (w' : World) : Prop := ∃ v, e = .returned v ∧ w'.ownsRow w.heap.size 9 1 v l.length (l.map S8) ∧ Below w.heap.size w w'
set_option maxHeartbeats 800000 in
theorem names_any (w : World) (K : Nat → Nat) (o p M : Nat) (D : DataW Unit) (L : Int) (G : List UInt8 → Nat) (Q : List UInt8 → Value) (d : DSt) (h : PAt w K o p M D L G Q d) (hn : d.files.length ≤ 1000000000) :
    Calls Tryz.prog 42 #[.pointer (some ⟨p, 0, none⟩)] w (NmPost w (d.files.map (·.name))) := by
  have hsz := size_files h
  have HK := Lib.hid (callsIn_wide.1 (Tryz.maps_Keys_62 (some M) w))
  have HS := Lib.hid (callsIn_wide.1 (Tryz.slices_Sorted_keys_61_62 M _ D ptrR w h.map (by unfold maxLen; omega) (by omega)))
  have HP := Lib.hid (names_perm h)
  have HR := Lib.hid h.good.1
  obtain ⟨c0, _, _⟩ := PAt.cells h
  clear h hsz
  go_enter Tryz.func42, Tryz.ntmps42
  go_wp2_with fail
  refine HK.out.mono ?_
  rintro e w1 ⟨rfl, rfl⟩
  go_wp2_with fail
  refine HS.out.mono ?_
  rintro e w2 ⟨v, ss, rfl, hS, hrow, hnil, hb⟩
  have hms := sorted_names HR.out (hS.trans HP.out.symm)
  have hlen : ss.length = (d.files.map (·.name)).length := (hS.trans HP.out.symm).length_eq
  have HO : Hid (w2.ownsRow w.heap.size 9 1 v (d.files.map (·.name)).length ((d.files.map (·.name)).map S8)) := Lib.hid (by
    rw [← hlen, ← hms]
    exact own_mono hrow (by simp))
  have HB : Hid (Below w.heap.size w w2) := Lib.hid (((Below.refl _ w).alloc (Nat.le_refl _) _).trans (hb.mono (by simp)))
  clear hS hrow hnil hb hms hlen
  go_wp2
  go_ret
  exact ⟨v, rfl, HO.out, HB.out⟩

/-- What List answers. -/
def LsPost (w : World) (r : Nat × List (List UInt8)) (e : Ending) (w' : World) : Prop := ∃ v, e = .returned (.tuple #[v, .int .i64 (r.1 : Int)]) ∧ w'.ownsRow w.heap.size 9 1 v r.2.length (r.2.map S8) ∧ Below w.heap.size w w'
end Go.Proofs.YtapbjmbakpopcaaGreatDoor.PdList

namespace Go.Proofs.YtapbjmbakpopcaaGreatDoor.PdRen
open Go Go.RowKit Go.Maps Words DkSpec PdLook RefDisk PdDisk PdChange PdOps PdSync

theorem clone_str (a : List UInt8) (w : World) (ha : a.length ≤ 281474976710656) : Calls Tryz.prog 45 #[.string ⟨a.toArray⟩] w fun e w' => e = .returned (.string ⟨a.toArray⟩) ∧ Below w.heap.size w w' := by
  have HC := Lib.hid (Tryz.stringslite_Clone ⟨a.toArray⟩ w (by show a.toArray.size ≤ _; simpa using ha))
  go_enter Tryz.func45, Tryz.ntmps45
  go_wp2_with fail
  refine HC.out.mono ?_
  rintro e w1 ⟨rfl, hb⟩
  have HB := Lib.hid hb
  clear hb
  go_wp2
  go_ret
  exact ⟨rfl, HB.out⟩

section
variable {w w' : World} {K K' : Nat → Nat} {o p M : Nat} {D : DataW Unit} {L : Int} {G : List UInt8 → Nat} {Q : List UInt8 → Value} {d : DSt}
theorem PAt.below (h : PAt w K o p M D L G Q d) (hb : Below w.heap.size w w') : PAt w' K o p M D L G Q d := h.keep (fun i hi _ => hb.block i hi) (fun _ _ => rfl)
theorem FileAt.below {g : Nat} {v : Value} {f : DFile} (h : FileAt w K o g v f) (hb : Below w.heap.size w w') : FileAt w' K o g v f :=
  h.keep (hb.block g (lt_of h.box)) (fun q hq => hb.block q (h.row.lt q hq).2) (fun _ _ => rfl)
theorem turned_map (h : w.mapTurned w' M) (hM : K M = o) : Turned K K o w w' :=
  have hg := h.grown
  ⟨hg.os, hg.tape, hg.output, hg.size, fun i hi hk => hg.block i hi (fun e => hk (by injection e with e; rw [e]; exact hM)), fun _ _ => rfl⟩
theorem map_other (h : w.mapTurned w' M) : ∀ i, i ≠ M → w'.heap[i]? = w.heap[i]? := by
  obtain ⟨es, clock, es', clock', hM, rfl⟩ := h
  exact fun i hi => Go.ChangeMaps.heap_setBlock_other hM _ hi
/-- A name is laid in the map. -/
theorem named_run (h : PAt w K o p M D L G Q d) (s : List UInt8) (hs : s.length ≤ maxLen) (hn : d.files.length ≤ 1000000000) (g : Nat) :
    ∃ w', (Instr.mapUpdate 59 (.map (some M)) (.string ⟨s.toArray⟩) (.pointer (some ⟨g, 0, none⟩))).run Tryz.prog w = .ok () w' ∧ w'.ownsMap Tryz.prog 9 ptrR M (Maps.size D + 1) (D.put (.string s) (datum g)) ∧ w.mapTurned w' M :=
  h.map.store keyed Tryz.underlying59 (by rw [PdList.size_files h]; unfold maxLen; omega) (key s hs) (ptrR_ptr g)
end

end Go.Proofs.YtapbjmbakpopcaaGreatDoor.PdRen

