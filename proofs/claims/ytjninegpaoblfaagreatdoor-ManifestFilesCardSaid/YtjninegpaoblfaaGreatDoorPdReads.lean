/- The contracts of bytes.Clone, Read, names and List. Conditions: the disk lies in memory as 'PDisk' says; the names' lengths are at most the model's greatest; a file's bytes are at most 2^47; at most 10^9 files. · The contracts of names and List. Conditions: the disk lies in memory as 'PDisk' says; at most 10^9 files. · The contracts of strings.Clone and of Rename. Conditions: the disk lies in memory as 'PDisk' says; the names' lengths are at most the model's greatest; at most 10^9 files. -/
import Derived.Test.YtjninegpaoblfaaGreatDoorPdOpss
import Derived.Test.YtjninegpaoblfaaGreatDoorPuts
import Derived.Test.YtjninegpaoblfaaGreatDoorPdShelf
import Derived.CallsIn
import Derived.Deep.RegionHeld3
namespace Go.Proofs.YtjninegpaoblfaaGreatDoor.PdRead
open Go Go.RowKit Go.Maps Go.Sort Go.Shelf Words App DkSpec PdLook RefDisk PdDisk PdChange PdOps

theorem info_u8 : (Tryz.prog.info? 5).map (fun i => (i.zero, i.size, i.bytes)) = some (some (.int .u8 0), 1, 1) := by kernel_rfl
theorem one8 (l : List UInt8) : ∀ u ∈ l.map B8, u.oneCell' = true := fun u hu => by obtain ⟨c, _, rfl⟩ := List.mem_map.1 hu; rfl
theorem own_mono {w : World} {base base' n : Nat} {e : TypeId} {v : Value} {xs : List Value} (h : w.ownsRow base e 1 v n xs) (hb : base' ≤ base) : w.ownsRow base' e 1 v n xs :=
  ⟨h.1, h.2.imp id fun ⟨g, cap, cur, e1, hg, r⟩ => ⟨g, cap, cur, e1, Nat.le_trans hb hg, r⟩⟩
theorem sl_nil (c : Nat) (w : World) : (binOp .eql 51 (.slice none 0 c) (.slice none 0 0)).run Tryz.prog w = .ok (.bool true) w := by kernel_rfl
theorem sl_some (a : Addr) (n c : Nat) (w : World) : (binOp .eql 51 (.slice (some a) n c) (.slice none 0 0)).run Tryz.prog w = .ok (.bool false) w := by kernel_rfl
set_option maxHeartbeats 800000 in
theorem clone_any (l : List UInt8) (A : Option Addr) (n c : Nat) (w : World) (B : Nat) (hn : n = l.length) (hr : Rd w B A (l.map B8)) (hB : B ≤ w.heap.size) (hl : l.length ≤ 140737488355328) :
    Calls Tryz.prog 41 #[.slice A n c] w fun e w' => ∃ v, e = .returned v ∧ w'.ownsRow w.heap.size 5 1 v l.length (l.map B8) ∧ Below w.heap.size w w' := by
  obtain ⟨i0, hi, hz0, hz1, hz2⟩ := info_parts info_u8
  subst hn
  have HR := Lib.hid hr
  cases A with
  | none =>
    have h0 : l = [] := by
      by_cases h : l = []
      · exact h
      · obtain ⟨b, off, e, _⟩ := hr (by simp; exact List.length_pos_iff.2 h)
        cases e
    subst h0
    clear hr
    have he := sl_nil c
    go_enter Tryz.func41, Tryz.ntmps41
    go_wp2
    go_ret
    exact ⟨_, rfl, World.ownsRow_nil _ _ _ _, Below.refl _ _⟩
  | some a =>
    clear hr
    have hown0 := World.ownsRow_lit (base := w.heap.size) (e := 5) (size := 1) w #[] 0 (Nat.le_refl _) (by unfold maxLen; omega) rfl
    have HB1 := Lib.hid ((Below.refl w.heap.size w).alloc (Nat.le_refl _) (.cells #[] 5))
    have he := sl_some a l.length c
    go_enter Tryz.func41, Tryz.ntmps41
    go_wp2_with (at_builtin; refine wpList_append_rd (v := .slice (some ⟨w.heap.size, 0, none⟩) 0 0) _ rfl (.tmp 5) (.tmp 6) 51 rfl w.heap.size 5 i0 (.int .u8 0) 1 Tryz.underlying51 hi hz0 hz1 hz2 rfl 0 [] rfl hown0 B (some a) l.length c (l.map B8) rfl (by simp) (HR.out.alloc hB _) (one8 l) ?c1 ?c2 HB1.out.size ?_)
    case c1 => unfold maxLen; omega
    try (case c2 => omega)
    intro v2 w2 hown2 hg2 _
    have HB2 := Lib.hid (below_app hown0 HB1.out hg2)
    have hown3 : w2.ownsRow w.heap.size 5 1 v2 l.length (l.map B8) := by simpa using hown2
    have HO2 := Lib.hid hown3
    clear hown0 hown2 hown3 hg2
    go_wp2
    go_ret
    exact ⟨v2, rfl, HO2.out, HB2.out⟩

/-- What Read answers. -/
def RdPost (w : World) (r : Nat × List UInt8) (e : Ending) (w' : World) : Prop := ∃ v, e = .returned (.tuple #[v, .int .i64 (r.1 : Int)]) ∧ w'.ownsRow w.heap.size 5 1 v r.2.length (r.2.map B8) ∧ Below w.heap.size w w'
theorem rdpost_err {w w' : World} {r : Nat × List UInt8} {n : Nat} {x : Int} (hr : r = (n, [])) (hx : x = (n : Int)) (hb : Below w.heap.size w w') : RdPost w r (.returned (.tuple #[.slice none 0 0, .int .i64 x])) w' := by
  subst hr hx
  exact ⟨_, rfl, World.ownsRow_nil _ _ _ _, hb⟩
theorem refusal_nil (w : World) (A : Option Addr) (n c : Nat) : Calls Tryz.prog 40 #[.pointer none, .slice A n c] w fun e w' => e = .returned (.int .i64 2) ∧ w = w' := PdChange.refusal_nil w A n c
set_option maxHeartbeats 800000 in
set_option maxRecDepth 100000 in
theorem read_any (w : World) (K : Nat → Nat) (o p : Nat) (d : DSt) (a : List UInt8) (hd : PDisk w K o p d) (ha : a.length ≤ maxLen) (hz : ∀ f ∈ d.files, f.data.length ≤ 140737488355328) :
    Calls Tryz.prog 21 #[.pointer (some ⟨p, 0, none⟩), .string ⟨a.toArray⟩] w (RdPost w (read a d)) := by
  obtain ⟨M, D, L, G, Q, h⟩ := hd
  have HC := Lib.hid (refusal_one h a ha)
  have HB1 := Lib.hid ((Below.refl w.heap.size w).alloc (Nat.le_refl _) (.cells #[.string ⟨a.toArray⟩] 9))
  by_cases hr : refused a a d ≠ 0
  · have HX := Lib.hid (show read a d = (refused a a d, []) by unfold DkSpec.read; rw [if_pos hr])
    have h1 : ((refused a a d : Int) != 0) = true := by simp; omega
    clear h ha hr hz
    go_enter Tryz.func21, Tryz.ntmps21
    go_wp2_with fail
    refine HC.out.mono ?_
    rintro e w1 ⟨rfl, rfl⟩
    go_wp2
    go_ret2
    exact rdpost_err HX.out rfl HB1.out
  · rw [show refused a a d = 0 by omega] at HC
    have hpl := place_look (s := a) h.good.1
    have hold := old_look (s := a) h.good.1
    have HD1 := PAt.alloc h (.cells #[.string ⟨a.toArray⟩] 9)
    obtain ⟨c0, _, _⟩ := PAt.cells HD1
    cases hl : fileOf a d.files with
    | none =>
      rw [hl] at hpl
      have HX := Lib.hid (show read a d = (21, []) by unfold DkSpec.read; rw [if_neg hr, hpl]; rfl)
      have hlk := look_nil HD1 ha hl
      unfold S8 at hlk
      have hfn := fnil_nil
      clear h ha hr hpl hl hold HD1 hz
      go_enter Tryz.func21, Tryz.ntmps21
      go_wp2_with fail
      refine HC.out.mono ?_
      rintro e w1 ⟨rfl, rfl⟩
      go_wp2
      go_ret2
      exact rdpost_err HX.out rfl HB1.out
    | some f =>
      rw [hl] at hpl hold
      have HX := Lib.hid (show read a d = (0, f.data) by unfold DkSpec.read; rw [if_neg hr, hpl, hold]; rfl)
      have hlk := look_some HD1 ha hl
      unfold S8 ptr at hlk
      have hfn := feq_nil
      obtain ⟨_, hfile⟩ := HD1.at_ a f hl
      obtain ⟨k0, k1, _⟩ := FileAt.cells hfile
      obtain ⟨A, c, hv, _, _, hrd, _⟩ := RefTake.own_rd hfile.row
      rw [hv] at k0
      have HCL := Lib.hid (clone_any f.data A f.data.length c _ _ rfl hrd (Nat.le_refl _) (hz f (look_name hl).2))
      clear h ha hr hpl hl hold HD1 hz hfile hv hrd
      generalize hbs : f.data = bs at *
      go_enter Tryz.func21, Tryz.ntmps21
      go_wp2_with fail
      refine HC.out.mono ?_
      rintro e w1 ⟨rfl, rfl⟩
      go_wp2_with fail
      refine HCL.out.mono ?_
      rintro e w2 ⟨v, rfl, hown, hb2⟩
      have HO := Lib.hid hown
      have HB2 := Lib.hid hb2
      clear hown hb2
      go_wp2
      go_ret2
      refine ⟨v, by rw [HX.out]; rfl, ?_, HB1.out.trans (HB2.out.mono (by simp))⟩
      rw [HX.out]
      exact own_mono HO.out (by simp)
end Go.Proofs.YtjninegpaoblfaaGreatDoor.PdRead

namespace Go.Proofs.YtjninegpaoblfaaGreatDoor.PdList
open Go Go.RowKit Go.Maps Go.Sort Go.Shelf Words DkSpec PdLook RefDisk PdDisk PdChange PdOps PdRead

theorem names_perm {w : World} {K : Nat → Nat} {o p M : Nat} {D : DataW Unit} {L : Int} {G : List UInt8 → Nat} {Q : List UInt8 → Value} {d : DSt} (h : PAt w K o p M D L G Q d) : (d.files.map (·.name)).Perm (strKeys D) := by
  obtain ⟨es, hD, hpw, _⟩ := h.map.entries keyed
  obtain ⟨es', hD', hko⟩ := h.map.keysOf
  obtain rfl : es = es' := by rw [hD] at hD'; simpa using hD'
  have ht := h.tells
  subst hD
  exact perm_strKeys hpw (fun p hp => by obtain ⟨v, hv⟩ := hko p hp; obtain ⟨x, _, hx, _⟩ := Maps.keyOf_str Tryz.underlying9 hv; exact ⟨x, hx⟩) (names_nodup h.good.1) (fun x => by rw [mem_names, ht])
theorem size_files {w : World} {K : Nat → Nat} {o p M : Nat} {D : DataW Unit} {L : Int} {G : List UInt8 → Nat} {Q : List UInt8 → Value} {d : DSt} (h : PAt w K o p M D L G Q d) : Maps.size D = d.files.length := by
  have hp := (names_perm h).length_eq
  obtain ⟨es, hD⟩ := h.map.isMap
  subst hD
  simp [strKeys] at hp
  simp [Maps.size, hp]

/-- What names answers. -/
def NmPost (w : World) (l : List (List UInt8)) (e : Ending) (w' : World) : Prop := ∃ v, e = .returned v ∧ w'.ownsRow w.heap.size 9 1 v l.length (l.map S8) ∧ Below w.heap.size w w'
set_option maxHeartbeats 800000 in
theorem names_any (w : World) (K : Nat → Nat) (o p M : Nat) (D : DataW Unit) (L : Int) (G : List UInt8 → Nat) (Q : List UInt8 → Value) (d : DSt) (h : PAt w K o p M D L G Q d) (hn : d.files.length ≤ 1000000000) :
    Calls Tryz.prog 38 #[.pointer (some ⟨p, 0, none⟩)] w (NmPost w (d.files.map (·.name))) := by
  have hsz := size_files h
  have HK := Lib.hid (callsIn_wide.1 (Tryz.maps_Keys_66 (some M) w))
  have HS := Lib.hid (callsIn_wide.1 (Tryz.slices_Sorted_keys_65_66 M _ D ptrR w h.map (by unfold maxLen; omega) (by omega)))
  have HP := Lib.hid (names_perm h)
  have HR := Lib.hid h.good.1
  obtain ⟨c0, _, _⟩ := PAt.cells h
  clear h hsz
  go_enter Tryz.func38, Tryz.ntmps38
  go_wp2_with fail
  refine HK.out.mono ?_
  rintro e w1 ⟨rfl, rfl⟩
  go_wp2_with fail
  refine HS.out.mono ?_
  rintro e w2 ⟨v, ss, rfl, hS, hrow, hnil, hb⟩
  have hms := sorted_names HR.out (hS.trans HP.out.symm)
  have hlen : ss.length = (d.files.map (·.name)).length := (hS.trans HP.out.symm).length_eq
  have HO : Hid (w2.ownsRow w.heap.size 9 1 v (d.files.map (·.name)).length ((d.files.map (·.name)).map S8)) := Lib.hid (by
    rw [← hlen, ← hms]
    exact own_mono hrow (by simp))
  have HB : Hid (Below w.heap.size w w2) := Lib.hid (((Below.refl _ w).alloc (Nat.le_refl _) _).trans (hb.mono (by simp)))
  clear hS hrow hnil hb hms hlen
  go_wp2
  go_ret
  exact ⟨v, rfl, HO.out, HB.out⟩

/-- What List answers. -/
def LsPost (w : World) (r : Nat × List (List UInt8)) (e : Ending) (w' : World) : Prop := ∃ v, e = .returned (.tuple #[v, .int .i64 (r.1 : Int)]) ∧ w'.ownsRow w.heap.size 9 1 v r.2.length (r.2.map S8) ∧ Below w.heap.size w w'
set_option maxHeartbeats 800000 in
theorem list_any (w : World) (K : Nat → Nat) (o p : Nat) (d : DSt) (hd : PDisk w K o p d) (hn : d.files.length ≤ 1000000000) :
    Calls Tryz.prog 19 #[.pointer (some ⟨p, 0, none⟩)] w (LsPost w (list d)) := by
  obtain ⟨M, D, L, G, Q, h⟩ := hd
  have HC := Lib.hid (refusal_zero h)
  have HN := Lib.hid (names_any w K o p M D L G Q d h hn)
  have HX : Hid (list d = if d.off then (23, []) else (0, d.files.map (·.name))) := Lib.hid rfl
  clear h hn
  generalize d.off = b at *
  cases b with
  | true =>
    go_enter Tryz.func19, Tryz.ntmps19
    go_wp2_with fail
    refine HC.out.mono ?_
    rintro e w1 ⟨rfl, rfl⟩
    go_wp2
    go_ret2
    rw [HX.out]
    exact ⟨_, rfl, World.ownsRow_nil _ _ _ _, Below.refl _ _⟩
  | false =>
    go_enter Tryz.func19, Tryz.ntmps19
    go_wp2_with fail
    refine HC.out.mono ?_
    rintro e w1 ⟨rfl, rfl⟩
    go_wp2_with fail
    refine HN.out.mono ?_
    rintro e w1 ⟨v, rfl, hown, hb⟩
    have HO := Lib.hid hown
    have HB := Lib.hid hb
    clear hown hb
    go_wp2
    go_ret2
    rw [HX.out]
    exact ⟨v, rfl, HO.out, HB.out⟩
end Go.Proofs.YtjninegpaoblfaaGreatDoor.PdList

namespace Go.Proofs.YtjninegpaoblfaaGreatDoor.PdRen
open Go Go.RowKit Go.Maps Words DkSpec PdLook RefDisk PdDisk PdChange PdOps PdSync

theorem clone_str (a : List UInt8) (w : World) (ha : a.length ≤ 281474976710656) : Calls Tryz.prog 53 #[.string ⟨a.toArray⟩] w fun e w' => e = .returned (.string ⟨a.toArray⟩) ∧ Below w.heap.size w w' := by
  have HC := Lib.hid (Tryz.stringslite_Clone ⟨a.toArray⟩ w (by show a.toArray.size ≤ _; simpa using ha))
  go_enter Tryz.func53, Tryz.ntmps53
  go_wp2_with fail
  refine HC.out.mono ?_
  rintro e w1 ⟨rfl, hb⟩
  have HB := Lib.hid hb
  clear hb
  go_wp2
  go_ret
  exact ⟨rfl, HB.out⟩

section
variable {w w' : World} {K K' : Nat → Nat} {o p M : Nat} {D : DataW Unit} {L : Int} {G : List UInt8 → Nat} {Q : List UInt8 → Value} {d : DSt}
theorem PAt.below (h : PAt w K o p M D L G Q d) (hb : Below w.heap.size w w') : PAt w' K o p M D L G Q d := h.keep (fun i hi _ => hb.block i hi) (fun _ _ => rfl)
theorem FileAt.below {g : Nat} {v : Value} {f : DFile} (h : FileAt w K o g v f) (hb : Below w.heap.size w w') : FileAt w' K o g v f :=
  h.keep (hb.block g (lt_of h.box)) (fun q hq => hb.block q (h.row.lt q hq).2) (fun _ _ => rfl)
theorem turned_map (h : w.mapTurned w' M) (hM : K M = o) : Turned K K o w w' :=
  have hg := h.grown
  ⟨hg.os, hg.tape, hg.output, hg.size, fun i hi hk => hg.block i hi (fun e => hk (by injection e with e; rw [e]; exact hM)), fun _ _ => rfl⟩
theorem map_other (h : w.mapTurned w' M) : ∀ i, i ≠ M → w'.heap[i]? = w.heap[i]? := by
  obtain ⟨es, clock, es', clock', hM, rfl⟩ := h
  exact fun i hi => Go.ChangeMaps.heap_setBlock_other hM _ hi
/-- A name is laid in the map. -/
theorem named_run (h : PAt w K o p M D L G Q d) (s : List UInt8) (hs : s.length ≤ maxLen) (hn : d.files.length ≤ 1000000000) (g : Nat) :
    ∃ w', (Instr.mapUpdate 58 (.map (some M)) (.string ⟨s.toArray⟩) (.pointer (some ⟨g, 0, none⟩))).run Tryz.prog w = .ok () w' ∧ w'.ownsMap Tryz.prog 9 ptrR M (Maps.size D + 1) (D.put (.string s) (datum g)) ∧ w.mapTurned w' M :=
  h.map.store keyed Tryz.underlying58 (by rw [PdList.size_files h]; unfold maxLen; omega) (key s hs) (ptrR_ptr g)
end

set_option maxHeartbeats 1600000 in
set_option maxRecDepth 100000 in
theorem rename_any (w : World) (K : Nat → Nat) (o p : Nat) (d : DSt) (a b : List UInt8) (hd : PDisk w K o p d) (ha : a.length ≤ 281474976710656) (hb : b.length ≤ 281474976710656) (hn : d.files.length ≤ 1000000000) :
    Calls Tryz.prog 31 #[.pointer (some ⟨p, 0, none⟩), .string ⟨a.toArray⟩, .string ⟨b.toArray⟩] w (OPost w K o p (rename a b d)) := by
  obtain ⟨M, D, L, G, Q, h⟩ := hd
  have ha' : a.length ≤ maxLen := by unfold maxLen; omega
  have hb' : b.length ≤ maxLen := by unfold maxLen; omega
  have HC := Lib.hid (change_two h a b ha' hb')
  by_cases hr : refused a b d ≠ 0
  · have HX := Lib.hid (show rename a b d = (refused a b d, d) by unfold rename; rw [if_pos hr])
    have h1 : ((refused a b d : Int) != 0) = true := by simp; omega
    unfold ChPost2 at HC
    rw [if_pos hr] at HC
    clear h ha hr hb ha' hb' hn
    go_enter Tryz.func31, Tryz.ntmps31
    go_wp2_with fail
    refine HC.out.mono ?_
    rintro e w1 ⟨rfl, ⟨L1, hd1⟩, ht1⟩
    have HD1 := Lib.hid hd1
    have HT1 := Lib.hid ht1
    clear hd1 ht1
    go_wp2
    go_ret
    rw [HX.out]
    exact ⟨rfl, K, ⟨M, D, L1, G, Q, HD1.out⟩, HT1.out⟩
  · unfold ChPost2 at HC
    rw [if_neg hr, show refused a b d = 0 by omega] at HC
    have hfl := stepped_files d
    have hpl := place_look (s := a) h.good.1
    cases hl : fileOf a d.files with
    | none =>
      rw [hl] at hpl
      have HX := Lib.hid (show rename a b d = (21, stepped d) by unfold rename; rw [if_neg hr, hpl]; rfl)
      have HL := Lib.hid (show fileOf a (stepped d).files = none by rw [hfl, hl])
      have HA := Lib.hid ha'
      have hfn := fnil_nil
      clear h ha hr hfl hpl hl hb ha' hb' hn
      go_enter Tryz.func31, Tryz.ntmps31
      go_wp2_with fail
      refine HC.out.mono ?_
      rintro e w1 ⟨rfl, ⟨L1, hd1⟩, ht1⟩
      have HD1 := Lib.hid hd1
      have HT1 := Lib.hid ht1
      obtain ⟨c0, _, _⟩ := PAt.cells hd1
      have hlk := look_nil hd1 HA.out HL.out
      unfold S8 at hlk
      clear hd1 ht1
      go_wp2
      go_ret
      rw [HX.out]
      exact ⟨rfl, K, ⟨M, D, L1, G, Q, HD1.out⟩, HT1.out⟩
    | some f =>
      rw [hl] at hpl
      have hold := old_look (s := a) h.good.1
      rw [hl] at hold
      have HX := Lib.hid (show rename a b d = (0, { stepped d with files := put { f with name := b } (del (place a d.files).1 d.files) }) by unfold rename; rw [if_neg hr, hpl, hold]; rfl)
      have HG3 := Lib.hid (good_rename (a := a) (b := b) h.good)
      have HG2 : Hid (DkSpec.Good { stepped d with files := del (place a d.files).1 d.files }) := Lib.hid ⟨del_rises h.good.1 _, fun g hg => h.good.2 g (mem_del hg)⟩
      have HL := Lib.hid (show fileOf a (stepped d).files = some f by rw [hfl, hl])
      have HLK := Lib.hid (fun s' => look_del (a := a) s' h.good.1 (by rw [hl]; rfl))
      have HN : Hid ((del (place a d.files).1 d.files).length ≤ 1000000000) := Lib.hid (by
        refine Nat.le_trans ?_ hn
        unfold del
        simp only [List.length_append, List.length_take, List.length_drop]
        omega)
      have HFL := Lib.hid hfl
      have HA := Lib.hid ha'
      have HB' := Lib.hid hb'
      have hfn := feq_nil
      have HCL := fun W => Lib.hid (clone_str b W hb)
      clear h ha hr hfl hpl hl hb ha' hb' hn hold
      go_enter Tryz.func31, Tryz.ntmps31
      go_wp2_with fail
      refine HC.out.mono ?_
      rintro e w1 ⟨rfl, ⟨L1, hd1⟩, ht1⟩
      have HD1 := Lib.hid hd1
      have HT1 := Lib.hid ht1
      obtain ⟨c0, _, _⟩ := PAt.cells hd1
      have hlk := look_some hd1 HA.out HL.out
      unfold S8 ptr at hlk
      clear hd1 ht1
      go_wp2_with (at_delete; refine wpList_delete_own _ rfl _ _ 58 9 rfl 67 keyed Tryz.underlying58 ptrR M _ D rfl HD1.out.map _ _ rfl (key a HA.out) ?_; intro w2 hown2 hturn2)
      have HD2 : Hid (PAt w2 K o p M (D.del (.string a)) L1 G Q { stepped d with files := del (place a d.files).1 d.files }) := Lib.hid (by
        refine HD1.out.gone hown2 (map_other hturn2) HG2.out (fun s' => ?_) rfl rfl rfl
        rw [HFL.out]
        exact HLK.out s')
      have HT2 : Hid (Turned K K o w w2) := Lib.hid (HT1.out.trans (turned_map hturn2 HD1.out.kM))
      have HF2 : Hid (FileAt w2 K o (G a) (Q a) { f with name := b }) := Lib.hid (by
        obtain ⟨_, hf⟩ := HD1.out.at_ a f HL.out
        have hf2 := hf.keep (map_other hturn2 _ (HD1.out.ne_g HL.out).2) (fun q hq => map_other hturn2 q (HD1.out.ne_q HL.out hq).2.1) (fun _ _ => rfl)
        exact ⟨hf2.box, hf2.row, hf2.kind, hf2.rkind⟩)
      have HAP : Hid (∀ s' f', fileOf s' (del (place a d.files).1 d.files) = some f' → G s' ≠ G a ∧ ∀ q, (Q s').ownBlock = some q → (Q a).ownBlock ≠ some q) := Lib.hid (fun s' f' hf' => by
        rw [HLK.out] at hf'
        split at hf'
        · cases hf'
        · rename_i hne
          exact HD1.out.apart s' a f' f (by rw [HFL.out]; exact hf') HL.out hne)
      obtain ⟨c0', _, _⟩ := PAt.cells HD2.out
      have HST : Hid (∀ W w3, W.heap = w2.heap → W.os = w2.os → W.tape = w2.tape → W.output = w2.output → Below W.heap.size W w3 → ∃ w4, (Instr.mapUpdate 58 (.map (some M)) (.string ⟨b.toArray⟩) (.pointer (some ⟨G a, 0, none⟩))).run Tryz.prog w3 = .ok () w4 ∧
          Hid (PDisk w4 K o p (rename a b d).2 ∧ Turned K K o w w4) ∧ w3.cell? ⟨p, 0, none⟩ = some (.map (some M)) ∧ w4.cell? ⟨p, 0, none⟩ = some (.map (some M))) := Lib.hid (fun W w3 e1 e2 e3 e4 hb3 => by
        have hb3' : Below w2.heap.size w2 w3 := ⟨hb3.os.trans e2, hb3.tape.trans e3, hb3.output.trans e4, e1 ▸ hb3.size, fun k hk => (hb3.block k (by rw [e1]; exact hk)).trans (by rw [e1])⟩
        have h3 := PAt.below HD2.out hb3'
        have hf3 := FileAt.below HF2.out hb3'
        obtain ⟨w4, hrun, hown, hturn⟩ := named_run h3 b HB'.out HN.out (G a)
        have h4 := h3.named (d' := (rename a b d).2) (f := { f with name := b }) hown (map_other hturn) hf3 (fun s' f' hf' _ => HAP.out s' f' hf') HG3.out (fun s' => by rw [HX.out]; exact look_put _ s' _) (by rw [HX.out]) (by rw [HX.out]) (by rw [HX.out])
        exact ⟨w4, hrun, Lib.hid ⟨⟨M, _, L1, _, _, h4⟩, HT2.out.trans ((turned_below hb3').trans (turned_map hturn h3.kM))⟩, (PAt.cells h3).1, (PAt.cells h4).1⟩)
      have HK0 : Hid (w2.cell? ⟨p, 0, none⟩ = some (.map (some M))) := Lib.hid c0'
      clear hown2 hturn2 hlk c0
      go_wp2
      go_region_held3 (fun w' => w'.cell? ⟨p, 0, none⟩ = some (.map (some M))) (first | go_keep | assumption) ((go_at_call 53; refine (HCL _).out.mono ?_; rintro e w3 ⟨rfl, hb3⟩; obtain ⟨w4, hrun4, hpost4, hcell3, hcell4⟩ := HST.out w2.drew w3 rfl rfl rfl rfl hb3))
      all_goals
        go_wp2
        go_ret
        exact ⟨by rw [HX.out]; rfl, K, hpost4.out.1, hpost4.out.2⟩
end Go.Proofs.YtjninegpaoblfaaGreatDoor.PdRen

