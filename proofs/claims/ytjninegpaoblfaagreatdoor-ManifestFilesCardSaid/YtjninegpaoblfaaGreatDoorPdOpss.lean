/- The contracts of New, Fill, Arm, Sync and Delete. Conditions: the disk lies in memory as 'PDisk' says; the names' lengths are at most the model's greatest. · The contracts of Sync, and of a file's crash. Conditions: the disk lies in memory as 'PDisk' says; the names' lengths are at most the model's greatest. -/
import Derived.Test.YtjninegpaoblfaaGreatDoorPdDisks
import Derived.Test.YtjninegpaoblfaaGreatDoorRefOps
import Derived.Maps.OwnSet
import Derived.OwnWalk
import Derived.Outline
import Derived.Carry
import Derived.BigRegion
import Derived.Deep.QuietTactic
import Derived.BigQuiet
import Derived.WalkLawsBesides
namespace Go.Proofs.YtjninegpaoblfaaGreatDoor.PdOps
open Go Go.RowKit Go.Maps Words DkSpec PdLook RefDisk PdDisk PdChange

/-- What a call answers and leaves. -/
def OPost (w : World) (K : Nat → Nat) (o p : Nat) (r : Nat × DSt) (e : Ending) (w' : World) : Prop := e = .returned (.int .i64 (r.1 : Int)) ∧ ∃ K', PDisk w' K' o p r.2 ∧ Turned K K' o w w'
/-- What a method without an answer leaves. -/
def MPost (w : World) (K : Nat → Nat) (o p : Nat) (d : DSt) (e : Ending) (w' : World) : Prop := e = .returned (.tuple #[]) ∧ ∃ K', PDisk w' K' o p d ∧ Turned K K' o w w'
/-- A new disk at a new block; all that was there is as it was. -/
def NPost (w : World) (K : Nat → Nat) (o : Nat) (d : DSt) (e : Ending) (w' : World) : Prop := ∃ p K', e = .returned (.pointer (some ⟨p, 0, none⟩)) ∧ w.heap.size ≤ p ∧ PDisk w' K' o p d ∧ ∀ o', Turned K K' o' w w'

/-- Only the disk's own number for new blocks. -/
def ext (K : Nat → Nat) (n o : Nat) : Nat → Nat := fun b => if b < n then K b else o
theorem ext_old {K : Nat → Nat} {n o i : Nat} (h : i < n) : ext K n o i = K i := by unfold ext; rw [if_pos h]
theorem ext_new {K : Nat → Nat} {n o i : Nat} (h : n ≤ i) : ext K n o i = o := by unfold ext; rw [if_neg (by omega)]

set_option maxHeartbeats 800000 in
theorem new_any (w : World) (K : Nat → Nat) (o : Nat) :
    Calls Tryz.prog 5 #[] w (NPost w K o fresh) := by
  have hmm := @run_makeMap Tryz.prog
  go_enter Tryz.func5, Tryz.ntmps5
  go_wp2
  go_ret
  obtain ⟨W, hW⟩ : ∃ W, W = (w.alloc (.map #[] 0)).alloc (.cells #[.map (some w.heap.size), .bool false, .int .i64 (-1)] 60) := ⟨_, rfl⟩
  have hsz : W.heap.size = w.heap.size + 2 := by rw [hW]; simp
  have hm := ((World.ownsMap_made w Tryz.prog 9 ptrR).alloc (.cells #[.map (some w.heap.size), .bool false, .int .i64 (-1)] 60))
  rw [← hW] at hm
  have hp : W.heap[w.heap.size + 1]? = some (.cells #[.map (some w.heap.size), .bool false, .int .i64 (-1)] 60 (0, 0)) := by
    rw [hW]
    have h := Go.heap_alloc_new (w.alloc (.map #[] 0)) (.cells #[.map (some w.heap.size), .bool false, .int .i64 (-1)] 60)
    simpa using h
  have hold : ∀ i, i < w.heap.size → W.heap[i]? = w.heap[i]? := fun i hi => by
    rw [hW, Below.heap_alloc _ _ _ (by simp; omega), Below.heap_alloc _ _ _ hi]
  have hnil : ∀ s, fileOf s fresh.files = none := fun s => rfl
  rw [← hW]
  refine ⟨w.heap.size + 1, ext K w.heap.size o, by simp, by omega, ⟨w.heap.size, .map [], -1, fun _ => 0, fun _ => .slice none 0 0, ?_⟩, fun o' => ⟨?_, ?_, ?_, ?_, ?_, fun j hj => ext_old hj⟩⟩
  · exact {
      struct := hp
      kp := ext_new (by omega)
      kM := ext_new (Nat.le_refl _)
      map := PdDisk.tight hm
      low := by omega
      high := by omega
      off := rfl
      left := fun h => by omega
      un := fun _ => (by decide : (-1 : Int) < 0)
      good := ⟨List.Pairwise.nil, fun f hf => by cases hf⟩
      tells := fun s => rfl
      at_ := fun s f h => by cases h
      apart := fun s s' f f' h => by cases h }
  · rw [hW]; rfl
  · rw [hW]; rfl
  · rw [hW]; rfl
  · omega
  · exact fun i hi _ => hold i hi

theorem fill_nil (w : World) (b : Bool) : Calls Tryz.prog 9 #[.pointer none, .bool b] w fun e w' => e = .returned (.tuple #[]) ∧ w = w' := by
  have hne := ne_none
  go_enter Tryz.func9, Tryz.ntmps9
  go_wp2
  go_end0
  exact ⟨rfl, rfl⟩
theorem fill_any (w : World) (K : Nat → Nat) (o p : Nat) (d : DSt) (b : Bool) (hd : PDisk w K o p d) :
    Calls Tryz.prog 9 #[.pointer (some ⟨p, 0, none⟩), .bool b] w (MPost w K o p { d with full := b }) := by
  obtain ⟨M, D, L, G, Q, h⟩ := hd
  have HS : Hid (PAt (w.setCell ⟨p, 1, none⟩ (.bool b)) K o p M D L G Q { d with full := b }) := Lib.hid
    (h.poke (b := b) (heap_setCell_same w p 1 _ _ (.bool b) h.struct) (fun i hi => heap_setCell_other w _ i _ hi) rfl h.low h.high h.off h.left h.un rfl)
  have HT : Hid (Turned K K o w (w.setCell ⟨p, 1, none⟩ (.bool b))) := Lib.hid (turned_setCell h.kp)
  obtain ⟨c0, c1, c2⟩ := PAt.cells h
  have f1 := PAt.frozen h 1
  clear c0 c2 h
  have hne := ne_nil p
  go_enter Tryz.func9, Tryz.ntmps9
  go_wp2
  go_end0
  exact ⟨rfl, K, ⟨M, D, L, G, Q, HS.out⟩, HT.out⟩
theorem arm_nil (w : World) (n : Int) : Calls Tryz.prog 7 #[.pointer none, .int .i64 n] w fun e w' => e = .returned (.tuple #[]) ∧ w = w' := by
  have hne := ne_none
  go_enter Tryz.func7, Tryz.ntmps7
  go_wp2
  go_end0
  exact ⟨rfl, rfl⟩
theorem arm_any (w : World) (K : Nat → Nat) (o p : Nat) (d : DSt) (n : Int) (hd : PDisk w K o p d) (h1 : -9223372036854775808 ≤ n) (h2 : n ≤ 9223372036854775807) :
    Calls Tryz.prog 7 #[.pointer (some ⟨p, 0, none⟩), .int .i64 n] w (MPost w K o p (arm n d)) := by
  have HD := Lib.hid hd
  obtain ⟨M, D, L, G, Q, h⟩ := hd
  have HW := Lib.hid (down_any w K o p M D L G Q d h)
  have hne := ne_nil p
  cases hoff : d.off with
  | true =>
    rw [hoff] at HW
    have HX : Hid (arm n d = d) := Lib.hid (by unfold arm; rw [hoff]; rfl)
    clear hoff h h1 h2
    go_enter Tryz.func7, Tryz.ntmps7
    go_wp2_with fail
    refine HW.out.mono ?_
    rintro e w1 ⟨rfl, rfl⟩
    go_wp2
    go_end0
    exact ⟨rfl, K, by rw [HX.out]; exact HD.out, Turned.refl _ _ _⟩
  | false =>
    rw [hoff] at HW
    have HS : Hid (PAt (w.setCell ⟨p, 2, none⟩ (.int .i64 n)) K o p M D n G Q (arm n d)) := Lib.hid (by
      have ha : arm n d = { d with left := if n < 0 then -1 else n, off := n == 0 } := by unfold arm; rw [hoff]; rfl
      refine h.poke (b := d.full) (heap_setCell_same w p 2 _ _ (.int .i64 n) h.struct) (fun i hi => heap_setCell_other w _ i _ hi) (by rw [ha]) h1 h2 ?_ (fun h => by rw [ha]; simp only; rw [if_neg (by omega)]) (fun h => by rw [ha]; simp only; rw [if_pos h]; omega) (by rw [ha])
      rw [ha, Bool.eq_iff_iff, beq_iff_eq, decide_eq_true_eq])
    have HT : Hid (Turned K K o w (w.setCell ⟨p, 2, none⟩ (.int .i64 n))) := Lib.hid (turned_setCell h.kp)
    obtain ⟨c0, c1, c2⟩ := PAt.cells h
    have f2 := PAt.frozen h 2
    clear c0 c1 h hoff h1 h2
    go_enter Tryz.func7, Tryz.ntmps7
    go_wp2_with fail
    refine HW.out.mono ?_
    rintro e w1 ⟨rfl, rfl⟩
    go_wp2
    go_end0
    exact ⟨rfl, K, ⟨M, D, n, G, Q, HS.out⟩, HT.out⟩

section
variable (w : World) (K : Nat → Nat) (o p M : Nat) (D : DataW Unit) (L : Int) (G : List UInt8 → Nat) (Q : List UInt8 → Value) (d : DSt)
/-- 'change' of one name, of two; 'refusal' of one, of none: the names' slice is new. -/
def ChPost2 (ref : Nat) (e : Ending) (w' : World) : Prop := e = .returned (.int .i64 (ref : Int)) ∧ (∃ L', PAt w' K o p M D L' G Q (if ref ≠ 0 then d else stepped d)) ∧ Turned K K o w w'
theorem rd_one (a : List UInt8) (c : Array Value) (hc : c.toList = [S8 a]) : Rd (w.alloc (.cells c 9)) (w.heap.size + 1) (some ⟨w.heap.size, 0, none⟩) ([a].map S8) := fun _ => ⟨w.heap.size, 0, rfl, by omega, fun j u hu => by
  rw [Nat.zero_add]
  refine (World.cell?_alloc_at _ _ _ _ rfl).trans ?_
  rw [← Array.getElem?_toList, hc]
  exact hu⟩
theorem rd_two (a b : List UInt8) (c : Array Value) (hc : c.toList = [S8 a, S8 b]) : Rd (w.alloc (.cells c 9)) (w.heap.size + 1) (some ⟨w.heap.size, 0, none⟩) ([a, b].map S8) := fun _ => ⟨w.heap.size, 0, rfl, by omega, fun j u hu => by
  rw [Nat.zero_add]
  refine (World.cell?_alloc_at _ _ _ _ rfl).trans ?_
  rw [← Array.getElem?_toList, hc]
  exact hu⟩
variable {w K o p M D L G Q d}
theorem PAt.alloc (h : PAt w K o p M D L G Q d) (x : Obj) : PAt (w.alloc x) K o p M D L G Q d := h.keep (fun i hi _ => Below.heap_alloc w x i hi) (fun _ _ => rfl)
theorem turned_alloc (x : Obj) : Turned K K o w (w.alloc x) := turned_below ((Below.refl _ w).alloc (Nat.le_refl _) x)
theorem change_one (h : PAt w K o p M D L G Q d) (a : List UInt8) (ha : a.length ≤ maxLen) :
    Calls Tryz.prog 52 #[.pointer (some ⟨p, 0, none⟩), .slice (some ⟨w.heap.size, 0, none⟩) 1 1] (w.alloc (.cells #[.string ⟨a.toArray⟩] 9)) (ChPost2 w K o p M D G Q d (refused a a d)) := by
  have h1 := change_any _ K o p M D L G Q d (PAt.alloc h (.cells #[.string ⟨a.toArray⟩] 9)) _ _ 1 [a] (rd_one w a _ rfl) (fun s hs => by simp at hs; rw [hs]; exact ha) (by simp) (by unfold maxLen; omega)
  refine h1.mono fun e w' hp => ?_
  obtain ⟨k1, k2, k3⟩ := hp
  rw [refused_one] at k1 k2
  exact ⟨k1, k2, (turned_alloc _).trans k3⟩
theorem change_two (h : PAt w K o p M D L G Q d) (a b : List UInt8) (ha : a.length ≤ maxLen) (hb : b.length ≤ maxLen) :
    Calls Tryz.prog 52 #[.pointer (some ⟨p, 0, none⟩), .slice (some ⟨w.heap.size, 0, none⟩) 2 2] (w.alloc (.cells #[.string ⟨a.toArray⟩, .string ⟨b.toArray⟩] 9)) (ChPost2 w K o p M D G Q d (refused a b d)) := by
  have h1 := change_any _ K o p M D L G Q d (PAt.alloc h (.cells #[.string ⟨a.toArray⟩, .string ⟨b.toArray⟩] 9)) _ _ 2 [a, b] (rd_two w a b _ rfl) (fun s hs => by simp at hs; rcases hs with rfl | rfl <;> assumption) (by simp) (by unfold maxLen; omega)
  refine h1.mono fun e w' hp => ?_
  obtain ⟨k1, k2, k3⟩ := hp
  rw [refused_two] at k1 k2
  exact ⟨k1, k2, (turned_alloc _).trans k3⟩
theorem refusal_one (h : PAt w K o p M D L G Q d) (a : List UInt8) (ha : a.length ≤ maxLen) :
    Calls Tryz.prog 40 #[.pointer (some ⟨p, 0, none⟩), .slice (some ⟨w.heap.size, 0, none⟩) 1 1] (w.alloc (.cells #[.string ⟨a.toArray⟩] 9)) fun e w' => e = .returned (.int .i64 (refused a a d : Int)) ∧ w.alloc (.cells #[.string ⟨a.toArray⟩] 9) = w' := by
  have h1 := refusal_any _ K o p M D L G Q d (PAt.alloc h (.cells #[.string ⟨a.toArray⟩] 9)) _ _ 1 [a] (rd_one w a _ rfl) (fun s hs => by simp at hs; rw [hs]; exact ha) (by simp) (by unfold maxLen; omega)
  rw [refused_one] at h1
  exact h1
theorem refusal_zero (h : PAt w K o p M D L G Q d) :
    Calls Tryz.prog 40 #[.pointer (some ⟨p, 0, none⟩), .slice none 0 0] w fun e w' => e = .returned (.int .i64 ((if d.off then 23 else 0 : Nat) : Int)) ∧ w = w' :=
  refusal_any _ K o p M D L G Q d h 0 none 0 [] (fun h => absurd h (by simp)) (fun s hs => by cases hs) (by simp) (by unfold maxLen; omega)
theorem FileAt.cells {g : Nat} {v : Value} {f : DFile} (h : FileAt w K o g v f) : w.cell? ⟨g, 0, none⟩ = some v ∧ w.cell? ⟨g, 1, none⟩ = some (.int .i64 (f.synced : Int)) ∧ ∀ j, w.frozen? ⟨g, j, none⟩ = false := by
  have hs := h.box
  refine ⟨?_, ?_, fun j => ?_⟩
  · unfold World.cell?; rw [hs]; rfl
  · unfold World.cell?; rw [hs]; rfl
  · unfold World.frozen?; rw [hs]; simp
end
theorem feq_nil (b : Nat) (w : World) : (binOp .eql 67 (.pointer (some ⟨b, 0, none⟩)) (.pointer none)).run Tryz.prog w = .ok (.bool false) w := by kernel_rfl
theorem fnil_nil (w : World) : (binOp .eql 67 (.pointer none) (.pointer none)).run Tryz.prog w = .ok (.bool true) w := by kernel_rfl

set_option maxHeartbeats 800000 in
set_option maxRecDepth 100000 in
theorem delete_any (w : World) (K : Nat → Nat) (o p : Nat) (d : DSt) (a : List UInt8) (hd : PDisk w K o p d) (ha : a.length ≤ maxLen) :
    Calls Tryz.prog 28 #[.pointer (some ⟨p, 0, none⟩), .string ⟨a.toArray⟩] w (OPost w K o p (delete a d)) := by
  obtain ⟨M, D, L, G, Q, h⟩ := hd
  have HC := Lib.hid (change_one h a ha)
  by_cases hr : refused a a d ≠ 0
  · have HX := Lib.hid (show delete a d = (refused a a d, d) by unfold delete; rw [if_pos hr])
    have h1 : ((refused a a d : Int) != 0) = true := by simp; omega
    unfold ChPost2 at HC
    rw [if_pos hr] at HC
    clear h ha hr
    go_enter Tryz.func28, Tryz.ntmps28
    go_wp2_with fail
    refine HC.out.mono ?_
    rintro e w1 ⟨rfl, ⟨L1, hd1⟩, ht1⟩
    have HD1 := Lib.hid hd1
    have HT1 := Lib.hid ht1
    clear hd1 ht1
    go_wp2
    go_ret
    rw [HX.out]
    exact ⟨rfl, K, ⟨M, D, L1, G, Q, HD1.out⟩, HT1.out⟩
  · unfold ChPost2 at HC
    rw [if_neg hr, show refused a a d = 0 by omega] at HC
    have hfl := stepped_files d
    have hpl := place_look (s := a) h.good.1
    have HG := Lib.hid h.good
    cases hl : fileOf a d.files with
    | none =>
      rw [hl] at hpl
      have HX := Lib.hid (show delete a d = (21, stepped d) by unfold delete; rw [if_neg hr, hpl]; rfl)
      have HL := Lib.hid (show fileOf a (stepped d).files = none by rw [hfl, hl])
      have HA := Lib.hid ha
      have hfn := fnil_nil
      clear h ha hr hfl hpl hl
      go_enter Tryz.func28, Tryz.ntmps28
      go_wp2_with fail
      refine HC.out.mono ?_
      rintro e w1 ⟨rfl, ⟨L1, hd1⟩, ht1⟩
      have HD1 := Lib.hid hd1
      have HT1 := Lib.hid ht1
      obtain ⟨c0, _, _⟩ := PAt.cells hd1
      have hlk := look_nil hd1 HA.out HL.out
      unfold S8 at hlk
      clear hd1 ht1
      go_wp2
      go_ret
      rw [HX.out]
      exact ⟨rfl, K, ⟨M, D, L1, G, Q, HD1.out⟩, HT1.out⟩
    | some f =>
      rw [hl] at hpl
      have HX := Lib.hid (show delete a d = (0, { stepped d with files := del (place a d.files).1 d.files }) by unfold delete; rw [if_neg hr, hpl]; rfl)
      have HG2 := Lib.hid (good_delete (name := a) h.good)
      have HL := Lib.hid (show fileOf a (stepped d).files = some f by rw [hfl, hl])
      have HLK := Lib.hid (fun s' => look_del (a := a) s' h.good.1 (by rw [hl]; rfl))
      have HFL := Lib.hid hfl
      have HA := Lib.hid ha
      have hfn := feq_nil
      clear h ha hr hfl hpl hl
      go_enter Tryz.func28, Tryz.ntmps28
      go_wp2_with fail
      refine HC.out.mono ?_
      rintro e w1 ⟨rfl, ⟨L1, hd1⟩, ht1⟩
      have HD1 := Lib.hid hd1
      have HT1 := Lib.hid ht1
      obtain ⟨c0, _, _⟩ := PAt.cells hd1
      have hlk := look_some hd1 HA.out HL.out
      unfold S8 ptr at hlk
      clear hd1 ht1
      go_wp2_with (at_delete; refine wpList_delete_own _ rfl _ _ 58 9 rfl 67 keyed Tryz.underlying58 ptrR M _ D rfl HD1.out.map _ _ rfl (key a HA.out) ?_; intro w2 hown2 hturn2)
      have hg2 := hturn2.grown
      have HD2 : Hid (PAt w2 K o p M (D.del (.string a)) L1 G Q (delete a d).2) := Lib.hid (by
        have hfiles : (delete a d).2 = { stepped d with files := del (place a d.files).1 d.files } := by rw [HX.out]
        obtain ⟨es, clock, es', clock', hM, rfl⟩ := hturn2
        refine HD1.out.gone hown2 (fun i hi => Go.ChangeMaps.heap_setBlock_other hM _ hi) HG2.out (fun s' => ?_) (by rw [hfiles]) (by rw [hfiles]) (by rw [hfiles])
        rw [hfiles, HFL.out]
        exact HLK.out s')
      have HT2 : Hid (Turned K K o w w2) := Lib.hid (HT1.out.trans ⟨hg2.os, hg2.tape, hg2.output, hg2.size, fun i hi hk => hg2.block i hi (fun e => hk (by injection e with e; rw [e]; exact HD1.out.kM)), fun _ _ => rfl⟩)
      clear hown2 hturn2 hg2 hlk c0
      go_wp2
      go_ret
      refine ⟨by rw [HX.out]; rfl, K, ⟨M, _, L1, G, Q, HD2.out⟩, HT2.out⟩
end Go.Proofs.YtjninegpaoblfaaGreatDoor.PdOps

namespace Go.Proofs.YtjninegpaoblfaaGreatDoor.PdSync
open Go Go.RowKit Go.Maps Words DkSpec PdLook RefDisk PdDisk PdChange PdOps

section
variable {w w' : World} {K K' : Nat → Nat} {o p M : Nat} {D : DataW Unit} {L : Int} {G : List UInt8 → Nat} {Q : List UInt8 → Value} {d : DSt}
theorem FileAt.open_ {g : Nat} {v : Value} {f : DFile} (h : FileAt w K o g v f) : ∃ A c, v = .slice A f.data.length c ∧ f.data.length ≤ c ∧ c ≤ maxLen ∧ Rd w w.heap.size A (f.data.map B8) := by
  obtain ⟨A, c, h1, h2, h3, h4, _⟩ := RefTake.own_rd h.row
  exact ⟨A, c, h1, h2, h3, h4⟩
theorem turned_drew (h : Turned K K' o w w') : Turned K K' o w w'.drew := ⟨h.os, h.tape, h.output, h.size, h.block, h.kind⟩
/-- How many bytes are synced. -/
theorem PAt.setSynced (h : PAt w K o p M D L G Q d) {s : List UInt8} {f : DFile} (hl : fileOf s d.files = some f) (n : Nat) {d' : DSt} (hg : DkSpec.Good d') (hlook : ∀ s', fileOf s' d'.files = if s' = s then some { f with synced := n } else fileOf s' d.files) (h1 : d'.full = d.full) (h2 : d'.off = d.off) (h3 : d'.left = d.left) :
    PAt (w.setCell ⟨G s, 1, none⟩ (.int .i64 (n : Int))) K o p M D L G (fun s' => if s' = s then Q s else Q s') d' := by
  obtain ⟨_, hf⟩ := h.at_ s f hl
  have hq : ∀ q, (Q s).ownBlock = some q → q ≠ G s := fun q e => (h.ne_q hl e).2.2 s f hl
  refine h.file (f' := { f with synced := n }) (v' := Q s) (fun _ _ => rfl) hl ⟨heap_setCell_same w (G s) 1 _ _ _ hf.box, row_same hf.row (fun q e => heap_setCell_other w _ q _ (hq q e)), hf.kind, hf.rkind⟩ (fun i _ hi _ => heap_setCell_other w _ i _ hi) (fun q e => .inl e) hg hlook h1 h2 h3
end

set_option maxHeartbeats 800000 in
set_option maxRecDepth 100000 in
theorem sync_any (w : World) (K : Nat → Nat) (o p : Nat) (d : DSt) (a : List UInt8) (hd : PDisk w K o p d) (ha : a.length ≤ maxLen) :
    Calls Tryz.prog 30 #[.pointer (some ⟨p, 0, none⟩), .string ⟨a.toArray⟩] w (OPost w K o p (sync a d)) := by
  obtain ⟨M, D, L, G, Q, h⟩ := hd
  have HC := Lib.hid (change_one h a ha)
  by_cases hr : refused a a d ≠ 0
  · have HX := Lib.hid (show sync a d = (refused a a d, d) by unfold sync; rw [if_pos hr])
    have h1 : ((refused a a d : Int) != 0) = true := by simp; omega
    unfold ChPost2 at HC
    rw [if_pos hr] at HC
    clear h ha hr
    go_enter Tryz.func30, Tryz.ntmps30
    go_wp2_with fail
    refine HC.out.mono ?_
    rintro e w1 ⟨rfl, ⟨L1, hd1⟩, ht1⟩
    have HD1 := Lib.hid hd1
    have HT1 := Lib.hid ht1
    clear hd1 ht1
    go_wp2
    go_ret
    rw [HX.out]
    exact ⟨rfl, K, ⟨M, D, L1, G, Q, HD1.out⟩, HT1.out⟩
  · unfold ChPost2 at HC
    rw [if_neg hr, show refused a a d = 0 by omega] at HC
    have hfl := stepped_files d
    have hpl := place_look (s := a) h.good.1
    cases hl : fileOf a d.files with
    | none =>
      rw [hl] at hpl
      have HX := Lib.hid (show sync a d = (21, stepped d) by unfold sync; rw [if_neg hr, hpl]; rfl)
      have HL := Lib.hid (show fileOf a (stepped d).files = none by rw [hfl, hl])
      have HA := Lib.hid ha
      have hfn := fnil_nil
      clear h ha hr hfl hpl hl
      go_enter Tryz.func30, Tryz.ntmps30
      go_wp2_with fail
      refine HC.out.mono ?_
      rintro e w1 ⟨rfl, ⟨L1, hd1⟩, ht1⟩
      have HD1 := Lib.hid hd1
      have HT1 := Lib.hid ht1
      obtain ⟨c0, _, _⟩ := PAt.cells hd1
      have hlk := look_nil hd1 HA.out HL.out
      unfold S8 at hlk
      clear hd1 ht1
      go_wp2
      go_ret
      rw [HX.out]
      exact ⟨rfl, K, ⟨M, D, L1, G, Q, HD1.out⟩, HT1.out⟩
    | some f =>
      rw [hl] at hpl
      have HX := Lib.hid (show sync a d = (0, { stepped d with files := d.files.modify (place a d.files).1 fun f => { f with synced := f.data.length } }) by unfold sync; rw [if_neg hr, hpl]; rfl)
      have HG2 := Lib.hid (good_sync (name := a) h.good)
      have HL := Lib.hid (show fileOf a (stepped d).files = some f by rw [hfl, hl])
      have HLK : Hid (∀ s', fileOf s' (d.files.modify (place a d.files).1 fun f => { f with synced := f.data.length }) = if s' = a then some { f with synced := f.data.length } else fileOf s' d.files) := Lib.hid (fun s' => by
        rw [look_modify (a := a) s' (fun f => { f with synced := f.data.length }) (fun _ => rfl) h.good.1 (by rw [hl]; rfl), hl]; rfl)
      have HFL := Lib.hid hfl
      have HA := Lib.hid ha
      have hfn := feq_nil
      clear h ha hr hfl hpl hl
      go_enter Tryz.func30, Tryz.ntmps30
      go_wp2_with fail
      refine HC.out.mono ?_
      rintro e w1 ⟨rfl, ⟨L1, hd1⟩, ht1⟩
      have HT1 := Lib.hid ht1
      have HS : Hid (PAt (w1.setCell ⟨G a, 1, none⟩ (.int .i64 (f.data.length : Int))) K o p M D L1 G (fun s' => if s' = a then Q a else Q s') (sync a d).2) := Lib.hid (by
        have hfiles : (sync a d).2 = { stepped d with files := d.files.modify (place a d.files).1 fun f => { f with synced := f.data.length } } := by rw [HX.out]
        refine PAt.setSynced hd1 HL.out f.data.length HG2.out (fun s' => ?_) (by rw [hfiles]) (by rw [hfiles]) (by rw [hfiles])
        rw [hfiles, HFL.out]
        exact HLK.out s')
      obtain ⟨c0, _, _⟩ := PAt.cells hd1
      have hlk := look_some hd1 HA.out HL.out
      unfold S8 ptr at hlk
      obtain ⟨_, hfile⟩ := hd1.at_ a f HL.out
      have HT2 : Hid (Turned K K o w (w1.setCell ⟨G a, 1, none⟩ (.int .i64 (f.data.length : Int)))) := Lib.hid (HT1.out.trans (turned_setCell hfile.kind))
      obtain ⟨k0, k1, kz⟩ := FileAt.cells hfile
      obtain ⟨A, c, hv, hc1, hc2, _⟩ := FileAt.open_ hfile
      rw [hv] at k0
      have kz1 := kz 1
      unfold maxLen at hc2
      clear hd1 ht1 hfile hv kz
      generalize f.data.length = n at *
      go_wp2
      go_ret
      exact ⟨by rw [HX.out]; rfl, K, ⟨M, D, L1, G, _, HS.out⟩, HT2.out⟩

/-- A file's crash: its box's two cells. -/
def CrPost (w : World) (g : Nat) (A : Option Addr) (c n : Nat) (e : Ending) (w' : World) : Prop := e = .returned (.tuple #[]) ∧ w'.heap = ((w.setCell ⟨g, 1, none⟩ (.int .i64 (n : Int))).setCell ⟨g, 0, none⟩ (.slice A n c)).heap ∧ w'.os = w.os ∧ w'.tape = w.tape ∧ w'.output = w.output
set_option maxHeartbeats 800000 in
set_option maxRecDepth 100000 in
theorem crash_any (w : World) (K : Nat → Nat) (o g : Nat) (v : Value) (f : DFile) (k : Int) (h : FileAt w K o g v f) (hs : f.synced ≤ f.data.length) (A : Option Addr) (c : Nat) (hv : v = .slice A f.data.length c) (_hk1 : -9223372036854775808 ≤ k) (_hk2 : k ≤ 9223372036854775807) :
    Calls Tryz.prog 39 #[.pointer (some ⟨g, 0, none⟩), .int .i64 k] w (CrPost w g A c (stays f k)) := by
  obtain ⟨k0, k1, kz⟩ := FileAt.cells h
  obtain ⟨A', c', hv', hc1, hc2, _⟩ := FileAt.open_ h
  rw [hv] at hv' k0
  injection hv' with hA _ hcc
  subst hA hcc
  unfold maxLen at hc2
  have HST : Hid (stays f k = min f.data.length (f.synced + k.toNat)) := Lib.hid rfl
  generalize stays f k = z at *
  generalize f.data.length = n at *
  generalize f.synced = s at *
  have kz0 := kz 0
  have kz1 := kz 1
  have hz1 : (s : Int) + min (max k 0) ((n : Int) - (s : Int)) = (z : Int) := by rw [HST.out]; omega
  have hz2 : z ≤ n := by rw [HST.out]; omega
  clear h kz hv HST
  go_enter Tryz.func39, Tryz.ntmps39
  go_wp2
  go_quiet (fail)
  go_wp2
  go_region
  go_wp2
  go_end0
  exact ⟨rfl, rfl, rfl, rfl, rfl⟩
end Go.Proofs.YtjninegpaoblfaaGreatDoor.PdSync

