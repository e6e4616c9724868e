/- The program's log in memory ('LogR'), and the contracts of Number, Rotate, Sync, Append and Drop. Conditions: the disk and the log lie in memory as 'PDisk' and 'LogR' say; the tables lie as their texts lay them; the log's number is at most 10^9; what a disk has is within bounds. -/
import Derived.Test.YtapbjmbakpopcaaGreatDoorWpName
import Derived.Test.YtapbjmbakpopcaaGreatDoorWlSt
import Derived.Test.YtapbjmbakpopcaaGreatDoorPdApp
import Derived.Test.YtapbjmbakpopcaaGreatDoorFrame
import Derived.Deep.RegionHeld3
import Derived.Deep.QuietTactic
import Derived.BigQuiet
import Derived.WalkLawsBesides
namespace Go.Proofs.YtapbjmbakpopcaaGreatDoor.WpOps
open Go Go.RowKit Words DkSpec PdLook RefDisk PdDisk PdOps WlSpec WlName WlHeld WlLog WlMv Parts5 WlLaw WlSt WpPlain WpName Framed

structure LogR (w : World) (g p : Nat) (l : LSt) : Prop where
  box : w.heap[g]? = some (.cells #[.pointer (some ⟨p, 0, none⟩), .int .i64 (l.first : Int), .int .i64 (l.n : Int), .bool l.wrote] 65 (0, 0))
  one : 1 ≤ l.first
  num : 1 ≤ l.n
theorem eq_nil (g : Nat) (w : World) : (binOp .eql 29 (.pointer (some ⟨g, 0, none⟩)) (.pointer none)).run Tryz.prog w = .ok (.bool false) w := by kernel_rfl
section
variable {w w' : World} {g p : Nat} {l : LSt}
theorem LogR.cells (h : LogR w g p l) : w.cell? ⟨g, 0, none⟩ = some (.pointer (some ⟨p, 0, none⟩)) ∧ w.cell? ⟨g, 1, none⟩ = some (.int .i64 (l.first : Int)) ∧ w.cell? ⟨g, 2, none⟩ = some (.int .i64 (l.n : Int)) ∧ w.cell? ⟨g, 3, none⟩ = some (.bool l.wrote) := by
  refine ⟨?_, ?_, ?_, ?_⟩ <;> (unfold World.cell?; rw [h.box]; rfl)
theorem LogR.free (h : LogR w g p l) (j : Nat) : w.frozen? ⟨g, j, none⟩ = false := by
  unfold World.frozen?
  rw [h.box]
  simp
theorem LogR.keep (h : LogR w g p l) (hb : w'.heap[g]? = w.heap[g]?) : LogR w' g p l := ⟨hb.trans h.box, h.one, h.num⟩
theorem LogR.lt (h : LogR w g p l) : g < w.heap.size := (Array.getElem?_eq_some_iff.1 h.box).1
theorem LogR.below (h : LogR w g p l) (hb : Below w.heap.size w w') : LogR w' g p l := h.keep (hb.block g h.lt)
theorem LogR.wrote (h : LogR w g p l) (b : Bool) : LogR (w.setCell ⟨g, 3, none⟩ (.bool b)) g p { l with wrote := b } := ⟨heap_setCell_same w g 3 _ _ (.bool b) h.box, h.one, h.num⟩
theorem LogR.number (h : LogR w g p l) (n : Nat) (hn : 1 ≤ n) : LogR (w.setCell ⟨g, 2, none⟩ (.int .i64 (n : Int))) g p { l with n := n } := ⟨heap_setCell_same w g 2 _ _ (.int .i64 (n : Int)) h.box, h.one, hn⟩
theorem LogR.have_ (h : LogR w g p l) (n : Nat) (hn : 1 ≤ n) : LogR (w.setCell ⟨g, 1, none⟩ (.int .i64 (n : Int))) g p { l with first := n } := ⟨heap_setCell_same w g 1 _ _ (.int .i64 (n : Int)) h.box, hn, h.num⟩
end
theorem number_any (w : World) (p g : Nat) (l : LSt) (h : LogR w g p l) (_ : l.n ≤ most) : Calls Tryz.prog 30 #[.pointer (some ⟨g, 0, none⟩)] w fun e w' => e = .returned (.int .i64 (l.n : Int)) ∧ Below w.heap.size w w' := by
  obtain ⟨_, _, c2, _⟩ := h.cells
  have hne := eq_nil g
  obtain ⟨n, f, b⟩ := l
  simp only at c2 ⊢
  clear h
  go_enter Tryz.func30, Tryz.ntmps30
  go_wp2
  go_ret
  exact ⟨rfl, Below.refl _ _⟩

section
variable (w : World) (K : Nat → Nat) (p g : Nat) (d : DSt) (l : LSt)
/-- The log's own block changed. -/
theorem post_poke {w' : World} {K' : Nat → Nat} {d' : DSt} {l' : LSt} {j : Nat} {u : Value} {r : Nat} {x : Int} (hx : x = (r : Int)) (hd : PDisk w' K' 1 p d') (hk : K' g = 2) (hl : LogR (w'.setCell ⟨g, j, none⟩ u) g p l') (hm : Mv K K' (fun o => o = 1 ∨ o = 2) w w') :
    LgPost LogR w K p g (r, l', d') (.returned (.int .i64 x)) (w'.setCell ⟨g, j, none⟩ u) := by
  subst hx
  exact ⟨rfl, K', PDisk.mv hd (Mv.poke (S := fun o => o = 2) u hk) (by decide), hl, hm.trans (Mv.poke u (.inr hk))⟩
theorem post_same {w' : World} {K' : Nat → Nat} {d' : DSt} {l' : LSt} {r : Nat} {x : Int} (hx : x = (r : Int)) (hd : PDisk w' K' 1 p d') (hl : LogR w' g p l') (hm : Mv K K' (fun o => o = 1 ∨ o = 2) w w') : LgPost LogR w K p g (r, l', d') (.returned (.int .i64 x)) w' := by
  subst hx
  exact ⟨rfl, K', hd, hl, hm⟩
set_option maxHeartbeats 800000 in
theorem rotate_any (hd : PDisk w K 1 p d) (h : LogR w g p l) (hk : K g = 2) (hm : l.n ≤ most) :
    Calls Tryz.prog 16 #[.pointer (some ⟨g, 0, none⟩)] w (LgPost LogR w K p g ((rotateL l).1, (rotateL l).2, d)) := by
  obtain ⟨_, _, c2, c3⟩ := h.cells
  have f2 := h.free 2
  have f3 := h.free 3
  have hne := eq_nil g
  have HH := Lib.hid h
  have HD := Lib.hid hd
  have HK := Lib.hid hk
  obtain ⟨fi, n, b⟩ := l
  simp only at c2 c3 hm ⊢
  unfold most at hm
  clear h hd hk
  by_cases hmax : n = 1000000000
  · have d1 : ((n : Int) == 1000000000) = true := by simp; omega
    have HR : Hid (rotateL ⟨fi, n, b⟩ = (3, ⟨fi, n, b⟩)) := Lib.hid (by unfold rotateL; rw [if_pos (by unfold most; exact hmax)])
    clear hmax hm
    go_enter Tryz.func16, Tryz.ntmps16
    go_wp2
    go_ret
    rw [HR.out]
    exact post_same w K p g rfl HD.out HH.out (Mv.refl _ _ _)
  · have d1 : ((n : Int) == 1000000000) = false := beq_eq_false_iff_ne.2 (by omega)
    have hlt : n < 1000000000 := by omega
    cases b with
    | false =>
      have HR : Hid (rotateL ⟨fi, n, false⟩ = (0, ⟨fi, n, false⟩)) := Lib.hid (by unfold rotateL; rw [if_neg (by unfold most; exact hmax)]; rfl)
      clear hmax hm
      go_enter Tryz.func16, Tryz.ntmps16
      go_wp2
      go_ret
      rw [HR.out]
      exact post_same w K p g rfl HD.out HH.out (Mv.refl _ _ _)
    | true =>
      have HR : Hid (rotateL ⟨fi, n, true⟩ = (0, ⟨fi, n + 1, false⟩)) := Lib.hid (by unfold rotateL; rw [if_neg (by unfold most; exact hmax)]; rfl)
      have HN : Hid (LogR (w.setCell ⟨g, 2, none⟩ (.int .i64 ((n : Int) + 1))) g p ⟨fi, n + 1, true⟩) := Lib.hid (HH.out.number (n + 1) (by omega))
      have HN2 := Lib.hid (HN.out.wrote false)
      have hc3 := HN.out.cells.2.2.2
      have hf3 := HN.out.free 3
      clear hmax hm
      go_enter Tryz.func16, Tryz.ntmps16
      go_wp2
      go_ret
      rw [HR.out]
      exact post_poke w K p g rfl (PDisk.mv HD.out (Mv.poke (S := fun o => o = 2) _ HK.out) (by decide)) HK.out HN2.out (Mv.poke _ (.inr HK.out))
theorem lays_keep {w0 w : World} (h : WlTab.Lays w0 w0.heap.size) (hb : Below w0.heap.size w0 w) : WlTab.Lays w w.heap.size := (h.below hb).more hb.size
theorem drew_below (w : World) : Below w.heap.size w w.drew := ⟨rfl, rfl, rfl, Nat.le_refl _, fun _ _ => rfl⟩
theorem below_drew {w w' : World} {B : Nat} (h : Below B w.drew w') : Below B w w' := ⟨h.os, h.tape, h.output, h.size, h.block⟩
theorem old_le (a : List UInt8) (d : DSt) : (old a d.files).data.length ≤ tot d := by
  obtain ⟨h1, h2⟩ := place_le a d.files
  unfold old
  cases hp : (place a d.files).2 with
  | false => simp
  | true =>
    obtain ⟨h3, _⟩ := h2 hp
    simp only [if_true, List.getD, List.getElem?_eq_getElem h3, Option.getD_some]
    exact data_le (List.getElem_mem h3)
/-- What a call leaves behind Name and a change of the disk. -/
theorem turned_all {w1 w2 w3 : World} {K1 K3 : Nat → Nat} {l : LSt} (h : LogR w1 g p l) (hk : K1 g = 2) (hb : Below w1.heap.size w1 w2) (ht : Turned K1 K3 1 w2 w3) : LogR w3 g p l ∧ K3 g = 2 :=
  have h2 := h.below hb
  ⟨h2.keep (ht.block g h2.lt (by rw [hk]; decide)), (ht.kind g h2.lt).trans hk⟩
theorem mv_all {w1 w2 w3 : World} {K1 K3 : Nat → Nat} (hm : Mv K K1 (fun o => o = 1 ∨ o = 2) w w1) (hb : Below w1.heap.size w1 w2) (ht : Turned K1 K3 1 w2 w3) : Mv K K3 (fun o => o = 1 ∨ o = 2) w w3 :=
  (hm.trans (Mv.same hb)).trans (Mv.of ht (.inl rfl))
theorem disk_grow {w1 w2 : World} {K1 : Nat → Nat} (hd : PDisk w1 K1 1 p d) (hb : Below w1.heap.size w1 w2) : PDisk w2 K1 1 p d := hd.grow fun i hi => hb.block i hi

set_option maxHeartbeats 1600000 in
set_option maxRecDepth 100000 in
theorem sync_any (hd : PDisk w K 1 p d) (h : LogR w g p l) (hk : K g = 2) (_ : DkSpec.Good d) (hm : l.n ≤ most) (hL : WlTab.Lays w w.heap.size) :
    Calls Tryz.prog 14 #[.pointer (some ⟨g, 0, none⟩)] w (LgPost LogR w K p g ((syncL l d).1, l, (syncL l d).2)) := by
  obtain ⟨c0, _, c2, c3⟩ := h.cells
  have hne := eq_nil g
  have HH := Lib.hid h
  have HD := Lib.hid hd
  have HK := Lib.hid hk
  have HN := Lib.hid (name_ok_any w.drew l.n h.num hm (hL.below (drew_below w)))
  have HST : Hid (∀ w2, Below w.heap.size w w2 → w2.cell? ⟨g, 0, none⟩ = some (.pointer (some ⟨p, 0, none⟩)) ∧ w2.cell? ⟨g, 2, none⟩ = some (.int .i64 (l.n : Int)) ∧
      Hid (Calls Tryz.prog 40 #[.pointer (some ⟨p, 0, none⟩), .string ⟨(name l.n).toArray⟩] w2 (OPost w2 K 1 p (sync (name l.n) d)))) := Lib.hid fun w2 hb => by
    have h2 := (HH.out.below hb).cells
    exact ⟨h2.1, h2.2.2.1, Lib.hid (PdSync.sync_any w2 K 1 p d _ (disk_grow p d HD.out hb) (by have := name_len32 l.n hm; unfold maxLen; omega))⟩
  have HST2 : Hid (∀ w2 w3 K3, Below w.heap.size w w2 → Turned K K3 1 w2 w3 → w3.cell? ⟨g, 0, none⟩ = some (.pointer (some ⟨p, 0, none⟩)) ∧ w3.cell? ⟨g, 2, none⟩ = some (.int .i64 (l.n : Int))) := Lib.hid fun w2 w3 K3 hb ht => by
    have h2 := (turned_all p g HH.out HK.out hb ht).1.cells
    exact ⟨h2.1, h2.2.2.1⟩
  obtain ⟨fi, n, b⟩ := l
  simp only at c2 c3 HN HST HST2 hm ⊢
  clear h hd hk hL hm
  cases b with
  | false =>
    have HR : Hid (syncL ⟨fi, n, false⟩ d = (0, d)) := Lib.hid (by unfold syncL; rfl)
    go_enter Tryz.func14, Tryz.ntmps14
    go_wp2
    go_ret
    rw [HR.out]
    exact post_same w K p g rfl HD.out HH.out (Mv.refl _ _ _)
  | true =>
    have HR : Hid (syncL ⟨fi, n, true⟩ d = sync (name n) d) := Lib.hid (by unfold syncL; exact if_neg (by simp))
    generalize name n = nm at *
    generalize sync nm d = D at *
    go_enter Tryz.func14, Tryz.ntmps14
    go_wp2
    go_region_held3 (fun w' => w'.cell? ⟨g, 0, none⟩ = some (.pointer (some ⟨p, 0, none⟩)) ∧ w'.cell? ⟨g, 2, none⟩ = some (.int .i64 (n : Int))) (first | go_keep | assumption) (first
      | (go_at_call 5; refine HN.out.mono ?_; rintro e w2 ⟨rfl, hb2'⟩; have hb2 := below_drew hb2'; obtain ⟨k0, k2, HC⟩ := HST.out w2 hb2)
      | (go_at_call 40; refine HC.out.mono ?_; rintro e w3 ⟨rfl, K3, hd3, ht3⟩; obtain ⟨m0, m2⟩ := HST2.out w2 w3 K3 hb2 ht3))
    all_goals
      go_wp2
      go_ret
      rw [HR.out]
      exact post_same w K p g rfl hd3 (turned_all p g HH.out HK.out hb2 ht3).1 (mv_all w K (Mv.refl _ _ _) hb2 ht3)
end
end Go.Proofs.YtapbjmbakpopcaaGreatDoor.WpOps
