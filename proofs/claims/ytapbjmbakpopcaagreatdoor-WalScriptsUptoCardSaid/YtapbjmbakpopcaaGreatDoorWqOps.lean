/- The document's own log in memory ('RLogR'), and the contracts of its Rotate and Sync. Conditions: the disk and the log lie in memory as 'RefD' and 'RLogR' say; the log's number is at most 10^9. -/
import Derived.Test.YtapbjmbakpopcaaGreatDoorWqName
import Derived.Test.YtapbjmbakpopcaaGreatDoorWqMv
import Derived.Test.YtapbjmbakpopcaaGreatDoorWlTots
import Derived.Test.YtapbjmbakpopcaaGreatDoorFrame
import Derived.Deep.RegionHeld3
import Derived.Deep.QuietTactic
import Derived.BigQuiet
import Derived.WalkLawsBesides
namespace Go.Proofs.YtapbjmbakpopcaaGreatDoor.WqOps
open Go Go.RowKit Words DkSpec PdLook RefDisk PdDisk RefOps5 WlSpec WlName WlHeld WlLog WlMv Parts5 WlLaw WlSt WpPlain WqMv WqName Framed

/-- What a call of the document's log leaves. -/
def RgPost (LogR : World → Nat → Nat → LSt → Prop) (w : World) (K : Nat → Nat) (p g : Nat) (r : Nat × LSt × DSt) (e : Ending) (w' : World) : Prop :=
  e = .returned (.int .i64 (r.1 : Int)) ∧ ∃ K', RefD w' K' 4 p r.2.2 ∧ LogR w' g p r.2.1 ∧ Mv K K' (fun o => o = 4 ∨ o = 5) w w'
/-- A count of changes that 64 bits hold. -/
def Lim (d : DSt) : Prop := -1 ≤ d.left ∧ d.left ≤ 9223372036854775807
structure RLogR (w : World) (g p : Nat) (l : LSt) : Prop where
  box : w.heap[g]? = some (.cells #[.pointer (some ⟨p, 0, none⟩), .int .i64 (l.first : Int), .int .i64 (l.n : Int), .bool l.wrote] 53 (0, 0))
  one : 1 ≤ l.first
  num : 1 ≤ l.n
theorem name_len32 (n : Nat) (h : n ≤ most) : (name n).length ≤ 32 := by
  have := name_ok h
  unfold DkSpec.nameOk at this
  simp only [Bool.and_eq_true, decide_eq_true_eq] at this
  omega
theorem eq_nil (g : Nat) (w : World) : (binOp .eql 34 (.pointer (some ⟨g, 0, none⟩)) (.pointer none)).run Tryz.prog w = .ok (.bool false) w := by kernel_rfl
section
variable {w w' : World} {g p : Nat} {l : LSt}
theorem RLogR.cells (h : RLogR w g p l) : w.cell? ⟨g, 0, none⟩ = some (.pointer (some ⟨p, 0, none⟩)) ∧ w.cell? ⟨g, 1, none⟩ = some (.int .i64 (l.first : Int)) ∧ w.cell? ⟨g, 2, none⟩ = some (.int .i64 (l.n : Int)) ∧ w.cell? ⟨g, 3, none⟩ = some (.bool l.wrote) := by
  refine ⟨?_, ?_, ?_, ?_⟩ <;> (unfold World.cell?; rw [h.box]; rfl)
theorem RLogR.free (h : RLogR w g p l) (j : Nat) : w.frozen? ⟨g, j, none⟩ = false := by
  unfold World.frozen?
  rw [h.box]
  simp
theorem RLogR.keep (h : RLogR w g p l) (hb : w'.heap[g]? = w.heap[g]?) : RLogR w' g p l := ⟨hb.trans h.box, h.one, h.num⟩
theorem RLogR.lt (h : RLogR w g p l) : g < w.heap.size := (Array.getElem?_eq_some_iff.1 h.box).1
theorem RLogR.below (h : RLogR w g p l) (hb : Below w.heap.size w w') : RLogR w' g p l := h.keep (hb.block g h.lt)
theorem RLogR.wrote (h : RLogR w g p l) (b : Bool) : RLogR (w.setCell ⟨g, 3, none⟩ (.bool b)) g p { l with wrote := b } := ⟨heap_setCell_same w g 3 _ _ (.bool b) h.box, h.one, h.num⟩
theorem RLogR.number (h : RLogR w g p l) (n : Nat) (hn : 1 ≤ n) : RLogR (w.setCell ⟨g, 2, none⟩ (.int .i64 (n : Int))) g p { l with n := n } := ⟨heap_setCell_same w g 2 _ _ (.int .i64 (n : Int)) h.box, h.one, hn⟩
theorem RLogR.have_ (h : RLogR w g p l) (n : Nat) (hn : 1 ≤ n) : RLogR (w.setCell ⟨g, 1, none⟩ (.int .i64 (n : Int))) g p { l with first := n } := ⟨heap_setCell_same w g 1 _ _ (.int .i64 (n : Int)) h.box, hn, h.num⟩
end
section
variable (w : World) (K : Nat → Nat) (p g : Nat) (d : DSt) (l : LSt)
/-- The log's own block changed. -/
theorem post_poke {w' : World} {K' : Nat → Nat} {d' : DSt} {l' : LSt} {j : Nat} {u : Value} {r : Nat} {x : Int} (hx : x = (r : Int)) (hd : RefD w' K' 4 p d') (hk : K' g = 5) (hl : RLogR (w'.setCell ⟨g, j, none⟩ u) g p l') (hm : Mv K K' (fun o => o = 4 ∨ o = 5) w w') :
    RgPost RLogR w K p g (r, l', d') (.returned (.int .i64 x)) (w'.setCell ⟨g, j, none⟩ u) := by
  subst hx
  exact ⟨rfl, K', RefD.mv hd (Mv.poke (S := fun o => o = 5) u hk) (by decide) (by decide), hl, hm.trans (Mv.poke u (.inr hk))⟩
theorem post_same {w' : World} {K' : Nat → Nat} {d' : DSt} {l' : LSt} {r : Nat} {x : Int} (hx : x = (r : Int)) (hd : RefD w' K' 4 p d') (hl : RLogR w' g p l') (hm : Mv K K' (fun o => o = 4 ∨ o = 5) w w') : RgPost RLogR w K p g (r, l', d') (.returned (.int .i64 x)) w' := by
  subst hx
  exact ⟨rfl, K', hd, hl, hm⟩
set_option maxHeartbeats 800000 in
theorem rotate_any (hd : RefD w K 4 p d) (h : RLogR w g p l) (hk : K g = 5) (hm : l.n ≤ most) :
    Calls Tryz.prog 17 #[.pointer (some ⟨g, 0, none⟩)] w (RgPost RLogR w K p g ((rotateL l).1, (rotateL l).2, d)) := by
  obtain ⟨_, _, c2, c3⟩ := h.cells
  have f2 := h.free 2
  have f3 := h.free 3
  have hne := eq_nil g
  have HH := Lib.hid h
  have HD := Lib.hid hd
  have HK := Lib.hid hk
  obtain ⟨fi, n, b⟩ := l
  simp only at c2 c3 hm ⊢
  unfold most at hm
  clear h hd hk
  by_cases hmax : n = 1000000000
  · have d1 : ((n : Int) == 1000000000) = true := by simp; omega
    have HR : Hid (rotateL ⟨fi, n, b⟩ = (3, ⟨fi, n, b⟩)) := Lib.hid (by unfold rotateL; rw [if_pos (by unfold most; exact hmax)])
    clear hmax hm
    go_enter Tryz.func17, Tryz.ntmps17
    go_wp2
    go_ret
    rw [HR.out]
    exact post_same w K p g rfl HD.out HH.out (Mv.refl _ _ _)
  · have d1 : ((n : Int) == 1000000000) = false := beq_eq_false_iff_ne.2 (by omega)
    have hlt : n < 1000000000 := by omega
    cases b with
    | false =>
      have HR : Hid (rotateL ⟨fi, n, false⟩ = (0, ⟨fi, n, false⟩)) := Lib.hid (by unfold rotateL; rw [if_neg (by unfold most; exact hmax)]; rfl)
      clear hmax hm
      go_enter Tryz.func17, Tryz.ntmps17
      go_wp2
      go_ret
      rw [HR.out]
      exact post_same w K p g rfl HD.out HH.out (Mv.refl _ _ _)
    | true =>
      have HR : Hid (rotateL ⟨fi, n, true⟩ = (0, ⟨fi, n + 1, false⟩)) := Lib.hid (by unfold rotateL; rw [if_neg (by unfold most; exact hmax)]; rfl)
      have HN : Hid (RLogR (w.setCell ⟨g, 2, none⟩ (.int .i64 ((n : Int) + 1))) g p ⟨fi, n + 1, true⟩) := Lib.hid (HH.out.number (n + 1) (by omega))
      have HN2 := Lib.hid (HN.out.wrote false)
      have hc3 := HN.out.cells.2.2.2
      have hf3 := HN.out.free 3
      clear hmax hm
      go_enter Tryz.func17, Tryz.ntmps17
      go_wp2
      go_ret
      rw [HR.out]
      exact post_poke w K p g rfl (RefD.mv HD.out (Mv.poke (S := fun o => o = 5) _ HK.out) (by decide) (by decide)) HK.out HN2.out (Mv.poke _ (.inr HK.out))
theorem drew_below (w : World) : Below w.heap.size w w.drew := ⟨rfl, rfl, rfl, Nat.le_refl _, fun _ _ => rfl⟩
theorem below_drew {w w' : World} {B : Nat} (h : Below B w.drew w') : Below B w w' := ⟨h.os, h.tape, h.output, h.size, h.block⟩
theorem old_le (a : List UInt8) (d : DSt) : (old a d.files).data.length ≤ tot d := by
  obtain ⟨h1, h2⟩ := place_le a d.files
  unfold old
  cases hp : (place a d.files).2 with
  | false => simp
  | true =>
    obtain ⟨h3, _⟩ := h2 hp
    simp only [if_true, List.getD, List.getElem?_eq_getElem h3, Option.getD_some]
    exact data_le (List.getElem_mem h3)
/-- What a call leaves behind Name and a change of the disk. -/
theorem turned_all {w1 w2 w3 : World} {K1 K3 : Nat → Nat} {l : LSt} (h : RLogR w1 g p l) (hk : K1 g = 5) (hb : Below w1.heap.size w1 w2) (ht : Turned K1 K3 4 w2 w3) : RLogR w3 g p l ∧ K3 g = 5 :=
  have h2 := h.below hb
  ⟨h2.keep (ht.block g h2.lt (by rw [hk]; decide)), (ht.kind g h2.lt).trans hk⟩
theorem mv_all {w1 w2 w3 : World} {K1 K3 : Nat → Nat} (hm : Mv K K1 (fun o => o = 4 ∨ o = 5) w w1) (hb : Below w1.heap.size w1 w2) (ht : Turned K1 K3 4 w2 w3) : Mv K K3 (fun o => o = 4 ∨ o = 5) w w3 :=
  (hm.trans (Mv.same hb)).trans (Mv.of ht (.inl rfl))
theorem disk_grow {w1 w2 : World} {K1 : Nat → Nat} (hd : RefD w1 K1 4 p d) (hb : Below w1.heap.size w1 w2) : RefD w2 K1 4 p d := RefD.below hd hb

set_option maxHeartbeats 1600000 in
set_option maxRecDepth 100000 in
theorem sync_any (hd : RefD w K 4 p d) (h : RLogR w g p l) (hk : K g = 5) (_ : DkSpec.Good d) (hm : l.n ≤ most) (hlim : Lim d) :
    Calls Tryz.prog 15 #[.pointer (some ⟨g, 0, none⟩)] w (RgPost RLogR w K p g ((syncL l d).1, l, (syncL l d).2)) := by
  obtain ⟨c0, _, c2, c3⟩ := h.cells
  have hne := eq_nil g
  have HH := Lib.hid h
  have HD := Lib.hid hd
  have HK := Lib.hid hk
  have HN := Lib.hid (name_ok_any w.drew l.n h.num hm)
  have HST : Hid (∀ w2, Below w.heap.size w w2 → w2.cell? ⟨g, 0, none⟩ = some (.pointer (some ⟨p, 0, none⟩)) ∧ w2.cell? ⟨g, 2, none⟩ = some (.int .i64 (l.n : Int)) ∧
      Hid (Calls Tryz.prog 41 #[.pointer (some ⟨p, 0, none⟩), .string ⟨(name l.n).toArray⟩] w2 (OPost w2 K 4 p (sync (name l.n) d)))) := Lib.hid fun w2 hb => by
    have h2 := (HH.out.below hb).cells
    exact ⟨h2.1, h2.2.2.1, Lib.hid (RefSync5.sync_any w2 K 4 p d _ (disk_grow p d HD.out hb) (by decide) (by have := name_len32 l.n hm; unfold maxLen; omega) hlim.1 hlim.2)⟩
  have HST2 : Hid (∀ w2 w3 K3, Below w.heap.size w w2 → Turned K K3 4 w2 w3 → w3.cell? ⟨g, 0, none⟩ = some (.pointer (some ⟨p, 0, none⟩)) ∧ w3.cell? ⟨g, 2, none⟩ = some (.int .i64 (l.n : Int))) := Lib.hid fun w2 w3 K3 hb ht => by
    have h2 := (turned_all p g HH.out HK.out hb ht).1.cells
    exact ⟨h2.1, h2.2.2.1⟩
  obtain ⟨fi, n, b⟩ := l
  simp only at c2 c3 HN HST HST2 hm ⊢
  clear h hd hk hlim hm
  cases b with
  | false =>
    have HR : Hid (syncL ⟨fi, n, false⟩ d = (0, d)) := Lib.hid (by unfold syncL; rfl)
    go_enter Tryz.func15, Tryz.ntmps15
    go_wp2
    go_ret
    rw [HR.out]
    exact post_same w K p g rfl HD.out HH.out (Mv.refl _ _ _)
  | true =>
    have HR : Hid (syncL ⟨fi, n, true⟩ d = sync (name n) d) := Lib.hid (by unfold syncL; exact if_neg (by simp))
    generalize name n = nm at *
    generalize sync nm d = D at *
    go_enter Tryz.func15, Tryz.ntmps15
    go_wp2
    go_region_held3 (fun w' => w'.cell? ⟨g, 0, none⟩ = some (.pointer (some ⟨p, 0, none⟩)) ∧ w'.cell? ⟨g, 2, none⟩ = some (.int .i64 (n : Int))) (first | go_keep | assumption) (first
      | (go_at_call 6; refine HN.out.mono ?_; rintro e w2 ⟨rfl, hb2'⟩; have hb2 := below_drew hb2'; obtain ⟨k0, k2, HC⟩ := HST.out w2 hb2)
      | (go_at_call 41; refine HC.out.mono ?_; rintro e w3 ⟨rfl, K3, hd3, ht3⟩; obtain ⟨m0, m2⟩ := HST2.out w2 w3 K3 hb2 ht3))
    all_goals
      go_wp2
      go_ret
      rw [HR.out]
      exact post_same w K p g rfl hd3 (turned_all p g HH.out HK.out hb2 ht3).1 (mv_all w K (Mv.refl _ _ _) hb2 ht3)
end
end Go.Proofs.YtapbjmbakpopcaaGreatDoor.WqOps
