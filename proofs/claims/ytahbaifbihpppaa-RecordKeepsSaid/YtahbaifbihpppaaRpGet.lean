/- record.Get, over a contract of record.Check. Conditions: the bytes lie in memory. -/
import Derived.Test.YtahbaifbihpppaaRpLabRec
import Derived.Test.YtahbaifbihpppaaRcLaw
import Derived.BigRegion
namespace Go.Proofs.Ytahbaifbihpppaa.RpGet
open Go Go.RowKit Words AppN Less LbSpec LbText LbMem LbRef LbCmp RcSpec RcAll RcMem RcRef RcRefRd RpPlain RpRead RpLabs RpRec UtOwn LpBoth LbCanon Plain RcLaw

theorem rrec_fits {b : List UInt8} {s : RS} (h : s.2 = 0 ∨ In b s) : Fits (rrec b s).1 := by
  obtain ⟨h1, h2⟩ := rnum_in h
  obtain ⟨h3, h4⟩ := rnum_in (b := b) (.inr h1)
  exact ⟨zag64 h2, h4⟩
/-- What Check is asked for. -/
def ChkAny : Prop := ∀ (w : World) (m : RM), Okm w m → Calls Try.prog 13 #[aggR m] w fun e w' => e = .returned (.int .i64 (check m.1 : Int)) ∧ Below w.heap.size w w'
/-- What Get leaves. -/
def PgPost (w : World) (r : Nat × Rec × Int) (e : Ending) (w' : World) : Prop :=
  ∃ X nx cx, e = .returned (.tuple #[aggR (r.2.1, X, nx, cx), .int .i64 r.2.2, .int .i64 (r.1 : Int)]) ∧ w'.ownsRow w.heap.size 46 2 (.slice X nx cx) r.2.1.labels.length (flat r.2.1.labels) ∧ Below w.heap.size w w'
/-- The world ahead of the reading: the result's box, the reader. -/
def W4 (w : World) (n : Nat) (A : Option Addr) (c : Nat) (at_ : Int) : World := (w.alloc (.cells #[.int .i64 0, .int .u64 0, .slice .none 0 0, .string ⟨#[]⟩] 33)).alloc (.cells #[.slice A n c, .int .i64 at_, .int .i64 0] 68)
/-- On the way: the result's box, the reader, r's box; the labels in a row of the call's own. -/
structure USt (w : World) (b : List UInt8) (A : Option Addr) (c : Nat) (r : Rec) (X : Option Addr) (nx cx g : Nat) (s : RS) (wr : World) : Prop where
  b0 : wr.heap[w.heap.size]? = some (.cells #[.int .i64 0, .int .u64 0, .slice .none 0 0, .string ⟨#[]⟩] 33 (0, 0))
  b2 : wr.heap[g]? = some (.cells #[.int .i64 r.time, .int .u64 (r.seq : Int), .slice X nx cx, .string ⟨r.line.toArray⟩] 33 (0, 0))
  own : wr.ownsRow (w.heap.size + 2) 46 2 (.slice X nx cx) r.labels.length (flat r.labels)
  rb : RBox wr (w.heap.size + 1) b A c s
  below : Below w.heap.size w wr
  far : w.heap.size + 1 < g
variable {w wr w1 : World} {b : List UInt8} {A X : Option Addr} {c nx cx g : Nat} {r : Rec} {s : RS}
theorem USt.call (h : USt w b A c r X nx cx g s wr) (hb : Below wr.heap.size wr w1) : USt w b A c r X nx cx g s w1 := by
  have h1 := h.rb.lt
  have h2 : g < wr.heap.size := (Array.getElem?_eq_some_iff.1 h.b2).1
  exact ⟨(hb.block _ (by omega)).trans h.b0, (hb.block _ h2).trans h.b2, own_keepN h.own hb, h.rb.below hb, h.below.trans (hb.mono h.below.size), h.far⟩
theorem USt.sete (h : USt w b A c r X nx cx g s wr) (e : Nat) : USt w b A c r X nx cx g (s.1, e) (wr.setCell ⟨w.heap.size + 1, 2, .none⟩ (.int .i64 (e : Int))) :=
  ⟨(Below.heap_setCell _ _ _ _ (by simp)).trans h.b0, (Below.heap_setCell _ _ _ _ (by have := h.far; simp; omega)).trans h.b2, ownsRow_setCell_below h.own (by simp) _, h.rb.set2 e, h.below.setCell (by simp) _, h.far⟩
theorem USt.facts (h : USt w b A c r X nx cx g s wr) :
    (wr.cell? ⟨w.heap.size, 0, .none⟩ = some (.int .i64 0) ∧ wr.cell? ⟨w.heap.size, 1, .none⟩ = some (.int .u64 0) ∧ wr.cell? ⟨w.heap.size, 2, .none⟩ = some (.slice .none 0 0) ∧ wr.cell? ⟨w.heap.size, 3, .none⟩ = some (.string ⟨#[]⟩)) ∧
    (wr.frozen? ⟨w.heap.size, 0, .none⟩ = false ∧ wr.frozen? ⟨w.heap.size, 1, .none⟩ = false ∧ wr.frozen? ⟨w.heap.size, 2, .none⟩ = false ∧ wr.frozen? ⟨w.heap.size, 3, .none⟩ = false) ∧
    (wr.cell? ⟨g, 0, .none⟩ = some (.int .i64 r.time) ∧ wr.cell? ⟨g, 1, .none⟩ = some (.int .u64 (r.seq : Int)) ∧ wr.cell? ⟨g, 2, .none⟩ = some (.slice X nx cx) ∧ wr.cell? ⟨g, 3, .none⟩ = some (.string ⟨r.line.toArray⟩)) :=
  ⟨⟨box_cell h.b0 rfl, box_cell h.b0 rfl, box_cell h.b0 rfl, box_cell h.b0 rfl⟩, ⟨box_frozen h.b0, box_frozen h.b0, box_frozen h.b0, box_frozen h.b0⟩, ⟨box_cell h.b2 rfl, box_cell h.b2 rfl, box_cell h.b2 rfl, box_cell h.b2 rfl⟩⟩
theorem USt.fin (h : USt w b A c r X nx cx g s wr) (u0 u1 u2 u3 : Value) :
    Below w.heap.size w ((((wr.setCell ⟨w.heap.size, 0, .none⟩ u0).setCell ⟨w.heap.size, 1, .none⟩ u1).setCell ⟨w.heap.size, 2, .none⟩ u2).setCell ⟨w.heap.size, 3, .none⟩ u3) ∧
    ((((wr.setCell ⟨w.heap.size, 0, .none⟩ u0).setCell ⟨w.heap.size, 1, .none⟩ u1).setCell ⟨w.heap.size, 2, .none⟩ u2).setCell ⟨w.heap.size, 3, .none⟩ u3).ownsRow w.heap.size 46 2 (.slice X nx cx) r.labels.length (flat r.labels) :=
  ⟨(((h.below.setCell (Nat.le_refl _) _).setCell (Nat.le_refl _) _).setCell (Nat.le_refl _) _).setCell (Nat.le_refl _) _,
   own_monoN (ownsRow_setCell_below (ownsRow_setCell_below (ownsRow_setCell_below (ownsRow_setCell_below h.own (by simp) _) (by simp) _) (by simp) _) (by simp) _) (by omega)⟩
theorem USt.drew (h : USt w b A c r X nx cx g s wr) : USt w b A c r X nx cx g s wr.drew := ⟨h.b0, h.b2, h.own, h.rb.drew, ⟨h.below.os, h.below.tape, h.below.output, h.below.size, h.below.block⟩, h.far⟩

set_option maxHeartbeats 6400000 in
set_option maxRecDepth 100000 in
theorem get_walk (P : ChkAny) (w : World) (b : List UInt8) (A : Option Addr) (c : Nat) (at_ : Int) (hr : Rd w w.heap.size A (b.map B8)) (hc : b.length ≤ c) (hm : c ≤ maxLen) :
    Calls Try.prog 17 #[.slice A b.length c, .int .i64 at_] w (PgPost w (rget b at_)) := by
  have hz0 : (w.alloc (.cells #[.int .i64 0, .int .u64 0, .slice .none 0 0, .string ⟨#[]⟩] 33)).heap.size = w.heap.size + 1 := by simp
  have hbW : Below w.heap.size w (W4 w b.length A c at_) := by unfold W4; exact ((Below.refl _ w).alloc (Nat.le_refl _) _).alloc (by simp) _
  have hzW : (W4 w b.length A c at_).heap.size = w.heap.size + 2 := by unfold W4; simp
  have hrb : RBox (W4 w b.length A c at_) (w.heap.size + 1) b A c (at_, 0) := by
    refine ⟨?_, (hr.below hbW).more (Nat.le_succ _), hc, hm⟩
    unfold W4
    have h := heap_alloc_new (w.alloc (.cells #[.int .i64 0, .int .u64 0, .slice .none 0 0, .string ⟨#[]⟩] 33)) (.cells #[.slice A b.length c, .int .i64 at_, .int .i64 0] 68)
    rwa [hz0] at h
  have hb0 : (W4 w b.length A c at_).heap[w.heap.size]? = some (.cells #[.int .i64 0, .int .u64 0, .slice .none 0 0, .string ⟨#[]⟩] 33 (0, 0)) := by
    unfold W4
    exact (((Below.refl _ _).alloc (Nat.le_refl _) _).block _ (by simp)).trans (heap_alloc_new w _)
  have HREC := Lib.hid (record_any hrb (.inl rfl))
  have HF := Lib.hid (rrec_fits (b := b) (s := (at_, 0)) (.inl rfl))
  have HBW := Lib.hid hbW
  have HB0 := Lib.hid hb0
  have HZW := Lib.hid hzW
  have HRD := Lib.hid hr
  obtain ⟨T, hT⟩ : ∃ T, rget b at_ = T := ⟨_, rfl⟩
  rw [hT]
  unfold rget at hT
  generalize rrec b (at_, 0) = R at *
  obtain ⟨⟨t, sq, ls, line⟩, a1, e1⟩ := R
  have HT := Lib.hid hT
  have HW4 : Hid (W4 w b.length A c at_ = W4 w b.length A c at_) := Lib.hid rfl
  unfold KPost at HREC
  unfold W4 at HREC
  clear hT hbW hb0 hrb hr hz0 hzW
  go_enter Try.func17, Try.ntmps17
  go_wp2_with fail
  refine HREC.out.mono ?_
  rintro e w1 ⟨X, nx, cx, rfl, hown, hb1, hg1⟩
  have HU : Hid (USt w b A c ⟨t, sq, ls, line⟩ X nx cx w1.heap.size (a1, e1) (w1.alloc (.cells #[.int .i64 t, .int .u64 (sq : Int), .slice X nx cx, .string ⟨line.toArray⟩] 33))) := Lib.hid (by
    have hg : (W4 w b.length A c at_).grownBy w1 (some (w.heap.size + 1)) := hg1
    have hl := hb1.lt
    have hal : Below w1.heap.size w1 (w1.alloc (.cells #[.int .i64 t, .int .u64 (sq : Int), .slice X nx cx, .string ⟨line.toArray⟩] 33)) := (Below.refl _ w1).alloc (Nat.le_refl _) _
    refine ⟨(hal.block _ (by omega)).trans ((hg.block _ (by rw [HZW.out]; omega) (fun e => by have := Option.some.inj e; omega)).trans HB0.out), heap_alloc_new w1 _, own_keepN (own_monoN hown (by have := HZW.out; unfold W4 at this; omega)) hal, hb1.below hal, ?_, hl⟩
    exact (HBW.out.grown hg HBW.out.size (fun k hk => by have := Option.some.inj hk; omega)).trans (hal.mono (by omega)))
  have HG : Hid (w.heap.size + 1 < w1.heap.size) := Lib.hid hb1.lt
  obtain ⟨X', cx', hX, hlb⟩ := own_lb HU.out.own
  simp only [Value.slice.injEq] at hX
  obtain ⟨rfl, rfl, rfl⟩ := hX
  have HOK : Hid (Okm (w1.alloc (.cells #[.int .i64 t, .int .u64 (sq : Int), .slice X ls.length cx, .string ⟨line.toArray⟩] 33)) (⟨t, sq, ls, line⟩, X, ls.length, cx)) := Lib.hid ⟨hlb, HF.out⟩
  clear hown hb1 hg1 HREC hlb HF
  unfold aggR slV S8
  simp only
  obtain ⟨⟨k0, k1, k2⟩, ⟨z0, z1, z2⟩⟩ := HU.out.rb.facts
  obtain ⟨⟨a0, a1', a2, a3⟩, ⟨y0, y1, y2, y3⟩, ⟨g0, g1, g2, g3⟩⟩ := HU.out.facts
  simp only at k1 k2 g0 g1 g2 g3
  by_cases he : e1 = 0
  · subst he
    have HCK := Lib.hid (P _ _ HOK.out)
    unfold aggR slV S8 at HCK
    simp only at HCK
    obtain ⟨ck, hck⟩ : ∃ ck, check ⟨t, sq, ls, line⟩ = ck := ⟨_, rfl⟩
    rw [hck] at HCK
    have HC := Lib.hid hck
    clear hck
    go_wp2_with fail
    refine HCK.out.mono ?_
    rintro e w2 ⟨rfl, hb2⟩
    have HU2 := Lib.hid (HU.out.call hb2)
    have HU3 := Lib.hid (HU2.out.sete ck)
    clear k0 k1 k2 z0 z1 z2 a0 a1' a2 a3 y0 y1 y2 y3 g0 g1 g2 g3 hb2 HCK HU
    obtain ⟨⟨k0, k1, k2⟩, ⟨z0, z1, z2⟩⟩ := HU2.out.rb.facts
    obtain ⟨⟨b0, b1, b2, b3⟩, ⟨v0, v1, v2, v3⟩, ⟨h0, h1, h2, h3⟩⟩ := HU2.out.facts
    simp only at k1 k2 h0 h1 h2 h3
    obtain ⟨⟨_, _, q2⟩, ⟨_, _, x2⟩⟩ := HU3.out.rb.facts
    obtain ⟨⟨a0, a1', a2, a3⟩, ⟨y0, y1, y2, y3⟩, ⟨g0, g1, g2, g3⟩⟩ := HU3.out.facts
    simp only at q2 g0 g1 g2 g3
    by_cases hc0 : ck = 0
    · have hj : ((ck : Int) != 0) = false := by simp [hc0]
      have HJ : Hid (check ⟨t, sq, ls, line⟩ = 0) := Lib.hid (HC.out.trans hc0)
      clear hc0
      have HE : Hid (T = (0, ⟨t, sq, ls, line⟩, a1)) := Lib.hid (by rw [← HT.out]; unfold rend; simp [HJ.out])
      clear HT
      go_wp2
      go_region
      all_goals
        go_wp2
        refine bodyPost_ret (v := .tuple #[.agg #[.int .i64 t, .int .u64 (sq : Int), .slice X ls.length cx, .string ⟨line.toArray⟩], .int .i64 a1, .int .i64 0]) ?_ rfl ?_
        · rw [results_cell3 rfl]
          go_simp
        · rw [HE.out]
          exact ⟨X, ls.length, cx, rfl, (HU3.out.drew.fin _ _ _ _).2, (HU3.out.drew.fin _ _ _ _).1⟩
    · have hj : ((ck : Int) != 0) = true := by simp [hc0]
      have HJ : Hid (check ⟨t, sq, ls, line⟩ = ck ∧ ck ≠ 0) := Lib.hid ⟨HC.out, hc0⟩
      clear hc0
      have HE : Hid (T = (ck, RcSpec.none, 0)) := Lib.hid (by rw [← HT.out]; unfold rend; simp [HJ.out])
      clear HT
      go_wp2
      go_region
      all_goals
        go_wp2
        refine bodyPost_ret (v := .tuple #[.agg #[.int .i64 0, .int .u64 0, .slice .none 0 0, .string ⟨#[]⟩], .int .i64 0, .int .i64 (ck : Int)]) ?_ rfl ?_
        · rw [results_cell3 rfl]
          go_simp
        · rw [HE.out]
          exact ⟨.none, 0, 0, rfl, World.ownsRow_nil .., (HU3.out.drew.fin _ _ _ _).1⟩
  · have hj : ((e1 : Int) != 0) = true := by simp [he]
    have hj2 : ((e1 : Int) == 0) = false := by simp [he]
    have HJ : Hid (e1 ≠ 0) := Lib.hid he
    clear he
    have HE : Hid (T = (e1, RcSpec.none, 0)) := Lib.hid (by rw [← HT.out]; unfold rend; simp [HJ.out])
    clear HT
    go_wp2
    go_region
    all_goals
      go_wp2
      refine bodyPost_ret (v := .tuple #[.agg #[.int .i64 0, .int .u64 0, .slice .none 0 0, .string ⟨#[]⟩], .int .i64 0, .int .i64 (e1 : Int)]) ?_ rfl ?_
      · rw [results_cell3 rfl]
        go_simp
      · rw [HE.out]
        exact ⟨.none, 0, 0, rfl, World.ownsRow_nil .., (HU.out.drew.fin _ _ _ _).1⟩
end Go.Proofs.Ytahbaifbihpppaa.RpGet
