/- RecordGets, walked over the contracts of record's calls. -/
import Derived.Test.YtahbaifbihpppaaRcLaw
namespace Go.Proofs.Ytahbaifbihpppaa.RcGetsW
open Go Go.RowKit Words AppN Less LbSpec LbText LbMem LbRef LbCmp LbCanon RcSpec RcAll RcMem RcRef RcRefPut RcRefGt RcRefRd RcRefGa RcLaw UtOwn

theorem getAt_fits {b : List UInt8} {at_ : Int} : Fits (getAt b at_).2.1 := by
  have hz : Fits RcSpec.none := by unfold Fits Time64 RcSpec.none; simp
  unfold getAt
  split
  · exact hz
  · generalize b.drop at_.toNat = l
    by_cases h : (RcSpec.get l).1 = 0
    · exact (get_inv (triple h)).2.2
    · have : (RcSpec.get l).2.1 = RcSpec.none := by
        rw [get_eq] at h ⊢
        split
        · rfl
        · rename_i h1
          rw [if_neg h1] at h
          unfold getA at h ⊢
          split
          · rfl
          · rename_i h2
            rw [if_neg h2] at h
            unfold getB at h ⊢
            split
            · rfl
            · rename_i h3
              rw [if_neg h3] at h
              split
              · rfl
              · rename_i h4
                rw [if_neg h4] at h
                unfold getC at h ⊢
                split
                · rfl
                · rename_i h5
                  rw [if_neg h5] at h
                  unfold getD at h ⊢
                  split
                  · rfl
                  · rename_i h6
                    rw [if_neg h6] at h
                    unfold getF at h ⊢
                    split
                    · rfl
                    · rename_i h7
                      rw [if_neg h7] at h
                      exact absurd rfl h
      rw [this]
      exact hz
/-- What Get answers, as it is read. -/
def HPost (b : List UInt8) (at_ : Int) (w : World) (e : Ending) (w' : World) : Prop :=
  ∃ (A : Option Addr) (n c : Nat), e = .returned (.tuple #[.agg #[.int .i64 (getAt b at_).2.1.time, .int .u64 ((getAt b at_).2.1.seq : Int), .slice A n c, .string ⟨(getAt b at_).2.1.line.toArray⟩], .int .i64 (if (getAt b at_).1 = 0 then ((b.length - (getAt b at_).2.2.length : Nat) : Int) else 0), .int .i64 ((getAt b at_).1 : Int)]) ∧ Okm w' ((getAt b at_).2.1, A, n, c) ∧ Below w.heap.size w w'
theorem gpost_h {b : List UInt8} {at_ : Int} {w w' : World} {e : Ending} (h : GPost (getAt b at_) b w e w') : HPost b at_ w e w' := by
  obtain ⟨⟨A, n, c⟩, p, rfl, h1, h2, h3⟩ := h
  obtain ⟨A1, c1, e1, l1, l2, l3, _⟩ := own_lab h2
  cases e1
  refine ⟨A, _, c, ?_, ⟨⟨rfl, l1, l2, l3⟩, getAt_fits⟩, h3⟩
  unfold aggR slV S8
  by_cases h0 : (getAt b at_).1 = 0
  · obtain ⟨g1, g2⟩ := h1 h0
    rw [if_pos h0, if_pos h0, g2, List.length_drop]
    rw [show b.length - (b.length - p) = p by omega]
  · rw [if_neg h0, if_neg h0]

set_option maxHeartbeats 6400000 in
set_option maxRecDepth 100000 in
theorem walk0 (P : Rcd) (w : World) (b : List UInt8) (A : Option Addr) (c : Nat) (at_ : Int) (hl : b.length ≤ c) (hm : c ≤ maxLen) (hr : Rd w w.heap.size A (b.map B8)) (h1 : -9223372036854775808 ≤ at_) (h2 : at_ ≤ 9223372036854775807) :
    Calls Try.prog 4 #[.slice A b.length c, .int .i64 at_] w fun e w' => e = .returned (.bool true) ∧ Below w.heap.size w w' := by
  have A0 := Lib.hid (awake_any P w)
  have A1 := fun w h => Lib.hid ((P.get w b A c at_ h1 h2 h hl hm).mono fun _ _ h => gpost_h h)
  have A2 := fun w h => Lib.hid ((rgetat_any w b A c at_ h hl hm).mono fun _ _ h => gpost_h h)
  have A3 := fun w h => Lib.hid (P.getAll w b A c h hl hm)
  have A4 := fun w h => Lib.hid (rgetall_any w b A c h hl hm)
  have HRD := Lib.hid hr
  unfold HPost at A1 A2
  generalize getAt b at_ = G at A1 A2
  obtain ⟨ge, ⟨t, s, ls, ln⟩, rest⟩ := G
  generalize getAll b = L at A3 A4
  obtain ⟨le, l⟩ := L
  simp only at A1 A2
  generalize (if ge = 0 then ((b.length - rest.length : Nat) : Int) else 0) = to at A1 A2
  unfold GaPost at A3 A4
  simp only at A3 A4
  clear hr h1 h2
  go_enter Try.func4, Try.ntmps4
  go_wp2_with fail
  refine A0.out.mono ?_
  rintro e w1 ⟨rfl, hb1⟩
  have HB1 := Lib.hid hb1
  have HR1 := Lib.hid ((HRD.out.below hb1).more hb1.size)
  clear hb1 A0 HRD
  go_wp2_with fail
  refine (A1 w1 HR1.out).out.mono ?_
  rintro e w2 ⟨X, nx, cx, rfl, hox, hb2⟩
  have hb2' : Below w1.heap.size w1 (w2.alloc (.cells #[.int .i64 t, .int .u64 (s : Int), .slice X nx cx, .string ⟨ln.toArray⟩] 33)) := hb2.alloc hb2.size _
  have HB2 := Lib.hid (HB1.out.trans (hb2'.mono HB1.out.size))
  have HR2 := Lib.hid ((HR1.out.below hb2').more hb2'.size)
  have HOX := Lib.hid (hox.below ((Below.refl _ w2).alloc (Nat.le_refl _) (.cells #[.int .i64 t, .int .u64 (s : Int), .slice X nx cx, .string ⟨ln.toArray⟩] 33)))
  have HX2 := Lib.hid (heap_alloc_new w2 (.cells #[.int .i64 t, .int .u64 (s : Int), .slice X nx cx, .string ⟨ln.toArray⟩] 33))
  have HZ2 : Hid (w2.heap.size < (w2.alloc (.cells #[.int .i64 t, .int .u64 (s : Int), .slice X nx cx, .string ⟨ln.toArray⟩] 33)).heap.size) := Lib.hid (by simp)
  clear hb2 hb2' hox A1 HR1 HB1
  go_wp2_with fail
  refine (A2 _ HR2.out).out.mono ?_
  rintro e w3 ⟨Y, ny, cy, rfl, hoy, hb3⟩
  have hb3' := hb3.alloc hb3.size (.cells #[.int .i64 t, .int .u64 (s : Int), .slice Y ny cy, .string ⟨ln.toArray⟩] 33)
  have HB3 := Lib.hid (HB2.out.trans (hb3'.mono HB2.out.size))
  have HR3 := Lib.hid ((HR2.out.below hb3').more hb3'.size)
  have HOX3 := Lib.hid (HOX.out.below hb3')
  have HOY := Lib.hid (hoy.below ((Below.refl _ w3).alloc (Nat.le_refl _) (.cells #[.int .i64 t, .int .u64 (s : Int), .slice Y ny cy, .string ⟨ln.toArray⟩] 33)))
  have HX3 := Lib.hid ((hb3'.block w2.heap.size HZ2.out).trans HX2.out)
  have HY3 := Lib.hid (heap_alloc_new w3 (.cells #[.int .i64 t, .int .u64 (s : Int), .slice Y ny cy, .string ⟨ln.toArray⟩] 33))
  have HZ3 : Hid (w2.heap.size < w3.heap.size) := Lib.hid (Nat.lt_of_lt_of_le HZ2.out hb3.size)
  clear hb3 hb3' hoy A2 HR2 HB2 HX2 HZ2 HOX
  go_wp2_with fail
  refine (A3 _ HR3.out).out.mono ?_
  rintro e w4 ⟨L1, c1, ms1, rfl, hm1, hrl1, hb4⟩
  have HB4 := Lib.hid (HB3.out.trans (hb4.mono HB3.out.size))
  have HR4 := Lib.hid ((HR3.out.below hb4).more hb4.size)
  have HOX4 := Lib.hid (HOX3.out.below hb4)
  have HOY4 := Lib.hid (HOY.out.below hb4)
  have HX4 := Lib.hid ((hb4.block w2.heap.size (by have := HZ3.out; simp; omega)).trans HX3.out)
  have HY4 := Lib.hid ((hb4.block w3.heap.size (by simp)).trans HY3.out)
  have HRL1 := Lib.hid hrl1
  clear hb4 hrl1 A3 HR3 HB3 HX3 HY3 HOX3 HOY
  go_wp2_with fail
  refine (A4 _ HR4.out).out.mono ?_
  rintro e w5 ⟨L2, c2, ms2, rfl, hm2, hrl2, hb5⟩
  have HB5 := Lib.hid (HB4.out.trans (hb5.mono HB4.out.size))
  have HOX5 := Lib.hid (HOX4.out.below hb5)
  have HOY5 := Lib.hid (HOY4.out.below hb5)
  have hx5 := (hb5.block w2.heap.size (Array.getElem?_eq_some_iff.1 HX4.out).1).trans HX4.out
  have hy5 := (hb5.block w3.heap.size (Array.getElem?_eq_some_iff.1 HY4.out).1).trans HY4.out
  have HRL15 := Lib.hid (HRL1.out.below hb5)
  have HRL25 := Lib.hid hrl2
  have x0 := box_cell (j := 0) hx5 rfl
  have x1 := box_cell (j := 1) hx5 rfl
  have x2 := box_cell (j := 2) hx5 rfl
  have x3 := box_cell (j := 3) hx5 rfl
  have y0 := box_cell (j := 0) hy5 rfl
  have y1 := box_cell (j := 1) hy5 rfl
  have y2 := box_cell (j := 2) hy5 rfl
  have y3 := box_cell (j := 3) hy5 rfl
  clear hb5 hrl2 A4 HR4 HB4 HX4 HY4 HOX4 HOY4 HRL1 hx5 hy5 HZ3
  have A5 := Lib.hid (rsamer_any w5 _ _ HOX5.out HOY5.out)
  rw [show eqR ((⟨t, s, ls, ln⟩, X, nx, cx) : RM).1 ((⟨t, s, ls, ln⟩, Y, ny, cy) : RM).1 = true from eqR_iff.2 rfl] at A5
  unfold aggR slV S8 at A5
  simp only at A5
  go_wp2_with fail
  refine A5.out.mono ?_
  rintro e w6 ⟨rfl, hb6⟩
  have HB6 := Lib.hid (HB5.out.trans (hb6.mono HB5.out.size))
  have A6 := Lib.hid (rsamea_any w6 ms1 ms2 L1 L2 _ _ c1 c2 (HRL15.out.below hb6) (HRL25.out.below hb6))
  rw [show eqA (recsOf ms1) (recsOf ms2) = true from eqA_iff.2 (hm1.trans hm2.symm)] at A6
  clear hb6 HB5 A5 HRL15 HRL25 HOX5 HOY5 x0 x1 x2 x3 y0 y1 y2 y3 hm1 hm2
  go_wp2_with fail
  refine A6.out.mono ?_
  rintro e w7 ⟨rfl, hb7⟩
  have HB7 := Lib.hid (HB6.out.trans (hb7.mono HB6.out.size))
  clear hb7 A6
  go_wp2
  go_ret
  exact ⟨rfl, HB7.out⟩
end Go.Proofs.Ytahbaifbihpppaa.RcGetsW
