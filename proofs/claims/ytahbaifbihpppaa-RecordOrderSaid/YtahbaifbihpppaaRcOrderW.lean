/- RecordOrder, walked over the contracts of record's calls. -/
import Derived.Test.YtahbaifbihpppaaRcLaw
import Derived.Deep.DeepCutAuto
namespace Go.Proofs.Ytahbaifbihpppaa.RcOrderW
open Go Go.RowKit Words AppN Less LbSpec LbText LbMem LbRef LbCmp LbCanon RcSpec RcAll RcMem RcRef RcRefPut RcRefGt RcRefRd RcRefGa RcLaw UtOwn

theorem cmpR_range (a b : Rec) : cmpR a b = -1 ∨ cmpR a b = 0 ∨ cmpR a b = 1 := by
  unfold cmpR
  split
  · exact .inl rfl
  · split
    · exact .inr (.inl rfl)
    · exact .inr (.inr rfl)
theorem cmpR_lt {a b : Rec} (h : a.time < b.time) : cmpR a b = -1 := by unfold cmpR; rw [if_pos (.inl h)]
theorem cmpR_gt {a b : Rec} (h : b.time < a.time) : cmpR a b = 1 := by unfold cmpR; rw [if_neg (by omega), if_neg (by omega)]
theorem cmpR_same (a : Rec) (l : List Lab) (n : List UInt8) : cmpR a ⟨a.time, a.seq, l, n⟩ = 0 := by unfold cmpR; rw [if_neg (by simp), if_pos ⟨rfl, rfl⟩]

def boxes (m : RM) : Obj := .cells #[.int .i64 m.1.time, .int .u64 (m.1.seq : Int), .slice m.2.1 m.2.2.1 m.2.2.2, .string ⟨m.1.line.toArray⟩] 33
/-- Three records in boxes behind the entry. -/
structure B3 (w : World) (a b c : RM) (wr : World) : Prop where
  h0 : wr.heap[w.heap.size]? = some (.cells #[.int .i64 a.1.time, .int .u64 (a.1.seq : Int), .slice a.2.1 a.2.2.1 a.2.2.2, .string ⟨a.1.line.toArray⟩] 33 (0, 0))
  h1 : wr.heap[w.heap.size + 1]? = some (.cells #[.int .i64 b.1.time, .int .u64 (b.1.seq : Int), .slice b.2.1 b.2.2.1 b.2.2.2, .string ⟨b.1.line.toArray⟩] 33 (0, 0))
  h2 : wr.heap[w.heap.size + 1 + 1]? = some (.cells #[.int .i64 c.1.time, .int .u64 (c.1.seq : Int), .slice c.2.1 c.2.2.1 c.2.2.2, .string ⟨c.1.line.toArray⟩] 33 (0, 0))
  below : Below w.heap.size w wr
  oa : Okm wr a
  ob : Okm wr b
  oc : Okm wr c
variable {w wr w1 : World} {a b c : RM}
theorem B3.lt (h : B3 w a b c wr) : w.heap.size + 1 + 1 < wr.heap.size := (Array.getElem?_eq_some_iff.1 h.h2).1
theorem B3.call (h : B3 w a b c wr) (hb : Below wr.heap.size wr w1) : B3 w a b c w1 :=
  ⟨(hb.block _ (by have := h.lt; omega)).trans h.h0, (hb.block _ (by have := h.lt; omega)).trans h.h1, (hb.block _ h.lt).trans h.h2, h.below.trans (hb.mono h.below.size), h.oa.below hb, h.ob.below hb, h.oc.below hb⟩
theorem B3.facts (h : B3 w a b c wr) :
    (wr.cell? ⟨w.heap.size, 0, .none⟩ = some (.int .i64 a.1.time) ∧ wr.cell? ⟨w.heap.size, 1, .none⟩ = some (.int .u64 (a.1.seq : Int)) ∧ wr.cell? ⟨w.heap.size, 2, .none⟩ = some (.slice a.2.1 a.2.2.1 a.2.2.2) ∧ wr.cell? ⟨w.heap.size, 3, .none⟩ = some (.string ⟨a.1.line.toArray⟩)) ∧
    (wr.cell? ⟨w.heap.size + 1, 0, .none⟩ = some (.int .i64 b.1.time) ∧ wr.cell? ⟨w.heap.size + 1, 1, .none⟩ = some (.int .u64 (b.1.seq : Int)) ∧ wr.cell? ⟨w.heap.size + 1, 2, .none⟩ = some (.slice b.2.1 b.2.2.1 b.2.2.2) ∧ wr.cell? ⟨w.heap.size + 1, 3, .none⟩ = some (.string ⟨b.1.line.toArray⟩)) ∧
    (wr.cell? ⟨w.heap.size + 1 + 1, 0, .none⟩ = some (.int .i64 c.1.time) ∧ wr.cell? ⟨w.heap.size + 1 + 1, 1, .none⟩ = some (.int .u64 (c.1.seq : Int)) ∧ wr.cell? ⟨w.heap.size + 1 + 1, 2, .none⟩ = some (.slice c.2.1 c.2.2.1 c.2.2.2) ∧ wr.cell? ⟨w.heap.size + 1 + 1, 3, .none⟩ = some (.string ⟨c.1.line.toArray⟩)) :=
  ⟨⟨box_cell h.h0 rfl, box_cell h.h0 rfl, box_cell h.h0 rfl, box_cell h.h0 rfl⟩, ⟨box_cell h.h1 rfl, box_cell h.h1 rfl, box_cell h.h1 rfl, box_cell h.h1 rfl⟩, ⟨box_cell h.h2 rfl, box_cell h.h2 rfl, box_cell h.h2 rfl, box_cell h.h2 rfl⟩⟩
theorem b3_start (ha : Okm w a) (hb : Okm w b) (hc : Okm w c) : B3 w a b c (((w.alloc (boxes a)).alloc (boxes b)).alloc (boxes c)) := by
  have e := ((((Below.refl _ w).alloc (Nat.le_refl _) (boxes a)).alloc (by simp) (boxes b)).alloc (by simp; omega) (boxes c))
  unfold boxes at *
  refine ⟨?_, ?_, ?_, e, ha.below e, hb.below e, hc.below e⟩
  · exact ((((Below.refl _ _).alloc (Nat.le_refl _) _).alloc (by simp) _).block _ (by simp)).trans (heap_alloc_new w _)
  · exact (((Below.refl _ _).alloc (Nat.le_refl _) _).block _ (by simp)).trans (by simpa using heap_alloc_new (w.alloc _) _)
  · simpa using heap_alloc_new ((w.alloc _).alloc _) _

set_option maxHeartbeats 12800000 in
set_option maxRecDepth 100000 in
theorem walk0 (P : Rcd) (w : World) (a b c : RM) (ha : Okm w a) (hb : Okm w b) (hc : Okm w c) :
    Calls Try.prog 7 #[aggR a, aggR b, aggR c] w fun e w' => e = .returned (.bool true) ∧ Below w.heap.size w w' := by
  have HS0 := Lib.hid (b3_start ha hb hc)
  have HXR := Lib.hid (cmpR_range a.1 b.1)
  have HYR := Lib.hid (cmpR_range b.1 c.1)
  have HT1 := Lib.hid (cmpR_turn a.1 b.1)
  have HT2 := Lib.hid (fun h1 h2 => cmpR_le (a := a.1) (b := b.1) (c := c.1) h1 h2)
  have HT3 := Lib.hid (fun h1 h2 => cmpR_ge (a := a.1) (b := b.1) (c := c.1) h1 h2)
  have HL := Lib.hid (fun h => cmpR_lt (a := a.1) (b := b.1) h)
  have HG := Lib.hid (fun h => cmpR_gt (a := a.1) (b := b.1) h)
  have A0 := fun w => Lib.hid (awake_any P w)
  have AAB := fun w h1 h2 => Lib.hid (P.compare w a b h1 h2)
  have ABC := fun w h1 h2 => Lib.hid (P.compare w b c h1 h2)
  have ABA := fun w h1 h2 => Lib.hid (P.compare w b a h1 h2)
  have AAC := fun w h1 h2 => Lib.hid (P.compare w a c h1 h2)
  have AAD := fun w h1 h2 => Lib.hid (P.compare w a (⟨a.1.time, a.1.seq, c.1.labels, c.1.line⟩, c.2) h1 h2)
  have ADB := fun w h1 h2 => Lib.hid (P.compare w (⟨a.1.time, a.1.seq, c.1.labels, c.1.line⟩, c.2) b h1 h2)
  simp only [HT1.out] at ABA
  simp only [cmpR_same] at AAD
  simp only [show cmpR ⟨a.1.time, a.1.seq, c.1.labels, c.1.line⟩ b.1 = cmpR a.1 b.1 from rfl] at ADB
  clear HT1 ha hb hc
  obtain ⟨⟨ta, sa, la, na⟩, Aa, ma, ka⟩ := a
  obtain ⟨⟨tb, sb, lb, nb⟩, Ab, mb, kb⟩ := b
  obtain ⟨⟨tc, sc, lc, nc⟩, Ac, mc, kc⟩ := c
  unfold boxes at HS0
  unfold aggR slV S8 at *
  simp only at HS0 AAB ABC ABA AAC AAD ADB HXR HYR HT2 HT3 HL HG ⊢
  generalize cmpR ⟨ta, sa, la, na⟩ ⟨tb, sb, lb, nb⟩ = x at *
  generalize cmpR ⟨tb, sb, lb, nb⟩ ⟨tc, sc, lc, nc⟩ = y at *
  generalize cmpR ⟨ta, sa, la, na⟩ ⟨tc, sc, lc, nc⟩ = z at *
  go_enter Try.func7, Try.ntmps7
  go_wp2_with fail
  refine (A0 _).out.mono ?_
  rintro e w1 ⟨rfl, hb1⟩
  have HS1 := Lib.hid (HS0.out.call hb1)
  clear hb1 A0 HS0
  obtain ⟨⟨p0, p1, p2, p3⟩, ⟨q0, q1, q2, q3⟩, ⟨r0, r1, r2, r3⟩⟩ := HS1.out.facts
  go_wp2_with fail
  refine (AAB w1 HS1.out.oa HS1.out.ob).out.mono ?_
  rintro e w2 ⟨rfl, hb2⟩
  have HS2 := Lib.hid (HS1.out.call hb2)
  clear hb2 AAB HS1 p0 p1 p2 p3 q0 q1 q2 q3 r0 r1 r2 r3
  obtain ⟨⟨p0, p1, p2, p3⟩, ⟨q0, q1, q2, q3⟩, ⟨r0, r1, r2, r3⟩⟩ := HS2.out.facts
  go_wp2_with fail
  refine (ABC w2 HS2.out.ob HS2.out.oc).out.mono ?_
  rintro e w3 ⟨rfl, hb3⟩
  have HS3 := Lib.hid (HS2.out.call hb3)
  clear hb3 ABC HS2 p0 p1 p2 p3 q0 q1 q2 q3 r0 r1 r2 r3
  obtain ⟨⟨p0, p1, p2, p3⟩, ⟨q0, q1, q2, q3⟩, ⟨r0, r1, r2, r3⟩⟩ := HS3.out.facts
  go_upto_region 5 with fail
  go_cut [51] (fun s51 wx => s51 = .bool false ∧ Hid (B3 w (⟨ta, sa, la, na⟩, Aa, ma, ka) (⟨tb, sb, lb, nb⟩, Ab, mb, kb) (⟨tc, sc, lc, nc⟩, Ac, mc, kc) wx))
  case first =>
    go_wp2_with fail
    refine (ABA w3 HS3.out.ob HS3.out.oa).out.mono ?_
    rintro e w4 ⟨rfl, hb4⟩
    have HS4 := Lib.hid (HS3.out.call hb4)
    clear hb4 ABA HS3 p0 p1 p2 p3 q0 q1 q2 q3 r0 r1 r2 r3
    obtain ⟨⟨p0, p1, p2, p3⟩, ⟨q0, q1, q2, q3⟩, ⟨r0, r1, r2, r3⟩⟩ := HS4.out.facts
    have hxr := HXR.out
    have hyr := HYR.out
    rcases hxr with rfl | rfl | rfl <;> rcases hyr with rfl | rfl | rfl
    all_goals
      first
        | (have hz := HT2.out (by decide) (by decide)
           have hz2 := HT3.out (by decide) (by decide)
           have hz3 : z = 0 := by omega
           subst hz3
           clear hz hz2
           go_wp2_with fail
           refine (AAC w4 HS4.out.oa HS4.out.oc).out.mono ?_
           rintro e w6 ⟨rfl, hb6⟩
           have HS6 := Lib.hid (HS4.out.call hb6)
           clear hb6 p0 p1 p2 p3 q0 q1 q2 q3 r0 r1 r2 r3
           obtain ⟨⟨p0, p1, p2, p3⟩, ⟨q0, q1, q2, q3⟩, ⟨r0, r1, r2, r3⟩⟩ := HS6.out.facts
           go_wp2_with fail
           refine (AAC w6 HS6.out.oa HS6.out.oc).out.mono ?_
           rintro e w7 ⟨rfl, hb7⟩
           have HS7 := Lib.hid (HS6.out.call hb7)
           clear hb7
           go_wp2
           go_meet
           exact ⟨rfl, HS7⟩)
        | (have hz : z ≤ 0 := HT2.out (by decide) (by decide)
           go_wp2_with fail
           refine (AAC w4 HS4.out.oa HS4.out.oc).out.mono ?_
           rintro e w6 ⟨rfl, hb6⟩
           have HS6 := Lib.hid (HS4.out.call hb6)
           clear hb6
           go_wp2
           go_meet
           exact ⟨congrArg Value.bool (decide_eq_false (Int.not_lt.2 hz)), HS6⟩)
        | (have hz : 0 ≤ z := HT3.out (by decide) (by decide)
           go_wp2_with fail
           refine (AAC w4 HS4.out.oa HS4.out.oc).out.mono ?_
           rintro e w6 ⟨rfl, hb6⟩
           have HS6 := Lib.hid (HS4.out.call hb6)
           clear hb6
           go_wp2
           go_meet
           exact ⟨congrArg Value.bool (decide_eq_false (Int.not_lt.2 hz)), HS6⟩)
        | (go_wp2
           go_meet
           exact ⟨rfl, HS4⟩)
  case rest =>
    obtain ⟨rfl, HSc⟩ := hcut
    clear HS3 HYR HT2 HT3 ABA AAC p0 p1 p2 p3 q0 q1 q2 q3 r0 r1 r2 r3
    obtain ⟨⟨p0, p1, p2, p3⟩, ⟨q0, q1, q2, q3⟩, ⟨r0, r1, r2, r3⟩⟩ := HSc.out.facts
    have hbd : Below wc.heap.size wc (wc.alloc (.cells #[.int .i64 ta, .int .u64 (sa : Int), .slice Ac mc kc, .string ⟨nc.toArray⟩] 33)) := (Below.refl _ wc).alloc (Nat.le_refl _) _
    have HZ := Lib.hid (heap_alloc_new wc (.cells #[.int .i64 ta, .int .u64 (sa : Int), .slice Ac mc kc, .string ⟨nc.toArray⟩] 33))
    have hzl : wc.heap.size < (wc.alloc (.cells #[.int .i64 ta, .int .u64 (sa : Int), .slice Ac mc kc, .string ⟨nc.toArray⟩] 33)).heap.size := by simp
    have HSd := Lib.hid (HSc.out.call hbd)
    have HD := Lib.hid (show Okm _ ((⟨ta, sa, lc, nc⟩, Ac, mc, kc) : RM) from ⟨HSd.out.oc.labs, HSd.out.oa.fits⟩)
    have hlt := HSc.out.lt
    clear hbd
    obtain ⟨⟨s0, s1, s2, s3⟩, ⟨t0, t1, t2, t3⟩, _⟩ := HSd.out.facts
    go_wp2_with fail
    refine (AAD _ HSd.out.oa HD.out).out.mono ?_
    rintro e w4 ⟨rfl, hb4⟩
    have HS4 := Lib.hid (HSd.out.call hb4)
    have HD4 := Lib.hid (HD.out.below hb4)
    have hz4 := (hb4.block wc.heap.size hzl).trans HZ.out
    have d0 := box_cell (j := 0) hz4 rfl
    have d1 := box_cell (j := 1) hz4 rfl
    have d2 := box_cell (j := 2) hz4 rfl
    have d3 := box_cell (j := 3) hz4 rfl
    clear hb4 AAD HSd HD HZ hzl hz4 s0 s1 s2 s3 t0 t1 t2 t3 p0 p1 p2 p3 q0 q1 q2 q3 r0 r1 r2 r3 HSc hlt
    obtain ⟨⟨p0, p1, p2, p3⟩, ⟨q0, q1, q2, q3⟩, _⟩ := HS4.out.facts
    go_wp2_with fail
    refine (ADB _ HD4.out HS4.out.ob).out.mono ?_
    rintro e w5 ⟨rfl, hb5⟩
    have HS5 := Lib.hid (HS4.out.call hb5)
    clear hb5 ADB HD4 HS4 d0 d1 d2 d3 p0 p1 p2 p3 q0 q1 q2 q3
    obtain ⟨⟨p0, p1, p2, p3⟩, ⟨q0, q1, q2, q3⟩, _⟩ := HS5.out.facts
    have hl := HL.out
    have hg := HG.out
    clear HL HG HXR
    by_cases h1 : ta < tb
    · have e1 : (ta == tb) = false := beq_eq_false_iff_ne.2 (by omega)
      have e2 := decide_eq_true h1
      have hx := hl h1
      subst hx
      clear hl hg
      go_wp2
      go_ret
      exact ⟨rfl, HS5.out.below⟩
    · by_cases h2 : tb < ta
      · have e1 : (ta == tb) = false := beq_eq_false_iff_ne.2 (by omega)
        have e2 := decide_eq_false h1
        have hx := hg h2
        subst hx
        clear hl hg h2
        go_wp2
        go_ret
        exact ⟨rfl, HS5.out.below⟩
      · obtain rfl : ta = tb := by omega
        clear hl hg h1 h2
        go_wp2
        go_ret
        exact ⟨rfl, HS5.out.below⟩
end Go.Proofs.Ytahbaifbihpppaa.RcOrderW
