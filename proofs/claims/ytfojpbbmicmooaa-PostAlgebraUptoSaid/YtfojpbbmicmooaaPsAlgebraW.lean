/- PostAlgebra's own walk, over the contracts of the program's postings. -/
import Derived.Test.YtfojpbbmicmooaaPsTwo
import Derived.Test.YtfojpbbmicmooaaPsKeepsW
import Derived.Test.YtfojpbbmicmooaaPsApp
namespace Go.Proofs.Ytfojpbbmicmooaa.PsAlgebraW
open Go Go.RowKit Words PkSpec PsSpec Km PsLaw PsAwake PsTwo PsKeepsW App PsApp

theorem info_u64 : (Try.prog.info? 31).map (fun i => (i.zero, i.size, i.bytes)) = some (some (.int .u64 0), 1, 8) := by kernel_rfl
theorem one64s (l : List UInt64) : ∀ u ∈ l.map B64, u.oneCell' = true := by
  intro u hu
  obtain ⟨c, _, rfl⟩ := List.mem_map.1 hu
  rfl
theorem info_parts {i? : Option TypeInfo} {z : Value} {b : Nat} (h : i?.map (fun i => (i.zero, i.size, i.bytes)) = some (some z, 1, b)) : ∃ i, i? = some i ∧ i.zero = some z ∧ i.size = 1 ∧ i.bytes = b := by
  cases i? with
  | none => cases h
  | some i =>
    simp at h
    exact ⟨i, rfl, h.1, h.2.1, h.2.2⟩

theorem own_keep {w w' : World} {base n : Nat} {e : TypeId} {v : Value} {xs : List Value} (h : w.ownsRow base e 1 v n xs) (hb : Below w.heap.size w w') : w'.ownsRow base e 1 v n xs :=
  h.kept (row := none) ⟨hb.os, hb.tape, hb.output, hb.size, fun i hi _ => hb.block i hi⟩ (by cases v.ownBlock <;> simp)
/-- While the answer is written over: what was there before it is as it was. -/
def ARel (w3 : World) (xA : Option Addr) (n : Nat) (vi : Value) (wr : World) : Prop := ∃ i : Nat, i ≤ n ∧ vi = .int .i64 (i : Int) ∧
  Hid (Below w3.heap.size w3 wr ∧ (0 < n → ∃ gx cur, xA = some ⟨gx, 0, none⟩ ∧ w3.heap.size ≤ gx ∧ wr.heap[gx]? = some (.cells cur 31 (0, 0)) ∧ n ≤ cur.size))
/-- Lists that lie in memory; what came in is as it was. -/
structure G (w0 : World) (ps : List P64) (w : World) : Prop where
  below : Below w0.heap.size w0 w
  each : ∀ p ∈ ps, Good64 w p
theorem G.step {w0 w w' : World} {ps : List P64} (h : G w0 ps w) (hb : Below w.heap.size w w') : G w0 ps w' :=
  ⟨h.below.trans (hb.mono h.below.size), fun p hp => (h.each p hp).below hb⟩
theorem G.add {w0 w w' : World} {ps : List P64} {q : P64} (h : G w0 ps w) (hb : Below w.heap.size w w') (hq : Good64 w' q) : G w0 (q :: ps) w' :=
  ⟨(h.step hb).below, fun p hp => by
    rcases List.mem_cons.1 hp with rfl | hp
    · exact hq
    · exact (h.step hb).each p hp⟩
theorem or_len1 (a : List UInt64) : (orL [a]).length ≤ a.length := by have := or_len [a]; simpa using this
theorem G.drewN {w0 w : World} {ps : List P64} (h : G w0 ps w) (n : Nat) : G w0 ps (w.drewN n) := h.step (below_q w n)

set_option maxHeartbeats 6400000 in
set_option maxRecDepth 100000 in
theorem algebra_any {IterR : World → (Nat → Nat) → Nat → Nat → List UInt64 → Nat → Prop} (P : Post IterR) (w : World) (a b c : P64) (ha : Good64 w a) (hb : Good64 w b) (hc : Good64 w c) (hl : a.l.length + b.l.length + c.l.length ≤ 3145728) :
    Calls Try.prog 4 #[.slice a.A a.l.length a.c, .slice b.A b.l.length b.c, .slice c.A c.l.length c.c] w fun e w' => e = .returned (.bool true) ∧ Below w.heap.size w w' := by
  obtain ⟨i1, gi, gz0, gz1, gz2⟩ := info_parts info_u64
  have H0 := Lib.hid (awake_any P w)
  have HA := Lib.hid ha
  have HB := Lib.hid hb
  have HC := Lib.hid hc
  obtain ⟨aA, ac, al⟩ := a
  obtain ⟨bA, bc, bl⟩ := b
  obtain ⟨cA, cc, cl⟩ := c
  simp only at hl
  have h63a := ha.2.1
  have h63b := hb.2.1
  have h63c := hc.2.1
  simp only at h63a h63b h63c
  clear ha hb hc
  go_enter Try.func4, Try.ntmps4
  go_wp2_with fail
  refine H0.out.mono ?_
  rintro e w1 ⟨rfl, hb1⟩
  have HB1 := Lib.hid hb1
  clear hb1 H0
  have hown0 := World.ownsRow_lit (base := w.heap.size) (e := 31) (size := 1) w1 #[] 0 HB1.out.size (by unfold maxLen; omega) rfl
  have HBz := Lib.hid (HB1.out.alloc HB1.out.size (.cells #[] 31))
  go_wp2_with (at_builtin; refine wpList_append_rd (v := .slice (some ⟨w1.heap.size, 0, none⟩) 0 0) _ rfl (.tmp 14) (.tmp 15) 22 rfl w.heap.size 31 i1 (.int .u64 0) 8 Try.underlying22 gi gz0 gz1 gz2 rfl 0 [] rfl hown0 w.heap.size aA al.length ac (al.map B64) rfl (by simp) (HA.out.1.below HBz.out) (one64s al) ?c1 ?c2 HBz.out.size ?_)
  case c1 => unfold maxLen; omega
  case c2 => omega
  intro v2 w2 hown2 hg2 _
  have HB2 := Lib.hid (below_app hown0 HBz.out hg2)
  have HO2 := Lib.hid hown2
  clear hown0 hown2 hg2
  go_wp2_with (at_builtin; refine wpList_append_rd (v := v2) _ rfl (.tmp 16) (.tmp 17) 22 rfl w.heap.size 31 i1 (.int .u64 0) 8 Try.underlying22 gi gz0 gz1 gz2 rfl _ _ rfl (HO2.out.alloc _) (w2.heap.size + 1) (some ⟨w2.heap.size, 0, none⟩) 1 1 [.int .u64 77] rfl rfl (Rd.made w2 #[.int .u64 77] 31) ?d1 ?d2 ?d3 ?d4 ?_)
  case d1 => intro u hu; simp at hu; subst hu; rfl
  case d2 => unfold maxLen; omega
  case d3 => omega
  case d4 => have := HB2.out.size; simp; omega
  intro v3 w3 hown3 hg3 _
  have HB3 := Lib.hid (below_app (HO2.out.alloc _) (HB2.out.alloc HB2.out.size _) hg3)
  clear hg3
  obtain ⟨g, fc, cur, rfl, hg, h31, h32, hcur, hsz⟩ := own_block hown3 (by omega)
  have RF : Hid (Rd w3 w3.heap.size (some ⟨g, 0, none⟩) (al.map B64 ++ [.int .u64 77])) := Lib.hid (by
    obtain ⟨A', c', e, _, _, hrd, _⟩ := own_rd hown3
    cases e
    simpa using hrd)
  have HGL : Hid (g < w3.heap.size ∧ w.heap.size ≤ g) := Lib.hid ⟨(Array.getElem?_eq_some_iff.1 hcur).1, hg⟩
  have H77 : Hid (w3.cell? ⟨g, al.length, none⟩ = some (.int .u64 77)) := Lib.hid (by
    obtain ⟨b, off, e, _, hcell⟩ := RF.out (by simp)
    cases e
    have := hcell al.length (.int .u64 77) (by simp)
    simpa using this)
  have GF : Hid (Good64 w3 ⟨some ⟨g, 0, none⟩, fc, al⟩) := Lib.hid ⟨by have := RF.out.take al.length; rwa [List.take_left' (by simp)] at this, by show al.length ≤ fc; omega, h32⟩
  have G3 : Hid (G w [⟨some ⟨g, 0, none⟩, fc, al⟩, ⟨aA, ac, al⟩, ⟨bA, bc, bl⟩, ⟨cA, cc, cl⟩] w3) := Lib.hid ⟨HB3.out, fun p hp => by
    simp only [List.mem_cons, List.not_mem_nil, or_false] at hp
    rcases hp with rfl | rfl | rfl | rfl
    · exact GF.out
    · exact HA.out.below HB3.out
    · exact HB.out.below HB3.out
    · exact HC.out.below HB3.out⟩
  have H1 := Lib.hid (and2 P w3 ⟨some ⟨g, 0, none⟩, fc, al⟩ ⟨bA, bc, bl⟩ GF.out (G3.out.each _ (by simp)) (by show al.length + bl.length ≤ _; omega))
  simp only [SV64] at H1
  unfold maxLen at h32
  clear hown3 HO2 HBz hcur hsz hg HA HB HC HB1 HB2 HB3 GF RF
  go_wp2_with fail
  refine H1.out.mono ?_
  rintro e w4 ⟨⟨xA, xc, X⟩, rfl, hX, hoX, gX, hxA, hb4⟩
  simp only at hX
  have hx1 : X.length ≤ al.length + bl.length := by rw [hX]; exact and2_len _ _
  have HX := Lib.hid hX
  have HOX := Lib.hid hoX
  have HXA := Lib.hid hxA
  have HB4 := Lib.hid hb4
  have G4 := Lib.hid (G3.out.add hb4 gX)
  have H2 := Lib.hid (or2 P w4 ⟨some ⟨g, 0, none⟩, fc, al⟩ ⟨bA, bc, bl⟩ (G4.out.each _ (by simp)) (G4.out.each _ (by simp)) (by show al.length + bl.length ≤ _; omega))
  simp only [SV64] at H2 ⊢
  have HK3 : Hid (Below w.heap.size w w3 ∧ Good64 w3 ⟨some ⟨g, 0, none⟩, fc, al⟩ ∧ Good64 w3 ⟨aA, ac, al⟩) := Lib.hid ⟨G3.out.below, G3.out.each _ (by simp), G3.out.each _ (by simp)⟩
  have hxc : X.length ≤ xc := gX.2.1
  have hxm : xc ≤ maxLen := gX.2.2
  have HXF : Hid (0 < X.length → ∃ gx, xA = some ⟨gx, 0, none⟩ ∧ w3.heap.size ≤ gx) := Lib.hid fun h => by
    obtain ⟨gx, cap, cu, e, hge, _⟩ := own_block hoX (by rw [← hX]; exact h)
    injection e with e1 _ _
    exact ⟨gx, e1, hge⟩
  unfold maxLen at hxm
  clear hX hoX hxA hb4 gX H1 G3
  go_wp2_with fail
  refine H2.out.mono ?_
  rintro e w5 ⟨⟨yA, yc, Y⟩, rfl, hY, hoY, gY, hyA, hb5⟩
  simp only at hY
  have hy1 : Y.length ≤ al.length + bl.length := by rw [hY]; exact or2_len _ _
  have HY := Lib.hid hY
  have HB5 := Lib.hid (HB4.out.trans (hb5.mono HB4.out.size))
  have HX5 := Lib.hid hb5
  have G5 := Lib.hid (G4.out.add hb5 gY)
  have H3 := Lib.hid (same_of w5 ⟨some ⟨g, 0, none⟩, fc, al⟩ ⟨aA, ac, al⟩ (G5.out.each _ (by simp)) (G5.out.each _ (by simp)) rfl)
  simp only [SV64] at H3 ⊢
  clear hY hoY hyA hb5 gY H2 G4
  go_wp2_with fail
  refine H3.out.mono ?_
  rintro e w6 ⟨rfl, n6, rfl⟩
  obtain ⟨w6, hw6⟩ : ∃ w6, w5.drewN n6 = w6 := ⟨_, rfl⟩
  have B56 : Below w5.heap.size w5 w6 := by rw [← hw6]; exact below_q w5 n6
  have HB6 := Lib.hid (HB5.out.trans (B56.mono HB5.out.size))
  have HX6 := Lib.hid (HX5.out.trans (B56.mono HX5.out.size))
  have G6 := Lib.hid (G5.out.step B56)
  have h77 : w6.cell? ⟨g, al.length, none⟩ = some (.int .u64 77) := by
    rw [World.cell?_of_block (a := ⟨g, al.length, none⟩) (HB6.out.block g HGL.out.1)]
    exact H77.out
  rw [hw6]
  have j1 : (0 : Int) ≤ (al.length : Int) := by omega
  have j2 : (al.length : Int) < ((al.length + 1 : Nat) : Int) := by omega
  clear hw6 B56 H3 HB5 HX5 G5
  have HC7 := Lib.hid (or1 P w6 ⟨aA, ac, al⟩ (G6.out.each _ (by simp)) (by show al.length ≤ _; omega))
  simp only [SV64] at HC7 ⊢
  go_wp2_with fail
  refine HC7.out.mono ?_
  rintro e w7 ⟨⟨uA, uc, U⟩, rfl, hq, -, gq, -, hbq⟩
  simp only at hq
  have hlU : U.length ≤ al.length := by rw [hq]; exact or_len1  _
  have HU := Lib.hid hq
  have HB7 := Lib.hid (HB6.out.trans (hbq.mono HB6.out.size))
  have HX7 := Lib.hid (HX6.out.trans (hbq.mono HX6.out.size))
  have G7 := Lib.hid (G6.out.add hbq gq)
  clear hq gq hbq HC7 HB6 HX6 G6
  have HC8 := Lib.hid (or1 P w7 ⟨bA, bc, bl⟩ (G7.out.each _ (by simp)) (by show bl.length ≤ _; omega))
  simp only [SV64] at HC8 ⊢
  go_wp2_with fail
  refine HC8.out.mono ?_
  rintro e w8 ⟨⟨vA, vc, V⟩, rfl, hq, -, gq, -, hbq⟩
  simp only at hq
  have hlV : V.length ≤ bl.length := by rw [hq]; exact or_len1  _
  have HV := Lib.hid hq
  have HB8 := Lib.hid (HB7.out.trans (hbq.mono HB7.out.size))
  have HX8 := Lib.hid (HX7.out.trans (hbq.mono HX7.out.size))
  have G8 := Lib.hid (G7.out.add hbq gq)
  clear hq gq hbq HC8 HB7 HX7 G7
  have hcnt : X.length + Y.length = U.length + V.length := by rw [HX.out, HY.out, HU.out, HV.out]; exact count2 _ _
  have d1 : (((X.length : Int) + (Y.length : Int)) != ((U.length : Int) + (V.length : Int))) = false := by simp; omega
  have HC9 := Lib.hid (and2 P w8 ⟨xA, xc, X⟩ ⟨yA, yc, Y⟩ (G8.out.each _ (by simp)) (G8.out.each _ (by simp)) (by show X.length + Y.length ≤ _; omega))
  simp only [SV64] at HC9 ⊢
  go_wp2_with fail
  refine HC9.out.mono ?_
  rintro e w9 ⟨⟨zaA, zac, Za⟩, rfl, hq, -, gq, -, hbq⟩
  simp only at hq
  have hlZa : Za.length ≤ X.length + Y.length := by rw [hq]; exact and2_len  _ _
  have HZa := Lib.hid hq
  have HB9 := Lib.hid (HB8.out.trans (hbq.mono HB8.out.size))
  have HX9 := Lib.hid (HX8.out.trans (hbq.mono HX8.out.size))
  have G9 := Lib.hid (G8.out.add hbq gq)
  clear hq gq hbq HC9 HB8 HX8 G8
  have HS10 := Lib.hid (same_of w9 ⟨zaA, zac, Za⟩ ⟨xA, xc, X⟩ (G9.out.each _ (by simp)) (G9.out.each _ (by simp)) (by show Za = X; rw [HZa.out, HX.out, HY.out]; exact and_in _ _))
  simp only [SV64] at HS10 ⊢
  go_wp2_with fail
  refine HS10.out.mono ?_
  rintro e w10 ⟨rfl, n10, rfl⟩
  obtain ⟨w10, hw10⟩ : ∃ w10, w9.drewN n10 = w10 := ⟨_, rfl⟩
  have B10 : Below w9.heap.size w9 w10 := by rw [← hw10]; exact below_q w9 n10
  rw [hw10]
  have HB10 := Lib.hid (HB9.out.trans (B10.mono HB9.out.size))
  have HX10 := Lib.hid (HX9.out.trans (B10.mono HX9.out.size))
  have G10 := Lib.hid (G9.out.step B10)
  clear hw10 B10 HS10 HB9 HX9 G9
  have HC11 := Lib.hid (or2 P w10 ⟨xA, xc, X⟩ ⟨yA, yc, Y⟩ (G10.out.each _ (by simp)) (G10.out.each _ (by simp)) (by show X.length + Y.length ≤ _; omega))
  simp only [SV64] at HC11 ⊢
  go_wp2_with fail
  refine HC11.out.mono ?_
  rintro e w11 ⟨⟨zbA, zbc, Zb⟩, rfl, hq, -, gq, -, hbq⟩
  simp only at hq
  have hlZb : Zb.length ≤ X.length + Y.length := by rw [hq]; exact or2_len  _ _
  have HZb := Lib.hid hq
  have HB11 := Lib.hid (HB10.out.trans (hbq.mono HB10.out.size))
  have HX11 := Lib.hid (HX10.out.trans (hbq.mono HX10.out.size))
  have G11 := Lib.hid (G10.out.add hbq gq)
  clear hq gq hbq HC11 HB10 HX10 G10
  have HS12 := Lib.hid (same_of w11 ⟨zbA, zbc, Zb⟩ ⟨yA, yc, Y⟩ (G11.out.each _ (by simp)) (G11.out.each _ (by simp)) (by show Zb = Y; rw [HZb.out, HX.out, HY.out]; exact or_in _ _))
  simp only [SV64] at HS12 ⊢
  go_wp2_with fail
  refine HS12.out.mono ?_
  rintro e w12 ⟨rfl, n12, rfl⟩
  obtain ⟨w12, hw12⟩ : ∃ w12, w11.drewN n12 = w12 := ⟨_, rfl⟩
  have B12 : Below w11.heap.size w11 w12 := by rw [← hw12]; exact below_q w11 n12
  rw [hw12]
  have HB12 := Lib.hid (HB11.out.trans (B12.mono HB11.out.size))
  have HX12 := Lib.hid (HX11.out.trans (B12.mono HX11.out.size))
  have G12 := Lib.hid (G11.out.step B12)
  clear hw12 B12 HS12 HB11 HX11 G11
  have HC13 := Lib.hid (and2 P w12 ⟨bA, bc, bl⟩ ⟨aA, ac, al⟩ (G12.out.each _ (by simp)) (G12.out.each _ (by simp)) (by show bl.length + al.length ≤ _; omega))
  simp only [SV64] at HC13 ⊢
  go_wp2_with fail
  refine HC13.out.mono ?_
  rintro e w13 ⟨⟨zcA, zcc, Zc⟩, rfl, hq, -, gq, -, hbq⟩
  simp only at hq
  have hlZc : Zc.length ≤ bl.length + al.length := by rw [hq]; exact and2_len  _ _
  have HZc := Lib.hid hq
  have HB13 := Lib.hid (HB12.out.trans (hbq.mono HB12.out.size))
  have HX13 := Lib.hid (HX12.out.trans (hbq.mono HX12.out.size))
  have G13 := Lib.hid (G12.out.add hbq gq)
  clear hq gq hbq HC13 HB12 HX12 G12
  have HS14 := Lib.hid (same_of w13 ⟨zcA, zcc, Zc⟩ ⟨xA, xc, X⟩ (G13.out.each _ (by simp)) (G13.out.each _ (by simp)) (by show Zc = X; rw [HZc.out, HX.out]; exact and_turn _ _))
  simp only [SV64] at HS14 ⊢
  go_wp2_with fail
  refine HS14.out.mono ?_
  rintro e w14 ⟨rfl, n14, rfl⟩
  obtain ⟨w14, hw14⟩ : ∃ w14, w13.drewN n14 = w14 := ⟨_, rfl⟩
  have B14 : Below w13.heap.size w13 w14 := by rw [← hw14]; exact below_q w13 n14
  rw [hw14]
  have HB14 := Lib.hid (HB13.out.trans (B14.mono HB13.out.size))
  have HX14 := Lib.hid (HX13.out.trans (B14.mono HX13.out.size))
  have G14 := Lib.hid (G13.out.step B14)
  clear hw14 B14 HS14 HB13 HX13 G13
  have HC15 := Lib.hid (or2 P w14 ⟨bA, bc, bl⟩ ⟨aA, ac, al⟩ (G14.out.each _ (by simp)) (G14.out.each _ (by simp)) (by show bl.length + al.length ≤ _; omega))
  simp only [SV64] at HC15 ⊢
  go_wp2_with fail
  refine HC15.out.mono ?_
  rintro e w15 ⟨⟨zdA, zdc, Zd⟩, rfl, hq, -, gq, -, hbq⟩
  simp only at hq
  have hlZd : Zd.length ≤ bl.length + al.length := by rw [hq]; exact or2_len  _ _
  have HZd := Lib.hid hq
  have HB15 := Lib.hid (HB14.out.trans (hbq.mono HB14.out.size))
  have HX15 := Lib.hid (HX14.out.trans (hbq.mono HX14.out.size))
  have G15 := Lib.hid (G14.out.add hbq gq)
  clear hq gq hbq HC15 HB14 HX14 G14
  have HS16 := Lib.hid (same_of w15 ⟨zdA, zdc, Zd⟩ ⟨yA, yc, Y⟩ (G15.out.each _ (by simp)) (G15.out.each _ (by simp)) (by show Zd = Y; rw [HZd.out, HY.out]; exact or_turn _ _))
  simp only [SV64] at HS16 ⊢
  go_wp2_with fail
  refine HS16.out.mono ?_
  rintro e w16 ⟨rfl, n16, rfl⟩
  obtain ⟨w16, hw16⟩ : ∃ w16, w15.drewN n16 = w16 := ⟨_, rfl⟩
  have B16 : Below w15.heap.size w15 w16 := by rw [← hw16]; exact below_q w15 n16
  rw [hw16]
  have HB16 := Lib.hid (HB15.out.trans (B16.mono HB15.out.size))
  have HX16 := Lib.hid (HX15.out.trans (B16.mono HX15.out.size))
  have G16 := Lib.hid (G15.out.step B16)
  clear hw16 B16 HS16 HB15 HX15 G15
  have HC17 := Lib.hid (or2 P w16 ⟨bA, bc, bl⟩ ⟨cA, cc, cl⟩ (G16.out.each _ (by simp)) (G16.out.each _ (by simp)) (by show bl.length + cl.length ≤ _; omega))
  simp only [SV64] at HC17 ⊢
  go_wp2_with fail
  refine HC17.out.mono ?_
  rintro e w17 ⟨⟨zeA, zec, Ze⟩, rfl, hq, -, gq, -, hbq⟩
  simp only at hq
  have hlZe : Ze.length ≤ bl.length + cl.length := by rw [hq]; exact or2_len  _ _
  have HZe := Lib.hid hq
  have HB17 := Lib.hid (HB16.out.trans (hbq.mono HB16.out.size))
  have HX17 := Lib.hid (HX16.out.trans (hbq.mono HX16.out.size))
  have G17 := Lib.hid (G16.out.add hbq gq)
  clear hq gq hbq HC17 HB16 HX16 G16
  have HC18 := Lib.hid (and2 P w17 ⟨aA, ac, al⟩ ⟨zeA, zec, Ze⟩ (G17.out.each _ (by simp)) (G17.out.each _ (by simp)) (by show al.length + Ze.length ≤ _; omega))
  simp only [SV64] at HC18 ⊢
  go_wp2_with fail
  refine HC18.out.mono ?_
  rintro e w18 ⟨⟨zfA, zfc, Zf⟩, rfl, hq, -, gq, -, hbq⟩
  simp only at hq
  have hlZf : Zf.length ≤ al.length + Ze.length := by rw [hq]; exact and2_len  _ _
  have HZf := Lib.hid hq
  have HB18 := Lib.hid (HB17.out.trans (hbq.mono HB17.out.size))
  have HX18 := Lib.hid (HX17.out.trans (hbq.mono HX17.out.size))
  have G18 := Lib.hid (G17.out.add hbq gq)
  clear hq gq hbq HC18 HB17 HX17 G17
  have HC19 := Lib.hid (and2 P w18 ⟨aA, ac, al⟩ ⟨bA, bc, bl⟩ (G18.out.each _ (by simp)) (G18.out.each _ (by simp)) (by show al.length + bl.length ≤ _; omega))
  simp only [SV64] at HC19 ⊢
  go_wp2_with fail
  refine HC19.out.mono ?_
  rintro e w19 ⟨⟨zgA, zgc, Zg⟩, rfl, hq, -, gq, -, hbq⟩
  simp only at hq
  have hlZg : Zg.length ≤ al.length + bl.length := by rw [hq]; exact and2_len  _ _
  have HZg := Lib.hid hq
  have HB19 := Lib.hid (HB18.out.trans (hbq.mono HB18.out.size))
  have HX19 := Lib.hid (HX18.out.trans (hbq.mono HX18.out.size))
  have G19 := Lib.hid (G18.out.add hbq gq)
  clear hq gq hbq HC19 HB18 HX18 G18
  have HC20 := Lib.hid (and2 P w19 ⟨aA, ac, al⟩ ⟨cA, cc, cl⟩ (G19.out.each _ (by simp)) (G19.out.each _ (by simp)) (by show al.length + cl.length ≤ _; omega))
  simp only [SV64] at HC20 ⊢
  go_wp2_with fail
  refine HC20.out.mono ?_
  rintro e w20 ⟨⟨zhA, zhc, Zh⟩, rfl, hq, -, gq, -, hbq⟩
  simp only at hq
  have hlZh : Zh.length ≤ al.length + cl.length := by rw [hq]; exact and2_len  _ _
  have HZh := Lib.hid hq
  have HB20 := Lib.hid (HB19.out.trans (hbq.mono HB19.out.size))
  have HX20 := Lib.hid (HX19.out.trans (hbq.mono HX19.out.size))
  have G20 := Lib.hid (G19.out.add hbq gq)
  clear hq gq hbq HC20 HB19 HX19 G19
  have HC21 := Lib.hid (or2 P w20 ⟨zgA, zgc, Zg⟩ ⟨zhA, zhc, Zh⟩ (G20.out.each _ (by simp)) (G20.out.each _ (by simp)) (by show Zg.length + Zh.length ≤ _; omega))
  simp only [SV64] at HC21 ⊢
  go_wp2_with fail
  refine HC21.out.mono ?_
  rintro e w21 ⟨⟨ziA, zic, Zi⟩, rfl, hq, -, gq, -, hbq⟩
  simp only at hq
  have hlZi : Zi.length ≤ Zg.length + Zh.length := by rw [hq]; exact or2_len  _ _
  have HZi := Lib.hid hq
  have HB21 := Lib.hid (HB20.out.trans (hbq.mono HB20.out.size))
  have HX21 := Lib.hid (HX20.out.trans (hbq.mono HX20.out.size))
  have G21 := Lib.hid (G20.out.add hbq gq)
  clear hq gq hbq HC21 HB20 HX20 G20
  have HS22 := Lib.hid (same_of w21 ⟨zfA, zfc, Zf⟩ ⟨ziA, zic, Zi⟩ (G21.out.each _ (by simp)) (G21.out.each _ (by simp)) (by show Zf = Zi; rw [HZf.out, HZi.out, HZe.out, HZg.out, HZh.out]; exact and_or _ _ _))
  simp only [SV64] at HS22 ⊢
  go_wp2_with fail
  refine HS22.out.mono ?_
  rintro e w22 ⟨rfl, n22, rfl⟩
  obtain ⟨w22, hw22⟩ : ∃ w22, w21.drewN n22 = w22 := ⟨_, rfl⟩
  have B22 : Below w21.heap.size w21 w22 := by rw [← hw22]; exact below_q w21 n22
  rw [hw22]
  have HB22 := Lib.hid (HB21.out.trans (B22.mono HB21.out.size))
  have HX22 := Lib.hid (HX21.out.trans (B22.mono HX21.out.size))
  have G22 := Lib.hid (G21.out.step B22)
  clear hw22 B22 HS22 HB21 HX21 G21
  have HO22 : Hid (w22.ownsRow w3.heap.size 31 1 (.slice xA X.length xc) X.length (X.map B64)) := Lib.hid (by
    have h := own_keep HOX.out HX22.out
    rw [← HX.out] at h
    exact h)
  have hx47 : X.length + 3 ≤ 3145731 := by omega
  clear HOX HX22 G22 HU HV HZa HZb HZc HZd HZe HZf HZg HZh HZi HY HX hlU hlV hlZa hlZb hlZc hlZd hlZe hlZf hlZg hlZh hlZi hcnt d1 hy1
  go_wp2_with (at_builtin; refine wpList_append_src (v := .slice xA X.length xc) _ rfl (.tmp 118) (.tmp 119) 22 rfl w3.heap.size 31 i1 (.int .u64 0) 8 Try.underlying22 gi gz0 gz1 gz2 rfl _ _ rfl (HO22.out.alloc _) ⟨w22.heap.size, 0, none⟩ 3 3 [.int .u64 1, .int .u64 2, .int .u64 3] rfl rfl ?e0 ?e1 ?e2 ?e3 ?e4 ?_)
  case e0 => exact (Rd.made w22 #[.int .u64 1, .int .u64 2, .int .u64 3] 31).add_
  case e1 => intro u hu; simp at hu; rcases hu with rfl | rfl | rfl <;> rfl
  case e2 => unfold maxLen; omega
  case e3 => omega
  case e4 => have := HB22.out.size; simp; omega
  intro vz wz hownz hgz hsrc
  have HBZ := Lib.hid (below_app (HO22.out.alloc _) (HB22.out.alloc HB22.out.size _) hgz)
  obtain ⟨zA, zc, rfl, hz1, hz2, _, _⟩ := own_rd hownz
  have HST : Hid (Below w3.heap.size w3 wz ∧ (0 < X.length → ∃ gx cur, xA = some ⟨gx, 0, none⟩ ∧ w3.heap.size ≤ gx ∧ wz.heap[gx]? = some (.cells cur 31 (0, 0)) ∧ X.length ≤ cur.size)) := Lib.hid ⟨HBZ.out, fun h0 => by
    obtain ⟨gx, rfl, hge⟩ := HXF.out h0
    obtain ⟨cu, h1, h2⟩ := (by first | exact hsrc gx rfl | exact hsrc gx xc rfl : ∃ cur, wz.heap[gx]? = some (.cells cur 31 (0, 0)) ∧ X.length ≤ cur.size)
    exact ⟨gx, cu, rfl, hge, h1, h2⟩⟩
  unfold maxLen at hz2
  have dz : (((X.length + 3 : Nat) : Int) == (X.length : Int) + 3) = true := by simp
  clear hownz hgz hsrc HO22 HB22 HBZ
  go_wp2
  go_loopw [11] (fun vi wr => ARel w3 xA X.length vi wr) (fun vi _ => X.length - (intOf vi).toNat)
  case atStart => exact ⟨0, Nat.zero_le _, rfl, HST⟩
  case round =>
    obtain ⟨k, hk, rfl, hst⟩ := hrel
    clear HST
    by_cases hlt : k < X.length
    · obtain ⟨gx, cu, rfl, hge, hcu, hcs⟩ := hst.out.2 (by omega)
      have k1 := cell_in hcu (k := k) (by omega)
      have f1 := free_in (k := k) hcu
      have HNX : Hid (Below w3.heap.size w3 (wr.setCell ⟨gx, k, none⟩ (.int .u64 99)) ∧ (0 < X.length → ∃ g2 cur, some ⟨gx, 0, none⟩ = some (⟨g2, 0, none⟩ : Addr) ∧ w3.heap.size ≤ g2 ∧ (wr.setCell ⟨gx, k, none⟩ (.int .u64 99)).heap[g2]? = some (.cells cur 31 (0, 0)) ∧ X.length ≤ cur.size)) := Lib.hid (by
        have hbl := hst.out.1
        exact ⟨⟨hbl.os, hbl.tape, hbl.output, by simpa using hbl.size, fun i hi => (heap_setCell_other wr ⟨gx, k, none⟩ i (.int .u64 99) (by show i ≠ gx; omega)).trans (hbl.block i hi)⟩, fun _ => ⟨gx, _, rfl, hge, heap_setCell_same wr gx k _ _ (.int .u64 99) hcu, by simpa using hcs⟩⟩)
      generalize cu[k] = ck at k1
      clear hcu hcs hst hge
      have j1 : (0 : Int) ≤ (k : Int) := by omega
      have j2 : (k : Int) < (X.length : Int) := by omega
      go_wp2
      go_roundw
      case rel => exact ⟨k + 1, by omega, by go_num, HNX⟩
      case measure => simp [intOf]; omega
    · have HBR := Lib.hid hst.out.1
      have HSA := Lib.hid (same_of wr ⟨some ⟨g, 0, none⟩, fc, al⟩ ⟨aA, ac, al⟩ (HK3.out.2.1.below HBR.out) (HK3.out.2.2.below HBR.out) rfl)
      simp only [SV64] at HSA
      have hkm : ¬ (k : Int) < (X.length : Int) := by omega
      clear hst hlt hk
      go_wp2_with fail
      refine HSA.out.mono ?_
      rintro e wa ⟨rfl, na, rfl⟩
      obtain ⟨wa, hwa⟩ : ∃ wa, wr.drewN na = wa := ⟨_, rfl⟩
      have HBA : Hid (Below w3.heap.size w3 wa) := Lib.hid (by rw [← hwa]; exact HBR.out.trans ((below_q wr na).mono HBR.out.size))
      have HN := Lib.hid (and0 P wa)
      rw [hwa]
      clear hwa HSA HBR
      go_wp2_with fail
      refine HN.out.mono ?_
      rintro e wb ⟨⟨pA, pc, p⟩, rfl, hp, -, -, -, hbb⟩
      simp only at hp
      subst hp
      have HBB := Lib.hid (HBA.out.trans (hbb.mono HBA.out.size))
      have HN2 := Lib.hid (or0 P wb)
      simp only [SV64, List.length_nil]
      clear hbb HN HBA
      go_wp2_with fail
      refine HN2.out.mono ?_
      rintro e wd ⟨⟨qA, qc, q⟩, rfl, hq, -, -, -, hbd⟩
      simp only at hq
      subst hq
      have HBD := Lib.hid (HK3.out.1.trans ((HBB.out.trans (hbd.mono HBB.out.size)).mono HK3.out.1.size))
      simp only [SV64, List.length_nil]
      clear hbd HN2 HBB
      go_wp2
      go_ret
      exact ⟨rfl, HBD.out⟩
end Go.Proofs.Ytfojpbbmicmooaa.PsAlgebraW
