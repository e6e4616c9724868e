/- The statements' own small and awake, over the contracts of the program's manifests. Conditions: the program's table is laid. -/
import Derived.Test.YtjninegpaoblfaaGreatDoorMfDisks
import Derived.Test.YtjninegpaoblfaaGreatDoorRefMl
import Derived.Deep.RegionHeld3
import Derived.Deep.CutBlock
namespace Go.Proofs.YtjninegpaoblfaaGreatDoor.MfAwake
open Go Go.RowKit Words AppN DkSpec PdLook RefDisk PdDisk PdOps MfSpec MfMem RefMf RefMw RefMr MfRead MfDisk MfLaw Tab Framed Reading

def smallM : Man := ⟨2, 3, 9, 5, [⟨1, 4, 10, 20⟩]⟩
theorem ok_small : Ok smallM := ⟨by constructor <;> decide, by constructor <;> decide, by constructor <;> decide, fun s hs => by
  simp [smallM] at hs
  subst hs
  exact ⟨by constructor <;> decide, by constructor <;> decide, by constructor <;> decide, by constructor <;> decide⟩⟩
theorem may_small : may smallM = true := by
  rw [← mayTo_all, show smallM.segs.length = 0 + 1 from rfl, mayTo_succ (show smallM.segs[0]? = some ⟨1, 4, 10, 20⟩ from rfl), okIn_zero, mayTo_zero]
  decide
theorem read_small : MfSpec.read (mbytes smallM) = (0, smallM) := read_is ⟨ok_small, may_small, rfl⟩
theorem read_nil : MfSpec.read [] = (30, zero) := none_frame (by decide)
theorem load_fresh : MfSpec.load fresh = (0, MfSpec.first) := by
  unfold MfSpec.load
  rw [show DkSpec.read nm fresh = (21, []) from rfl, if_pos rfl]

theorem laid_up {w w' : World} (h : Laid w w.heap.size) (hb : Below w.heap.size w w') : Laid w' w'.heap.size := (h.below hb).more hb.size

set_option maxHeartbeats 1600000 in
set_option maxRecDepth 100000 in
theorem small_any (w : World) : Calls Tryz.prog 23 #[] w fun e w' => ∃ mm : MM, e = .returned (aggM mm) ∧ mm.1 = smallM ∧ OkM w' mm ∧ Below w.heap.size w w' := by
  go_enter Tryz.func23, Tryz.ntmps23
  go_wp2
  have hrow := World.ownsRow_lit (base := w.heap.size) (e := 65) (size := 4) (w.alloc (.cells #[.int .i64 2, .int .i64 3, .int .u64 9, .int .i64 5, .slice (some ⟨w.heap.size + 1, 0, none⟩) 1 1] 37)) #[.int .i64 1, .int .i64 4, .int .i64 10, .int .i64 20] 1 (by simp) (by unfold maxLen; omega) rfl
  rw [show (w.alloc (.cells #[.int .i64 2, .int .i64 3, .int .u64 9, .int .i64 5, .slice (some ⟨w.heap.size + 1, 0, none⟩) 1 1] 37)).heap.size = w.heap.size + 1 by simp] at hrow
  refine bodyPost_ret (results_cell_row rfl _ _ w.heap.size 37 #[.int .i64 2, .int .i64 3, .int .u64 9, .int .i64 5, .slice (some ⟨w.heap.size + 1, 0, none⟩) 1 1] _ _ rfl ((Below.heap_alloc _ _ _ (by simp)).trans (heap_alloc_new w _)) Tryz.underlying37 rfl (by kernel_rfl)) rfl ?_
  refine ⟨(smallM, some ⟨w.heap.size + 1, 0, none⟩, 1, 1), rfl, rfl, ⟨?_, ok_small⟩, ((Below.refl _ w).alloc (Nat.le_refl _) _).trans ((Below.refl _ _).alloc (by simp) _)⟩
  obtain ⟨A, c, h1, h2, _⟩ := own_sgs (l := smallM.segs) hrow
  simp only [Value.slice.injEq] at h1
  obtain ⟨rfl, _, rfl⟩ := h1
  exact h2
theorem rpost_ok {r : Nat × Man} {w w' : World} {e : Ending} (h : RPost r w e w') (ho : Ok r.2) : ∃ mm : MM, e = .returned (.tuple #[aggM mm, .int .i64 (r.1 : Int)]) ∧ mm.1 = r.2 ∧ OkM w' mm ∧ Below w.heap.size w w' := by
  obtain ⟨mm, h1, h2, h3, h4⟩ := h
  obtain ⟨A, c, h5, h6, _⟩ := own_sgs h3
  refine ⟨mm, h1, h2, ⟨?_, by rw [h2]; exact ho⟩, h4⟩
  obtain ⟨x, A', n', c'⟩ := mm
  unfold slV at h5
  simp only [Value.slice.injEq] at h5
  obtain ⟨rfl, rfl, rfl⟩ := h5
  exact h6
theorem box_alloc (w : World) (m : MM) : BoxM (w.alloc (boxM m)) w.heap.size m := boxed1 w m
/-- Two manifests in boxes. -/
structure Two (W : World) (g3 g7 : Nat) (m n : MM) (w : World) : Prop where
  b3 : BoxM w g3 m
  b7 : BoxM w g7 n
  ok3 : OkM w m
  ok7 : OkM w n
  l3 : g3 < w.heap.size
  l7 : g7 < w.heap.size
  below : Below W.heap.size W w
  laid : Laid w w.heap.size
theorem Two.call {W w w' : World} {g3 g7 : Nat} {m n : MM} (h : Two W g3 g7 m n w) (hb : Below w.heap.size w w') : Two W g3 g7 m n w' :=
  ⟨h.b3.up hb h.l3, h.b7.up hb h.l7, h.ok3.below hb, h.ok7.below hb, Nat.lt_of_lt_of_le h.l3 hb.size, Nat.lt_of_lt_of_le h.l7 hb.size, h.below.trans (hb.mono h.below.size), laid_up h.laid hb⟩

def ag (a b : Int) (c : UInt64) (d : Int) (A : Option Addr) (n k : Nat) : Value := .agg #[.int .i64 a, .int .i64 b, .int .u64 (c.toNat : Int), .int .i64 d, .slice A n k]
theorem open_mm {w w' : World} {e : Ending} {x : Man} (h : ∃ mm : MM, e = .returned (aggM mm) ∧ mm.1 = x ∧ OkM w' mm ∧ Below w.heap.size w w') :
    ∃ (a b : Int) (c : UInt64) (d : Int) (l : List Sg) (A : Option Addr) (n k : Nat), e = .returned (.agg #[.int .i64 a, .int .i64 b, .int .u64 (c.toNat : Int), .int .i64 d, .slice A n k]) ∧ (⟨a, b, c, d, l⟩ : Man) = x ∧ OkM w' (⟨a, b, c, d, l⟩, A, n, k) ∧ Below w.heap.size w w' := by
  obtain ⟨⟨⟨a, b, c, d, l⟩, A, n, k⟩, h1, h2, h3, h4⟩ := h
  exact ⟨a, b, c, d, l, A, n, k, h1, h2, h3, h4⟩
theorem same_same (w : World) (a b : Int) (c : UInt64) (d : Int) (l : List Sg) (A : Option Addr) (n k : Nat) (a' b' : Int) (c' : UInt64) (d' : Int) (l' : List Sg) (A' : Option Addr) (n' k' : Nat) (h1 : OkM w (⟨a, b, c, d, l⟩, A, n, k)) (h2 : OkM w (⟨a', b', c', d', l'⟩, A', n', k')) (r : Bool) (h : decide ((⟨a, b, c, d, l⟩ : Man) = ⟨a', b', c', d', l'⟩) = r) :
    Calls Tryz.prog 16 #[.agg #[.int .i64 a, .int .i64 b, .int .u64 (c.toNat : Int), .int .i64 d, .slice A n k], .agg #[.int .i64 a', .int .i64 b', .int .u64 (c'.toNat : Int), .int .i64 d', .slice A' n' k']] w fun e w' => e = .returned (.bool r) ∧ Below w.heap.size w w' :=
  same_any w _ _ h1 h2 r h
theorem same_first (w : World) (a b : Int) (c : UInt64) (d : Int) (l : List Sg) (A : Option Addr) (n k : Nat) (h1 : OkM w (⟨a, b, c, d, l⟩, A, n, k)) (h : (⟨a, b, c, d, l⟩ : Man) = MfSpec.first) :
    Calls Tryz.prog 16 #[.agg #[.int .i64 a, .int .i64 b, .int .u64 (c.toNat : Int), .int .i64 d, .slice A n k], .agg #[.int .i64 1, .int .i64 1, .int .u64 1, .int .i64 (-9223372036854775808), .slice none 0 0]] w fun e w' => e = .returned (.bool true) ∧ Below w.heap.size w w' :=
  same_any w (⟨a, b, c, d, l⟩, A, n, k) (MfSpec.first, none, 0, 0) h1 (okM_of rfl ok_first) true (decide_eq_true h)
theorem rfirst_agg (w : World) : Calls Tryz.prog 26 #[] w fun e w' => e = .returned (.agg #[.int .i64 1, .int .i64 1, .int .u64 1, .int .i64 (-9223372036854775808), .slice none 0 0]) ∧ Below w.heap.size w w' := rfirst_any w

set_option maxHeartbeats 6400000 in
set_option maxRecDepth 100000 in
theorem awake_any (P : Mfs) (w : World) (hL : Laid w w.heap.size) : Calls Tryz.prog 4 #[] w fun e w' => e = .returned (.bool true) ∧ Below w.heap.size w w' := by
  have HL := Lib.hid hL
  have H1 := Lib.hid (small_any w)
  clear hL
  go_enter Tryz.func4, Tryz.ntmps4
  go_wp2_with fail
  refine H1.out.mono ?_
  rintro e w1 ⟨s1, rfl, hs1, hok1, hb1⟩
  have HB1 := Lib.hid hb1
  have H2 := Lib.hid (P.write w1 s1 hok1 (laid_up HL.out hb1))
  unfold WPost at H2
  rw [hs1, write_ok may_small] at H2
  simp only at H2
  have HBL : Hid ((mbytes smallM).length ≤ 41024) := Lib.hid (bytes_len (may_of ok_small may_small).head)
  have HRS := Lib.hid read_small
  generalize mbytes smallM = BY at *
  generalize aggM s1 = av1 at *
  clear hs1 hok1 hb1 H1
  go_wp2_with fail
  refine H2.out.mono ?_
  rintro e w2 ⟨v2, rfl, hown2, hb2⟩
  have HB2 : Hid (Below w.heap.size w w2) := Lib.hid (HB1.out.trans (hb2.mono HB1.out.size))
  obtain ⟨A2, c2, rfl, hc2, hm2, _⟩ := Put.own_slice hown2
  have H3 := Lib.hid (P.read w2 BY A2 BY.length c2 rfl (Rd.of_own hown2) hc2 hm2 (laid_up HL.out HB2.out))
  rw [HRS.out] at H3
  replace H3 := Lib.hid (H3.out.mono fun e w' h => rpost_ok h ok_small)
  simp only at H3
  clear hown2 hb2 H2 HB1 hm2
  go_wp2_with fail
  refine H3.out.mono ?_
  rintro e w3 ⟨⟨⟨m0, m1, m2, m3, ml⟩, mA, mn, mc⟩, rfl, hmm, hok3, hb3⟩
  simp only at hmm
  have HM3 := Lib.hid hmm
  have HB3 : Hid (Below w.heap.size w w3) := Lib.hid (HB2.out.trans (hb3.mono HB2.out.size))
  have HBX3 := Lib.hid (boxed1 w3 (⟨m0, m1, m2, m3, ml⟩, mA, mn, mc))
  have HA3 : Hid (Below w3.heap.size w3 (w3.alloc (boxM (⟨m0, m1, m2, m3, ml⟩, mA, mn, mc)))) := Lib.hid ((Below.refl _ w3).alloc (Nat.le_refl _) _)
  have hl3 : w3.heap.size < (w3.alloc (boxM (⟨m0, m1, m2, m3, ml⟩, mA, mn, mc))).heap.size := by simp
  have HOK3 : Hid (OkM (w3.alloc (boxM (⟨m0, m1, m2, m3, ml⟩, mA, mn, mc))) (⟨m0, m1, m2, m3, ml⟩, mA, mn, mc)) := Lib.hid (hok3.below HA3.out)
  have H4 := P.read (w3.alloc (boxM (⟨m0, m1, m2, m3, ml⟩, mA, mn, mc))) [] none 0 0 rfl Rd.nil_ (Nat.le_refl _) (Nat.zero_le _) (laid_up HL.out (HB3.out.trans (HA3.out.mono HB3.out.size)))
  rw [read_nil] at H4
  replace H4 := Lib.hid (H4.mono fun e w' h => rpost_ok h ok_zero)
  simp only at H4
  unfold boxM at HBX3 HA3 hl3 HOK3 H4
  simp only at HBX3 HA3 hl3 HOK3 H4
  unfold aggM slV
  simp only
  clear hmm hok3 hb3 H3 HRS HB2
  go_wp2_with fail
  obtain ⟨W3, hW3⟩ : ∃ W3, w3.alloc (.cells #[.int .i64 m0, .int .i64 m1, .int .u64 (m2.toNat : Int), .int .i64 m3, .slice mA mn mc] 37) = W3 := ⟨_, rfl⟩
  rw [hW3] at HBX3 HA3 hl3 HOK3 H4
  rw [hW3]
  clear hW3
  obtain ⟨g3, hg3⟩ : ∃ g3, w3.heap.size = g3 := ⟨_, rfl⟩
  have HG3 : Hid (w.heap.size ≤ g3) := Lib.hid (by rw [← hg3]; exact HB3.out.size)
  have HW3 : Hid (Below w.heap.size w W3) := Lib.hid (HB3.out.trans (HA3.out.mono HB3.out.size))
  rw [hg3] at HBX3 hl3
  rw [hg3]
  clear hg3 HA3 HB3
  refine H4.out.mono ?_
  rintro e w4 ⟨⟨⟨z0, z1, z2, z3, zl⟩, zA, zn, zc⟩, rfl, hz, hokz, hb4⟩
  unfold aggM slV
  simp only
  have HB4 := Lib.hid hb4
  have HA4 : Hid (Below w4.heap.size w4 (w4.alloc (.cells #[.int .i64 z0, .int .i64 z1, .int .u64 (z2.toNat : Int), .int .i64 z3, .slice zA zn zc] 37))) := Lib.hid ((Below.refl _ w4).alloc (Nat.le_refl _) _)
  have H5 := Lib.hid (PdOps.new_any (w4.alloc (.cells #[.int .i64 z0, .int .i64 z1, .int .u64 (z2.toNat : Int), .int .i64 z3, .slice zA zn zc] 37)) (fun _ => 0) 1)
  clear hz hokz hb4 H4
  go_wp2_with fail
  refine H5.out.mono ?_
  rintro e w5 ⟨p, K5, rfl, _, hd5, ht5⟩
  have HB5 : Hid (Below W3.heap.size W3 w5) := Lib.hid ((HB4.out.trans (HA4.out.mono HB4.out.size)).trans ((PdSt.St.first hd5 ht5).below.mono (by have := HB4.out.size; simp; omega)))
  have H6 := P.load w5 K5 1 p fresh hd5 small_fresh (laid_up HL.out (HW3.out.trans (HB5.out.mono HW3.out.size)))
  rw [load_fresh] at H6
  replace H6 := Lib.hid (H6.mono fun e w' h => rpost_ok h ok_first)
  simp only at H6
  clear hd5 ht5 H5 HB4 HA4
  go_wp2_with fail
  refine H6.out.mono ?_
  rintro e w6 ⟨⟨⟨n0, n1, n2, n3, nl⟩, nA, nn, nc⟩, rfl, hnn, hok6, hb6⟩
  simp only at hnn
  have HM7 := Lib.hid hnn
  unfold aggM slV
  simp only
  have HB6 : Hid (Below W3.heap.size W3 w6) := Lib.hid (HB5.out.trans (hb6.mono HB5.out.size))
  have HA6 : Hid (Below w6.heap.size w6 (w6.alloc (boxM (⟨n0, n1, n2, n3, nl⟩, nA, nn, nc)))) := Lib.hid ((Below.refl _ w6).alloc (Nat.le_refl _) _)
  have HB6' : Hid (Below W3.heap.size W3 (w6.alloc (boxM (⟨n0, n1, n2, n3, nl⟩, nA, nn, nc)))) := Lib.hid (HB6.out.trans (HA6.out.mono HB6.out.size))
  have HWW : Hid (Below w.heap.size w (w6.alloc (boxM (⟨n0, n1, n2, n3, nl⟩, nA, nn, nc)))) := Lib.hid (HW3.out.trans (HB6'.out.mono HW3.out.size))
  have HT : Hid (Two w g3 w6.heap.size (⟨m0, m1, m2, m3, ml⟩, mA, mn, mc) (⟨n0, n1, n2, n3, nl⟩, nA, nn, nc) (w6.alloc (boxM (⟨n0, n1, n2, n3, nl⟩, nA, nn, nc)))) := Lib.hid
    ⟨HBX3.out.up HB6'.out hl3, boxed1 w6 _, HOK3.out.below HB6'.out, hok6.below HA6.out, Nat.lt_of_lt_of_le hl3 HB6'.out.size, (by simp), HWW.out, laid_up HL.out HWW.out⟩
  unfold boxM at HT
  simp only at HT
  clear hnn hok6 hb6 H6 HB5 HB6 HA6 HB6' HWW HOK3 HBX3 hl3
  go_upto_region 5 with (fail)
  obtain ⟨W7, hW7⟩ : ∃ W7, w6.alloc (.cells #[.int .i64 n0, .int .i64 n1, .int .u64 (n2.toNat : Int), .int .i64 n3, .slice nA nn nc] 37) = W7 := ⟨_, rfl⟩
  rw [hW7] at HT
  rw [hW7]
  clear hW7
  obtain ⟨g7, hg7⟩ : ∃ g7, w6.heap.size = g7 := ⟨_, rfl⟩
  rw [hg7] at HT
  rw [hg7]
  clear hg7
  have HSTEP : Hid (∀ wz w', Hid (Two w g3 g7 (⟨m0, m1, m2, m3, ml⟩, mA, mn, mc) (⟨n0, n1, n2, n3, nl⟩, nA, nn, nc) wz) → Below wz.heap.size wz w' → Hid (Two w g3 g7 (⟨m0, m1, m2, m3, ml⟩, mA, mn, mc) (⟨n0, n1, n2, n3, nl⟩, nA, nn, nc) w') ∧ (w'.cell? ⟨g3, 0, none⟩ = some (.int .i64 m0) ∧ w'.cell? ⟨g3, 1, none⟩ = some (.int .i64 m1) ∧ w'.cell? ⟨g3, 2, none⟩ = some (.int .u64 (m2.toNat : Int)) ∧ w'.cell? ⟨g3, 3, none⟩ = some (.int .i64 m3) ∧ w'.cell? ⟨g3, 4, none⟩ = some (.slice mA mn mc) ∧ w'.cell? ⟨g7, 0, none⟩ = some (.int .i64 n0) ∧ w'.cell? ⟨g7, 1, none⟩ = some (.int .i64 n1) ∧ w'.cell? ⟨g7, 2, none⟩ = some (.int .u64 (n2.toNat : Int)) ∧ w'.cell? ⟨g7, 3, none⟩ = some (.int .i64 n3) ∧ w'.cell? ⟨g7, 4, none⟩ = some (.slice nA nn nc))) := Lib.hid fun wz w' h hb => by
    have h' := h.out.call hb
    exact ⟨Lib.hid h', h'.b3.c0, h'.b3.c1, h'.b3.c2, h'.b3.c3, h'.b3.c4, h'.b7.c0, h'.b7.c1, h'.b7.c2, h'.b7.c3, h'.b7.c4⟩
  obtain ⟨HT0, y0, y1, y2, y3, y4, y5, y6, y7, y8, y9⟩ := HSTEP.out W7 W7.drew HT (below_drew1 (Below.refl _ _))
  have CS := fun wz => Lib.hid ((small_any wz).mono fun e w' h => open_mm h)
  have CF := fun wz => Lib.hid (rfirst_agg wz)
  have CP := fun wz => Lib.hid ((P.first wz).mono fun e w' h => open_mm h)
  go_region_held3 (fun w' => w'.cell? ⟨g3, 0, none⟩ = some (.int .i64 m0) ∧ w'.cell? ⟨g3, 1, none⟩ = some (.int .i64 m1) ∧ w'.cell? ⟨g3, 2, none⟩ = some (.int .u64 (m2.toNat : Int)) ∧ w'.cell? ⟨g3, 3, none⟩ = some (.int .i64 m3) ∧ w'.cell? ⟨g3, 4, none⟩ = some (.slice mA mn mc) ∧ w'.cell? ⟨g7, 0, none⟩ = some (.int .i64 n0) ∧ w'.cell? ⟨g7, 1, none⟩ = some (.int .i64 n1) ∧ w'.cell? ⟨g7, 2, none⟩ = some (.int .u64 (n2.toNat : Int)) ∧ w'.cell? ⟨g7, 3, none⟩ = some (.int .i64 n3) ∧ w'.cell? ⟨g7, 4, none⟩ = some (.slice nA nn nc)) (first | assumption | go_keep) (first
    | (go_at_call 23; refine (CS _).out.mono ?_; rintro e w8 ⟨s0, s1, s2, s3, sl, sA, sn, sc, rfl, hs8, hok8, hb8⟩; obtain ⟨HT8, a0, a1, a2, a3, a4, a5, a6, a7, a8, a9⟩ := HSTEP.out _ _ HT0 hb8; have HS8 := Lib.hid hs8; have HK8 := Lib.hid hok8; clear hs8 hok8)
    | (go_at_call 16; with_reducible refine (same_same _ m0 m1 m2 m3 ml mA mn mc s0 s1 s2 s3 sl sA sn sc HT8.out.ok3 HK8.out true (decide_eq_true (HM3.out.trans HS8.out.symm))).mono ?_; rintro e w9 ⟨rfl, hb9⟩; obtain ⟨HT9, c0, c1, c2, c3, c4, c5, c6, c7, c8, c9⟩ := HSTEP.out _ _ HT8 hb9)
    | (go_at_call 26; refine (CF _).out.mono ?_; rintro e w10 ⟨rfl, hb10⟩; obtain ⟨HT10, d0, d1, d2, d3, d4, d5, d6, d7, d8, d9⟩ := HSTEP.out _ _ HT9 hb10)
    | (go_at_call 16; with_reducible refine (same_first _ n0 n1 n2 n3 nl nA nn nc HT10.out.ok7 HM7.out).mono ?_; rintro e w11 ⟨rfl, hb11⟩; obtain ⟨HT11, e0, e1, e2, e3, e4, e5, e6, e7, e8, e9⟩ := HSTEP.out _ _ HT10 hb11)
    | (go_at_call 27; refine (CP _).out.mono ?_; rintro e w12 ⟨f0, f1, f2, f3, fl, fA, fn, fc, rfl, hf, hok12, hb12⟩; obtain ⟨HT12, k0, k1, k2, k3, k4, k5, k6, k7, k8, k9⟩ := HSTEP.out _ _ HT11 hb12; have HF12 := Lib.hid hf; have HK12 := Lib.hid hok12; clear hf hok12)
    | (go_at_call 16; with_reducible refine (same_same _ f0 f1 f2 f3 fl fA fn fc n0 n1 n2 n3 nl nA nn nc HK12.out HT12.out.ok7 true (decide_eq_true (HF12.out.trans HM7.out.symm))).mono ?_; rintro e w13 ⟨rfl, hb13⟩; obtain ⟨HT13, l0, l1, l2, l3, l4, l5, l6, l7, l8, l9⟩ := HSTEP.out _ _ HT12 hb13))
  all_goals
    go_wp2
    go_ret
    exact ⟨rfl, HT13.out.below⟩
end Go.Proofs.YtjninegpaoblfaaGreatDoor.MfAwake
