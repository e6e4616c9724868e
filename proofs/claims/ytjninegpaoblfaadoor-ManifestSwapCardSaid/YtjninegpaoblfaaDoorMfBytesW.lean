/- ManifestBytes, walked over the contracts of the program's manifests. Conditions: the program's table is laid. -/
import Derived.Test.YtjninegpaoblfaaDoorMfAwake
namespace Go.Proofs.YtjninegpaoblfaaDoor.MfBytesW
open Go Go.RowKit Words AppN DkSpec MfSpec MfMem RefMf RefMw RefMr MfRead MfLaw MfAwake Tab Framed Reading

theorem wpost_open {m : Man} {w w' : World} {e : Ending} (h : WPost m w e w') : ∃ (A : Option Addr) (c : Nat), e = .returned (.tuple #[.slice A (write m).2.length c, .int .i64 ((write m).1 : Int)]) ∧ (write m).2.length ≤ c ∧ c ≤ maxLen ∧ Rd w' w'.heap.size A ((write m).2.map B8) ∧ Below w.heap.size w w' := by
  obtain ⟨v, h1, h2, h3⟩ := h
  obtain ⟨A, c, rfl, h4, h5, _⟩ := Put.own_slice h2
  exact ⟨A, c, h1, h4, h5, Rd.of_own h2, h3⟩
theorem rpost_open {r : Nat × Man} {w w' : World} {e : Ending} (h : RPost r w e w') (ho : Ok r.2) :
    ∃ (a b : Int) (c : UInt64) (d : Int) (l : List Sg) (A : Option Addr) (n k : Nat), e = .returned (.tuple #[.agg #[.int .i64 a, .int .i64 b, .int .u64 (c.toNat : Int), .int .i64 d, .slice A n k], .int .i64 (r.1 : Int)]) ∧ (⟨a, b, c, d, l⟩ : Man) = r.2 ∧ OkM w' (⟨a, b, c, d, l⟩, A, n, k) ∧ Below w.heap.size w w' := by
  obtain ⟨⟨⟨a, b, c, d, l⟩, A, n, k⟩, h1, h2, h3, h4⟩ := rpost_ok h ho
  exact ⟨a, b, c, d, l, A, n, k, h1, h2, h3, h4⟩
theorem rpost_own {r : Nat × Man} {w w' : World} {e : Ending} (h : RPost r w e w') :
    ∃ (a b : Int) (c : UInt64) (d : Int) (l : List Sg) (A : Option Addr) (n k : Nat), e = .returned (.tuple #[.agg #[.int .i64 a, .int .i64 b, .int .u64 (c.toNat : Int), .int .i64 d, .slice A n k], .int .i64 (r.1 : Int)]) ∧ (⟨a, b, c, d, l⟩ : Man) = r.2 ∧ w'.ownsRow w.heap.size 41 4 (.slice A n k) l.length (flatS l) ∧ Below w.heap.size w w' := by
  obtain ⟨⟨⟨a, b, c, d, l⟩, A, n, k⟩, h1, h2, h3, h4⟩ := h
  exact ⟨a, b, c, d, l, A, n, k, h1, h2, h3, h4⟩
theorem own_okM {w : World} {base : Nat} {m : Man} {A : Option Addr} {n k : Nat} (h : w.ownsRow base 41 4 (.slice A n k) m.segs.length (flatS m.segs)) (ho : Ok m) : OkM w (m, A, n, k) := by
  obtain ⟨A', c', h1, h2, _⟩ := own_sgs h
  simp only [Value.slice.injEq] at h1
  obtain ⟨rfl, rfl, rfl⟩ := h1
  exact ⟨h2, ho⟩
theorem own_put5 {w : World} {base n g : Nat} {e : TypeId} {v : Value} {xs : List Value} {a b c d f : Value} {size : Nat} (h : w.ownsRow base e size v n xs) (hg : g < base) :
    (((((w.setCell ⟨g, 0, none⟩ a).setCell ⟨g, 1, none⟩ b).setCell ⟨g, 2, none⟩ c).setCell ⟨g, 3, none⟩ d).setCell ⟨g, 4, none⟩ f).ownsRow base e size v n xs :=
  ownsRow_setCell_below (ownsRow_setCell_below (ownsRow_setCell_below (ownsRow_setCell_below (ownsRow_setCell_below h hg _) hg _) hg _) hg _) hg _

set_option maxHeartbeats 6400000 in
set_option maxRecDepth 100000 in
theorem bytes_walk (P : Mfs) (w : World) (hL : Laid w w.heap.size) (m : MM) (hm : OkM w m) (b : List UInt8) (Ab : Option Addr) (cb : Nat) (hb : Rd w w.heap.size Ab (b.map B8)) (hcb : b.length ≤ cb) (hmb : cb ≤ maxLen) (hlen : b.length ≤ 4611686018427387904) :
    Calls Tryd.prog 3 #[aggM m, .slice Ab b.length cb] w fun e w' => e = .returned (.bool true) ∧ Below w.heap.size w w' := by
  have HL := Lib.hid hL
  have HRB := Lib.hid hb
  have HCB := Lib.hid hcb
  have HMB := Lib.hid hmb
  have HLEN := Lib.hid hlen
  have HM := Lib.hid hm
  have HBA : Hid (Below w.heap.size w (w.alloc (boxM m))) := Lib.hid ((Below.refl _ w).alloc (Nat.le_refl _) _)
  have HBX := Lib.hid (boxed1 w m)
  have hw0 : w.heap.size < (w.alloc (boxM m)).heap.size := by simp
  have H0 := Lib.hid (awake_any P (w.alloc (boxM m)) (laid_up HL.out HBA.out))
  have CW := fun wz (h : Below w.heap.size w wz) => Lib.hid ((P.write wz m (HM.out.below h) (laid_up HL.out h)).mono fun e w' h => wpost_open h)
  have CR := fun wz (h : Below w.heap.size w wz) => Lib.hid ((rwrite_any wz m (HM.out.below h)).mono fun e w' h => wpost_open h)
  have HWR : Hid (may m.1 = true → MfSpec.read (write m.1).2 = (0, m.1)) := Lib.hid fun h => by rw [write_ok h]; exact read_is ⟨HM.out.ok, h, rfl⟩
  have HWE : Hid ((write m.1).1 = 0 ↔ may m.1 = true) := Lib.hid (by
    by_cases h : may m.1 = true
    · simp [write_ok h, h]
    · simp [write_no h, h])
  have HWL := Lib.hid (write_len HM.out.ok)
  obtain ⟨⟨we, wb⟩, hw⟩ : ∃ r, write m.1 = r := ⟨_, rfl⟩
  simp only [hw] at CW CR HWR HWE HWL
  have HRO := Lib.hid (ok_read b)
  obtain ⟨⟨re, rm⟩, hrr⟩ : ∃ r, MfSpec.read b = r := ⟨_, rfl⟩
  have CP := fun wz (h : Below w.heap.size w wz) => Lib.hid ((P.read wz b Ab b.length cb rfl ((HRB.out.below h).more h.size) HCB.out HMB.out (laid_up HL.out h)).mono fun e w' h => rpost_open h HRO.out)
  have CQ := fun wz (h : Below w.heap.size w wz) => Lib.hid ((rread_any wz b Ab b.length cb rfl ((HRB.out.below h).more h.size) HCB.out HMB.out HLEN.out).mono fun e w' h => rpost_open h HRO.out)
  simp only [hrr] at CP CQ
  clear hw hrr hm hb hL hcb hmb hlen
  obtain ⟨⟨m0, m1, m2, m3, ml⟩, mA, mn, mc⟩ := m
  unfold aggM slV at CW CR
  unfold boxM at HBA HBX hw0 H0
  unfold aggM slV
  simp only at CW CR HBA HBX hw0 H0 HWR HWE ⊢
  go_enter Tryd.func3, Tryd.ntmps3
  go_wp2_with fail
  refine H0.out.mono ?_
  rintro e w1 ⟨rfl, hb1⟩
  have HB1 : Hid (Below w.heap.size w w1) := Lib.hid (HBA.out.trans (hb1.mono HBA.out.size))
  have HX1 := Lib.hid (HBX.out.up hb1 hw0)
  have hw1 : w.heap.size < w1.heap.size := Nat.lt_of_lt_of_le hw0 hb1.size
  clear hb1 H0 HBX HBA hw0
  obtain ⟨x0, x1, x2, x3, x4⟩ := HX1.out
  simp only at x0 x1 x2 x3 x4
  go_wp2_with fail
  refine (CW w1 HB1.out).out.mono ?_
  rintro e w2 ⟨A2, c2, rfl, hc2, hm2, hr2, hb2⟩
  have HB2 : Hid (Below w.heap.size w w2) := Lib.hid (HB1.out.trans (hb2.mono HB1.out.size))
  have HX2 := Lib.hid (HX1.out.up hb2 hw1)
  have hw2 : w.heap.size < w2.heap.size := Nat.lt_of_lt_of_le hw1 hb2.size
  have HR2 := Lib.hid hr2
  have HC2 := Lib.hid hc2
  have HM2 := Lib.hid hm2
  clear hb2 hr2 HX1 x0 x1 x2 x3 x4 hm2
  obtain ⟨x0, x1, x2, x3, x4⟩ := HX2.out
  simp only at x0 x1 x2 x3 x4
  go_wp2_with fail
  refine (CR w2 HB2.out).out.mono ?_
  rintro e w3 ⟨A3, c3, rfl, hc3, hm3, hr3, hb3⟩
  have HB3 : Hid (Below w.heap.size w w3) := Lib.hid (HB2.out.trans (hb3.mono HB2.out.size))
  have HX3 := Lib.hid (HX2.out.up hb3 hw2)
  have hw3 : w.heap.size < w3.heap.size := Nat.lt_of_lt_of_le hw2 hb3.size
  have HR3 := Lib.hid ((HR2.out.below hb3).more hb3.size)
  have HQ3 := Lib.hid hr3
  clear hb3 hr3 HX2 HR2 x0 x1 x2 x3 x4 hm3
  go_wp2_with fail
  refine (CP w3 HB3.out).out.mono ?_
  rintro e w4 ⟨n0, n1, n2, n3, nl, nA, nn, nc, rfl, hnn, hok4, hb4⟩
  have HN4 := Lib.hid hnn
  have HA4 : Hid (Below w3.heap.size w3 (w4.alloc (boxM (⟨n0, n1, n2, n3, nl⟩, nA, nn, nc)))) := Lib.hid (hb4.trans (((Below.refl _ w4).alloc (Nat.le_refl _) _).mono hb4.size))
  have HX4 := Lib.hid (HX3.out.up HA4.out hw3)
  have HY4 := Lib.hid (boxed1 w4 (⟨n0, n1, n2, n3, nl⟩, nA, nn, nc))
  have HK4 : Hid (OkM (w4.alloc (boxM (⟨n0, n1, n2, n3, nl⟩, nA, nn, nc))) (⟨n0, n1, n2, n3, nl⟩, nA, nn, nc)) := Lib.hid (hok4.below ((Below.refl _ w4).alloc (Nat.le_refl _) _))
  have HB4 : Hid (Below w.heap.size w (w4.alloc (boxM (⟨n0, n1, n2, n3, nl⟩, nA, nn, nc)))) := Lib.hid (HB3.out.trans (HA4.out.mono HB3.out.size))
  have HR4 := Lib.hid ((HR3.out.below HA4.out).more HA4.out.size)
  have HQ4 := Lib.hid ((HQ3.out.below HA4.out).more HA4.out.size)
  have hg4 : w4.heap.size < (w4.alloc (boxM (⟨n0, n1, n2, n3, nl⟩, nA, nn, nc))).heap.size := by simp
  have hw4 : w.heap.size < (w4.alloc (boxM (⟨n0, n1, n2, n3, nl⟩, nA, nn, nc))).heap.size := Nat.lt_of_lt_of_le hw3 HA4.out.size
  have hgn : w.heap.size < w4.heap.size := Nat.lt_of_lt_of_le hw3 hb4.size
  have HZ4 : Hid (Box5 (w4.alloc (boxM (⟨n0, n1, n2, n3, nl⟩, nA, nn, nc))) w4.heap.size (.int .i64 n0) (.int .i64 n1) (.int .u64 (n2.toNat : Int)) (.int .i64 n3) (.slice nA nn nc)) := Lib.hid (heap_alloc_new w4 _)
  unfold boxM at HA4 HX4 HY4 HK4 HB4 HR4 HQ4 hg4 hw4 HZ4
  simp only at HA4 HX4 HY4 HK4 HB4 HR4 HQ4 hg4 hw4 HZ4
  clear hnn hok4 hb4 HX3 HR3 HQ3 hw3 HA4
  go_wp2_with fail
  obtain ⟨W4, hW4⟩ : ∃ W4, w4.alloc (.cells #[.int .i64 n0, .int .i64 n1, .int .u64 (n2.toNat : Int), .int .i64 n3, .slice nA nn nc] 25) = W4 := ⟨_, rfl⟩
  rw [hW4] at HX4 HY4 HK4 HB4 HR4 HQ4 hg4 hw4 HZ4
  rw [hW4]
  clear hW4
  obtain ⟨g4, hg⟩ : ∃ g4, w4.heap.size = g4 := ⟨_, rfl⟩
  rw [hg] at HY4 hg4 hgn HZ4
  rw [hg]
  clear hg
  refine (CQ W4 HB4.out).out.mono ?_
  rintro e w5 ⟨o0, o1, o2, o3, ol, oA, on_, oc, rfl, hoo, hok5, hb5⟩
  have HO5 := Lib.hid hoo
  have HA5 : Hid (Below W4.heap.size W4 (w5.alloc (boxM (⟨o0, o1, o2, o3, ol⟩, oA, on_, oc)))) := Lib.hid (hb5.trans (((Below.refl _ w5).alloc (Nat.le_refl _) _).mono hb5.size))
  have HX5 := Lib.hid (HX4.out.up HA5.out hw4)
  have HY5 := Lib.hid (HY4.out.up HA5.out hg4)
  have HZ5 := Lib.hid (HZ4.out.up HA5.out hg4)
  have HV5 := Lib.hid (boxed1 w5 (⟨o0, o1, o2, o3, ol⟩, oA, on_, oc))
  have HK5 := Lib.hid (HK4.out.below HA5.out)
  have HJ5 : Hid (OkM (w5.alloc (boxM (⟨o0, o1, o2, o3, ol⟩, oA, on_, oc))) (⟨o0, o1, o2, o3, ol⟩, oA, on_, oc)) := Lib.hid (hok5.below ((Below.refl _ w5).alloc (Nat.le_refl _) _))
  have HB5 : Hid (Below w.heap.size w (w5.alloc (boxM (⟨o0, o1, o2, o3, ol⟩, oA, on_, oc)))) := Lib.hid (HB4.out.trans (HA5.out.mono HB4.out.size))
  have hr2 := (HR4.out.below HA5.out).more HA5.out.size
  have hr3 := (HQ4.out.below HA5.out).more HA5.out.size
  have r2 := run_str _ A2 wb.length c2 rfl hr2
  have r3 := run_str _ A3 wb.length c3 rfl hr3
  have HR5 := Lib.hid hr2
  have hw5 : w.heap.size < (w5.alloc (boxM (⟨o0, o1, o2, o3, ol⟩, oA, on_, oc))).heap.size := Nat.lt_of_lt_of_le hw4 HA5.out.size
  have hg5 : g4 < (w5.alloc (boxM (⟨o0, o1, o2, o3, ol⟩, oA, on_, oc))).heap.size := Nat.lt_of_lt_of_le hg4 HA5.out.size
  unfold boxM at HX5 HY5 HZ5 HV5 HK5 HJ5 HB5 HR5 r2 r3 hw5 hg5
  simp only at HX5 HY5 HZ5 HV5 HK5 HJ5 HB5 HR5 r2 r3 hw5 hg5
  clear hoo hok5 hb5 HX4 HY4 HK4 HB4 HR4 HQ4 hg4 hw4 HA5 hr2 hr3 HZ4
  have e1 : (wb == wb) = true := by simp
  have e2 : ((we : Int) != (we : Int)) = false := by simp
  have e3 : ((re : Int) != (re : Int)) = false := by simp
  have e4 : (wb != wb) = false := by simp
  go_upto_region 7 with (fail)
  obtain ⟨W5, hW5⟩ : ∃ W5, w5.alloc (.cells #[.int .i64 o0, .int .i64 o1, .int .u64 (o2.toNat : Int), .int .i64 o3, .slice oA on_ oc] 25) = W5 := ⟨_, rfl⟩
  rw [hW5] at HX5 HY5 HZ5 HV5 HK5 HJ5 HB5 HR5 r2 r3 hw5 hg5
  rw [hW5]
  clear hW5
  obtain ⟨g5, hg⟩ : ∃ g5, w5.heap.size = g5 := ⟨_, rfl⟩
  rw [hg] at HV5
  rw [hg]
  clear hg
  obtain ⟨y0, y1, y2, y3, y4⟩ := HY5.out
  obtain ⟨v0, v1, v2, v3, v4⟩ := HV5.out
  simp only at y0 y1 y2 y3 y4 v0 v1 v2 v3 v4
  have HS := Lib.hid (same_same W5 n0 n1 n2 n3 nl nA nn nc o0 o1 o2 o3 ol oA on_ oc HK5.out HJ5.out true (decide_eq_true (HN4.out.trans HO5.out.symm)))
  go_wp2_with fail
  refine HS.out.mono ?_
  rintro e w6 ⟨rfl, hb6⟩
  have HB6 : Hid (Below w.heap.size w w6) := Lib.hid (HB5.out.trans (hb6.mono HB5.out.size))
  have HX6 := Lib.hid (HX5.out.up hb6 hw5)
  have HZ6 := Lib.hid (HZ5.out.up hb6 hg5)
  have hw6 := Nat.lt_of_lt_of_le hw5 hb6.size
  have hg6 := Nat.lt_of_lt_of_le hg5 hb6.size
  have HR6 := Lib.hid ((HR5.out.below hb6).more hb6.size)
  clear hb6 HS HX5 HY5 HZ5 HV5 HK5 HJ5 HB5 HR5 r2 r3 hw5 hg5 y0 y1 y2 y3 y4 v0 v1 v2 v3 v4 e1 e2 e3 e4
  by_cases hwe : we = 0
  case neg =>
    have j1 : ((we : Int) != 0) = true := by simpa using hwe
    clear hwe
    go_wp2
    go_ret
    exact ⟨rfl, HB6.out⟩
  subst hwe
  have HMAY := Lib.hid (HWE.out.1 rfl)
  have H7 := P.read w6 wb A2 wb.length c2 rfl HR6.out HC2.out HM2.out (laid_up HL.out HB6.out)
  rw [HWR.out HMAY.out] at H7
  replace H7 := Lib.hid (H7.mono fun e w' h => rpost_own h)
  simp only at H7
  clear HWR HWE CW CR CP CQ
  go_wp2_with fail
  refine H7.out.mono ?_
  rintro e w7 ⟨q0, q1, q2, q3, ql, qA, qn, qc, rfl, hqq, hok7, hb7⟩
  have HQ7 := Lib.hid hqq
  have HK7 := Lib.hid (own_put5 (g := g4) (a := .int .i64 q0) (b := .int .i64 q1) (c := .int .u64 (q2.toNat : Int)) (d := .int .i64 q3) (f := .slice qA qn qc) hok7 hg6)
  have HX7 := Lib.hid (HX6.out.up hb7 hw6)
  have HZ7 := Lib.hid (HZ6.out.up hb7 hg6)
  have HB7 : Hid (Below w.heap.size w w7) := Lib.hid (HB6.out.trans (hb7.mono HB6.out.size))
  have hg7 : g4 < w7.heap.size := Nat.lt_of_lt_of_le hg6 hb7.size
  clear hqq hok7 hb7 HX6 HZ6 hw6 hg6 H7
  obtain ⟨⟨x0, x1, x2, x3, x4⟩, z0, z1, z2, z3, z4⟩ := HZ7.out.facts
  have HZ8 : Hid (Box5 _ g4 (.int .i64 q0) (.int .i64 q1) (.int .u64 (q2.toNat : Int)) (.int .i64 q3) (.slice qA qn qc)) := Lib.hid HZ7.out.put
  have HP8 : Hid (Below g4 w7 (((((w7.setCell ⟨g4, 0, none⟩ (.int .i64 q0)).setCell ⟨g4, 1, none⟩ (.int .i64 q1)).setCell ⟨g4, 2, none⟩ (.int .u64 (q2.toNat : Int))).setCell ⟨g4, 3, none⟩ (.int .i64 q3)).setCell ⟨g4, 4, none⟩ (.slice qA qn qc))) := Lib.hid (put_below (Below.refl _ _) (Nat.le_refl _))
  have HX8 := Lib.hid (HX7.out.up HP8.out hgn)
  have HB8 : Hid (Below w.heap.size w (((((w7.setCell ⟨g4, 0, none⟩ (.int .i64 q0)).setCell ⟨g4, 1, none⟩ (.int .i64 q1)).setCell ⟨g4, 2, none⟩ (.int .u64 (q2.toNat : Int))).setCell ⟨g4, 3, none⟩ (.int .i64 q3)).setCell ⟨g4, 4, none⟩ (.slice qA qn qc))) := Lib.hid (HB7.out.trans (HP8.out.mono (Nat.le_of_lt hgn)))
  have HK8 := Lib.hid (own_okM (m := ⟨q0, q1, q2, q3, ql⟩) HK7.out (by rw [HQ7.out]; exact HM.out.ok))
  clear HK7 HX7 HB7 HP8
  have HM8 := Lib.hid (HM.out.below HB8.out)
  have HS8 := Lib.hid (same_same _ q0 q1 q2 q3 ql qA qn qc m0 m1 m2 m3 ml mA mn mc HK8.out HM8.out true (decide_eq_true HQ7.out))
  go_upto_region 12 with (fail)
  obtain ⟨W8, hW8⟩ : ∃ W8, (((((w7.setCell ⟨g4, 0, none⟩ (.int .i64 q0)).setCell ⟨g4, 1, none⟩ (.int .i64 q1)).setCell ⟨g4, 2, none⟩ (.int .u64 (q2.toNat : Int))).setCell ⟨g4, 3, none⟩ (.int .i64 q3)).setCell ⟨g4, 4, none⟩ (.slice qA qn qc)) = W8 := ⟨_, rfl⟩
  rw [hW8] at HX8 HB8 HK8 HM8 HS8 HZ8
  rw [hW8]
  clear hW8 x0 x1 x2 x3 x4 z0 z1 z2 z3 z4
  obtain ⟨⟨y0, y1, y2, y3, y4⟩, _⟩ := HZ8.out.facts
  obtain ⟨x0, x1, x2, x3, x4⟩ := HX8.out
  simp only at x0 x1 x2 x3 x4
  go_wp2_with fail
  refine HS8.out.mono ?_
  rintro e w9 ⟨rfl, hb9⟩
  have HB9 : Hid (Below w.heap.size w w9) := Lib.hid (HB8.out.trans (hb9.mono HB8.out.size))
  clear hb9
  go_wp2
  go_ret
  exact ⟨rfl, HB9.out⟩
end Go.Proofs.YtjninegpaoblfaaDoor.MfBytesW
