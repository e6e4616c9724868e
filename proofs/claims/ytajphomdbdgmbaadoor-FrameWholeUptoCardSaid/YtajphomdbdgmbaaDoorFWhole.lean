/- FrameWhole: for all payloads, bytes beside and bits, of bulk at most 1048576 together, the statement's function answers true and leaves its arguments as they were. Conditions: that bound; the program's table holds what the program's text lays (tied by the card). -/
import Derived.Test.YtajphomdbdgmbaaDoorAwake2
import Derived.Test.YtajphomdbdgmbaaDoorBackF
import Derived.Test.YtajphomdbdgmbaaDoorBulk
import Derived.Test.YtajphomdbdgmbaaDoorCards
import Derived.Test.YtajphomdbdgmbaaDoorTie
import Derived.Deep.DeepHandedRow
import Derived.LaidMore
import Derived.OneCell
namespace Go.Proofs.YtajphomdbdgmbaaDoor.frameWhole
open Go.ChangeShapes Go.WideShapes Go.ChangeAt Go.RowKit Words Plain Crc Tab Summ RefSum SumB Put RefPut App Get RefGet Framed Reading Read2 RefRead Awake2 BackF Ope Bulk

/-- The place of the turned bit's byte. -/
theorem place (bit : Int) (wbit : (Lit.int .u16 bit).wf = true) (F u m : Nat) (h1 : F ≤ u + m + 4) (h2 : u + m + 4 ≤ F) (hF : F ≤ 2000000) : ∃ j : Nat, j < m + 4 ∧ wrap64 ((F : Int) - (m : Int) - 4 + (wrap64 (IntKind.u16.wrap (bit.tdiv 8))).tmod ((m : Int) + 4)) = ((u + j : Nat) : Int) := by
  obtain ⟨b1, b2⟩ := bounds_u16 wbit
  have e1 : IntKind.u16.wrap (bit.tdiv 8) = bit / 8 := by
    rw [Int.tdiv_eq_ediv_of_nonneg (by omega), IntKind.wrap_u16]
    omega
  have e2 : wrap64 (bit / 8) = bit / 8 := by unfold wrap64; omega
  rw [e1, e2, Int.tmod_eq_emod_of_nonneg (by omega)]
  have h3 := Int.emod_nonneg (bit / 8) (b := (m : Int) + 4) (by omega)
  have h4 := Int.emod_lt_of_pos (bit / 8) (b := (m : Int) + 4) (by omega)
  generalize (bit / 8) % ((m : Int) + 4) = r at *
  refine ⟨r.toNat, by omega, ?_⟩
  unfold wrap64
  omega

/-- '1 << (bit % 8)'. -/
theorem shift8 (bit : Int) (wbit : (Lit.int .u16 bit).wf = true) : ∃ t : Nat, 0 < t ∧ t < 256 ∧ ∀ (w : World), (Op.shift BinOp.shl IntKind.u8 1 IntKind.u16 (bit.tmod 8)).run Tryd.prog w = .ok (.int .u8 (t : Int)) w := by
  obtain ⟨b1, b2⟩ := bounds_u16 wbit
  have h : bit.tmod 8 = 0 ∨ bit.tmod 8 = 1 ∨ bit.tmod 8 = 2 ∨ bit.tmod 8 = 3 ∨ bit.tmod 8 = 4 ∨ bit.tmod 8 = 5 ∨ bit.tmod 8 = 6 ∨ bit.tmod 8 = 7 := by
    rw [Int.tmod_eq_emod_of_nonneg (by omega)]
    omega
  rcases h with h | h | h | h | h | h | h | h <;> rw [h]
  · exact ⟨1, by omega, by omega, fun _ => rfl⟩
  · exact ⟨2, by omega, by omega, fun _ => rfl⟩
  · exact ⟨4, by omega, by omega, fun _ => rfl⟩
  · exact ⟨8, by omega, by omega, fun _ => rfl⟩
  · exact ⟨16, by omega, by omega, fun _ => rfl⟩
  · exact ⟨32, by omega, by omega, fun _ => rfl⟩
  · exact ⟨64, by omega, by omega, fun _ => rfl⟩
  · exact ⟨128, by omega, by omega, fun _ => rfl⟩
theorem xor_ne (z t : Nat) (h : 0 < t) : z ^^^ t ≠ z := by
  intro e
  have := congrArg (z ^^^ ·) e
  simp only [← Nat.xor_assoc, Nat.xor_self, Nat.zero_xor] at this
  omega

theorem own_three {w : World} {base : Nat} {e : TypeId} {v : Value} {m : Nat} {a b d : List UInt8} (hm : m = a.length + b.length + d.length) (h : w.ownsRow base e 1 v m (a.map B8 ++ (b.map B8 ++ d.map B8))) : w.ownsRow base e 1 v (a ++ (b ++ d)).length ((a ++ (b ++ d)).map B8) := own_bytes hm h

/-- The loop over the shorter beginnings. -/
def Rel (m step : Nat) (B : Nat) (vb : Value) (xs : List Value) (w : World) (v : Value) (wr : World) : Prop := ∃ k : Nat, k ≤ m + step ∧ v = .int .i64 (k : Int) ∧ wr.ownsRow B 5 1 vb m xs ∧ Below B w wr

set_option maxHeartbeats 2400000 in
set_option maxRecDepth 100000 in
theorem walk (w : World) (hL : Laid w w.heap.size) (l : List UInt8) (A : Option Addr) (c : Nat) (hc : l.length ≤ c) (hm : c ≤ maxLen) (hr : Rd w w.heap.size A (l.map B8)) (hlen : l.length ≤ 1048576)
    (y : List UInt8) (A1 : Option Addr) (c1 : Nat) (hc1 : y.length ≤ c1) (hm1 : c1 ≤ maxLen) (hr1 : Rd w w.heap.size A1 (y.map B8)) (hlen1 : y.length ≤ 1048576) (bit : Int) (wbit : (Lit.int .u16 bit).wf = true) :
    Calls Tryd.prog 5 #[.slice A l.length c, .slice A1 y.length c1, .int .u16 bit] w fun e w' => e = .returned (.bool true) ∧ Below w.heap.size w w' := by
  obtain ⟨i0, hi, hz0, hz1, hz2⟩ := info_parts info_u8
  have HR := Lib.hid hr
  have HR1 := Lib.hid hr1
  have HL := Lib.hid hL
  have HM := Lib.hid hm
  have HW := Lib.hid wbit
  clear hr hr1 hm hm1 hc1 hL wbit
  go_enter Tryd.func5, Tryd.ntmps5
  go_wp2_with fail
  refine (awake_any w HL.out).mono ?_
  rintro e w1 ⟨rfl, hb1⟩
  have HB1 := Lib.hid hb1
  clear hb1
  go_wp2_with fail
  by_cases hlong : 65536 < l.length
  · refine (frame_long l A _ c w1 rfl hlong).mono ?_
    rintro e w2 ⟨rfl, rfl⟩
    have hb : decide (65536 < (l.length : Int)) = true := by simp; omega
    go_wp2
    go_ret
    exact ⟨rfl, HB1.out⟩
  refine (frame_ok l A _ c w1 rfl ((HR.out.below HB1.out).more HB1.out.size) hc HM.out ((HL.out.below HB1.out).more HB1.out.size) (by omega)).mono ?_
  rintro e w2 ⟨vb, rfl, hownb, hb2⟩
  have HB2 := Lib.hid (HB1.out.trans (hb2.mono HB1.out.size))
  have S12 : w1.heap.size ≤ w2.heap.size := hb2.size
  have S01 : w.heap.size ≤ w1.heap.size := HB1.out.size
  obtain ⟨Ab, cb, rfl, hb1, hb2', _⟩ := own_slice hownb
  have HCB := Lib.hid hb1
  have HCM := Lib.hid hb2'
  have HOB := Lib.hid hownb
  have HRB := Lib.hid (Rd.of_own hownb)
  have hfl1 := Nat.le_of_eq (frm_length l)
  have hfl2 := Nat.le_of_eq (frm_length l).symm
  have hul := Lib.uvarint_length64 (x := l.length) (by omega)
  have hup := Lib.uvarint_pos l.length
  have HQ := Lib.hid (rd_frm y l y (by omega))
  have HS := Lib.hid (rd_short_frm l (by omega))
  have HT := Lib.hid (rd_turned l (by omega))
  generalize hF : frm l = F at *
  generalize hU : (Lib.uvarint l.length).length = u at *
  have HF := Lib.hid hF
  have HU := Lib.hid hU
  clear hownb hb2 hb1 hb2' HB1 hF hU
  go_wp2_with (at_builtin; refine wpList_append_rd (v := .slice none 0 0) _ rfl (.tmp 42) (.tmp 43) 24 rfl w2.heap.size 5 i0 (.int .u8 0) 1 Tryd.underlying24 hi hz0 hz1 hz2 rfl 0 [] rfl (World.ownsRow_nil _ _ _ _) w.heap.size A1 y.length c1 (y.map B8) rfl (by simp) (HR1.out.below HB2.out) (one8 y) ?c1 ?c2 (Nat.le_refl _) ?_)
  case c1 => unfold maxLen; omega
  case c2 => omega
  intro v3 w3 hown3 hg3 _
  have HB23 := Lib.hid (below_app (World.ownsRow_nil w2 w2.heap.size 5 1) (Below.refl _ _) hg3)
  have hown3' : w3.ownsRow w2.heap.size 5 1 v3 y.length (y.map B8) := by simpa using hown3
  have HO3 := Lib.hid hown3'
  clear hown3 hown3' hg3
  go_wp2_with (at_builtin; refine wpList_append_rd (v := v3) _ rfl (.tmp 44) (.tmp 45) 24 rfl w2.heap.size 5 i0 (.int .u8 0) 1 Tryd.underlying24 hi hz0 hz1 hz2 rfl _ _ rfl HO3.out w2.heap.size Ab F.length cb (F.map B8) rfl (by simp) (HRB.out.below HB23.out) (one8 F) ?d1 ?d2 HB23.out.size ?_)
  case d1 => unfold maxLen; omega
  case d2 => omega
  intro v4 w4 hown4 hg4 _
  have HB24 := Lib.hid (below_app HO3.out HB23.out hg4)
  have HO4 := Lib.hid hown4
  clear hown4 hg4 HO3
  go_wp2_with (at_builtin; refine wpList_append_rd (v := v4) _ rfl (.tmp 46) (.tmp 47) 24 rfl w2.heap.size 5 i0 (.int .u8 0) 1 Tryd.underlying24 hi hz0 hz1 hz2 rfl _ _ rfl HO4.out w.heap.size A1 y.length c1 (y.map B8) rfl (by simp) (HR1.out.below (HB2.out.trans (HB24.out.mono HB2.out.size))) (one8 y) ?f1 ?f2 HB24.out.size ?_)
  case f1 => unfold maxLen; omega
  case f2 => omega
  intro v5 w5 hown5 hg5 _
  have HB25 := Lib.hid (below_app HO4.out HB24.out hg5)
  have hown5' := own_three (a := y) (b := F) (d := y) rfl hown5
  have hal : (y ++ (F ++ y)).length = y.length + F.length + y.length := by simp; omega
  rw [hal] at hown5'
  obtain ⟨A5, c5, rfl, h51, h52, _⟩ := own_slice hown5'
  have HRD := Lib.hid (read_any (y ++ (F ++ y)) A5 (y.length + F.length + y.length) c5 y.length w5 hal.symm (Rd.of_own hown5') (by omega) h52 ((HL.out.below (HB2.out.trans (HB25.out.mono HB2.out.size))).more (Nat.le_trans HB2.out.size HB25.out.size)))
  unfold ReadPost at HRD
  rw [HQ.out.1, HQ.out.2.1, HQ.out.2.2] at HRD
  have HB5 := Lib.hid (HB2.out.trans (HB25.out.mono HB2.out.size))
  have S25 : w2.heap.size ≤ w5.heap.size := HB25.out.size
  have HOB5 := Lib.hid (own_keep HOB.out HB25.out)
  clear hown5 hown5' hg5 HO4 HB23 HB24 HB25 h51 h52 hal HOB HRB HQ
  go_wp2_with fail
  refine HRD.out.mono ?_
  rintro e w6 ⟨v6, rfl, hown6, hb6⟩
  obtain ⟨A6, c6, rfl, _, _, _⟩ := own_slice hown6
  have HOB6 := Lib.hid (own_keep HOB5.out hb6)
  have HB6 := Lib.hid (HB5.out.trans (hb6.mono HB5.out.size))
  have s6 := run_str w6 A6 _ c6 rfl (Rd.of_own hown6)
  have s7 := run_str w6 A _ c rfl (HR.out.below HB6.out)
  have S16 : w1.heap.size ≤ w6.heap.size := by have := hb6.size; omega
  clear hown6 hb6 HOB5 HB5 HRD
  have e1 : (((y.length + F.length : Nat) : Int) == (y.length : Int) + (F.length : Int)) = true := by simp
  have e2 : (((y.length + F.length : Nat) : Int) != (y.length : Int) + (F.length : Int)) = false := by simp
  go_wp2
  clear s6 s7 e1 e2
  go_loopw [12] (fun v wr => Rel F.length (1 + F.length / 50) w1.heap.size (.slice Ab F.length cb) (F.map B8) w6 v wr) (fun v _ => F.length - (intOf v).toNat)
  case atStart => exact ⟨0, by omega, rfl, HOB6.out, Below.refl _ _⟩
  case round =>
    obtain ⟨k, hk, rfl, hob, hbl⟩ := hrel
    have HOB7 := Lib.hid hob
    have HBL7 := Lib.hid hbl
    have S6r : w6.heap.size ≤ wr.heap.size := hbl.size
    clear hob hbl HOB6
    have HB7 := Lib.hid (HB6.out.trans (HBL7.out.mono S01))
    by_cases hlt : k < F.length
    · have hkc : (k : Int) ≤ (cb : Int) := by have := HCB.out; omega
      have hk0 : (0 : Int) ≤ (k : Int) := by omega
      have HRD := Lib.hid (read_any (F.take k) Ab k cb 0 wr (by rw [List.length_take]; omega) (by have := (Rd.of_own HOB7.out).take k; rwa [← List.map_take] at this) (by rw [List.length_take]; have := HCB.out; omega) HCM.out ((HL.out.below HB7.out).more HB7.out.size))
      unfold ReadPost at HRD
      obtain ⟨r1, r2⟩ := HS.out k hlt
      rw [r1, r2] at HRD
      generalize rdT (F.take k) 0 = T at *
      clear r1 r2
      go_wp2_with fail
      refine HRD.out.mono ?_
      rintro e w8 ⟨v8, rfl, hown8, hb8⟩
      obtain ⟨A8, c8, rfl, _, _, _⟩ := own_slice hown8
      have HOB8 := Lib.hid (own_keep HOB7.out hb8)
      have HBL8 := Lib.hid (HBL7.out.trans (hb8.mono (by omega)))
      clear hown8 hb8 HRD HOB7 HB7
      go_wp2
      go_roundw
      case rel => exact ⟨k + (1 + F.length / 50), by omega, by go_num, HOB8.out, HBL8.out⟩
      case measure => simp [intOf]; omega
    · obtain ⟨j, hj, hat⟩ := place bit HW.out F.length u l.length hfl1 hfl2 (by omega)
      obtain ⟨g, c', hv, hg1, hg2, hcell⟩ := own_addr HOB7.out (by omega)
      injection hv with hv1 hv2 hv3
      subst hv1 hv3
      have hpF : u + j < F.length := by omega
      have hc1 := HOB7.out.cellAt (u + j) (by omega)
      rw [List.getElem?_map, List.getElem?_eq_getElem hpF] at hc1
      simp only [Option.map_some, B8] at hc1
      have hfr := HOB7.out.frozenAt (u + j)
      have hx := F[u + j].toNat_lt
      generalize hz : F[u + j].toNat = z at *
      have HZ := Lib.hid hz
      have HTj := Lib.hid (HT.out j hj)
      clear hcell hz
      generalize u + j = p at *
      have hp1 : (0 : Int) ≤ (p : Int) := by omega
      have hp2 : (p : Int) < (F.length : Int) := by omega
      obtain ⟨t, ht0, ht1, hsh⟩ := shift8 bit HW.out
      have hxr := u8_xor_nat z t (by omega) ht1
      have hzt : z ^^^ t < 256 := Nat.xor_lt_two_pow (n := 8) (by omega) (by omega)
      have hne := Lib.hid (xor_ne z t ht0)
      generalize z ^^^ t = zt at *
      have HOB8 := Lib.hid (HOB7.out.stored p (.int .u8 (zt : Int))).1
      have HBL8 := Lib.hid (HBL7.out.setCell (p := ⟨g, p, none⟩) hg1 (.int .u8 (zt : Int)))
      have ey : ((UInt8.ofNat zt).toNat : Nat) = zt := by simp; omega
      have eb : B8 (UInt8.ofNat zt) = .int .u8 (zt : Int) := by unfold B8; rw [ey]
      obtain ⟨r1, r2⟩ := HTj.out (UInt8.ofNat zt) (fun hi e => hne.out (by rw [← ey, e]; exact HZ.out))
      have HB8 := Lib.hid (HB6.out.trans (HBL8.out.mono S01))
      have HRD := Lib.hid (read_any (F.set p (UInt8.ofNat zt)) (some ⟨g, 0, none⟩) F.length cb 0 (wr.setCell ⟨g, p, none⟩ (.int .u8 (zt : Int))) (by rw [List.length_set]) (by have := Rd.of_own HOB8.out; rw [← eb, ← List.map_set] at this; rw [← eb]; exact this) (by rw [List.length_set]; exact HCB.out) HCM.out ((HL.out.below HB8.out).more HB8.out.size))
      unfold ReadPost at HRD
      rw [r1, r2] at HRD
      generalize rdT (F.set p (UInt8.ofNat zt)) 0 = T at *
      clear r1 r2 ey eb hne HTj HZ HT HS
      go_wp2_with fail
      refine HRD.out.mono ?_
      rintro e w8 ⟨v8, rfl, hown8, hb8⟩
      obtain ⟨A8, c8, rfl, _, _, _⟩ := own_slice hown8
      have HB9 := Lib.hid (HB8.out.trans (hb8.mono HB8.out.size))
      clear hown8 hb8 HRD
      go_wp2
      go_ret
      exact ⟨rfl, HB9.out⟩
theorem own : ownKnob Tryd.prog.godebug = none := by kernel_rfl
theorem laid : laidOutB Tryd.prog = true := by kernel_rfl
theorem allRead : (Tryd.f5.params.toList.all fun t => Tryd.prog.readableRec t && decide (t < Tryd.prog.types.size)) = true := by kernel_rfl
theorem contract (H : Type) (enc : TypeId × Value → H) (W : World) (base : Nat) (args : Array Value) (ds gs : List (DataW H)) (before : List MemPlace)
    (hval : ∀ (j : Nat) t v, Tryd.f5.params[j]? = some t → args[j]? = some v → Value.okWide Tryd.prog W .any base t v)
    (hW : DataW.Whole enc Tryd.prog Tryd.f5.params.toList Rows.frameWholeSpec.vars false W args.toList ds gs before) (hk : Rows.uptoSmall H (ds ++ gs) = true) (hL : laidMetH Tryd.prog Rows.frameWholeUptoRow.laid W) :
    Calls Tryd.prog 5 args W fun e W' => ∃ v, e = .returned v ∧ Rows.frameWholeSpec.post enc Tryd.prog Tryd.f5 false true false false W args v W' := by
  have hW' := hW
  obtain ⟨p, q, hA0, hV, rfl, hfz, hnd⟩ := hW
  obtain ⟨rfl, rfl⟩ := trodVars_none hV
  have hlt : ∀ x ∈ p, x.block < W.heap.size := fun x hx => hW'.lt x (by simp [hx])
  have hA : DataW.TrodAll enc Tryd.prog W 0 (fun _ => true) true Tryd.f5.params.toList args.toList ds p := hA0
  rw [Tryd.params5] at hA hval
  obtain ⟨v0, vs0, d0, ds0, p0, q0, hargs, rfl, rfl, h0, r0⟩ := trodAll_cons hA
  obtain ⟨v1, vs1, d1, ds1, p1, q1, rfl, rfl, rfl, h1, r1⟩ := trodAll_cons r0
  obtain ⟨v2, vs2, d2, ds2, p2, q2, rfl, rfl, rfl, h2, r2⟩ := trodAll_cons r1
  obtain ⟨rfl, rfl, rfl⟩ := trodAll_nil r2
  obtain rfl : args = #[v0, v1, v2] := by cases args; simp_all
  have hkb : Rows.uptoBulkAll ([d0, d1, d2] ++ []) ≤ 1048576 := of_decide_eq_true hk
  obtain ⟨A0, l0, c0, rfl, hl0, hm0, hr0, hd0⟩ := open_u8s Tryd.underlying24 Tryd.underlying5 (by kernel_rfl) (hval 0 24 v0 rfl rfl) h0 (fun x hx => hlt x (by simp [hx]))
  have hb0 : l0.length ≤ 1048576 := by have h := bulk_len hd0; rw [List.length_map] at h; simp only [List.append_nil, Rows.uptoBulkAll] at hkb; omega
  obtain ⟨A1, l1, c1, rfl, hl1, hm1, hr1, hd1⟩ := open_u8s Tryd.underlying24 Tryd.underlying5 (by kernel_rfl) (hval 1 24 v1 rfl rfl) h1 (fun x hx => hlt x (by simp [hx]))
  have hb1 : l1.length ≤ 1048576 := by have h := bulk_len hd1; rw [List.length_map] at h; simp only [List.append_nil, Rows.uptoBulkAll] at hkb; omega
  obtain ⟨a2, rfl, rfl, rfl, w2⟩ := open_int Tryd.underlying33 (hval 2 33 v2 rfl rfl) h2
  refine (walk W (of_laid hL) l0 A0 c0 hl0 hm0 hr0 hb0 l1 A1 c1 hl1 hm1 hr1 hb1 a2 w2).mono fun e W' ⟨he, hb⟩ => ?_
  subst he
  exact ⟨_, rfl, law_post laid (fun t ht => by have h := List.all_eq_true.1 allRead t ht; rw [Bool.and_eq_true, decide_eq_true_eq] at h; exact h) rfl (by kernel_rfl) Tryd.underlying4 rfl hW' hb⟩
noncomputable def laidWorld (os : Os) : World := World.doorLaid Tryd.prog 14 os
theorem laid_met (os : Os) : laidMet Tryd.prog Rows.frameWholeUptoRow.laid ((laidWorld os).forCall (fun _ _ => 0) ⟨#[], #[.slice none 0 0, .slice none 0 0, .int .u16 0], []⟩).memory :=
  laidMet_of_run' 8 (by kernel_rfl) (by kernel_rfl)
theorem reads (os : Os) {H : Type} (enc : TypeId × Value → H) : ∃ places, DataW.whole enc Tryd.prog ((laidWorld os).forCall (fun _ _ => 0) ⟨#[], #[.slice none 0 0, .slice none 0 0, .int .u16 0], []⟩).memory Tryd.f5.params.toList Rows.frameWholeSpec.vars false (#[.slice none 0 0, .slice none 0 0, .int .u16 0] : Array Value).toList 8 = some ([.nil, .nil, .lit (.int .u16 0)], [], places) :=
  ⟨[], by kernel_rfl⟩
set_option maxRecDepth 100000 in
theorem lifted (os : Os) (started : os.Started) (H : Type) (enc : TypeId × Value → H) (F : Stop.Interp) :
    ReturnsInHanded {} Tryd.checked os 5 .any ((Rows.OpenSpec.upto Rows.frameWholeSpec).preRow enc Tryd.prog Tryd.f5 Rows.frameWholeUptoRow.domain false Rows.frameWholeUptoRow.laid) (((Rows.OpenSpec.upto Rows.frameWholeSpec).at F).post enc Tryd.prog Tryd.f5 false true false false) := by
  obtain ⟨places, hx⟩ := reads os enc
  refine returnsInHanded_of_row (C := Tryd.checked) (s := Rows.OpenSpec.upto Rows.frameWholeSpec) own started (by kernel_rfl) Tryd.func5
    (witness_row_at (enc := enc) (C := Tryd.checked) false (laidWorld os) #[.slice none 0 0, .slice none 0 0, .int .u16 0] rfl (by kernel_rfl) (by kernel_rfl) (by kernel_rfl)
      (OpenSpec.preRow_of_cond 8 hx (by kernel_rfl) (fun k hk => by cases hk; kernel_rfl) (by kernel_rfl) (laid_met os))) ?_
  intro W base args ds gs before hval hW _ hcond _ hL _ _
  exact contract H enc W base args ds gs before hval hW (hcond _ rfl) hL
theorem over : Rows.frameWholeUptoRow.holds Tryd.pinned (Rows.OpenSpec.upto Rows.frameWholeSpec) :=
  OpenClaim.holds_of_cond 5 Tryd.f5 rfl rfl rfl rfl rfl rfl rfl ⟨rfl, rfl, rfl, rfl, rfl⟩ rfl rfl rfl rfl rfl (by kernel_rfl) Tryd.func5 (by kernel_rfl)
    (of_decide_eq_true (by kernel_rfl)) (by unfold Func.isWrapper; first | (rw [if_pos (by decide +kernel)]; kernel_rfl) | (rw [if_neg (by decide +kernel)]; exact ⟨rfl, rfl⟩))
    (fun os started H enc _ F => by rw [OpenClaim.pre_eq_preRow]; exact lifted os started H enc F)
theorem plainly (f : FuncId) (fn : Func) (hf : Tryd.pinned.checked.prog.funcNamed "garner/garnerlaw02.FrameWhole" = some f) (hfn : Tryd.pinned.checked.prog.funcs[f]? = some fn) :
    false = Tryd.pinned.checked.prog.looks [] ∧ ∀ (j : Nat) t, fn.params[j]? = some t → Tryd.pinned.checked.prog.wantsStandIn t = false := by
  obtain rfl : f = 5 := Option.some.inj ((show Tryd.prog.funcNamed "garner/garnerlaw02.FrameWhole" = some 5 by kernel_rfl).symm.trans hf) |>.symm
  obtain rfl : fn = Tryd.f5 := (Option.some.inj (Tryd.func5.symm.trans hfn)).symm
  refine ⟨by kernel_rfl, fun j t ht => ?_⟩
  rw [Tryd.params5] at ht
  have hm : t ∈ [24, 24, 33] := by simpa using Array.mem_of_getElem? ht
  have hall : ([24, 24, 33].all fun u => !Tryd.prog.wantsStandIn u) = true := by kernel_rfl
  exact (show Tryd.prog.wantsStandIn t = false by simpa using List.all_eq_true.1 hall t hm)
theorem proved : Rows.FrameWholeUptoCardSaid :=
  Claim7.holds_tied_plain_at .later [] _ _ _ _ over (fun _ h => by cases h) (by kernel_rfl) (fun _ h => by cases h) frameWholeUpto_row_tie rfl ⟨rfl, rfl⟩ (by kernel_rfl) rfl plainly (by kernel_rfl)

end Go.Proofs.YtajphomdbdgmbaaDoor.frameWhole
