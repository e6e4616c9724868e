/- PackMoves' walk. Conditions: PackAny and UnAny for the program. -/
import Derived.Test.YtokmoodiolnfiaaBulk
import Derived.Test.YtokmoodiolnfiaaOpen
import Derived.Test.YtokmoodiolnfiaaUnpack
import Derived.Test.YtokmoodiolnfiaaPack
import Derived.Test.YtokmoodiolnfiaaPkTight
namespace Go.Proofs.Ytokmoodiolnfiaa.packMoves
open Go Go.ChangeShapes Go.WideShapes Go.ChangeAt Go.RowKit Words Plain Put RefPut App PkPlain PkSpec UnSpec Need RefPk RefUn RefUn2 PkHas PkOne PkAgain Awake3 PkSize packTight Ope Bulk

/-- So many numbers are moved. -/
def RelM (l : List UInt64) (d : Nat) (wo : World) (vm vi : Value) (wr : World) : Prop := ∃ i : Nat, i ≤ l.length ∧ vi = .int .i64 (i : Int) ∧
  wr.ownsRow wo.heap.size 34 1 vm i ((moved (l.take i) d).map B64) ∧ Below wo.heap.size wo wr

theorem post_len2 {l : List UInt64} {w : World} {t : Nat} {o0 : Value} (h : Calls Try.prog 10 #[o0] w (PackPost l w)) (hl : l.length ≤ 65536) (hr : Rising l) (ht : (pk l).length = t) :
    Calls Try.prog 10 #[o0] w fun e w' => ∃ A c, e = .returned (.tuple #[.slice A t c, .int .i64 0]) ∧ t ≤ maxLen ∧ Below w.heap.size w w' := by
  refine h.mono ?_
  intro e w' hp
  obtain ⟨v, rfl, hown, hb⟩ := post_ok hp hl hr
  obtain ⟨A, c, rfl, h1, h2, _⟩ := own_slice hown
  subst ht
  exact ⟨A, c, rfl, by omega, hb⟩
theorem moved_snoc (l : List UInt64) (d i : Nat) (h : i < l.length) : moved (l.take (i + 1)) d = moved (l.take i) d ++ [(l[i].toNat + d).toUInt64] := by
  rw [List.take_succ_eq_append_getElem h]
  unfold moved
  rw [List.map_append]
  rfl
theorem same_sum {pa pb f1 f2 : Nat} (h : pb + f1 = pa + f2) (h1 : pa ≤ maxLen) (h2 : pb ≤ maxLen) (h3 : f1 ≤ 100) (h4 : f2 ≤ 100) : (wrap64 ((pb : Int) - (f2 : Int)) == wrap64 ((pa : Int) - (f1 : Int))) = true := by
  have e : (pb : Int) - (f2 : Int) = (pa : Int) - (f1 : Int) := by omega
  rw [e]
  simp

set_option maxHeartbeats 1600000 in
set_option maxRecDepth 100000 in
theorem walk0 (HP : PackAny) (HU : UnAny) (w : World) (l : List UInt64) (A : Option Addr) (c : Nat) (hc : l.length ≤ c) (hm : c ≤ maxLen) (hr : Rd w w.heap.size A (l.map B64)) (d : UInt64) :
    Calls Try.prog 8 #[.slice A l.length c, .int .u64 (d.toNat : Int)] w fun e w' => e = .returned (.bool true) ∧ Below w.heap.size w w' := by
  obtain ⟨i1, gi, gz0, gz1, gz2⟩ := info_parts info_u64
  have HA := Lib.hid (awake_any HP HU w)
  have HPH := Lib.hid HP
  have HR := Lib.hid hr
  have H1 := fun w' (hb : Below w.heap.size w w') => Lib.hid (HP l A _ c w' rfl ((hr.below hb).more hb.size) hc hm)
  have hd := d.toNat_lt
  generalize d.toNat = by_ at *
  clear HP HU hr
  go_enter Try.func8, Try.ntmps8
  go_wp2_with fail
  refine HA.out.mono ?_
  rintro e w3 ⟨rfl, hb3⟩
  have HB3 := Lib.hid hb3
  clear hb3 HA
  go_wp2_with fail
  refine (H1 w3 HB3.out).out.mono ?_
  rintro e w4 (⟨hl, rfl, hb4⟩ | ⟨hl, hn, rfl, hb4⟩ | ⟨hl, hris, v, rfl, hown, hb4⟩)
  · have HB4 := Lib.hid (HB3.out.trans (hb4.mono HB3.out.size))
    clear H1 hb4 HB3
    go_wp2
    go_ret
    exact ⟨rfl, HB4.out⟩
  · have HB4 := Lib.hid (HB3.out.trans (hb4.mono HB3.out.size))
    clear H1 hb4 HB3
    go_wp2
    go_ret
    exact ⟨rfl, HB4.out⟩
  have HB4 := Lib.hid (HB3.out.trans (hb4.mono HB3.out.size))
  obtain ⟨A1, ca, rfl, hca, hma, _⟩ := own_slice hown
  have HR4 := Lib.hid ((HR.out.below HB4.out).more HB4.out.size)
  clear H1 hb4 HB3 hown
  by_cases h2 : l.length < 2
  · have c1 : decide ((l.length : Int) < 2) = true := decide_eq_true (by omega)
    go_wp2
    go_ret
    exact ⟨rfl, HB4.out⟩
  have c2 : decide ((l.length : Int) < 2) = false := decide_eq_false (by omega)
  obtain ⟨b, off, rfl, hbb, hcell⟩ := HR4.out (by simp; omega)
  have hcl : ∀ j (hj : j < l.length), w4.cell? ⟨b, off + j, none⟩ = some (.int .u64 ((l[j].toNat : Nat) : Int)) := fun j hj => hcell j _ (by simp [hj, B64])
  have HCL := Lib.hid hcl
  have HLAST := Lib.hid (rising_last hris)
  obtain ⟨last, hlast⟩ : ∃ x : UInt64, l[l.length - 1]'(by omega) = x := ⟨_, rfl⟩
  have k1 : w4.cell? ⟨b, off + (l.length - 1), none⟩ = some (.int .u64 ((last.toNat : Nat) : Int)) := by rw [hcl _ (by omega), hlast]
  have hlt := last.toNat_lt
  generalize hlv : last.toNat = lv at *
  have HLV : Hid (∃ h : l.length - 1 < l.length, (l[l.length - 1]'h).toNat = lv) := Lib.hid ⟨by omega, by rw [hlast]; exact hlv⟩
  clear hlast hlv hcell hcl
  by_cases h3 : 9223372036854775808 < lv
  · have c3 : decide ((9223372036854775808 : Int) < (lv : Int)) = true := decide_eq_true (by omega)
    go_wp2
    go_ret
    exact ⟨rfl, HB4.out⟩
  have c3 : decide ((9223372036854775808 : Int) < (lv : Int)) = false := decide_eq_false (by omega)
  by_cases h4 : 9223372036854775807 < by_
  · have c4 : decide ((9223372036854775807 : Int) < (by_ : Int)) = true := decide_eq_true (by omega)
    go_wp2
    go_ret
    exact ⟨rfl, HB4.out⟩
  have c4 : decide ((9223372036854775807 : Int) < (by_ : Int)) = false := decide_eq_false (by omega)
  have D0 : ∀ j (hj : j < l.length), l[j].toNat + by_ < 18446744073709551616 := fun j hj => by
    have h1 := HLAST.out j hj
    obtain ⟨h5, h6⟩ := HLV.out
    omega
  have HD0 := Lib.hid D0
  clear D0 HLAST
  go_wp2
  clear c2 c3 c4
  go_loopw [7, 8] (fun vm vi wr => RelM l by_ w4 vm vi wr) (fun _ v _ => l.length - (intOf v).toNat)
  case atStart => exact ⟨0, by omega, rfl, World.ownsRow_nil _ _ _ _, Below.refl _ _⟩
  case round =>
    obtain ⟨i, hi, rfl, hom, hbl⟩ := hrel
    have HBL := Lib.hid hbl
    have HOM := Lib.hid hom
    clear hom
    by_cases hlt2 : i < l.length
    · have c5 : decide ((i : Int) < (l.length : Int)) = true := decide_eq_true (by omega)
      have hxd := HD0.out i hlt2
      have kx : wr.cell? ⟨b, off + i, none⟩ = some (.int .u64 ((l[i].toNat : Nat) : Int)) := (hbl.cell hbb).trans (HCL.out i hlt2)
      have E1 : Hid ((moved (l.take (i + 1)) by_).map B64 = (moved (l.take i) by_).map B64 ++ [.int .u64 ((l[i].toNat : Int) + (by_ : Int))]) := by
        show _ = _
        rw [moved_snoc l by_ i hlt2]
        simp [B64]
        omega
      clear hbl
      generalize l[i].toNat = xi at *
      go_wp2_with (at_builtin; refine wpList_append_rd _ rfl (.tmp 50) (.tmp 57) 22 rfl w4.heap.size 34 i1 (.int .u64 0) 8 Try.underlying22 gi gz0 gz1 gz2 rfl _ _ _ rfl (HOM.out.alloc _) (wr.heap.size + 1) (some ⟨wr.heap.size, 0, none⟩) 1 1 [.int .u64 ((xi : Int) + (by_ : Int))] rfl rfl (Rd.made wr #[.int .u64 ((xi : Int) + (by_ : Int))] 34) ?f1 ?f2 ?f3 ?f4 ?_)
      case f1 => first | rfl | (intro u hu; simp at hu; subst hu; rfl)
      case f2 => unfold maxLen; omega
      case f3 => omega
      case f4 => have := HBL.out.size; simp; omega
      intro vm1 w10 hown10 hg10 hv10
      have HB10 := Lib.hid (below_app (HOM.out.alloc _) (HBL.out.alloc HBL.out.size _) hg10)
      have HO10 : Hid (w10.ownsRow w4.heap.size 34 1 vm1 (i + 1) ((moved (l.take (i + 1)) by_).map B64)) := by
        show World.ownsRow _ _ _ _ _ _ _
        rw [E1.out]
        exact hown10
      clear hown10 hg10 hv10 HOM HBL E1 kx
      go_wp2
      go_roundw
      case rel => exact ⟨i + 1, by omega, by go_num, HO10.out, HB10.out⟩
      case measure => simp [intOf]; omega
    · have c5 : decide ((i : Int) < (l.length : Int)) = false := decide_eq_false (by omega)
      have hil : i = l.length := by omega
      subst hil
      have hom := HOM.out
      rw [List.take_length] at hom
      obtain ⟨A2, c2', rfl, hc2, hm2, _⟩ := own_slice hom
      have h0 : 0 < l.length := by omega
      obtain ⟨hx, hlv⟩ := HLV.out
      have hbm : (l[l.length - 1]'hx).toNat + by_ < 18446744073709551616 := by omega
      have RM := moved_rising (d := by_) hris h0 hbm
      have LM := moved_length l by_
      have PM := moved_pk (d := by_) hris (by omega) hbm
      have TK := take_pk l (l.length / 2)
      have RT := take_rising hris (l.length / 2)
      have LT : (l.take (l.length / 2)).length = l.length / 2 := by rw [List.length_take]; omega
      have T1 : l.take 1 = [l[0]] := by
        rw [List.take_succ_eq_append_getElem h0]
        rfl
      have T2 : (moved l by_).take 1 = [(l[0].toNat + by_).toUInt64] := by
        unfold moved
        rw [← List.map_take, T1]
        rfl
      have hxd := HD0.out 0 h0
      have F1 := pk_one l[0]
      have F2 := pk_one (l[0].toNat + by_).toUInt64
      have e2 : ((l[0].toNat + by_).toUInt64).toNat = l[0].toNat + by_ := by simp; omega
      rw [e2] at F2
      have U1 := Lib.uvarint_length64 (x := l[0].toNat) (by omega)
      have U2 := Lib.uvarint_length64 (x := l[0].toNat + by_) hxd
      have RL : Rd wr wr.heap.size (some ⟨b, off, none⟩) (l.map B64) := (HR4.out.below HBL.out).more HBL.out.size
      have R1 : Rd wr wr.heap.size (some ⟨b, off, none⟩) (([l[0]] : List UInt64).map B64) := by
        have h := RL.take 1
        rw [← List.map_take, T1] at h
        exact h
      have RH : Rd wr wr.heap.size (some ⟨b, off, none⟩) ((l.take (l.length / 2)).map B64) := by
        have h := RL.take (l.length / 2)
        rw [← List.map_take] at h
        exact h
      have RMM := Rd.of_own hom
      have R2 : Rd wr wr.heap.size A2 (([(l[0].toNat + by_).toUInt64] : List UInt64).map B64) := by
        have h := RMM.take 1
        rw [← List.map_take, T2] at h
        exact h
      have H1 := Lib.hid (post_len2 (HPH.out (moved l by_) A2 l.length c2' wr LM.symm RMM (by omega) hm2) (by omega) RM rfl)
      have H2 := fun w' (hb : Below wr.heap.size wr w') => Lib.hid (post_len2 (HPH.out [l[0]] (some ⟨b, off, none⟩) 1 c w' rfl ((R1.below hb).more hb.size) (by simp; omega) hm) (by simp) (rising_one _) rfl)
      have H3 := fun w' (hb : Below wr.heap.size wr w') => Lib.hid (post_len2 (HPH.out [(l[0].toNat + by_).toUInt64] A2 1 c2' w' rfl ((R2.below hb).more hb.size) (by simp; omega) hm2) (by simp) (rising_one _) rfl)
      have H4 := fun w' (hb : Below wr.heap.size wr w') => Lib.hid (post_len2 (HPH.out (l.take (l.length / 2)) (some ⟨b, off, none⟩) (l.length / 2) c w' LT.symm ((RH.below hb).more hb.size) (by omega) hm) (by omega) RT rfl)
      have HSZ : (pk (moved l by_)).length + (pk [l[0]]).length = (pk l).length + (pk [(l[0].toNat + by_).toUInt64]).length := by omega
      have HF1 : (pk [l[0]]).length ≤ 100 := by omega
      have HF2 : (pk [(l[0].toNat + by_).toUInt64]).length ≤ 100 := by omega
      have hpa : (pk l).length ≤ maxLen := by omega
      have HB0 := Lib.hid (HB4.out.trans (HBL.out.mono HB4.out.size))
      have hh : (l.length : Int).tdiv 2 = ((l.length / 2 : Nat) : Int) := by rw [Int.tdiv_eq_ediv_of_nonneg (by omega)]; omega
      have hh2 : l.length / 2 ≤ l.length := by omega
      clear RL R1 RH RMM R2 T1 T2 F1 F2 U1 U2 e2 PM LM LT RM RT hom HOM hbl HBL HPH HD0 HLV HCL HR HR4 k1 hlv hbm hxd hca hma
      generalize (pk (moved l by_)).length = pb at *
      generalize (pk [(l[0].toNat + by_).toUInt64]).length = f2 at *
      generalize (pk [l[0]]).length = f1 at *
      generalize (pk (l.take (l.length / 2))).length = ph at *
      generalize (pk l).length = pa at *
      generalize l.length / 2 = hf at *
      have k9 : decide (ph ≤ pa) = true := decide_eq_true (by omega)
      clear TK hris
      go_wp2_with fail
      refine H1.out.mono ?_
      rintro e w5 ⟨A5, c5', rfl, hmb, hb5⟩
      have HB5 := Lib.hid hb5
      have HSM := Lib.hid (same_sum HSZ hpa hmb HF1 HF2)
      clear hb5 H1 HSZ
      go_wp2_with fail
      refine (H2 w5 HB5.out).out.mono ?_
      rintro e w6 ⟨A6, c6, rfl, _, hb6⟩
      have HB6 := Lib.hid (HB5.out.trans (hb6.mono HB5.out.size))
      clear hb6 H2 HB5
      go_wp2_with fail
      refine (H3 w6 HB6.out).out.mono ?_
      rintro e w7 ⟨A7, c7, rfl, _, hb7⟩
      have HB7 := Lib.hid (HB6.out.trans (hb7.mono HB6.out.size))
      clear hb7 H3 HB6
      go_wp2_with fail
      refine (H4 w7 HB7.out).out.mono ?_
      rintro e w8 ⟨A8, c8, rfl, _, hb8⟩
      have HB8 := Lib.hid (HB0.out.trans ((HB7.out.trans (hb8.mono HB7.out.size)).mono HB0.out.size))
      clear hb8 H4 HB7 HB0
      have hsm := HSM.out
      go_wp2
      go_ret
      exact ⟨rfl, HB8.out⟩
theorem walk (w : World) (l : List UInt64) (A : Option Addr) (c : Nat) (hc : l.length ≤ c) (hm : c ≤ maxLen) (hr : Rd w w.heap.size A (l.map B64)) (d : UInt64) :
    Calls Try.prog 8 #[.slice A l.length c, .int .u64 (d.toNat : Int)] w fun e w' => e = .returned (.bool true) ∧ Below w.heap.size w w' :=
  walk0 Pack.pack_any Unpack.un_any w l A c hc hm hr d
theorem own : ownKnob Try.prog.godebug = none := by kernel_rfl
theorem laid : laidOutB Try.prog = true := by kernel_rfl
theorem allRead : (Try.f8.params.toList.all fun t => Try.prog.readableRec t && decide (t < Try.prog.types.size)) = true := by kernel_rfl
theorem contract (H : Type) (enc : TypeId × Value → H) (W : World) (base : Nat) (args : Array Value) (ds gs : List (DataW H)) (before : List MemPlace)
    (hval : ∀ (j : Nat) t v, Try.f8.params[j]? = some t → args[j]? = some v → Value.okWide Try.prog W .any base t v)
    (hW : DataW.Whole enc Try.prog Try.f8.params.toList Rows.packMovesSpec.vars false W args.toList ds gs before) :
    Calls Try.prog 8 args W fun e W' => ∃ v, e = .returned v ∧ Rows.packMovesSpec.post enc Try.prog Try.f8 false true false false W args v W' := by
  have hW' := hW
  obtain ⟨p, q, hA0, hV, rfl, hfz, hnd⟩ := hW
  obtain ⟨rfl, rfl⟩ := trodVars_none hV
  have hlt : ∀ x ∈ p, x.block < W.heap.size := fun x hx => hW'.lt x (by simp [hx])
  have hA : DataW.TrodAll enc Try.prog W 0 (fun _ => true) true Try.f8.params.toList args.toList ds p := hA0
  rw [Try.params8] at hA hval
  obtain ⟨v0, vs0, d0, ds0, p0, q0, hargs, rfl, rfl, h0, r0⟩ := trodAll_cons hA
  obtain ⟨v1, vs1, d1, ds1, p1, q1, rfl, rfl, rfl, h1, r1⟩ := trodAll_cons r0
  obtain ⟨rfl, rfl, rfl⟩ := trodAll_nil r1
  obtain rfl : args = #[v0, v1] := by cases args; simp_all
  obtain ⟨A0, l0, c0, rfl, hl0, hm0, hr0, hd0⟩ := open_u64s Try.underlying22 Try.underlying34 (by kernel_rfl) (hval 0 22 v0 rfl rfl) h0 (fun x hx => hlt x (by simp [hx]))
  obtain ⟨b1, rfl, rfl, rfl, w1⟩ := open_int Try.underlying34 (hval 1 34 v1 rfl rfl) h1
  obtain ⟨a1, rfl⟩ := u64_of w1
  refine (walk W l0 A0 c0 hl0 hm0 hr0 a1).mono fun e W' ⟨he, hb⟩ => ?_
  subst he
  exact ⟨_, rfl, law_post laid (fun t ht => by have h := List.all_eq_true.1 allRead t ht; rw [Bool.and_eq_true, decide_eq_true_eq] at h; exact h) rfl (by kernel_rfl) Try.underlying4 rfl hW' hb⟩
set_option maxRecDepth 100000 in
theorem lifted (os : Os) (started : os.Started) (H : Type) (enc : TypeId × Value → H) :
    ReturnsInHanded {} Try.checked os 8 .any (Rows.packMovesSpec.pre6 enc Try.prog Try.f8 Rows.packMovesRow.domain false) (Rows.packMovesSpec.post enc Try.prog Try.f8 false true false false) := by
  refine returnsInHanded_of_change (C := Try.checked) own started (by kernel_rfl) Try.func8
    (ChangeSpec.witness6 (enc := enc) (C := Try.checked) false ⟨#[], #[.slice none 0 0, .int .u64 0], []⟩ 8 (by kernel_rfl) (by kernel_rfl) (by kernel_rfl) (by kernel_rfl)) ?_
  intro W base args ds gs before hval hW _ _
  exact contract H enc W base args ds gs before hval hW
theorem over : Rows.packMovesRow.holds Try.pinned (OpenSpec.ofChange Rows.packMovesSpec) :=
  OpenClaim.holds_of_wide 8 Try.f8 rfl rfl rfl rfl rfl rfl rfl ⟨rfl, rfl, rfl, rfl, rfl⟩ rfl rfl rfl rfl rfl (by kernel_rfl) Try.func8 (by kernel_rfl)
    (of_decide_eq_true (by kernel_rfl)) (by unfold Func.isWrapper; first | (rw [if_pos (by decide +kernel)]; kernel_rfl) | (rw [if_neg (by decide +kernel)]; exact ⟨rfl, rfl⟩))
    (fun os started H enc _ => lifted os started H enc)
theorem proved : Rows.PackMovesSaid := over

end Go.Proofs.Ytokmoodiolnfiaa.packMoves
