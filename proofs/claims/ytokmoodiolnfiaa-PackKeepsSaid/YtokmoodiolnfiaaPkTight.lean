/- PackTight's walk. Conditions: PackAny and UnAny for the program. -/
import Derived.Test.YtokmoodiolnfiaaBulk
import Derived.Test.YtokmoodiolnfiaaOpen
import Derived.Test.YtokmoodiolnfiaaUnpack
import Derived.Test.YtokmoodiolnfiaaPack
import Derived.Test.YtokmoodiolnfiaaAwake3
import Derived.Test.YtokmoodiolnfiaaPkSize
namespace Go.Proofs.Ytokmoodiolnfiaa.packTight
open Go Go.ChangeShapes Go.WideShapes Go.ChangeAt Go.RowKit Words Plain Put RefPut App PkPlain PkSpec UnSpec Need RefPk RefUn RefUn2 PkHas PkOne PkAgain Awake3 PkSize Ope Bulk

/-- Two rows of the call's own, apart. -/
def Rel (x g k : Nat) (w : World) (vl vm vi : Value) (wr : World) : Prop := ∃ i : Nat, i ≤ k ∧ vi = .int .i64 (i : Int) ∧
  wr.ownsRow w.heap.size 34 1 vl i ((lin x 1 i).map B64) ∧ wr.ownsRow w.heap.size 34 1 vm i ((lin x g i).map B64) ∧ (vl.ownBlock = none ∨ vl.ownBlock ≠ vm.ownBlock) ∧ Below w.heap.size w wr

theorem apart_symm {a b : Value} (h : a.ownBlock = none ∨ a.ownBlock ≠ b.ownBlock) : b.ownBlock = none ∨ b.ownBlock ≠ a.ownBlock := by
  rcases h with h | h
  · cases hb : b.ownBlock with
    | none => exact .inl rfl
    | some k => right; rw [h]; simp
  · exact .inr fun e => h e.symm
/-- A row that grew, in place or anew, stays apart from a row that was there. -/
theorem apart_new {a a' b : Value} {w : World} {B s : Nat} {e : TypeId} {n : Nat} {xs : List Value} (h : a.ownBlock = none ∨ a.ownBlock ≠ b.ownBlock) (hb : w.ownsRow B e 1 b n xs) (hs : w.heap.size ≤ s) (ha : a'.ownBlock = a.ownBlock ∨ a'.ownBlock = some s) : a'.ownBlock = none ∨ a'.ownBlock ≠ b.ownBlock := by
  rcases ha with ha | ha
  · rw [ha]; exact h
  · right
    rw [ha]
    intro e
    have := (hb.lt _ e.symm).2
    omega

/-- What is packed has so many bytes. -/
theorem post_len {l : List UInt64} {w : World} {t : Nat} {o0 : Value} (h : Calls Try.prog 10 #[o0] w (PackPost l w)) (hl : l.length ≤ 65536) (hr : Rising l) (ht : (pk l).length = t) :
    Calls Try.prog 10 #[o0] w fun e w' => ∃ A c, e = .returned (.tuple #[.slice A t c, .int .i64 0]) ∧ Below w.heap.size w w' := by
  refine h.mono ?_
  intro e w' hp
  obtain ⟨v, rfl, hown, hb⟩ := post_ok hp hl hr
  obtain ⟨A, c, rfl, _, _, _⟩ := own_slice hown
  subst ht
  exact ⟨A, c, rfl, hb⟩

theorem sum_at (nn nd pd z q : Nat) (hp : (nn + 1) * nd = pd) (hpl : pd ≤ 3200) (hq : (pd + 7) / 8 = q) (hz : z ≤ 11) :
    ((z : Int) + 1 + (q : Int) == wrap64 ((z : Int) + 1 + wrap64 ((wrap64 (wrap64 (((nn : Int) + 2 - 1) * (nd : Int)) + 7)).tdiv 8))) = true := by
  have e1 : ((nn : Int) + 2 - 1) * (nd : Int) = (pd : Int) := by
    rw [show ((nn : Int) + 2 - 1) = ((nn + 1 : Nat) : Int) by omega, ← Int.natCast_mul, hp]
  rw [e1, show wrap64 (pd : Int) = (pd : Int) by unfold wrap64; omega, show wrap64 ((pd : Int) + 7) = (pd : Int) + 7 by unfold wrap64; omega, Int.tdiv_eq_ediv_of_nonneg (by omega)]
  rw [show wrap64 (((pd : Int) + 7) / 8) = (q : Int) by unfold wrap64; omega, show wrap64 ((z : Int) + 1 + (q : Int)) = (z : Int) + 1 + (q : Int) by unfold wrap64; omega]
  simp

set_option maxHeartbeats 1600000 in
set_option maxRecDepth 100000 in
theorem walk0 (HP : PackAny) (HU : UnAny) (w : World) (x : UInt64) (n : Int) (wn : (Lit.int .u8 n).wf = true) (g : UInt64) :
    Calls Try.prog 6 #[.int .u64 (x.toNat : Int), .int .u8 n, .int .u64 (g.toNat : Int)] w fun e w' => e = .returned (.bool true) ∧ Below w.heap.size w w' := by
  obtain ⟨i1, gi, gz0, gz1, gz2⟩ := info_parts info_u64
  have HA := Lib.hid (awake_any HP HU w)
  have HPH := Lib.hid HP
  obtain ⟨nn, hk, hk2⟩ : ∃ nn : Nat, n.tmod 50 = (nn : Int) ∧ nn ≤ 49 := by
    have h : 0 ≤ n ∧ n ≤ 255 := by
      simp [Lit.wf] at wn
      exact wn
    refine ⟨(n.tmod 50).toNat, ?_, ?_⟩ <;> rw [Int.tmod_eq_emod_of_nonneg h.1] <;> omega
  obtain ⟨x', hx', hx40⟩ : ∃ x' : Nat, (x.toNat : Int).tmod 1099511627776 = (x' : Int) ∧ x' < 1099511627776 := by
    refine ⟨x.toNat % 1099511627776, ?_, by omega⟩
    rw [Int.tmod_eq_emod_of_nonneg (by omega)]; omega
  obtain ⟨g', hg', hg56⟩ : ∃ g' : Nat, (g.toNat : Int).tmod 72057594037927936 = (g' : Int) ∧ g' < 72057594037927936 := by
    refine ⟨g.toNat % 72057594037927936, ?_, by omega⟩
    rw [Int.tmod_eq_emod_of_nonneg (by omega)]; omega
  clear HP HU
  go_enter Try.func6, Try.ntmps6
  go_wp2_with fail
  refine HA.out.mono ?_
  rintro e w3 ⟨rfl, hb1⟩
  have HB3 := Lib.hid hb1
  clear hb1 HA
  go_wp2
  go_loopw [8, 9, 10] (fun vl vm vi wr => Rel x' (g' + 1) (nn + 2) w vl vm vi wr) (fun _ _ v _ => nn + 2 - (intOf v).toNat)
  case atStart => exact ⟨0, by omega, rfl, World.ownsRow_nil _ _ _ _, World.ownsRow_nil _ _ _ _, .inl rfl, HB3.out⟩
  case round =>
    obtain ⟨i, hi, rfl, hol, hom, hap, hbl⟩ := hrel
    have HBL := Lib.hid hbl
    have HOL := Lib.hid hol
    have HOM := Lib.hid hom
    have HAP := Lib.hid hap
    clear hol hom hap hbl HB3
    by_cases hlt : i < nn + 2
    · have c1 : decide ((i : Int) < (nn : Int) + 2) = true := decide_eq_true (by omega)
      obtain ⟨pr, hpr, hprb⟩ : ∃ pr : Nat, Hid (i * (g' + 1) = pr) ∧ pr ≤ 3819052484010180608 := by
        refine ⟨i * (g' + 1), Lib.hid rfl, ?_⟩
        calc i * (g' + 1) ≤ 53 * 72057594037927936 := Nat.mul_le_mul (by omega) (by omega)
          _ ≤ _ := by decide
      have hpi : (i : Int) * ((g' : Int) + 1) = (pr : Int) := by rw [← hpr.out]; simp
      have E1 : Hid ((lin x' 1 (i + 1)).map B64 = (lin x' 1 i).map B64 ++ [.int .u64 ((x' : Int) + (i : Int))]) := by
        show _ = _
        rw [lin_succ]
        simp [B64]
        omega
      have E2 : Hid ((lin x' (g' + 1) (i + 1)).map B64 = (lin x' (g' + 1) i).map B64 ++ [.int .u64 ((x' : Int) + (pr : Int))]) := by
        show _ = _
        rw [lin_succ, hpr.out]
        simp [B64]
        omega
      have L1 : Hid (((lin x' 1 i).map B64).length = i) := by show _ = _; rw [List.length_map, lin_length]
      have L2 : Hid (((lin x' (g' + 1) i).map B64).length = i) := by show _ = _; rw [List.length_map, lin_length]
      go_wp2_with (at_builtin; refine wpList_append_rd _ rfl (.tmp 33) (.tmp 38) 22 rfl w.heap.size 34 i1 (.int .u64 0) 8 Try.underlying22 gi gz0 gz1 gz2 rfl _ _ _ rfl (HOL.out.alloc _) (wr.heap.size + 1) (some ⟨wr.heap.size, 0, none⟩) 1 1 [.int .u64 ((x' : Int) + (i : Int))] rfl rfl (Rd.made wr #[.int .u64 ((x' : Int) + (i : Int))] 34) ?f1 ?f2 ?f3 ?f4 ?_)
      case f1 => first | rfl | (intro u hu; simp at hu; subst hu; rfl)
      case f2 => unfold maxLen; omega
      case f3 => omega
      case f4 => have := HBL.out.size; simp; omega
      intro vl1 w9 hown9 hg9 hv9
      have HB9 := Lib.hid (below_app (HOL.out.alloc _) (HBL.out.alloc HBL.out.size _) hg9)
      have HO9 : Hid (w9.ownsRow w.heap.size 34 1 vl1 (i + 1) ((lin x' 1 (i + 1)).map B64)) := by
        show World.ownsRow _ _ _ _ _ _ _
        rw [E1.out]
        exact hown9
      have HOM9 := Lib.hid ((HOM.out.alloc (.cells #[.int .u64 ((x' : Int) + (i : Int))] 34)).kept hg9 (apart_symm HAP.out))
      have HAP9 := Lib.hid (apart_new (s := wr.heap.size + 1) HAP.out HOM.out (by omega) hv9)
      clear hown9 hg9 hv9 HOL HOM HAP HBL E1 L1
      go_wp2_with (at_builtin; refine wpList_append_rd _ rfl (.tmp 40) (.tmp 47) 22 rfl w.heap.size 34 i1 (.int .u64 0) 8 Try.underlying22 gi gz0 gz1 gz2 rfl _ _ _ rfl (HOM9.out.alloc _) (w9.heap.size + 1) (some ⟨w9.heap.size, 0, none⟩) 1 1 [.int .u64 ((x' : Int) + (pr : Int))] rfl rfl (Rd.made w9 #[.int .u64 ((x' : Int) + (pr : Int))] 34) ?f1 ?f2 ?f3 ?f4 ?_)
      case f1 => first | rfl | (intro u hu; simp at hu; subst hu; rfl)
      case f2 => unfold maxLen; omega
      case f3 => omega
      case f4 => have := HB9.out.size; simp; omega
      intro vm1 w10 hown10 hg10 hv10
      have HB10 := Lib.hid (below_app (HOM9.out.alloc _) (HB9.out.alloc HB9.out.size _) hg10)
      have HO10 : Hid (w10.ownsRow w.heap.size 34 1 vm1 (i + 1) ((lin x' (g' + 1) (i + 1)).map B64)) := by
        show World.ownsRow _ _ _ _ _ _ _
        rw [E2.out]
        exact hown10
      have HOL10 := Lib.hid ((HO9.out.alloc (.cells #[.int .u64 ((x' : Int) + (pr : Int))] 34)).kept hg10 HAP9.out)
      have HAP10 := Lib.hid (apart_symm (apart_new (s := w9.heap.size + 1) (apart_symm HAP9.out) HO9.out (by omega) hv10))
      clear hown10 hg10 hv10 HO9 HOM9 HAP9 HB9 E2 L2 hpr hpi
      go_wp2
      go_roundw
      case rel => exact ⟨i + 1, by omega, by go_num, HOL10.out, HO10.out, HAP10.out, HB10.out⟩
      case measure => simp [intOf]; omega
    · have c1 : decide ((i : Int) < (nn : Int) + 2) = false := decide_eq_false (by omega)
      have hi2 : 2 ≤ i := by omega
      have hi51 : i ≤ 51 := by omega
      have b1 : x' + i * 1 < 18446744073709551616 := by omega
      have b2 : x' + i * (g' + 1) < 18446744073709551616 := by
        have : i * (g' + 1) ≤ 51 * 72057594037927936 := Nat.mul_le_mul (by omega) (by omega)
        omega
      have R1 := lin_rising x' 1 i (by omega) b1
      have R2 := lin_rising x' (g' + 1) i (by omega) b2
      have P1 := lin_pk x' 1 i (by omega) (by omega) b1
      have P2 := lin_pk x' (g' + 1) i (by omega) (by omega) b2
      have T1 : (lin x' 1 i).take 1 = [x'.toUInt64] := by
        obtain ⟨j, rfl⟩ : ∃ j, i = j + 1 := ⟨i - 1, by omega⟩
        simp [lin, List.range_succ_eq_map]
      have LL1 := lin_length x' 1 i
      have LL2 := lin_length x' (g' + 1) i
      obtain ⟨A1, c1', rfl, hc1, hm1, _⟩ := own_slice HOL.out
      obtain ⟨A2, c2', rfl, hc2, hm2, _⟩ := own_slice HOM.out
      have RD1 := Rd.of_own HOL.out
      have RD2 := Rd.of_own HOM.out
      have RD3 : Rd wr wr.heap.size A1 (([x'.toUInt64] : List UInt64).map B64) := by
        have h := RD1.take 1
        rw [← List.map_take, T1] at h
        exact h
      have hnd : need g' ≤ 64 := need_64 (by omega)
      have hpl : ((nn + 1) * need g' : Nat) ≤ 50 * 64 := Nat.mul_le_mul (by omega) (by omega)
      have hp1 := pk_one x'.toUInt64
      have hu1 := Lib.uvarint_length64 (x := x'.toUInt64.toNat) x'.toUInt64.toNat_lt
      have hzb : (pk [x'.toUInt64]).length ≤ 11 := by omega
      clear hp1 hu1
      have hin : i = nn + 2 := by omega
      have HP1 : (pk (lin x' 1 i)).length = (pk [x'.toUInt64]).length + 1 := by
        rw [P1, Nat.sub_self, need_zero, Nat.mul_zero]
      have HP2 : (pk (lin x' (g' + 1) i)).length = (pk [x'.toUInt64]).length + 1 + ((nn + 1) * need g' + 7) / 8 := by
        rw [P2, Nat.add_sub_cancel, hin]
        rfl
      have H1 := Lib.hid (post_len (HPH.out (lin x' 1 i) A1 i c1' wr LL1.symm RD1 (by omega) hm1) (by omega) R1 HP1)
      have H2 := fun w' (hb : Below wr.heap.size wr w') => Lib.hid (post_len (HPH.out (lin x' (g' + 1) i) A2 i c2' w' LL2.symm ((RD2.below hb).more hb.size) (by omega) hm2) (by omega) R2 HP2)
      have H3 := fun w' (hb : Below wr.heap.size wr w') => Lib.hid (post_len (HPH.out [x'.toUInt64] A1 1 c1' w' rfl ((RD3.below hb).more hb.size) (by simp; omega) hm1) (by simp) (rising_one _) rfl)
      have HB0 := Lib.hid HBL.out
      have ND := fun w' => Lib.hid (need_any g' w' (by omega))
      clear P1 P2 HP1 HP2 T1 RD1 RD2 RD3 R1 R2 b1 b2 LL1 LL2 HOL HOM HAP HPH HBL hx' hg' hk hin
      generalize need g' = nd at *
      generalize hpd : (nn + 1) * nd = pd at *
      generalize (pk [x'.toUInt64]).length = z at *
      generalize hqd : (pd + 7) / 8 = q at *
      have HF := Lib.hid (sum_at nn nd pd z q hpd hpl hqd hzb)
      have hq2 : q ≤ 500 := by omega
      clear hpd hqd
      go_wp2_with fail
      refine H1.out.mono ?_
      rintro e w4 ⟨A4, c4, rfl, hb4⟩
      have HB4 := Lib.hid hb4
      clear hb4 H1
      go_wp2_with fail
      refine (H2 w4 HB4.out).out.mono ?_
      rintro e w5 ⟨A5, c5, rfl, hb5⟩
      have HB5 := Lib.hid (HB4.out.trans (hb5.mono HB4.out.size))
      clear hb5 H2 HB4
      go_wp2_with fail
      refine (H3 w5 HB5.out).out.mono ?_
      rintro e w6 ⟨A6, c6, rfl, hb6⟩
      have HB6 := Lib.hid (HB0.out.trans ((HB5.out.trans (hb6.mono HB5.out.size)).mono HB0.out.size))
      clear hb6 H3 HB5 HB0
      go_wp2_with fail
      refine (ND w6).out.mono ?_
      rintro e w7 ⟨rfl, rfl⟩
      go_wp2
      go_ret
      refine ⟨?_, HB6.out⟩
      exact congrArg (fun x => Ending.returned (.bool x)) HF.out
theorem walk (w : World) (x : UInt64) (n : Int) (wn : (Lit.int .u8 n).wf = true) (g : UInt64) :
    Calls Try.prog 6 #[.int .u64 (x.toNat : Int), .int .u8 n, .int .u64 (g.toNat : Int)] w fun e w' => e = .returned (.bool true) ∧ Below w.heap.size w w' :=
  walk0 Pack.pack_any Unpack.un_any w x n wn g
theorem own : ownKnob Try.prog.godebug = none := by kernel_rfl
theorem laid : laidOutB Try.prog = true := by kernel_rfl
theorem allRead : (Try.f6.params.toList.all fun t => Try.prog.readableRec t && decide (t < Try.prog.types.size)) = true := by kernel_rfl
theorem contract (H : Type) (enc : TypeId × Value → H) (W : World) (base : Nat) (args : Array Value) (ds gs : List (DataW H)) (before : List MemPlace)
    (hval : ∀ (j : Nat) t v, Try.f6.params[j]? = some t → args[j]? = some v → Value.okWide Try.prog W .any base t v)
    (hW : DataW.Whole enc Try.prog Try.f6.params.toList Rows.packTightSpec.vars false W args.toList ds gs before) :
    Calls Try.prog 6 args W fun e W' => ∃ v, e = .returned v ∧ Rows.packTightSpec.post enc Try.prog Try.f6 false true false false W args v W' := by
  have hW' := hW
  obtain ⟨p, q, hA0, hV, rfl, hfz, hnd⟩ := hW
  obtain ⟨rfl, rfl⟩ := trodVars_none hV
  have hlt : ∀ x ∈ p, x.block < W.heap.size := fun x hx => hW'.lt x (by simp [hx])
  have hA : DataW.TrodAll enc Try.prog W 0 (fun _ => true) true Try.f6.params.toList args.toList ds p := hA0
  rw [Try.params6] at hA hval
  obtain ⟨v0, vs0, d0, ds0, p0, q0, hargs, rfl, rfl, h0, r0⟩ := trodAll_cons hA
  obtain ⟨v1, vs1, d1, ds1, p1, q1, rfl, rfl, rfl, h1, r1⟩ := trodAll_cons r0
  obtain ⟨v2, vs2, d2, ds2, p2, q2, rfl, rfl, rfl, h2, r2⟩ := trodAll_cons r1
  obtain ⟨rfl, rfl, rfl⟩ := trodAll_nil r2
  obtain rfl : args = #[v0, v1, v2] := by cases args; simp_all
  obtain ⟨b0, rfl, rfl, rfl, w0⟩ := open_int Try.underlying34 (hval 0 34 v0 rfl rfl) h0
  obtain ⟨a0, rfl⟩ := u64_of w0
  obtain ⟨a1, rfl, rfl, rfl, w1⟩ := open_int Try.underlying5 (hval 1 5 v1 rfl rfl) h1
  obtain ⟨b2, rfl, rfl, rfl, w2⟩ := open_int Try.underlying34 (hval 2 34 v2 rfl rfl) h2
  obtain ⟨a2, rfl⟩ := u64_of w2
  refine (walk W a0 a1 w1 a2).mono fun e W' ⟨he, hb⟩ => ?_
  subst he
  exact ⟨_, rfl, law_post laid (fun t ht => by have h := List.all_eq_true.1 allRead t ht; rw [Bool.and_eq_true, decide_eq_true_eq] at h; exact h) rfl (by kernel_rfl) Try.underlying4 rfl hW' hb⟩
set_option maxRecDepth 100000 in
theorem lifted (os : Os) (started : os.Started) (H : Type) (enc : TypeId × Value → H) :
    ReturnsInHanded {} Try.checked os 6 .any (Rows.packTightSpec.pre6 enc Try.prog Try.f6 Rows.packTightRow.domain false) (Rows.packTightSpec.post enc Try.prog Try.f6 false true false false) := by
  refine returnsInHanded_of_change (C := Try.checked) own started (by kernel_rfl) Try.func6
    (ChangeSpec.witness6 (enc := enc) (C := Try.checked) false ⟨#[], #[.int .u64 0, .int .u8 0, .int .u64 0], []⟩ 8 (by kernel_rfl) (by kernel_rfl) (by kernel_rfl) (by kernel_rfl)) ?_
  intro W base args ds gs before hval hW _ _
  exact contract H enc W base args ds gs before hval hW
theorem over : Rows.packTightRow.holds Try.pinned (OpenSpec.ofChange Rows.packTightSpec) :=
  OpenClaim.holds_of_wide 6 Try.f6 rfl rfl rfl rfl rfl rfl rfl ⟨rfl, rfl, rfl, rfl, rfl⟩ rfl rfl rfl rfl rfl (by kernel_rfl) Try.func6 (by kernel_rfl)
    (of_decide_eq_true (by kernel_rfl)) (by unfold Func.isWrapper; first | (rw [if_pos (by decide +kernel)]; kernel_rfl) | (rw [if_neg (by decide +kernel)]; exact ⟨rfl, rfl⟩))
    (fun os started H enc _ => lifted os started H enc)
theorem proved : Rows.PackTightSaid := over

end Go.Proofs.Ytokmoodiolnfiaa.packTight
