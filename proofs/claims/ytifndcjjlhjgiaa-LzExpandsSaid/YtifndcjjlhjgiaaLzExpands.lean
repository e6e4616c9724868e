/- LzExpands: for all bytes and every 'most' the statement's function answers true and leaves its arguments as they were. No conditions. -/
import Derived.SizedLaws
import Derived.Test.YtifndcjjlhjgiaaBulk
import Derived.Test.YtifndcjjlhjgiaaOpen
import Derived.Test.YtifndcjjlhjgiaaAwake4
namespace Go.Proofs.Ytifndcjjlhjgiaa.lzExpands
open Go Go.ChangeShapes Go.WideShapes Go.ChangeAt Go.RowKit Words Plain Put Own App LaySpec CompSpec Expand RefExp Comp Awake4 Ope Bulk

set_option maxHeartbeats 1600000 in
set_option maxRecDepth 100000 in
theorem walk (w : World) (l : List UInt8) (A : Option Addr) (c : Nat) (hc : l.length ≤ c) (hm : c ≤ maxLen) (hr : Rd w w.heap.size A (l.map B8)) (hlen : l.length ≤ 140737488355327) (most : Int) (wm : (Lit.int .i64 most).wf = true) :
    Calls Try.prog 3 #[.slice A l.length c, .int .i64 most] w fun e w' => e = .returned (.bool true) ∧ Below w.heap.size w w' := by
  have hmost : most ≤ 9223372036854775807 := (bounds_i64 wm).2
  have HX := fun w' (hb : Below w.heap.size w w') => Lib.hid (exp_any l A c most w' ((hr.below hb).more hb.size) hc hm hlen)
  have HY := fun w' (hb : Below w.heap.size w w') => Lib.hid (refexp_any l A c most w' ((hr.below hb).more hb.size) hc hm hlen hmost)
  have HZ := fun w' (hb : Below w.heap.size w w') => Lib.hid (exp_any l A c 65536 w' ((hr.below hb).more hb.size) hc hm hlen)
  have HW := fun w' (hb : Below w.heap.size w w') => Lib.hid (refexp_any l A c 65536 w' ((hr.below hb).more hb.size) hc hm hlen (by omega))
  have HA := Lib.hid (awake_any w)
  obtain ⟨E1, X1, h1⟩ : ∃ E X, exp l most = (E, X) := ⟨_, _, rfl⟩
  obtain ⟨E2, X2, h2⟩ : ∃ E X, exp l 65536 = (E, X) := ⟨_, _, rfl⟩
  rw [h1] at HX HY
  rw [h2] at HZ HW
  clear hr hc hm hlen wm hmost h1 h2
  go_enter Try.func3, Try.ntmps3
  go_wp2_with fail
  refine HA.out.mono ?_
  rintro e w1 ⟨rfl, hb1⟩
  have HB1 := Lib.hid hb1
  have H1 := Lib.hid (HX w1 hb1)
  clear hb1 HA HX
  go_wp2_with fail
  refine H1.out.out.mono ?_
  rintro e w2 ⟨v2, rfl, hown2, hb2⟩
  have HB2 := Lib.hid (below_step HB1.out hb2)
  have HO2 := Lib.hid hown2
  have H2 := Lib.hid (HY w2 HB2.out)
  clear hown2 hb2 HB1 H1 HY
  go_wp2_with fail
  refine H2.out.out.mono ?_
  rintro e w3 ⟨v3, rfl, hown3, hb3⟩
  have HB3 := Lib.hid (below_step HB2.out hb3)
  have HO23 := Lib.hid (own_keep HO2.out hb3)
  have HO3 := Lib.hid hown3
  have H3 := Lib.hid (HZ w3 HB3.out)
  clear hown3 hb3 HB2 H2 HO2 HZ
  go_wp2_with fail
  refine H3.out.out.mono ?_
  rintro e w4 ⟨v4, rfl, hown4, hb4⟩
  have HB4 := Lib.hid (below_step HB3.out hb4)
  have HO24 := Lib.hid (own_keep HO23.out hb4)
  have HO34 := Lib.hid (own_keep HO3.out hb4)
  have HO4 := Lib.hid hown4
  have H4 := Lib.hid (HW w4 HB4.out)
  clear hown4 hb4 HB3 H3 HO23 HO3 HW
  go_wp2_with fail
  refine H4.out.out.mono ?_
  rintro e w5 ⟨v5, rfl, hown5, hb5⟩
  have HB5 := Lib.hid (below_step HB4.out hb5)
  have HO25 := Lib.hid (own_keep HO24.out hb5)
  have HO35 := Lib.hid (own_keep HO34.out hb5)
  have HO45 := Lib.hid (own_keep HO4.out hb5)
  obtain ⟨A2, c2, rfl, _, _, _⟩ := own_slice HO25.out
  obtain ⟨A3, c3, rfl, _, _, _⟩ := own_slice HO35.out
  obtain ⟨A4, c4, rfl, _, _, _⟩ := own_slice HO45.out
  obtain ⟨A5, c5, rfl, _, _, _⟩ := own_slice hown5
  have s2 := run_str w5 A2 X1.length c2 rfl (Rd.of_own HO25.out)
  have s3 := run_str w5 A3 X1.length c3 rfl (Rd.of_own HO35.out)
  have s4 := run_str w5 A4 X2.length c4 rfl (Rd.of_own HO45.out)
  have s5 := run_str w5 A5 X2.length c5 rfl (Rd.of_own hown5)
  have e1 : ((E1 : Int) == (E1 : Int)) = true := by simp
  have e2 : ((E2 : Int) == (E2 : Int)) = true := by simp
  have e3 : (X1 == X1) = true := by simp
  have e4 : (X2 == X2) = true := by simp
  clear hown5 hb5 HB4 H4 HO24 HO34 HO4
  go_wp2
  go_ret
  exact ⟨rfl, HB5.out⟩
theorem own : ownKnob Try.prog.godebug = none := by kernel_rfl
theorem laid : laidOutB Try.prog = true := by kernel_rfl
theorem allRead : (Try.f3.params.toList.all fun t => Try.prog.readableRec t && decide (t < Try.prog.types.size)) = true := by kernel_rfl
theorem contract (H : Type) (enc : TypeId × Value → H) (W : World) (base : Nat) (args : Array Value) (ds gs : List (DataW H)) (before : List MemPlace)
    (hval : ∀ (j : Nat) t v, Try.f3.params[j]? = some t → args[j]? = some v → Value.okWide Try.prog W .any base t v)
    (hW : DataW.Whole enc Try.prog Try.f3.params.toList Rows.lzExpandsSpec.vars false W args.toList ds gs before) (hwt : (DataW.weightsEach Try.prog (Try.f3.params.toList ++ Rows.lzExpandsSpec.plain.varTypes Try.prog) (ds ++ gs)).all (· ≤ reachBytes) = true) :
    Calls Try.prog 3 args W fun e W' => ∃ v, e = .returned v ∧ Rows.lzExpandsSpec.post enc Try.prog Try.f3 false true false false W args v W' := by
  have hW' := hW
  obtain ⟨p, q, hA0, hV, rfl, hfz, hnd⟩ := hW
  obtain ⟨rfl, rfl⟩ := trodVars_none hV
  have hlt : ∀ x ∈ p, x.block < W.heap.size := fun x hx => hW'.lt x (by simp [hx])
  have hA : DataW.TrodAll enc Try.prog W 0 (fun _ => true) true Try.f3.params.toList args.toList ds p := hA0
  rw [Try.params3] at hA hval
  obtain ⟨v0, vs0, d0, ds0, p0, q0, hargs, rfl, rfl, h0, r0⟩ := trodAll_cons hA
  obtain ⟨v1, vs1, d1, ds1, p1, q1, rfl, rfl, rfl, h1, r1⟩ := trodAll_cons r0
  obtain ⟨rfl, rfl, rfl⟩ := trodAll_nil r1
  obtain rfl : args = #[v0, v1] := by cases args; simp_all
  rw [Try.params3] at hwt
  obtain ⟨y0, z0⟩ := weigh_cons hwt
  obtain ⟨y1, z1⟩ := weigh_cons z0
  obtain ⟨A0, l0, c0, rfl, hl0, hm0, hr0, hd0⟩ := open_u8s Try.underlying22 Try.underlying5 (by kernel_rfl) (hval 0 22 v0 rfl rfl) h0 (fun x hx => hlt x (by simp [hx]))
  have hb0 : l0.length ≤ 140737488355327 := by have h := weigh_len Try.underlying22 (by decide +kernel) hd0 y0; rwa [List.length_map] at h
  obtain ⟨a1, rfl, rfl, rfl, w1⟩ := open_int Try.underlying3 (hval 1 3 v1 rfl rfl) h1
  refine (walk W l0 A0 c0 hl0 hm0 hr0 hb0 a1 w1).mono fun e W' ⟨he, hb⟩ => ?_
  subst he
  exact ⟨_, rfl, law_post laid (fun t ht => by have h := List.all_eq_true.1 allRead t ht; rw [Bool.and_eq_true, decide_eq_true_eq] at h; exact h) rfl (by kernel_rfl) Try.underlying4 rfl hW' hb⟩
set_option maxRecDepth 100000 in
theorem lifted (os : Os) (started : os.Started) (H : Type) (enc : TypeId × Value → H) :
    ReturnsInHanded {} Try.checked os 3 .any (Rows.lzExpandsSpec.pre6 enc Try.prog Try.f3 Rows.lzExpandsRow.domain false) (Rows.lzExpandsSpec.post enc Try.prog Try.f3 false true false false) := by
  refine returnsInHanded_of_change_sized (C := Try.checked) own started (by kernel_rfl) Try.func3
    (ChangeSpec.witness6 (enc := enc) (C := Try.checked) false ⟨#[], #[.slice none 0 0, .int .i64 0], []⟩ 8 (by kernel_rfl) (by kernel_rfl) (by kernel_rfl) (by kernel_rfl)) ?_
  intro W base args ds gs before hval hW _ hwt _
  exact contract H enc W base args ds gs before hval hW hwt
theorem over : Rows.lzExpandsRow.holds Try.pinned (OpenSpec.ofChange Rows.lzExpandsSpec) :=
  OpenClaim.holds_of_wide 3 Try.f3 rfl rfl rfl rfl rfl rfl rfl ⟨rfl, rfl, rfl, rfl, rfl⟩ rfl rfl rfl rfl rfl (by kernel_rfl) Try.func3 (by kernel_rfl)
    (of_decide_eq_true (by kernel_rfl)) (by unfold Func.isWrapper; first | (rw [if_pos (by decide +kernel)]; kernel_rfl) | (rw [if_neg (by decide +kernel)]; exact ⟨rfl, rfl⟩))
    (fun os started H enc _ => lifted os started H enc)
theorem proved : Rows.LzExpandsSaid := over

end Go.Proofs.Ytifndcjjlhjgiaa.lzExpands
