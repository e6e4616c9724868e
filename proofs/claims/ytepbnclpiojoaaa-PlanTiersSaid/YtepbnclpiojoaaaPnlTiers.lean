/- PlanTiers at the statement's own row. -/
import Derived.Test.YtepbnclpiojoaaaPnTiersW
import Derived.Test.YtepbnclpiojoaaaPnOpen
import Derived.Test.YtepbnclpiojoaaaPnProg
import Derived.SizedLaws
import Derived.OneCell
import Derived.Test.YtepbnclpiojoaaaOpen
import Derived.Test.YtepbnclpiojoaaaBulk
namespace Go.Proofs.Ytepbnclpiojoaaa.planTiers
open Go Go.ChangeShapes Go.WideShapes Go.ChangeAt Go.RowKit Words Ope Bulk SgMem SgOpen PnOpen PnLaw PnTiersW PnProg

theorem walk (w : World) (a0 b0 : Int) (w0 : In64 a0) (x0 : In64 b0) (l0 : List Sg) (A0 : Option Addr) (c0 : Nat) (hl0 : Sgs w (A0, l0.length, c0) l0) (hx0 : ∀ x ∈ l0, SgOk x) (hb0 : l0.length * 32 ≤ 140737488351232) (a2 b2 : Int) (w2 : In64 a2) (x2 : In64 b2) :
    Calls Try.prog 5 #[.agg #[.int .i64 a0, .int .i64 b0], .slice A0 l0.length c0, .agg #[.int .i64 a2, .int .i64 b2]] w fun e w' => e = .returned (.bool true) ∧ Below w.heap.size w w' :=
  tiers_walk pns w (A0, l0.length, c0) l0 a0 b0 a2 b2 hl0 (fun x hx => (hx0 x hx).most) w0 x0 w2 x2 (by omega)
theorem own : ownKnob Try.prog.godebug = none := by kernel_rfl
theorem laid : laidOutB Try.prog = true := by kernel_rfl
theorem allRead : (Try.f5.params.toList.all fun t => Try.prog.readableRec t && decide (t < Try.prog.types.size)) = true := by kernel_rfl
set_option maxRecDepth 100000 in
theorem contract (H : Type) (enc : TypeId × Value → H) (W : World) (base : Nat) (args : Array Value) (ds gs : List (DataW H)) (before : List MemPlace)
    (hval : ∀ (j : Nat) t v, Try.f5.params[j]? = some t → args[j]? = some v → Value.okWide Try.prog W .any base t v)
    (hW : DataW.Whole enc Try.prog Try.f5.params.toList Rows.planTiersSpec.vars false W args.toList ds gs before) (hwt : (DataW.weightsEach Try.prog (Try.f5.params.toList ++ Rows.planTiersSpec.plain.varTypes Try.prog) (ds ++ gs)).all (· ≤ reachBytes) = true) :
    Calls Try.prog 5 args W fun e W' => ∃ v, e = .returned v ∧ Rows.planTiersSpec.post enc Try.prog Try.f5 false true false false W args v W' := by
  have hW' := hW
  obtain ⟨p, q, hA0, hV, rfl, hfz, hnd⟩ := hW
  obtain ⟨rfl, rfl⟩ := trodVars_none hV
  have hlt : ∀ x ∈ p, x.block < W.heap.size := fun x hx => hW'.lt x (by simp [hx])
  have hA : DataW.TrodAll enc Try.prog W 0 (fun _ => true) true Try.f5.params.toList args.toList ds p := hA0
  rw [Try.params5] at hA hval
  obtain ⟨v0, vs0, d0, ds0, p0, q0, hargs, rfl, rfl, h0, r0⟩ := trodAll_cons hA
  obtain ⟨v1, vs1, d1, ds1, p1, q1, rfl, rfl, rfl, h1, r1⟩ := trodAll_cons r0
  obtain ⟨v2, vs2, d2, ds2, p2, q2, rfl, rfl, rfl, h2, r2⟩ := trodAll_cons r1
  obtain ⟨rfl, rfl, rfl⟩ := trodAll_nil r2
  obtain rfl : args = #[v0, v1, v2] := by cases args; simp_all
  rw [Try.params5] at hwt
  obtain ⟨y0, z0⟩ := weigh_cons hwt
  obtain ⟨y1, z1⟩ := weigh_cons z0
  obtain ⟨y2, z2⟩ := weigh_cons z1
  obtain ⟨a0, b0, rfl, w0, x0⟩ := open_numbers (hval 0 36 v0 rfl rfl) h0
  obtain ⟨A1, l1, c1, rfl, hl1, hx1, hd1⟩ := open_segs (hval 1 22 v1 rfl rfl) h1
  have hb1 : l1.length * 32 ≤ 140737488351232 := segs_weigh hd1 y1
  obtain ⟨a2, b2, rfl, w2, x2⟩ := open_marks (hval 2 37 v2 rfl rfl) h2
  refine (walk W a0 b0 w0 x0 l1 A1 c1 hl1 hx1 hb1 a2 b2 w2 x2).mono fun e W' ⟨he, hb⟩ => ?_
  subst he
  exact ⟨_, rfl, law_post laid (fun t ht => by have h := List.all_eq_true.1 allRead t ht; rw [Bool.and_eq_true, decide_eq_true_eq] at h; exact h) rfl (by kernel_rfl) Try.underlying4 rfl hW' hb⟩
set_option maxRecDepth 100000 in
theorem lifted (os : Os) (started : os.Started) (H : Type) (enc : TypeId × Value → H) :
    ReturnsInHanded {} Try.checked os 5 .any (Rows.planTiersSpec.pre6 enc Try.prog Try.f5 Rows.planTiersRow.domain false) (Rows.planTiersSpec.post enc Try.prog Try.f5 false true false false) := by
  refine returnsInHanded_of_change_sized (C := Try.checked) own started (by kernel_rfl) Try.func5
    (ChangeSpec.witness6 (enc := enc) (C := Try.checked) false ⟨#[], #[.agg #[.int .i64 0, .int .i64 0], .slice none 0 0, .agg #[.int .i64 0, .int .i64 0]], []⟩ 8 (by kernel_rfl) (by kernel_rfl) (by kernel_rfl) (by kernel_rfl)) ?_
  intro W base args ds gs before hval hW _ hwt _
  exact contract H enc W base args ds gs before hval hW hwt
theorem over : Rows.planTiersRow.holds Try.pinned (OpenSpec.ofChange Rows.planTiersSpec) :=
  OpenClaim.holds_of_wide 5 Try.f5 rfl rfl rfl rfl rfl rfl rfl ⟨rfl, rfl, rfl, rfl, rfl⟩ rfl rfl rfl rfl rfl (by kernel_rfl) Try.func5 (by kernel_rfl)
    (of_decide_eq_true (by kernel_rfl)) (by unfold Func.isWrapper; first | (rw [if_pos (by decide +kernel)]; kernel_rfl) | (rw [if_neg (by decide +kernel)]; exact ⟨rfl, rfl⟩))
    (fun os started H enc _ => lifted os started H enc)
theorem proved : Rows.PlanTiersSaid := over

end Go.Proofs.Ytepbnclpiojoaaa.planTiers
