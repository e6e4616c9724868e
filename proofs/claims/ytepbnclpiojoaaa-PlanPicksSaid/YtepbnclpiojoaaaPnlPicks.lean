/- PlanPicks at the statement's own row. -/
import Derived.Test.YtepbnclpiojoaaaPnPicks4W
import Derived.Test.YtepbnclpiojoaaaSgOpen
import Derived.Test.YtepbnclpiojoaaaPnProg
import Derived.SizedLaws
import Derived.OneCell
import Derived.Test.YtepbnclpiojoaaaOpen
import Derived.Test.YtepbnclpiojoaaaBulk
namespace Go.Proofs.Ytepbnclpiojoaaa.planPicks
open Go Go.ChangeShapes Go.WideShapes Go.ChangeAt Go.RowKit Words Ope Bulk SgMem SgOpen PnLaw PnPicks4W PnProg

theorem walk (w : World) (l0 : List Sg) (A0 : Option Addr) (c0 : Nat) (hl0 : Sgs w (A0, l0.length, c0) l0) (hx0 : ∀ x ∈ l0, SgOk x) (hb0 : l0.length * 32 ≤ 140737488351232) :
    Calls Try.prog 6 #[.slice A0 l0.length c0] w fun e w' => e = .returned (.bool true) ∧ Below w.heap.size w w' :=
  picks_walk pns w (A0, l0.length, c0) l0 hl0 (fun x hx => (hx0 x hx).count) (by omega)
theorem own : ownKnob Try.prog.godebug = none := by kernel_rfl
theorem laid : laidOutB Try.prog = true := by kernel_rfl
theorem allRead : (Try.f6.params.toList.all fun t => Try.prog.readableRec t && decide (t < Try.prog.types.size)) = true := by kernel_rfl
set_option maxRecDepth 100000 in
theorem contract (H : Type) (enc : TypeId × Value → H) (W : World) (base : Nat) (args : Array Value) (ds gs : List (DataW H)) (before : List MemPlace)
    (hval : ∀ (j : Nat) t v, Try.f6.params[j]? = some t → args[j]? = some v → Value.okWide Try.prog W .any base t v)
    (hW : DataW.Whole enc Try.prog Try.f6.params.toList Rows.planPicksSpec.vars false W args.toList ds gs before) (hwt : (DataW.weightsEach Try.prog (Try.f6.params.toList ++ Rows.planPicksSpec.plain.varTypes Try.prog) (ds ++ gs)).all (· ≤ reachBytes) = true) :
    Calls Try.prog 6 args W fun e W' => ∃ v, e = .returned v ∧ Rows.planPicksSpec.post enc Try.prog Try.f6 false true false false W args v W' := by
  have hW' := hW
  obtain ⟨p, q, hA0, hV, rfl, hfz, hnd⟩ := hW
  obtain ⟨rfl, rfl⟩ := trodVars_none hV
  have hlt : ∀ x ∈ p, x.block < W.heap.size := fun x hx => hW'.lt x (by simp [hx])
  have hA : DataW.TrodAll enc Try.prog W 0 (fun _ => true) true Try.f6.params.toList args.toList ds p := hA0
  rw [Try.params6] at hA hval
  obtain ⟨v0, vs0, d0, ds0, p0, q0, hargs, rfl, rfl, h0, r0⟩ := trodAll_cons hA
  obtain ⟨rfl, rfl, rfl⟩ := trodAll_nil r0
  obtain rfl : args = #[v0] := by cases args; simp_all
  rw [Try.params6] at hwt
  obtain ⟨y0, z0⟩ := weigh_cons hwt
  obtain ⟨A0, l0, c0, rfl, hl0, hx0, hd0⟩ := open_segs (hval 0 22 v0 rfl rfl) h0
  have hb0 : l0.length * 32 ≤ 140737488351232 := segs_weigh hd0 y0
  refine (walk W l0 A0 c0 hl0 hx0 hb0).mono fun e W' ⟨he, hb⟩ => ?_
  subst he
  exact ⟨_, rfl, law_post laid (fun t ht => by have h := List.all_eq_true.1 allRead t ht; rw [Bool.and_eq_true, decide_eq_true_eq] at h; exact h) rfl (by kernel_rfl) Try.underlying4 rfl hW' hb⟩
set_option maxRecDepth 100000 in
theorem lifted (os : Os) (started : os.Started) (H : Type) (enc : TypeId × Value → H) :
    ReturnsInHanded {} Try.checked os 6 .any (Rows.planPicksSpec.pre6 enc Try.prog Try.f6 Rows.planPicksRow.domain false) (Rows.planPicksSpec.post enc Try.prog Try.f6 false true false false) := by
  refine returnsInHanded_of_change_sized (C := Try.checked) own started (by kernel_rfl) Try.func6
    (ChangeSpec.witness6 (enc := enc) (C := Try.checked) false ⟨#[], #[.slice none 0 0], []⟩ 8 (by kernel_rfl) (by kernel_rfl) (by kernel_rfl) (by kernel_rfl)) ?_
  intro W base args ds gs before hval hW _ hwt _
  exact contract H enc W base args ds gs before hval hW hwt
theorem over : Rows.planPicksRow.holds Try.pinned (OpenSpec.ofChange Rows.planPicksSpec) :=
  OpenClaim.holds_of_wide 6 Try.f6 rfl rfl rfl rfl rfl rfl rfl ⟨rfl, rfl, rfl, rfl, rfl⟩ rfl rfl rfl rfl rfl (by kernel_rfl) Try.func6 (by kernel_rfl)
    (of_decide_eq_true (by kernel_rfl)) (by unfold Func.isWrapper; first | (rw [if_pos (by decide +kernel)]; kernel_rfl) | (rw [if_neg (by decide +kernel)]; exact ⟨rfl, rfl⟩))
    (fun os started H enc _ => lifted os started H enc)
theorem proved : Rows.PlanPicksSaid := over

end Go.Proofs.Ytepbnclpiojoaaa.planPicks
