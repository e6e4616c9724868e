/- LabelOrder: for all its inputs the statement's function answers true and leaves its arguments as they were. No conditions. -/
import Derived.Test.YtngkhcbnndkdeaaLbOrderW
import Derived.Test.YtngkhcbnndkdeaaLbProg
import Derived.Test.YtngkhcbnndkdeaaBulk
import Derived.Test.YtngkhcbnndkdeaaOpen
import Derived.SizedLaws
import Derived.Deep.DeepHandedRow
namespace Go.Proofs.Ytngkhcbnndkdeaa.labelOrder
open Go Go.ChangeShapes Go.WideShapes Go.ChangeAt Go.RowKit Words Less LbSpec LbText LbMem LbLaw LbOpen LbProg Ope Bulk

theorem walk (w : World) (hM : Ml.ML w) (a : List Lab) (A : Option Addr) (ca : Nat) (ha : Lb w A a.length ca a) (hba : a.length * 32 ≤ 140737488351232) (b : List Lab) (B : Option Addr) (cb : Nat) (hb : Lb w B b.length cb b) (_hbb : b.length * 32 ≤ 140737488351232) (c : List Lab) (C : Option Addr) (cc : Nat) (hc : Lb w C c.length cc c) (_hbc : c.length * 32 ≤ 140737488351232) :
    Calls Try.prog 5 #[.slice A a.length ca, .slice B b.length cb, .slice C c.length cc] w fun e w' => e = .returned (.bool true) ∧ Below w.heap.size w w' :=
  LbOrderW.walk0 lbl w a b c A B C ca cb cc _ _ _ ha hb hc hba hM
theorem own : ownKnob Try.prog.godebug = none := by kernel_rfl
theorem laid : laidOutB Try.prog = true := by kernel_rfl
theorem allRead : (Try.f5.params.toList.all fun t => Try.prog.readableRec t && decide (t < Try.prog.types.size)) = true := by kernel_rfl
set_option maxRecDepth 100000 in
theorem contract (H : Type) (enc : TypeId × Value → H) (W : World) (base : Nat) (args : Array Value) (ds gs : List (DataW H)) (before : List MemPlace)
    (hval : ∀ (j : Nat) t v, Try.f5.params[j]? = some t → args[j]? = some v → Value.okWide Try.prog W .any base t v)
    (hW : DataW.Whole enc Try.prog Try.f5.params.toList Rows.labelOrderSpec.vars false W args.toList ds gs before) (hwt : (DataW.weightsEach Try.prog (Try.f5.params.toList ++ (OpenSpec.ofChange Rows.labelOrderSpec).bare.plain.varTypes Try.prog) (ds ++ gs)).all (· ≤ reachBytes) = true) (hsh : W.ShapedOpen Try.prog) :
    Calls Try.prog 5 args W fun e W' => ∃ v, e = .returned v ∧ Rows.labelOrderSpec.post enc Try.prog Try.f5 false true false false W args v W' := by
  have hW' := hW
  obtain ⟨p, q, hA0, hV, rfl, hfz, hnd⟩ := hW
  obtain ⟨rfl, rfl⟩ := trodVars_none hV
  have hlt : ∀ x ∈ p, x.block < W.heap.size := fun x hx => hW'.lt x (by simp [hx])
  have hA : DataW.TrodAll enc Try.prog W 0 (fun _ => true) true Try.f5.params.toList args.toList ds p := hA0
  rw [Try.params5] at hA hval
  obtain ⟨v0, vs0, d0, ds0, p0, q0, hargs, rfl, rfl, h0, r0⟩ := trodAll_cons hA
  obtain ⟨v1, vs1, d1, ds1, p1, q1, rfl, rfl, rfl, h1, r1⟩ := trodAll_cons r0
  obtain ⟨v2, vs2, d2, ds2, p2, q2, rfl, rfl, rfl, h2, r2⟩ := trodAll_cons r1
  obtain ⟨rfl, rfl, rfl⟩ := trodAll_nil r2
  obtain rfl : args = #[v0, v1, v2] := by cases args; simp_all
  rw [Try.params5] at hwt
  obtain ⟨y0, z0⟩ := weigh_cons hwt
  obtain ⟨y1, z1⟩ := weigh_cons z0
  obtain ⟨y2, z2⟩ := weigh_cons z1
  obtain ⟨A0, l0, c0, rfl, hl0, hd0⟩ := open_labs (hval 0 22 v0 rfl rfl) h0
  have hb0 : l0.length * 32 ≤ 140737488351232 := labs_weigh hd0 y0
  obtain ⟨A1, l1, c1, rfl, hl1, hd1⟩ := open_labs (hval 1 22 v1 rfl rfl) h1
  have hb1 : l1.length * 32 ≤ 140737488351232 := labs_weigh hd1 y1
  obtain ⟨A2, l2, c2, rfl, hl2, hd2⟩ := open_labs (hval 2 22 v2 rfl rfl) h2
  have hb2 : l2.length * 32 ≤ 140737488351232 := labs_weigh hd2 y2
  refine (walk W (ml_of hsh) l0 A0 c0 hl0 hb0 l1 A1 c1 hl1 hb1 l2 A2 c2 hl2 hb2).mono fun e W' ⟨he, hb⟩ => ?_
  subst he
  exact ⟨_, rfl, law_post laid (fun t ht => by have h := List.all_eq_true.1 allRead t ht; rw [Bool.and_eq_true, decide_eq_true_eq] at h; exact h) rfl (by kernel_rfl) Try.underlying4 rfl hW' hb⟩
set_option maxRecDepth 100000 in
theorem lifted (os : Os) (started : os.Started) (H : Type) (enc : TypeId × Value → H) (F : Stop.Interp) :
    ReturnsInHanded {} Try.checked os 5 .any ((OpenSpec.ofChange Rows.labelOrderSpec).preRow enc Try.prog Try.f5 Rows.labelOrderRow.domain false Rows.labelOrderRow.laid) (((OpenSpec.ofChange Rows.labelOrderSpec).at F).post enc Try.prog Try.f5 false true false false) := by
  obtain ⟨w, tape, i, h1, h2, h3, h4, h5, h6, _⟩ := OpenSpec.witness_stopped (enc := enc) (C := Try.checked) (os := os) (f := 5) (fn := Try.f5) (s := OpenSpec.ofChange Rows.labelOrderSpec) (conds := Rows.labelOrderRow.domain) (apart := false) false ⟨#[], #[.slice none 0 0, .slice none 0 0, .slice none 0 0], []⟩ 8 (by kernel_rfl) (by kernel_rfl) (by kernel_rfl) (by kernel_rfl) (by kernel_rfl) rfl F
  refine returnsInHanded_of_row (C := Try.checked) (s := OpenSpec.ofChange Rows.labelOrderSpec) own started (by kernel_rfl) Try.func5
    ⟨w, tape, i, h1, h2, h3, h4, h5, h6⟩ ?_
  intro W base args ds gs before hval hW _ _ hwt _ hsh _
  exact contract H enc W base args ds gs before hval hW hwt hsh
theorem over : Rows.labelOrderRow.holds Try.pinned (OpenSpec.ofChange Rows.labelOrderSpec) :=
  OpenClaim.holds_of_cond 5 Try.f5 rfl rfl rfl rfl rfl rfl rfl ⟨rfl, rfl, rfl, rfl, rfl⟩ rfl rfl rfl rfl rfl (by kernel_rfl) Try.func5 (by kernel_rfl)
    (of_decide_eq_true (by kernel_rfl)) (by unfold Func.isWrapper; first | (rw [if_pos (by decide +kernel)]; kernel_rfl) | (rw [if_neg (by decide +kernel)]; exact ⟨rfl, rfl⟩))
    (fun os started H enc _ F => by rw [OpenClaim.pre_eq_preRow]; exact lifted os started H enc F)
theorem proved : Rows.LabelOrderSaid := over

end Go.Proofs.Ytngkhcbnndkdeaa.labelOrder
