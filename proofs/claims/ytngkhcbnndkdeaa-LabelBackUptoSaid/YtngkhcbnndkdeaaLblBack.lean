/- LabelBack: for all its inputs (of bulk at most 1048576) the statement's function answers true and leaves its arguments as they were. -/
import Derived.Test.YtngkhcbnndkdeaaLbBackW
import Derived.Test.YtngkhcbnndkdeaaLbProg
import Derived.Test.YtngkhcbnndkdeaaBulk
import Derived.Test.YtngkhcbnndkdeaaOpen
import Derived.ChangeMaps5
import Derived.Deep.DeepHandedRow
namespace Go.Proofs.Ytngkhcbnndkdeaa.labelBack
open Go Go.ChangeShapes Go.WideShapes Go.ChangeAt Go.RowKit Words Less LbSpec LbText LbMem LbLaw LbOpen LbProg Ope Bulk
open Go.ChangeMaps (open_string)

theorem walk (w : World) (hM : Ml.ML w) (a : List Lab) (A : Option Addr) (ca : Nat) (ha : Lb w A a.length ca a) (hba : total a + 2 * a.length ≤ 1048576) (turn : Int) (_wt : (Lit.int .i64 turn).wf = true) (s : ByteArray) (_hs : s.size ≤ maxLen) (hbs : s.data.toList.length ≤ 1048576) :
    Calls Try.prog 4 #[.slice A a.length ca, .int .i64 turn, .string s] w fun e w' => e = .returned (.bool true) ∧ Below w.heap.size w w' := by
  have e2 : s.data.toList.length = s.size := by simp
  rw [e2] at hbs
  exact LbBackW.walk0 lbl w a A ca _ ha turn s (by omega) (by omega) hM
theorem own : ownKnob Try.prog.godebug = none := by kernel_rfl
theorem laid : laidOutB Try.prog = true := by kernel_rfl
theorem allRead : (Try.f4.params.toList.all fun t => Try.prog.readableRec t && decide (t < Try.prog.types.size)) = true := by kernel_rfl
set_option maxRecDepth 100000 in
theorem contract (H : Type) (enc : TypeId × Value → H) (W : World) (base : Nat) (args : Array Value) (ds gs : List (DataW H)) (before : List MemPlace)
    (hval : ∀ (j : Nat) t v, Try.f4.params[j]? = some t → args[j]? = some v → Value.okWide Try.prog W .any base t v)
    (hW : DataW.Whole enc Try.prog Try.f4.params.toList Rows.labelBackSpec.vars false W args.toList ds gs before) (hk : Rows.uptoSmall H (ds ++ gs) = true) (hsh : W.ShapedOpen Try.prog) :
    Calls Try.prog 4 args W fun e W' => ∃ v, e = .returned v ∧ Rows.labelBackSpec.post enc Try.prog Try.f4 false true false false W args v W' := by
  have hW' := hW
  obtain ⟨p, q, hA0, hV, rfl, hfz, hnd⟩ := hW
  obtain ⟨rfl, rfl⟩ := trodVars_none hV
  have hlt : ∀ x ∈ p, x.block < W.heap.size := fun x hx => hW'.lt x (by simp [hx])
  have hA : DataW.TrodAll enc Try.prog W 0 (fun _ => true) true Try.f4.params.toList args.toList ds p := hA0
  rw [Try.params4] at hA hval
  obtain ⟨v0, vs0, d0, ds0, p0, q0, hargs, rfl, rfl, h0, r0⟩ := trodAll_cons hA
  obtain ⟨v1, vs1, d1, ds1, p1, q1, rfl, rfl, rfl, h1, r1⟩ := trodAll_cons r0
  obtain ⟨v2, vs2, d2, ds2, p2, q2, rfl, rfl, rfl, h2, r2⟩ := trodAll_cons r1
  obtain ⟨rfl, rfl, rfl⟩ := trodAll_nil r2
  obtain rfl : args = #[v0, v1, v2] := by cases args; simp_all
  have hkb : Rows.uptoBulkAll ([d0, d1, d2] ++ []) ≤ 1048576 := of_decide_eq_true hk
  obtain ⟨A0, l0, c0, rfl, hl0, hd0⟩ := open_labs (hval 0 22 v0 rfl rfl) h0
  have hb0 : total l0 + 2 * l0.length ≤ 1048576 := by have h := labs_bulk hd0; simp only [List.append_nil, Rows.uptoBulkAll] at hkb; omega
  obtain ⟨a1, rfl, rfl, rfl, w1⟩ := open_int Try.underlying3 (hval 1 3 v1 rfl rfl) h1
  obtain ⟨s2, rfl, rfl, rfl, hs2⟩ := open_string Try.underlying9 (hval 2 9 v2 rfl rfl) h2
  have hb2 : s2.data.toList.length ≤ 1048576 := by simp only [List.append_nil, Rows.uptoBulkAll, Rows.uptoBulk] at hkb; omega
  refine (walk W (ml_of hsh) l0 A0 c0 hl0 hb0 a1 w1 s2 hs2 hb2).mono fun e W' ⟨he, hb⟩ => ?_
  subst he
  exact ⟨_, rfl, law_post laid (fun t ht => by have h := List.all_eq_true.1 allRead t ht; rw [Bool.and_eq_true, decide_eq_true_eq] at h; exact h) rfl (by kernel_rfl) Try.underlying4 rfl hW' hb⟩
set_option maxRecDepth 100000 in
theorem lifted (os : Os) (started : os.Started) (H : Type) (enc : TypeId × Value → H) (F : Stop.Interp) :
    ReturnsInHanded {} Try.checked os 4 .any ((Rows.OpenSpec.upto Rows.labelBackSpec).preRow enc Try.prog Try.f4 Rows.labelBackUptoRow.domain false Rows.labelBackUptoRow.laid) (((Rows.OpenSpec.upto Rows.labelBackSpec).at F).post enc Try.prog Try.f4 false true false false) := by
  obtain ⟨w, tape, i, h1, h2, h3, h4, h5, h6⟩ := OpenSpec.witness (enc := enc) (C := Try.checked) (os := os) (f := 4) (fn := Try.f4) (s := Rows.OpenSpec.upto Rows.labelBackSpec) (k := Rows.uptoSmall) rfl (conds := Rows.labelBackUptoRow.domain) (apart := false) false ⟨#[], #[.slice none 0 0, .int .i64 0, .string ByteArray.empty], []⟩ 8 (by kernel_rfl) (by kernel_rfl) (by kernel_rfl)
      (x := ([.nil, .lit (.int .i64 0), .lit (.string [])], [], [])) (by kernel_rfl) rfl (by kernel_rfl)
  refine returnsInHanded_of_row (C := Try.checked) (s := Rows.OpenSpec.upto Rows.labelBackSpec) own started (by kernel_rfl) Try.func4
    ⟨w, tape, i, h1, h2, h3, h4, ⟨⟨h5.1, laidMetH_nil _ _⟩, h5.2⟩, h6⟩ ?_
  intro W base args ds gs before hval hW _ hk _ _ hsh _
  exact contract H enc W base args ds gs before hval hW (hk _ rfl) hsh
theorem over : Rows.labelBackUptoRow.holds Try.pinned (Rows.OpenSpec.upto Rows.labelBackSpec) :=
  OpenClaim.holds_of_cond 4 Try.f4 rfl rfl rfl rfl rfl rfl rfl ⟨rfl, rfl, rfl, rfl, rfl⟩ rfl rfl rfl rfl rfl (by kernel_rfl) Try.func4 (by kernel_rfl)
    (of_decide_eq_true (by kernel_rfl)) (by unfold Func.isWrapper; first | (rw [if_pos (by decide +kernel)]; kernel_rfl) | (rw [if_neg (by decide +kernel)]; exact ⟨rfl, rfl⟩))
    (fun os started H enc _ F => by rw [OpenClaim.pre_eq_preRow]; exact lifted os started H enc F)
theorem proved : Rows.LabelBackUptoSaid := over

end Go.Proofs.Ytngkhcbnndkdeaa.labelBack
