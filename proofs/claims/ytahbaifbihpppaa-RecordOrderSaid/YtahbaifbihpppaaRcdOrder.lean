/- RecordOrder: for all its inputs the statement's function answers true and leaves its arguments as they were. No conditions. -/
import Derived.Test.YtahbaifbihpppaaRcOrderW
import Derived.Test.YtahbaifbihpppaaRcProg
import Derived.Test.YtahbaifbihpppaaRcOpen
import Derived.Test.YtahbaifbihpppaaBulk
import Derived.Test.YtahbaifbihpppaaOpen
import Derived.SizedLaws
import Derived.Deep.DeepHandedRow
namespace Go.Proofs.Ytahbaifbihpppaa.recordOrder
open Go Go.ChangeShapes Go.WideShapes Go.ChangeAt Go.RowKit Words Less LbSpec LbText LbMem RcAll RcMem RcLaw RcOpen RcProg Ope Bulk

theorem walk (w : World) (a : RM) (ha : Okm w a) (b : RM) (hb : Okm w b) (c : RM) (hc : Okm w c) :
    Calls Try.prog 7 #[aggR a, aggR b, aggR c] w fun e w' => e = .returned (.bool true) ∧ Below w.heap.size w w' :=
  RcOrderW.walk0 rcd w a b c ha hb hc
theorem own : ownKnob Try.prog.godebug = none := by kernel_rfl
theorem laid : laidOutB Try.prog = true := by kernel_rfl
theorem allRead : (Try.f7.params.toList.all fun t => Try.prog.readableRec t && decide (t < Try.prog.types.size)) = true := by kernel_rfl
set_option maxRecDepth 100000 in
theorem contract (H : Type) (enc : TypeId × Value → H) (W : World) (base : Nat) (args : Array Value) (ds gs : List (DataW H)) (before : List MemPlace)
    (hval : ∀ (j : Nat) t v, Try.f7.params[j]? = some t → args[j]? = some v → Value.okWide Try.prog W .any base t v)
    (hW : DataW.Whole enc Try.prog Try.f7.params.toList Rows.recordOrderSpec.vars false W args.toList ds gs before) :
    Calls Try.prog 7 args W fun e W' => ∃ v, e = .returned v ∧ Rows.recordOrderSpec.post enc Try.prog Try.f7 false true false false W args v W' := by
  have hW' := hW
  obtain ⟨p, q, hA0, hV, rfl, hfz, hnd⟩ := hW
  obtain ⟨rfl, rfl⟩ := trodVars_none hV
  have hlt : ∀ x ∈ p, x.block < W.heap.size := fun x hx => hW'.lt x (by simp [hx])
  have hA : DataW.TrodAll enc Try.prog W 0 (fun _ => true) true Try.f7.params.toList args.toList ds p := hA0
  rw [Try.params7] at hA hval
  obtain ⟨v0, vs0, d0, ds0, p0, q0, hargs, rfl, rfl, h0, r0⟩ := trodAll_cons hA
  obtain ⟨v1, vs1, d1, ds1, p1, q1, rfl, rfl, rfl, h1, r1⟩ := trodAll_cons r0
  obtain ⟨v2, vs2, d2, ds2, p2, q2, rfl, rfl, rfl, h2, r2⟩ := trodAll_cons r1
  obtain ⟨rfl, rfl, rfl⟩ := trodAll_nil r2
  obtain rfl : args = #[v0, v1, v2] := by cases args; simp_all
  obtain ⟨x0, rfl, hx0, _⟩ := open_record (hval 0 33 v0 rfl rfl) h0
  obtain ⟨x1, rfl, hx1, _⟩ := open_record (hval 1 33 v1 rfl rfl) h1
  obtain ⟨x2, rfl, hx2, _⟩ := open_record (hval 2 33 v2 rfl rfl) h2
  refine (walk W x0 hx0 x1 hx1 x2 hx2).mono fun e W' ⟨he, hb⟩ => ?_
  subst he
  exact ⟨_, rfl, law_post laid (fun t ht => by have h := List.all_eq_true.1 allRead t ht; rw [Bool.and_eq_true, decide_eq_true_eq] at h; exact h) rfl (by kernel_rfl) Try.underlying4 rfl hW' hb⟩
set_option maxRecDepth 100000 in
theorem lifted (os : Os) (started : os.Started) (H : Type) (enc : TypeId × Value → H) :
    ReturnsInHanded {} Try.checked os 7 .any (Rows.recordOrderSpec.pre6 enc Try.prog Try.f7 Rows.recordOrderRow.domain false) (Rows.recordOrderSpec.post enc Try.prog Try.f7 false true false false) := by
  refine returnsInHanded_of_change (C := Try.checked) own started (by kernel_rfl) Try.func7
    (ChangeSpec.witness6 (enc := enc) (C := Try.checked) false ⟨#[], #[.agg #[.int .i64 0, .int .u64 0, .slice none 0 0, .string ByteArray.empty], .agg #[.int .i64 0, .int .u64 0, .slice none 0 0, .string ByteArray.empty], .agg #[.int .i64 0, .int .u64 0, .slice none 0 0, .string ByteArray.empty]], []⟩ 8 (by kernel_rfl) (by kernel_rfl) (by kernel_rfl) (by kernel_rfl)) ?_
  intro W base args ds gs before hval hW _ _
  exact contract H enc W base args ds gs before hval hW
theorem over : Rows.recordOrderRow.holds Try.pinned (OpenSpec.ofChange Rows.recordOrderSpec) :=
  OpenClaim.holds_of_wide 7 Try.f7 rfl rfl rfl rfl rfl rfl rfl ⟨rfl, rfl, rfl, rfl, rfl⟩ rfl rfl rfl rfl rfl (by kernel_rfl) Try.func7 (by kernel_rfl)
    (of_decide_eq_true (by kernel_rfl)) (by unfold Func.isWrapper; first | (rw [if_pos (by decide +kernel)]; kernel_rfl) | (rw [if_neg (by decide +kernel)]; exact ⟨rfl, rfl⟩))
    (fun os started H enc _ => lifted os started H enc)
theorem proved : Rows.RecordOrderSaid := over

end Go.Proofs.Ytahbaifbihpppaa.recordOrder
