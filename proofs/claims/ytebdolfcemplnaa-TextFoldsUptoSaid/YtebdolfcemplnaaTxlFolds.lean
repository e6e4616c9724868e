/- TextFolds: for all its inputs (of bulk at most 1048576) the statement's function answers true and leaves its arguments as they were. -/
import Derived.Test.YtebdolfcemplnaaTxFoldsW
import Derived.Test.YtebdolfcemplnaaTxProg
import Derived.Test.YtebdolfcemplnaaBulk
import Derived.Test.YtebdolfcemplnaaOpen
import Derived.ChangeMaps5
import Derived.Deep.DeepHandedRow
namespace Go.Proofs.Ytebdolfcemplnaa.textFolds
open Go Go.ChangeShapes Go.WideShapes Go.ChangeAt Go.RowKit Words TxLaw TxProg Ope Bulk
open Go.ChangeMaps (open_string)

theorem walk (w : World) (hM : ML w) (s : ByteArray) (_hs : s.size ≤ maxLen) (hb : s.data.toList.length ≤ 1048576) (t : ByteArray) (_ht : t.size ≤ maxLen) (hbt : t.data.toList.length ≤ 1048576) :
    Calls Try.prog 6 #[.string s, .string t] w fun e w' => e = .returned (.bool true) ∧ Below w.heap.size w w' := by
  have e2 : s.data.toList.length = s.size := by simp
  have e3 : t.data.toList.length = t.size := by simp
  rw [e2] at hb
  rw [e3] at hbt
  exact TxFoldsW.walk0 txt w hM s hb t hbt
theorem own : ownKnob Try.prog.godebug = none := by kernel_rfl
theorem laid : laidOutB Try.prog = true := by kernel_rfl
theorem allRead : (Try.f6.params.toList.all fun t => Try.prog.readableRec t && decide (t < Try.prog.types.size)) = true := by kernel_rfl
set_option maxRecDepth 100000 in
theorem contract (H : Type) (enc : TypeId × Value → H) (W : World) (base : Nat) (args : Array Value) (ds gs : List (DataW H)) (before : List MemPlace)
    (hval : ∀ (j : Nat) t v, Try.f6.params[j]? = some t → args[j]? = some v → Value.okWide Try.prog W .any base t v)
    (hW : DataW.Whole enc Try.prog Try.f6.params.toList Rows.textFoldsSpec.vars false W args.toList ds gs before) (hk : Rows.uptoSmall H (ds ++ gs) = true) (hsh : W.ShapedOpen Try.prog) :
    Calls Try.prog 6 args W fun e W' => ∃ v, e = .returned v ∧ Rows.textFoldsSpec.post enc Try.prog Try.f6 false true false false W args v W' := by
  have hW' := hW
  obtain ⟨p, q, hA0, hV, rfl, hfz, hnd⟩ := hW
  obtain ⟨rfl, rfl⟩ := trodVars_none hV
  have hlt : ∀ x ∈ p, x.block < W.heap.size := fun x hx => hW'.lt x (by simp [hx])
  have hA : DataW.TrodAll enc Try.prog W 0 (fun _ => true) true Try.f6.params.toList args.toList ds p := hA0
  rw [Try.params6] at hA hval
  obtain ⟨v0, vs0, d0, ds0, p0, q0, hargs, rfl, rfl, h0, r0⟩ := trodAll_cons hA
  obtain ⟨v1, vs1, d1, ds1, p1, q1, rfl, rfl, rfl, h1, r1⟩ := trodAll_cons r0
  obtain ⟨rfl, rfl, rfl⟩ := trodAll_nil r1
  obtain rfl : args = #[v0, v1] := by cases args; simp_all
  have hkb : Rows.uptoBulkAll ([d0, d1] ++ []) ≤ 1048576 := of_decide_eq_true hk
  obtain ⟨s0, rfl, rfl, rfl, hs0⟩ := open_string Try.underlying9 (hval 0 9 v0 rfl rfl) h0
  have hb0 : s0.data.toList.length ≤ 1048576 := by simp only [List.append_nil, Rows.uptoBulkAll, Rows.uptoBulk] at hkb; omega
  obtain ⟨s1, rfl, rfl, rfl, hs1⟩ := open_string Try.underlying9 (hval 1 9 v1 rfl rfl) h1
  have hb1 : s1.data.toList.length ≤ 1048576 := by simp only [List.append_nil, Rows.uptoBulkAll, Rows.uptoBulk] at hkb; omega
  refine (walk W (ml_of hsh) s0 hs0 hb0 s1 hs1 hb1).mono fun e W' ⟨he, hb⟩ => ?_
  subst he
  exact ⟨_, rfl, law_post laid (fun t ht => by have h := List.all_eq_true.1 allRead t ht; rw [Bool.and_eq_true, decide_eq_true_eq] at h; exact h) rfl (by kernel_rfl) Try.underlying4 rfl hW' hb⟩
set_option maxRecDepth 100000 in
theorem lifted (os : Os) (started : os.Started) (H : Type) (enc : TypeId × Value → H) (F : Stop.Interp) :
    ReturnsInHanded {} Try.checked os 6 .any ((Rows.OpenSpec.upto Rows.textFoldsSpec).preRow enc Try.prog Try.f6 Rows.textFoldsUptoRow.domain false Rows.textFoldsUptoRow.laid) (((Rows.OpenSpec.upto Rows.textFoldsSpec).at F).post enc Try.prog Try.f6 false true false false) := by
  obtain ⟨w, tape, i, h1, h2, h3, h4, h5, h6⟩ := OpenSpec.witness (enc := enc) (C := Try.checked) (os := os) (f := 6) (fn := Try.f6) (s := Rows.OpenSpec.upto Rows.textFoldsSpec) (k := Rows.uptoSmall) rfl (conds := Rows.textFoldsUptoRow.domain) (apart := false) false ⟨#[], #[.string ByteArray.empty, .string ByteArray.empty], []⟩ 8 (by kernel_rfl) (by kernel_rfl) (by kernel_rfl)
      (x := ([.lit (.string []), .lit (.string [])], [], [])) (by kernel_rfl) rfl (by kernel_rfl)
  refine returnsInHanded_of_row (C := Try.checked) (s := Rows.OpenSpec.upto Rows.textFoldsSpec) own started (by kernel_rfl) Try.func6
    ⟨w, tape, i, h1, h2, h3, h4, ⟨⟨h5.1, laidMetH_nil _ _⟩, h5.2⟩, h6⟩ ?_
  intro W base args ds gs before hval hW _ hk _ _ hsh _
  exact contract H enc W base args ds gs before hval hW (hk _ rfl) hsh
theorem over : Rows.textFoldsUptoRow.holds Try.pinned (Rows.OpenSpec.upto Rows.textFoldsSpec) :=
  OpenClaim.holds_of_cond 6 Try.f6 rfl rfl rfl rfl rfl rfl rfl ⟨rfl, rfl, rfl, rfl, rfl⟩ rfl rfl rfl rfl rfl (by kernel_rfl) Try.func6 (by kernel_rfl)
    (of_decide_eq_true (by kernel_rfl)) (by unfold Func.isWrapper; first | (rw [if_pos (by decide +kernel)]; kernel_rfl) | (rw [if_neg (by decide +kernel)]; exact ⟨rfl, rfl⟩))
    (fun os started H enc _ F => by rw [OpenClaim.pre_eq_preRow]; exact lifted os started H enc F)
theorem proved : Rows.TextFoldsUptoSaid := over

end Go.Proofs.Ytebdolfcemplnaa.textFolds
