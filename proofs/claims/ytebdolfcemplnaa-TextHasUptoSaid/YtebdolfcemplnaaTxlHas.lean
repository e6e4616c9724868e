/- TextHas: for all its inputs (of bulk at most 1048576) the statement's function answers true and leaves its arguments as they were. -/
import Derived.Test.YtebdolfcemplnaaTxHasW
import Derived.Test.YtebdolfcemplnaaTxProg
import Derived.Test.YtebdolfcemplnaaBulk
import Derived.Test.YtebdolfcemplnaaOpen
import Derived.Test.YtebdolfcemplnaaOpenTwo
import Derived.ChangeMaps5
import Derived.Deep.DeepHandedRow
namespace Go.Proofs.Ytebdolfcemplnaa.textHas
open Go Go.ChangeShapes Go.WideShapes Go.ChangeAt Go.RowKit Words TxLaw TxProg Ope Bulk OpenTwo
open Go.ChangeMaps (open_string)

theorem walk (w : World) (hM : ML w) (s : ByteArray) (_hs : s.size ≤ maxLen) (hb : s.data.toList.length ≤ 1048576) (t : ByteArray) (_ht : t.size ≤ maxLen) (hbt : t.data.toList.length ≤ 1048576) (a b : Int) :
    Calls Try.prog 4 #[.string s, .string t, .agg #[.int .i64 a, .int .i64 b]] w fun e w' => e = .returned (.bool true) ∧ Below w.heap.size w w' := by
  have e2 : s.data.toList.length = s.size := by simp
  have e3 : t.data.toList.length = t.size := by simp
  rw [e2] at hb
  rw [e3] at hbt
  exact TxHasW.walk0 txt w hM s hb t hbt a b
theorem own : ownKnob Try.prog.godebug = none := by kernel_rfl
theorem laid : laidOutB Try.prog = true := by kernel_rfl
theorem allRead : (Try.f4.params.toList.all fun t => Try.prog.readableRec t && decide (t < Try.prog.types.size)) = true := by kernel_rfl
set_option maxRecDepth 100000 in
theorem contract (H : Type) (enc : TypeId × Value → H) (W : World) (base : Nat) (args : Array Value) (ds gs : List (DataW H)) (before : List MemPlace)
    (hval : ∀ (j : Nat) t v, Try.f4.params[j]? = some t → args[j]? = some v → Value.okWide Try.prog W .any base t v)
    (hW : DataW.Whole enc Try.prog Try.f4.params.toList Rows.textHasSpec.vars false W args.toList ds gs before) (hk : Rows.uptoSmall H (ds ++ gs) = true) (hsh : W.ShapedOpen Try.prog) :
    Calls Try.prog 4 args W fun e W' => ∃ v, e = .returned v ∧ Rows.textHasSpec.post enc Try.prog Try.f4 false true false false W args v W' := by
  have hW' := hW
  obtain ⟨p, q, hA0, hV, rfl, hfz, hnd⟩ := hW
  obtain ⟨rfl, rfl⟩ := trodVars_none hV
  have hlt : ∀ x ∈ p, x.block < W.heap.size := fun x hx => hW'.lt x (by simp [hx])
  have hA : DataW.TrodAll enc Try.prog W 0 (fun _ => true) true Try.f4.params.toList args.toList ds p := hA0
  rw [Try.params4] at hA hval
  obtain ⟨v0, vs0, d0, ds0, p0, q0, hargs, rfl, rfl, h0, r0⟩ := trodAll_cons hA
  obtain ⟨v1, vs1, d1, ds1, p1, q1, rfl, rfl, rfl, h1, r1⟩ := trodAll_cons r0
  obtain ⟨v2, vs2, d2, ds2, p2, q2, rfl, rfl, rfl, h2, r2⟩ := trodAll_cons r1
  obtain ⟨rfl, rfl, rfl⟩ := trodAll_nil r2
  obtain rfl : args = #[v0, v1, v2] := by cases args; simp_all
  have hkb : Rows.uptoBulkAll ([d0, d1, d2] ++ []) ≤ 1048576 := of_decide_eq_true hk
  obtain ⟨s0, rfl, rfl, rfl, hs0⟩ := open_string Try.underlying9 (hval 0 9 v0 rfl rfl) h0
  have hb0 : s0.data.toList.length ≤ 1048576 := by simp only [List.append_nil, Rows.uptoBulkAll, Rows.uptoBulk] at hkb; omega
  obtain ⟨s1, rfl, rfl, rfl, hs1⟩ := open_string Try.underlying9 (hval 1 9 v1 rfl rfl) h1
  have hb1 : s1.data.toList.length ≤ 1048576 := by simp only [List.append_nil, Rows.uptoBulkAll, Rows.uptoBulk] at hkb; omega
  obtain ⟨a2, b2, rfl, rfl, rfl⟩ := open_two (e := 3) (k := .i64) ⟨Try.underlying29, by kernel_rfl, by kernel_rfl, by kernel_rfl⟩ Try.underlying3 (hval 2 29 v2 rfl rfl) h2
  refine (walk W (ml_of hsh) s0 hs0 hb0 s1 hs1 hb1 a2 b2).mono fun e W' ⟨he, hb⟩ => ?_
  subst he
  exact ⟨_, rfl, law_post laid (fun t ht => by have h := List.all_eq_true.1 allRead t ht; rw [Bool.and_eq_true, decide_eq_true_eq] at h; exact h) rfl (by kernel_rfl) Try.underlying4 rfl hW' hb⟩
set_option maxRecDepth 100000 in
theorem lifted (os : Os) (started : os.Started) (H : Type) (enc : TypeId × Value → H) (F : Stop.Interp) :
    ReturnsInHanded {} Try.checked os 4 .any ((Rows.OpenSpec.upto Rows.textHasSpec).preRow enc Try.prog Try.f4 Rows.textHasUptoRow.domain false Rows.textHasUptoRow.laid) (((Rows.OpenSpec.upto Rows.textHasSpec).at F).post enc Try.prog Try.f4 false true false false) := by
  obtain ⟨w, tape, i, h1, h2, h3, h4, h5, h6⟩ := OpenSpec.witness (enc := enc) (C := Try.checked) (os := os) (f := 4) (fn := Try.f4) (s := Rows.OpenSpec.upto Rows.textHasSpec) (k := Rows.uptoSmall) rfl (conds := Rows.textHasUptoRow.domain) (apart := false) false ⟨#[], #[.string ByteArray.empty, .string ByteArray.empty, .agg #[.int .i64 0, .int .i64 0]], []⟩ 8 (by kernel_rfl) (by kernel_rfl) (by kernel_rfl)
      (x := ([.lit (.string []), .lit (.string []), .agg [.lit (.int .i64 0), .lit (.int .i64 0)]], [], [])) (by kernel_rfl) rfl (by kernel_rfl)
  refine returnsInHanded_of_row (C := Try.checked) (s := Rows.OpenSpec.upto Rows.textHasSpec) own started (by kernel_rfl) Try.func4
    ⟨w, tape, i, h1, h2, h3, h4, ⟨⟨h5.1, laidMetH_nil _ _⟩, h5.2⟩, h6⟩ ?_
  intro W base args ds gs before hval hW _ hk _ _ hsh _
  exact contract H enc W base args ds gs before hval hW (hk _ rfl) hsh
theorem over : Rows.textHasUptoRow.holds Try.pinned (Rows.OpenSpec.upto Rows.textHasSpec) :=
  OpenClaim.holds_of_cond 4 Try.f4 rfl rfl rfl rfl rfl rfl rfl ⟨rfl, rfl, rfl, rfl, rfl⟩ rfl rfl rfl rfl rfl (by kernel_rfl) Try.func4 (by kernel_rfl)
    (of_decide_eq_true (by kernel_rfl)) (by unfold Func.isWrapper; first | (rw [if_pos (by decide +kernel)]; kernel_rfl) | (rw [if_neg (by decide +kernel)]; exact ⟨rfl, rfl⟩))
    (fun os started H enc _ F => by rw [OpenClaim.pre_eq_preRow]; exact lifted os started H enc F)
theorem proved : Rows.TextHasUptoSaid := over

end Go.Proofs.Ytebdolfcemplnaa.textHas
