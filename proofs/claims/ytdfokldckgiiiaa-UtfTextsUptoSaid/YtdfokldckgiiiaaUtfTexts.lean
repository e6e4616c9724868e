/- UtfTexts: for every text (of bulk at most 1048576) the statement's function answers true and leaves its argument as it was. -/
import Derived.Test.YtdfokldckgiiiaaUtAwake
import Derived.Test.YtdfokldckgiiiaaUtRefFold
import Derived.Test.YtdfokldckgiiiaaBulk
import Derived.Test.YtdfokldckgiiiaaOpen
import Derived.ChangeMaps5
namespace Go.Proofs.Ytdfokldckgiiiaa.utfTexts
open Go Go.ChangeShapes Go.WideShapes Go.ChangeAt Go.RowKit Words UtSpec UtShelf UtSmall UtRange UtFold UtOwn UtRunes UtRefFold UtAwake Ope Bulk

open Go.ChangeMaps (open_string)
set_option maxHeartbeats 1600000 in
set_option maxRecDepth 100000 in
theorem walk (w : World) (s : ByteArray) (hs : s.size ≤ maxLen) (hb : s.data.toList.length ≤ 1048576) :
    Calls Try.prog 3 #[.string s] w fun e w' => e = .returned (.bool true) ∧ Below w.heap.size w w' := by
  have e2 : s.data.toList.length = s.size := by simp
  rw [e2] at hb
  clear e2
  have HA := Lib.hid (awake_any w)
  have hfl := fold_len s.data.toList
  have hsz : s.data.toList.length = s.size := by simp
  have HR := fun w => Lib.hid (runes_any s w (by omega))
  have HV := fun w => Lib.hid (valid_any s w hs)
  have HC := fun w => Lib.hid (count_any s w hs)
  have HF := fun w => Lib.hid (fold_any s w (by omega) (by omega))
  have HG := fun w => Lib.hid (reffold_any s w (by omega))
  clear hfl hsz
  unfold RPost at HR
  have hcn : cnt s.data.toList = (runes s.data.toList).length := rfl
  rw [← hcn] at HR
  generalize fold s.data.toList = F at *
  generalize cnt s.data.toList = C at *
  generalize vals s.data.toList = V at *
  generalize (runes s.data.toList).map R32 = RR at *
  clear hcn
  have e1 : (V == V) = true := by simp
  have e3 : (F == F) = true := by simp
  have e4 : ((C : Int) == (C : Int)) = true := by simp
  go_enter Try.func3, Try.ntmps3
  go_wp2_with fail
  refine HA.out.mono ?_
  rintro e w1 ⟨rfl, hb1⟩
  have HB1 := Lib.hid hb1
  clear hb1 HA
  go_wp2_with fail
  refine (HR _).out.mono ?_
  rintro e w2 ⟨v2, rfl, hown2, hb2⟩
  have HB2 := Lib.hid (below_step HB1.out hb2)
  obtain ⟨A2, c2, rfl, _, _, _⟩ := own_slice hown2
  clear hown2 hb2 HR
  go_wp2_with fail
  refine (HV _).out.mono ?_
  rintro e w3 ⟨rfl, hb3⟩
  have HB3 := Lib.hid (below_step HB2.out hb3)
  clear hb3 HV
  go_wp2_with fail
  refine (HC _).out.mono ?_
  rintro e w4 ⟨rfl, hb4⟩
  have HB4 := Lib.hid (below_step HB3.out hb4)
  clear hb4 HC
  go_wp2_with fail
  refine (HF _).out.mono ?_
  rintro e w5 ⟨rfl, hb5⟩
  have HB5 := Lib.hid (below_step HB4.out hb5)
  clear hb5 HF
  go_wp2_with fail
  refine (HG _).out.mono ?_
  rintro e w6 ⟨rfl, hb6⟩
  have HB6 := Lib.hid (below_step HB5.out hb6)
  clear hb6 HG
  go_wp2
  go_ret
  exact ⟨rfl, HB6.out⟩
theorem own : ownKnob Try.prog.godebug = none := by kernel_rfl
theorem laid : laidOutB Try.prog = true := by kernel_rfl
theorem allRead : (Try.f3.params.toList.all fun t => Try.prog.readableRec t && decide (t < Try.prog.types.size)) = true := by kernel_rfl
set_option maxRecDepth 100000 in
theorem contract (H : Type) (enc : TypeId × Value → H) (W : World) (base : Nat) (args : Array Value) (ds gs : List (DataW H)) (before : List MemPlace)
    (hval : ∀ (j : Nat) t v, Try.f3.params[j]? = some t → args[j]? = some v → Value.okWide Try.prog W .any base t v)
    (hW : DataW.Whole enc Try.prog Try.f3.params.toList Rows.utfTextsSpec.vars false W args.toList ds gs before) (hk : Rows.uptoSmall H (ds ++ gs) = true) :
    Calls Try.prog 3 args W fun e W' => ∃ v, e = .returned v ∧ Rows.utfTextsSpec.post enc Try.prog Try.f3 false true false false W args v W' := by
  have hW' := hW
  obtain ⟨p, q, hA0, hV, rfl, hfz, hnd⟩ := hW
  obtain ⟨rfl, rfl⟩ := trodVars_none hV
  have hlt : ∀ x ∈ p, x.block < W.heap.size := fun x hx => hW'.lt x (by simp [hx])
  have hA : DataW.TrodAll enc Try.prog W 0 (fun _ => true) true Try.f3.params.toList args.toList ds p := hA0
  rw [Try.params3] at hA hval
  obtain ⟨v0, vs0, d0, ds0, p0, q0, hargs, rfl, rfl, h0, r0⟩ := trodAll_cons hA
  obtain ⟨rfl, rfl, rfl⟩ := trodAll_nil r0
  obtain rfl : args = #[v0] := by cases args; simp_all
  have hkb : Rows.uptoBulkAll ([d0] ++ []) ≤ 1048576 := of_decide_eq_true hk
  obtain ⟨s0, rfl, rfl, rfl, hs0⟩ := open_string Try.underlying9 (hval 0 9 v0 rfl rfl) h0
  have hb0 : s0.data.toList.length ≤ 1048576 := by simp only [List.append_nil, Rows.uptoBulkAll, Rows.uptoBulk] at hkb; omega
  refine (walk W s0 hs0 hb0).mono fun e W' ⟨he, hb⟩ => ?_
  subst he
  exact ⟨_, rfl, law_post laid (fun t ht => by have h := List.all_eq_true.1 allRead t ht; rw [Bool.and_eq_true, decide_eq_true_eq] at h; exact h) rfl (by kernel_rfl) Try.underlying4 rfl hW' hb⟩
set_option maxRecDepth 100000 in
theorem lifted (os : Os) (started : os.Started) (H : Type) (enc : TypeId × Value → H) (F : Stop.Interp) :
    ReturnsInHanded {} Try.checked os 3 .any ((Rows.OpenSpec.upto Rows.utfTextsSpec).pre6 enc Try.prog Try.f3 Rows.utfTextsUptoRow.domain false) (((Rows.OpenSpec.upto Rows.utfTextsSpec).at F).post enc Try.prog Try.f3 false true false false) := by
  refine returnsInHanded_of_cond (C := Try.checked) (s := Rows.OpenSpec.upto Rows.utfTextsSpec) (k := Rows.uptoSmall) rfl own started (by kernel_rfl) Try.func3
    (OpenSpec.witness (enc := enc) (C := Try.checked) (s := Rows.OpenSpec.upto Rows.utfTextsSpec) (k := Rows.uptoSmall) rfl false ⟨#[], #[.string ByteArray.empty], []⟩ 8 (by kernel_rfl) (by kernel_rfl) (by kernel_rfl)
      (x := ([.lit (.string [])], [], [])) (by kernel_rfl) rfl (by kernel_rfl)) ?_
  intro W base args ds gs before hval hW _ hk _
  exact contract H enc W base args ds gs before hval hW hk
theorem over : Rows.utfTextsUptoRow.holds Try.pinned (Rows.OpenSpec.upto Rows.utfTextsSpec) :=
  OpenClaim.holds_of_cond 3 Try.f3 rfl rfl rfl rfl rfl rfl rfl ⟨rfl, rfl, rfl, rfl, rfl⟩ rfl rfl rfl rfl rfl (by kernel_rfl) Try.func3 (by kernel_rfl)
    (of_decide_eq_true (by kernel_rfl)) (by unfold Func.isWrapper; first | (rw [if_pos (by decide +kernel)]; kernel_rfl) | (rw [if_neg (by decide +kernel)]; exact ⟨rfl, rfl⟩))
    (fun os started H enc _ F => lifted os started H enc F)
theorem proved : Rows.UtfTextsUptoSaid := over

end Go.Proofs.Ytdfokldckgiiiaa.utfTexts
