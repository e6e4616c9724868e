/- UtfFolds: for every text (of bulk at most 1048576) and every number of 32 bits the statement's function answers true and leaves its arguments as they were. -/
import Derived.Test.YtdfokldckgiiiaaUtAwake
import Derived.Test.YtdfokldckgiiiaaBulk
import Derived.Test.YtdfokldckgiiiaaOpen
import Derived.ChangeMaps5
namespace Go.Proofs.Ytdfokldckgiiiaa.utfFolds
open Go Go.ChangeShapes Go.WideShapes Go.ChangeAt Go.RowKit Words UtSpec UtShelf UtSmall UtRange UtFold UtOwn UtAwake Ope Bulk
open Go.ChangeMaps (open_string)

set_option maxHeartbeats 1600000 in
set_option maxRecDepth 100000 in
theorem walk (w : World) (s : ByteArray) (hs : s.size ≤ maxLen) (hb : s.data.toList.length ≤ 1048576) (r : Int) (wr : (Lit.int .i32 r).wf = true) :
    Calls Try.prog 5 #[.string s, .int .i32 r] w fun e w' => e = .returned (.bool true) ∧ Below w.heap.size w w' := by
  obtain ⟨h0, h1⟩ := bounds_i32 wr
  clear wr
  have e2 : s.data.toList.length = s.size := by simp
  have hfl := fold_len s.data.toList
  have HA := Lib.hid (awake_any w)
  obtain ⟨F, hF⟩ : ∃ F, fold s.data.toList = F := ⟨_, rfl⟩
  obtain ⟨C, hC⟩ : ∃ C, cnt s.data.toList = C := ⟨_, rfl⟩
  have f1 : vals F = true := by rw [← hF]; exact vals_fold _
  have f2 : cnt F = C := by rw [← hF, ← hC]; exact cnt_fold _
  have f3 : fold F = F := by rw [← hF]; exact fold_fold _
  rw [hF] at hfl
  have hsF : (⟨F.toArray⟩ : ByteArray).size = F.length := by show F.toArray.size = _; simp
  have HF := fun w => Lib.hid (fold_at s w F (by omega) hF (by omega))
  have HF2 := fun w => Lib.hid (fold_at ⟨F.toArray⟩ w F (by omega) (by simpa using f3) (by omega))
  have HC := fun w => Lib.hid (count_at s w C hs hC)
  have HC2 := fun w => Lib.hid (count_at ⟨F.toArray⟩ w C (by unfold maxLen; omega) (by simpa using f2))
  have HV2 := fun w => Lib.hid (valid_at ⟨F.toArray⟩ w true (by unfold maxLen; omega) (by simpa using f1))
  obtain ⟨q, hq⟩ : ∃ q, small r = q := ⟨_, rfl⟩
  obtain ⟨b, hb'⟩ : ∃ b, word r = b := ⟨_, rfl⟩
  have hqb := small_bound h0 h1
  rw [hq] at hqb
  have HS := fun w => Lib.hid (small_at r q w h0 h1 hq)
  have HS2 := fun w => Lib.hid (small_at q q w hqb.1 hqb.2 (by rw [← hq]; exact small_small r))
  have HW := fun w => Lib.hid (word_at r w b hb')
  have HW2 := fun w => Lib.hid (word_at q w b (by rw [← hq, ← hb']; exact word_small r))
  have e1 : (F == F) = true := by simp
  have e3 : (q == q) = true := by simp
  have e4 : (b == b) = true := by simp
  have e5 : ((C : Int) == (C : Int)) = true := by simp
  clear hF hC f1 f2 f3 hfl hsF hq hb' hqb hb e2
  go_enter Try.func5, Try.ntmps5
  go_wp2_with fail
  refine HA.out.mono ?_
  rintro e w1 ⟨rfl, hb1⟩
  have HB1 := Lib.hid hb1
  clear hb1 HA
  go_wp2_with fail
  refine (HF _).out.mono ?_
  rintro e w2 ⟨rfl, hb2⟩
  have HB2 := Lib.hid (below_step HB1.out hb2)
  clear hb2
  go_wp2_with fail
  refine (HS _).out.mono ?_
  rintro e w' ⟨rfl, rfl⟩
  go_wp2_with fail
  refine (HF2 _).out.mono ?_
  rintro e w3 ⟨rfl, hb3⟩
  have HB3 := Lib.hid (below_step HB2.out hb3)
  clear hb3
  go_wp2_with fail
  refine (HC2 _).out.mono ?_
  rintro e w4 ⟨rfl, hb4⟩
  have HB4 := Lib.hid (below_step HB3.out hb4)
  clear hb4
  go_wp2_with fail
  refine (HC _).out.mono ?_
  rintro e w5 ⟨rfl, hb5⟩
  have HB5 := Lib.hid (below_step HB4.out hb5)
  clear hb5
  go_wp2_with fail
  refine (HV2 _).out.mono ?_
  rintro e w6 ⟨rfl, hb6⟩
  have HB6 := Lib.hid (below_step HB5.out hb6)
  clear hb6
  go_wp2_with fail
  refine (HS2 _).out.mono ?_
  rintro e w' ⟨rfl, rfl⟩
  go_wp2_with fail
  refine (HW2 _).out.mono ?_
  rintro e w' ⟨rfl, rfl⟩
  go_wp2_with fail
  refine (HW _).out.mono ?_
  rintro e w' ⟨rfl, rfl⟩
  go_wp2
  go_ret
  exact ⟨rfl, HB6.out⟩
theorem own : ownKnob Try.prog.godebug = none := by kernel_rfl
theorem laid : laidOutB Try.prog = true := by kernel_rfl
theorem allRead : (Try.f5.params.toList.all fun t => Try.prog.readableRec t && decide (t < Try.prog.types.size)) = true := by kernel_rfl
set_option maxRecDepth 100000 in
theorem contract (H : Type) (enc : TypeId × Value → H) (W : World) (base : Nat) (args : Array Value) (ds gs : List (DataW H)) (before : List MemPlace)
    (hval : ∀ (j : Nat) t v, Try.f5.params[j]? = some t → args[j]? = some v → Value.okWide Try.prog W .any base t v)
    (hW : DataW.Whole enc Try.prog Try.f5.params.toList Rows.utfFoldsSpec.vars false W args.toList ds gs before) (hk : Rows.uptoSmall H (ds ++ gs) = true) :
    Calls Try.prog 5 args W fun e W' => ∃ v, e = .returned v ∧ Rows.utfFoldsSpec.post enc Try.prog Try.f5 false true false false W args v W' := by
  have hW' := hW
  obtain ⟨p, q, hA0, hV, rfl, hfz, hnd⟩ := hW
  obtain ⟨rfl, rfl⟩ := trodVars_none hV
  have hlt : ∀ x ∈ p, x.block < W.heap.size := fun x hx => hW'.lt x (by simp [hx])
  have hA : DataW.TrodAll enc Try.prog W 0 (fun _ => true) true Try.f5.params.toList args.toList ds p := hA0
  rw [Try.params5] at hA hval
  obtain ⟨v0, vs0, d0, ds0, p0, q0, hargs, rfl, rfl, h0, r0⟩ := trodAll_cons hA
  obtain ⟨v1, vs1, d1, ds1, p1, q1, rfl, rfl, rfl, h1, r1⟩ := trodAll_cons r0
  obtain ⟨rfl, rfl, rfl⟩ := trodAll_nil r1
  obtain rfl : args = #[v0, v1] := by cases args; simp_all
  have hkb : Rows.uptoBulkAll ([d0, d1] ++ []) ≤ 1048576 := of_decide_eq_true hk
  obtain ⟨s0, rfl, rfl, rfl, hs0⟩ := open_string Try.underlying9 (hval 0 9 v0 rfl rfl) h0
  have hb0 : s0.data.toList.length ≤ 1048576 := by simp only [List.append_nil, Rows.uptoBulkAll, Rows.uptoBulk] at hkb; omega
  obtain ⟨a1, rfl, rfl, rfl, w1⟩ := open_int Try.underlying21 (hval 1 21 v1 rfl rfl) h1
  refine (walk W s0 hs0 hb0 a1 w1).mono fun e W' ⟨he, hb⟩ => ?_
  subst he
  exact ⟨_, rfl, law_post laid (fun t ht => by have h := List.all_eq_true.1 allRead t ht; rw [Bool.and_eq_true, decide_eq_true_eq] at h; exact h) rfl (by kernel_rfl) Try.underlying4 rfl hW' hb⟩
set_option maxRecDepth 100000 in
theorem lifted (os : Os) (started : os.Started) (H : Type) (enc : TypeId × Value → H) (F : Stop.Interp) :
    ReturnsInHanded {} Try.checked os 5 .any ((Rows.OpenSpec.upto Rows.utfFoldsSpec).pre6 enc Try.prog Try.f5 Rows.utfFoldsUptoRow.domain false) (((Rows.OpenSpec.upto Rows.utfFoldsSpec).at F).post enc Try.prog Try.f5 false true false false) := by
  refine returnsInHanded_of_cond (C := Try.checked) (s := Rows.OpenSpec.upto Rows.utfFoldsSpec) (k := Rows.uptoSmall) rfl own started (by kernel_rfl) Try.func5
    (OpenSpec.witness (enc := enc) (C := Try.checked) (s := Rows.OpenSpec.upto Rows.utfFoldsSpec) (k := Rows.uptoSmall) rfl false ⟨#[], #[.string ByteArray.empty, .int .i32 0], []⟩ 8 (by kernel_rfl) (by kernel_rfl) (by kernel_rfl)
      (x := ([.lit (.string []), .lit (.int .i32 0)], [], [])) (by kernel_rfl) rfl (by kernel_rfl)) ?_
  intro W base args ds gs before hval hW _ hk _
  exact contract H enc W base args ds gs before hval hW hk
theorem over : Rows.utfFoldsUptoRow.holds Try.pinned (Rows.OpenSpec.upto Rows.utfFoldsSpec) :=
  OpenClaim.holds_of_cond 5 Try.f5 rfl rfl rfl rfl rfl rfl rfl ⟨rfl, rfl, rfl, rfl, rfl⟩ rfl rfl rfl rfl rfl (by kernel_rfl) Try.func5 (by kernel_rfl)
    (of_decide_eq_true (by kernel_rfl)) (by unfold Func.isWrapper; first | (rw [if_pos (by decide +kernel)]; kernel_rfl) | (rw [if_neg (by decide +kernel)]; exact ⟨rfl, rfl⟩))
    (fun os started H enc _ F => lifted os started H enc F)
theorem proved : Rows.UtfFoldsUptoSaid := over

end Go.Proofs.Ytdfokldckgiiiaa.utfFolds
