/- UtfRunes: for every number of 32 bits the statement's function answers true and leaves its argument as it was. No conditions. -/
import Derived.Test.YtdfokldckgiiiaaUtAwake
import Derived.Test.YtdfokldckgiiiaaOpen
namespace Go.Proofs.Ytdfokldckgiiiaa.utfRunes
open Go Go.ChangeShapes Go.WideShapes Go.ChangeAt Go.RowKit Words UtSpec UtShelf UtSmall UtRange UtFold UtOwn UtAwake Ope

def KRel (v : Value) : Prop := ∃ k : Int, -40 ≤ k ∧ k ≤ 41 ∧ v = .int .i32 k
set_option maxHeartbeats 1600000 in
set_option maxRecDepth 100000 in
theorem walk (w : World) (r : Int) (wr : (Lit.int .i32 r).wf = true) :
    Calls Try.prog 4 #[.int .i32 r] w fun e w' => e = .returned (.bool true) ∧ Below w.heap.size w w' := by
  obtain ⟨h0, h1⟩ := bounds_i32 wr
  clear wr
  have HA := Lib.hid (awake_any w)
  have HW := fun x w => Lib.hid (word_any x w)
  have HV := fun x w => Lib.hid (refword_any x w)
  have HS := fun x w h h' => Lib.hid (small_any x w h h')
  have HT := fun x w h h' => Lib.hid (refsmall_any x w h h')
  obtain ⟨q, hq⟩ : ∃ q, r.tdiv 2 = q := ⟨_, rfl⟩
  have hq0 : -1073741824 ≤ q ∧ q ≤ 1073741824 := by
    have hn : q.natAbs = r.natAbs / 2 := by rw [← hq, Int.natAbs_tdiv]; rfl
    omega
  obtain ⟨hq1, hq2⟩ := hq0
  go_enter Try.func4, Try.ntmps4
  go_wp2_with fail
  refine HA.out.mono ?_
  rintro e w1 ⟨rfl, hb1⟩
  have HB1 := Lib.hid hb1
  clear hb1 HA
  go_wp2
  go_loop [3] (fun v => KRel v) (fun v => (41 - intOf v).toNat)
  case atStart => exact ⟨-40, by omega, by omega, rfl⟩
  case round =>
    obtain ⟨k, hk0, hk1, rfl⟩ := hrel
    by_cases hk : k ≤ 40
    · obtain ⟨b, hb⟩ : ∃ b, word (q + k) = b := ⟨_, rfl⟩
      obtain ⟨x, hx⟩ : ∃ x, small (q + k) = x := ⟨_, rfl⟩
      have H1 := HW (q + k)
      have H2 := HV (q + k)
      have H3 := fun w => HS (q + k) w (by omega) (by omega)
      have H4 := fun w => HT (q + k) w (by omega) (by omega)
      rw [hb] at H1 H2
      rw [hx] at H3 H4
      have e1 : (b != b) = false := by simp
      have e2 : (x != x) = false := by simp
      clear hb hx HW HV HS HT
      go_wp2_with fail
      refine (H1 _).out.mono ?_
      rintro e w' ⟨rfl, rfl⟩
      go_wp2_with fail
      refine (H2 _).out.mono ?_
      rintro e w' ⟨rfl, rfl⟩
      go_wp2_with fail
      refine (H3 _).out.mono ?_
      rintro e w' ⟨rfl, rfl⟩
      go_wp2_with fail
      refine (H4 _).out.mono ?_
      rintro e w' ⟨rfl, rfl⟩
      go_wp2
      go_round
      case rel => exact ⟨k + 1, by omega, by omega, rfl⟩
      case measure => simp [intOf]; omega
    · obtain ⟨b, hb⟩ : ∃ b, word r = b := ⟨_, rfl⟩
      obtain ⟨x, hx⟩ : ∃ x, small r = x := ⟨_, rfl⟩
      have H1 := HW r
      have H2 := HV r
      have H3 := fun w => HS r w (by omega) (by omega)
      have H4 := fun w => HT r w (by omega) (by omega)
      rw [hb] at H1 H2
      rw [hx] at H3 H4
      have e1 : (b == b) = true := by simp
      have e2 : (x == x) = true := by simp
      clear hb hx HW HV HS HT
      go_wp2_with fail
      refine (H1 _).out.mono ?_
      rintro e w' ⟨rfl, rfl⟩
      go_wp2_with fail
      refine (H2 _).out.mono ?_
      rintro e w' ⟨rfl, rfl⟩
      go_wp2_with fail
      refine (H3 _).out.mono ?_
      rintro e w' ⟨rfl, rfl⟩
      go_wp2_with fail
      refine (H4 _).out.mono ?_
      rintro e w' ⟨rfl, rfl⟩
      go_wp2
      go_ret
      exact ⟨rfl, HB1.out⟩
theorem own : ownKnob Try.prog.godebug = none := by kernel_rfl
theorem laid : laidOutB Try.prog = true := by kernel_rfl
theorem allRead : (Try.f4.params.toList.all fun t => Try.prog.readableRec t && decide (t < Try.prog.types.size)) = true := by kernel_rfl
set_option maxRecDepth 100000 in
theorem contract (H : Type) (enc : TypeId × Value → H) (W : World) (base : Nat) (args : Array Value) (ds gs : List (DataW H)) (before : List MemPlace)
    (hval : ∀ (j : Nat) t v, Try.f4.params[j]? = some t → args[j]? = some v → Value.okWide Try.prog W .any base t v)
    (hW : DataW.Whole enc Try.prog Try.f4.params.toList Rows.utfRunesSpec.vars false W args.toList ds gs before) :
    Calls Try.prog 4 args W fun e W' => ∃ v, e = .returned v ∧ Rows.utfRunesSpec.post enc Try.prog Try.f4 false true false false W args v W' := by
  have hW' := hW
  obtain ⟨p, q, hA0, hV, rfl, hfz, hnd⟩ := hW
  obtain ⟨rfl, rfl⟩ := trodVars_none hV
  have hlt : ∀ x ∈ p, x.block < W.heap.size := fun x hx => hW'.lt x (by simp [hx])
  have hA : DataW.TrodAll enc Try.prog W 0 (fun _ => true) true Try.f4.params.toList args.toList ds p := hA0
  rw [Try.params4] at hA hval
  obtain ⟨v0, vs0, d0, ds0, p0, q0, hargs, rfl, rfl, h0, r0⟩ := trodAll_cons hA
  obtain ⟨rfl, rfl, rfl⟩ := trodAll_nil r0
  obtain rfl : args = #[v0] := by cases args; simp_all
  obtain ⟨a0, rfl, rfl, rfl, w0⟩ := open_int Try.underlying21 (hval 0 21 v0 rfl rfl) h0
  refine (walk W a0 w0).mono fun e W' ⟨he, hb⟩ => ?_
  subst he
  exact ⟨_, rfl, law_post laid (fun t ht => by have h := List.all_eq_true.1 allRead t ht; rw [Bool.and_eq_true, decide_eq_true_eq] at h; exact h) rfl (by kernel_rfl) Try.underlying4 rfl hW' hb⟩
set_option maxRecDepth 100000 in
theorem lifted (os : Os) (started : os.Started) (H : Type) (enc : TypeId × Value → H) :
    ReturnsInHanded {} Try.checked os 4 .any (Rows.utfRunesSpec.pre6 enc Try.prog Try.f4 Rows.utfRunesRow.domain false) (Rows.utfRunesSpec.post enc Try.prog Try.f4 false true false false) := by
  refine returnsInHanded_of_change (C := Try.checked) own started (by kernel_rfl) Try.func4
    (ChangeSpec.witness6 (enc := enc) (C := Try.checked) false ⟨#[], #[.int .i32 0], []⟩ 8 (by kernel_rfl) (by kernel_rfl) (by kernel_rfl) (by kernel_rfl)) ?_
  intro W base args ds gs before hval hW _ _
  exact contract H enc W base args ds gs before hval hW
theorem over : Rows.utfRunesRow.holds Try.pinned (OpenSpec.ofChange Rows.utfRunesSpec) :=
  OpenClaim.holds_of_wide 4 Try.f4 rfl rfl rfl rfl rfl rfl rfl ⟨rfl, rfl, rfl, rfl, rfl⟩ rfl rfl rfl rfl rfl (by kernel_rfl) Try.func4 (by kernel_rfl)
    (of_decide_eq_true (by kernel_rfl)) (by unfold Func.isWrapper; first | (rw [if_pos (by decide +kernel)]; kernel_rfl) | (rw [if_neg (by decide +kernel)]; exact ⟨rfl, rfl⟩))
    (fun os started H enc _ => lifted os started H enc)
theorem proved : Rows.UtfRunesSaid := over

end Go.Proofs.Ytdfokldckgiiiaa.utfRunes
