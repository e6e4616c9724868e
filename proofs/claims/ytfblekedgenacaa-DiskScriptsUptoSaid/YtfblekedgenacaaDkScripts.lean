/- DiskScripts: for all scripts whose bulk is at most 1048576 the statement's function answers true and leaves its argument as it was. Condition: that bound. -/
import Derived.Test.YtfblekedgenacaaScripts
import Derived.Test.YtfblekedgenacaaRightA
import Derived.Test.YtfblekedgenacaaOpen
import Derived.Test.YtfblekedgenacaaPost
import Derived.Test.YtfblekedgenacaaBulk
namespace Go.Proofs.Ytfblekedgenacaa.diskScripts
open Go.ChangeShapes Go.WideShapes Go.ChangeAt Go.RowKit Words DkSpec PdLook RefDisk PdDisk PdRes Ope Bulk Pairs Mv Right RightK RightL RightA Ops5 Scripts0 Scripts

/-- 'right', whatever the call is. -/
theorem right_any : RightAny := fun w K oh ow vh vw q s n T Ad cd Ak ck hh hw hf hn hT ha oh7 ow0 hw7 hhw oh0 => by
  by_cases h1 : q.kind = 1
  · exact right1 h1 hh hw hf hn hT ha oh7 ow0 hw7 hhw oh0
  by_cases h2 : q.kind = 2
  · exact right2 h2 hh hw hf ha oh7 ow0 hw7 hhw oh0
  by_cases h3 : q.kind = 3
  · exact right3 h3 hh hw hf hn ha oh7 ow0 hw7 hhw oh0
  by_cases h4 : q.kind = 4
  · exact right4 h4 hh hw hf hn ha oh7 ow0 hw7 hhw oh0
  by_cases h5 : q.kind = 5
  · exact right5 h5 hh hw hf (by omega) ha oh7 hw7
  by_cases h6 : q.kind = 6
  · exact right6 h6 hh hw hf hn ha
  by_cases h7 : q.kind = 7
  · exact right7 h7 hh hw hf hn (by omega) ha oh7 ow0 hw7 hhw oh0
  by_cases h8 : q.kind = 8
  · exact right8 h8 hh hw hf hn (by omega) ha oh7 ow0 hw7 hhw oh0
  by_cases h9 : q.kind = 9
  · exact right9 h9 hh hw hf hn (by omega) ha oh7 ow0 hw7 hhw oh0
  exact right_other (fun i a b => by omega) hh hw ha
theorem walk (w : World) (l : List PO) (A : Option Addr) (c : Nat) (hc : l.length ≤ c) (hm : c ≤ maxLen) (hr : OpsAt w A l) (hraw : ∀ o ∈ l, Raw w o) (hb : total l + l.length ≤ 1048576) (hab : ∀ o ∈ l, o.q.a.length ≤ 1048576 ∧ o.q.b.length ≤ 1048576) :
    Calls Try.prog 3 #[.slice A l.length c] w fun e w' => e = .returned (.bool true) ∧ Below w.heap.size w w' := walk0 right_any w l A c hc hm hr hraw hb hab
theorem own : ownKnob Try.prog.godebug = none := by kernel_rfl
theorem laid : laidOutB Try.prog = true := by kernel_rfl
theorem allRead : (Try.f3.params.toList.all fun t => Try.prog.readableRec t && decide (t < Try.prog.types.size)) = true := by kernel_rfl
set_option maxRecDepth 100000 in
theorem contract (H : Type) (enc : TypeId × Value → H) (W : World) (base : Nat) (args : Array Value) (ds gs : List (DataW H)) (before : List MemPlace)
    (hval : ∀ (j : Nat) t v, Try.f3.params[j]? = some t → args[j]? = some v → Value.okWide Try.prog W .any base t v)
    (hW : DataW.Whole enc Try.prog Try.f3.params.toList Rows.diskScriptsSpec.vars false W args.toList ds gs before) (hk : Rows.uptoSmall H (ds ++ gs) = true) :
    Calls Try.prog 3 args W fun e W' => ∃ v, e = .returned v ∧ Rows.diskScriptsSpec.post enc Try.prog Try.f3 false true false false W args v W' := by
  have hW' := hW
  obtain ⟨p, q, hA0, hV, rfl, hfz, hnd⟩ := hW
  obtain ⟨rfl, rfl⟩ := trodVars_none hV
  have hlt : ∀ x ∈ p, x.block < W.heap.size := fun x hx => hW'.lt x (by simp [hx])
  have hA : DataW.TrodAll enc Try.prog W 0 (fun _ => true) true Try.f3.params.toList args.toList ds p := hA0
  rw [Try.params3] at hA hval
  obtain ⟨v0, vs0, d0, ds0, p0, q0, hargs, rfl, rfl, h0, r0⟩ := trodAll_cons hA
  obtain ⟨rfl, rfl, rfl⟩ := trodAll_nil r0
  obtain rfl : args = #[v0] := by cases args; simp_all
  have hkb : Rows.uptoBulkAll ([d0] ++ []) ≤ 1048576 := of_decide_eq_true hk
  obtain ⟨A0, l0, c0, rfl, hl0, hm0, hr0, hg0, hd0⟩ := open_ops (hval 0 22 v0 rfl rfl) h0
  have hq0 : Rows.uptoBulk d0 ≤ 1048576 := by simp only [List.append_nil, Rows.uptoBulkAll] at hkb; omega
  refine (walk W l0 A0 c0 hl0 hm0 hr0 hg0 (Nat.le_trans hd0.1 hq0) (fun o ho => ⟨Nat.le_trans (hd0.2 o ho).1 hq0, Nat.le_trans (hd0.2 o ho).2 hq0⟩)).mono fun e W' ⟨he, hb⟩ => ?_
  subst he
  exact ⟨_, rfl, law_post laid (fun t ht => by have h := List.all_eq_true.1 allRead t ht; rw [Bool.and_eq_true, decide_eq_true_eq] at h; exact h) rfl (by kernel_rfl) Try.underlying4 rfl hW' hb⟩
set_option maxRecDepth 100000 in
theorem lifted (os : Os) (started : os.Started) (H : Type) (enc : TypeId × Value → H) (F : Stop.Interp) :
    ReturnsInHanded {} Try.checked os 3 .any ((Rows.OpenSpec.upto Rows.diskScriptsSpec).pre6 enc Try.prog Try.f3 Rows.diskScriptsUptoRow.domain false) (((Rows.OpenSpec.upto Rows.diskScriptsSpec).at F).post enc Try.prog Try.f3 false true false false) := by
  refine returnsInHanded_of_cond (C := Try.checked) (s := Rows.OpenSpec.upto Rows.diskScriptsSpec) (k := Rows.uptoSmall) rfl own started (by kernel_rfl) Try.func3
    (OpenSpec.witness (enc := enc) (C := Try.checked) (s := Rows.OpenSpec.upto Rows.diskScriptsSpec) (k := Rows.uptoSmall) rfl false ⟨#[], #[.slice none 0 0], []⟩ 8 (by kernel_rfl) (by kernel_rfl) (by kernel_rfl)
      (x := ([.nil], [], [])) (by kernel_rfl) rfl (by kernel_rfl)) ?_
  intro W base args ds gs before hval hW _ hk _
  exact contract H enc W base args ds gs before hval hW hk
theorem over : Rows.diskScriptsUptoRow.holds Try.pinned (Rows.OpenSpec.upto Rows.diskScriptsSpec) :=
  OpenClaim.holds_of_cond 3 Try.f3 rfl rfl rfl rfl rfl rfl rfl ⟨rfl, rfl, rfl, rfl, rfl⟩ rfl rfl rfl rfl rfl (by kernel_rfl) Try.func3 (by kernel_rfl)
    (of_decide_eq_true (by kernel_rfl)) (by unfold Func.isWrapper; first | (rw [if_pos (by decide +kernel)]; kernel_rfl) | (rw [if_neg (by decide +kernel)]; exact ⟨rfl, rfl⟩))
    (fun os started H enc _ F => lifted os started H enc F)
theorem proved : Rows.DiskScriptsUptoSaid := over

end Go.Proofs.Ytfblekedgenacaa.diskScripts
