/- ManifestFiles: for every list of manifests and every script of disk faults the statement's function answers true and leaves its arguments as they were. Condition: the program's table holds what its text lays (tied by the card). -/
import Derived.Test.YtjninegpaoblfaaGreatDoorMfFilesW
import Derived.Test.YtjninegpaoblfaaGreatDoorMfCrash
import Derived.Test.YtjninegpaoblfaaGreatDoorParts5
import Derived.Test.YtjninegpaoblfaaGreatDoorMpReads
import Derived.Test.YtjninegpaoblfaaGreatDoorOpens
import Derived.Test.YtjninegpaoblfaaGreatDoorCards
import Derived.Test.YtjninegpaoblfaaGreatDoorTie
import Derived.Deep.DeepHandedRow
import Derived.LaidMore
namespace Go.Proofs.YtjninegpaoblfaaGreatDoor.manifestFiles
open Go Go.ChangeShapes Go.WideShapes Go.ChangeAt Go.RowKit Words Tab PdRes MfSpec MfMem MfOpen MfCrash MfFilesW MfProg Ope Bulk Parts5

theorem walk (w : World) (hL : Laid w w.heap.size) (l : List MM) (A : Option Addr) (c : Nat) (hl : l.length ≤ c) (hm : c ≤ maxLen) (hr : Rd w w.heap.size A (flatM l)) (hg : ∀ m ∈ l, OkM w m)
    (l1 : List Int) (A1 : Option Addr) (c1 : Nat) (hl1 : l1.length ≤ c1) (hm1 : c1 ≤ maxLen) (hr1 : Rd w w.heap.size A1 (l1.map I64)) (hw1 : ∀ x ∈ l1, In64 x)
    (l2 : List Bool) (A2 : Option Addr) (c2 : Nat) (hl2 : l2.length ≤ c2) (hm2 : c2 ≤ maxLen) (hr2 : Rd w w.heap.size A2 (l2.map Value.bool)) :
    Calls Tryz.prog 3 #[.slice A l.length c, .slice A1 l1.length c1, .slice A2 l2.length c2] w fun e w' => e = .returned (.bool true) ∧ Below w.heap.size w w' :=
  files_walk mfs w hL l A c hl hm hr hg l1 A1 c1 hl1 hm1 hr1 hw1 l2 A2 c2 hl2 hm2 hr2
theorem of_laid {W : World} (h : laidMetH Tryz.prog Rows.manifestFilesRow.laid W) : Laid W W.heap.size := Tab.of_laid h
theorem own : ownKnob Tryz.prog.godebug = none := by kernel_rfl
theorem laid : laidOutB Tryz.prog = true := by kernel_rfl
theorem allRead : (Tryz.f3.params.toList.all fun t => Tryz.prog.readableRec t && decide (t < Tryz.prog.types.size)) = true := by kernel_rfl
set_option maxRecDepth 100000 in
theorem contract (H : Type) (enc : TypeId × Value → H) (W : World) (base : Nat) (args : Array Value) (ds gs : List (DataW H)) (before : List MemPlace)
    (hval : ∀ (j : Nat) t v, Tryz.f3.params[j]? = some t → args[j]? = some v → Value.okWide Tryz.prog W .any base t v)
    (hW : DataW.Whole enc Tryz.prog Tryz.f3.params.toList Rows.manifestFilesSpec.vars false W args.toList ds gs before) (hwt : (DataW.weightsEach Tryz.prog (Tryz.f3.params.toList ++ (OpenSpec.ofChange Rows.manifestFilesSpec).bare.plain.varTypes Tryz.prog) (ds ++ gs)).all (· ≤ reachBytes) = true) (hL : laidMetH Tryz.prog Rows.manifestFilesRow.laid W) :
    Calls Tryz.prog 3 args W fun e W' => ∃ v, e = .returned v ∧ Rows.manifestFilesSpec.post enc Tryz.prog Tryz.f3 false true false false W args v W' := by
  have hW' := hW
  obtain ⟨p, q, hA0, hV, rfl, hfz, hnd⟩ := hW
  obtain ⟨rfl, rfl⟩ := trodVars_none hV
  have hlt : ∀ x ∈ p, x.block < W.heap.size := fun x hx => hW'.lt x (by simp [hx])
  have hA : DataW.TrodAll enc Tryz.prog W 0 (fun _ => true) true Tryz.f3.params.toList args.toList ds p := hA0
  rw [Tryz.params3] at hA hval
  obtain ⟨v0, vs0, d0, ds0, p0, q0, hargs, rfl, rfl, h0, r0⟩ := trodAll_cons hA
  obtain ⟨v1, vs1, d1, ds1, p1, q1, rfl, rfl, rfl, h1, r1⟩ := trodAll_cons r0
  obtain ⟨v2, vs2, d2, ds2, p2, q2, rfl, rfl, rfl, h2, r2⟩ := trodAll_cons r1
  obtain ⟨rfl, rfl, rfl⟩ := trodAll_nil r2
  obtain rfl : args = #[v0, v1, v2] := by cases args; simp_all
  rw [Tryz.params3] at hwt
  obtain ⟨y0, z0⟩ := weigh_cons hwt
  obtain ⟨y1, z1⟩ := weigh_cons z0
  obtain ⟨y2, z2⟩ := weigh_cons z1
  obtain ⟨A0, l0, c0, rfl, hl0, hm0, hr0, hg0⟩ := open_manifests (hval 0 22 v0 rfl rfl) h0
  obtain ⟨A1, l1, c1, rfl, hl1, hm1, hr1, hw1⟩ := open_nums (hval 1 23 v1 rfl rfl) h1
  obtain ⟨A2, l2, c2, rfl, hl2, hm2, hr2⟩ := open_bools Tryz.underlying24 Tryz.underlying4 (by kernel_rfl) (hval 2 24 v2 rfl rfl) h2
  refine (walk W (of_laid hL) l0 A0 c0 hl0 hm0 hr0 hg0 l1 A1 c1 hl1 hm1 hr1 hw1 l2 A2 c2 hl2 hm2 hr2).mono fun e W' ⟨he, hb⟩ => ?_
  subst he
  exact ⟨_, rfl, law_post laid (fun t ht => by have h := List.all_eq_true.1 allRead t ht; rw [Bool.and_eq_true, decide_eq_true_eq] at h; exact h) rfl (by kernel_rfl) Tryz.underlying4 rfl hW' hb⟩
noncomputable def laidWorld (os : Os) : World := World.doorLaid Tryz.prog 14 os
theorem laid_met (os : Os) : laidMet Tryz.prog Rows.manifestFilesRow.laid ((laidWorld os).forCall (fun _ _ => 0) ⟨#[], #[.slice none 0 0, .slice none 0 0, .slice none 0 0], []⟩).memory :=
  laidMet_of_run' 8 (by kernel_rfl) (by kernel_rfl)
theorem reads (os : Os) {H : Type} (enc : TypeId × Value → H) : ∃ places, DataW.whole enc Tryz.prog ((laidWorld os).forCall (fun _ _ => 0) ⟨#[], #[.slice none 0 0, .slice none 0 0, .slice none 0 0], []⟩).memory Tryz.f3.params.toList Rows.manifestFilesSpec.vars false (#[.slice none 0 0, .slice none 0 0, .slice none 0 0] : Array Value).toList 8 = some ([.nil, .nil, .nil], [], places) :=
  ⟨[], by kernel_rfl⟩
set_option maxRecDepth 100000 in
theorem lifted (os : Os) (started : os.Started) (H : Type) (enc : TypeId × Value → H) (F : Stop.Interp) :
    ReturnsInHanded {} Tryz.checked os 3 .any ((OpenSpec.ofChange Rows.manifestFilesSpec).preRow enc Tryz.prog Tryz.f3 Rows.manifestFilesRow.domain false Rows.manifestFilesRow.laid) (((OpenSpec.ofChange Rows.manifestFilesSpec).at F).post enc Tryz.prog Tryz.f3 false true false false) := by
  obtain ⟨places, hx⟩ := reads os enc
  refine returnsInHanded_of_row (C := Tryz.checked) (s := OpenSpec.ofChange Rows.manifestFilesSpec) own started (by kernel_rfl) Tryz.func3
    (witness_row_at (enc := enc) (C := Tryz.checked) false (laidWorld os) #[.slice none 0 0, .slice none 0 0, .slice none 0 0] rfl (by kernel_rfl) (by kernel_rfl) (by kernel_rfl)
      (OpenSpec.preRow_of_cond 8 hx (by kernel_rfl) (fun k hk => by cases hk) (by kernel_rfl) (laid_met os))) ?_
  intro W base args ds gs before hval hW _ hcond hwt hL _ _
  exact contract H enc W base args ds gs before hval hW hwt hL
theorem over : Rows.manifestFilesRow.holds Tryz.pinned (OpenSpec.ofChange Rows.manifestFilesSpec) :=
  OpenClaim.holds_of_cond 3 Tryz.f3 rfl rfl rfl rfl rfl rfl rfl ⟨rfl, rfl, rfl, rfl, rfl⟩ rfl rfl rfl rfl rfl (by kernel_rfl) Tryz.func3 (by kernel_rfl)
    (of_decide_eq_true (by kernel_rfl)) (by unfold Func.isWrapper; first | (rw [if_pos (by decide +kernel)]; kernel_rfl) | (rw [if_neg (by decide +kernel)]; exact ⟨rfl, rfl⟩))
    (fun os started H enc _ F => by rw [OpenClaim.pre_eq_preRow]; exact lifted os started H enc F)
theorem plainly (f : FuncId) (fn : Func) (hf : Tryz.pinned.checked.prog.funcNamed "garner/garnerlaw15.ManifestFiles" = some f) (hfn : Tryz.pinned.checked.prog.funcs[f]? = some fn) :
    false = Tryz.pinned.checked.prog.looks [] ∧ ∀ (j : Nat) t, fn.params[j]? = some t → Tryz.pinned.checked.prog.wantsStandIn t = false := by
  obtain rfl : f = 3 := Option.some.inj ((show Tryz.prog.funcNamed "garner/garnerlaw15.ManifestFiles" = some 3 by kernel_rfl).symm.trans hf) |>.symm
  obtain rfl : fn = Tryz.f3 := (Option.some.inj (Tryz.func3.symm.trans hfn)).symm
  refine ⟨by kernel_rfl, fun j t ht => ?_⟩
  rw [Tryz.params3] at ht
  have hm : t ∈ [22, 23, 24] := by simpa using Array.mem_of_getElem? ht
  have hall : ([22, 23, 24].all fun u => !Tryz.prog.wantsStandIn u) = true := by kernel_rfl
  exact (show Tryz.prog.wantsStandIn t = false by simpa using List.all_eq_true.1 hall t hm)
theorem proved : Rows.ManifestFilesCardSaid :=
  Claim7.holds_tied_plain_at .later [] _ _ _ _ over (fun _ h => by cases h) (by kernel_rfl) (fun _ h => by cases h) manifestFiles_row_tie rfl ⟨rfl, rfl⟩ (by kernel_rfl) rfl plainly (by kernel_rfl)

end Go.Proofs.YtjninegpaoblfaaGreatDoor.manifestFiles
