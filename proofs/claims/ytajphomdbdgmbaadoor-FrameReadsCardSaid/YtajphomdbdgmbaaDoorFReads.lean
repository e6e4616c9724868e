/- FrameReads: for all bytes and every place the statement's function answers true and leaves its arguments as they were. Condition: the program's table holds what the program's text lays (tied by the card). -/
import Derived.Test.YtajphomdbdgmbaaDoorAwake2
import Derived.Test.YtajphomdbdgmbaaDoorBulk
import Derived.Test.YtajphomdbdgmbaaDoorCards
import Derived.Test.YtajphomdbdgmbaaDoorTie
import Derived.Deep.DeepHandedRow
import Derived.LaidMore
namespace Go.Proofs.YtajphomdbdgmbaaDoor.frameReads
open Go.ChangeShapes Go.WideShapes Go.ChangeAt Go.RowKit Words Plain Crc Tab Summ RefSum SumB Put RefPut App Get RefGet Framed Reading Read2 RefRead Awake2 Ope Bulk

/-- What Frame and the document's Frame answer: v read as bytes x, e. -/
def FrPost (l : List UInt8) (w : World) (e : Ending) (w' : World) : Prop := ∃ A n c, e = .returned (.tuple #[.slice A n c, .int .i64 (if 65536 < l.length then 4 else 0)]) ∧ n = (if 65536 < l.length then [] else frm l).length ∧ Rd w' w'.heap.size A ((if 65536 < l.length then [] else frm l).map B8) ∧ Below w.heap.size w w'

theorem frame_any (l : List UInt8) (A : Option Addr) (n c : Nat) (w : World) (hn : n = l.length) (hr : Rd w w.heap.size A (l.map B8)) (hc : l.length ≤ c) (hm : c ≤ maxLen) (hL : Laid w w.heap.size) :
    Calls Tryd.prog 11 #[.slice A n c] w (FrPost l w) := by
  unfold FrPost
  by_cases h : 65536 < l.length
  · simp only [if_pos h]
    refine (frame_long l A n c w hn h).mono ?_
    rintro e w1 ⟨rfl, rfl⟩
    exact ⟨none, 0, 0, rfl, rfl, Rd.nil_, Below.refl _ _⟩
  · simp only [if_neg h]
    refine (frame_ok l A n c w hn hr hc hm hL (by omega)).mono ?_
    rintro e w1 ⟨v, rfl, hown, hb⟩
    obtain ⟨A1, c1, rfl, _, _, _⟩ := own_slice hown
    exact ⟨A1, _, c1, rfl, rfl, Rd.of_own hown, hb⟩
theorem reff_any (l : List UInt8) (A : Option Addr) (n c : Nat) (w : World) (hn : n = l.length) (hr : Rd w w.heap.size A (l.map B8)) (hc : l.length ≤ c) (hm : c ≤ maxLen) :
    Calls Tryd.prog 12 #[.slice A n c] w (FrPost l w) := by
  unfold FrPost
  by_cases h : 65536 < l.length
  · simp only [if_pos h]
    refine (reff_long l A n c w hn h).mono ?_
    rintro e w1 ⟨rfl, rfl⟩
    exact ⟨none, 0, 0, rfl, rfl, Rd.nil_, Below.refl _ _⟩
  · simp only [if_neg h]
    refine (reff_ok l A n c w hn hr hc hm (by omega)).mono ?_
    rintro e w1 ⟨v, rfl, hown, hb⟩
    obtain ⟨A1, c1, rfl, _, _, _⟩ := own_slice hown
    exact ⟨A1, _, c1, rfl, rfl, Rd.of_own hown, hb⟩

def Rel (m : Int) (w : World) (v : Value) (wr : World) : Prop := ∃ k : Int, -1 ≤ k ∧ k ≤ m + 2 ∧ v = .int .i64 k ∧ Below w.heap.size w wr

set_option maxHeartbeats 1600000 in
set_option maxRecDepth 100000 in
theorem walk (w : World) (hL : Laid w w.heap.size) (l : List UInt8) (A : Option Addr) (c : Nat) (hc : l.length ≤ c) (hm : c ≤ maxLen) (hr : Rd w w.heap.size A (l.map B8)) (hlen : l.length ≤ 140737488355327) (at_ : Int) (wat : (Lit.int .i64 at_).wf = true) :
    Calls Tryd.prog 4 #[.slice A l.length c, .int .i64 at_] w fun e w' => e = .returned (.bool true) ∧ Below w.heap.size w w' := by
  have HL := Lib.hid hL
  have H1 := fun w' (hb : Below w.heap.size w w') => Lib.hid (frame_any l A _ c w' rfl ((hr.below hb).more hb.size) hc hm ((hL.below hb).more hb.size))
  have H2 := fun w' (hb : Below w.heap.size w w') => Lib.hid (reff_any l A _ c w' rfl ((hr.below hb).more hb.size) hc hm)
  have H3 := fun w' (hb : Below w.heap.size w w') x => Lib.hid (one_any l A _ c x w' rfl ((hr.below hb).more hb.size) hc hm (by omega) ((hL.below hb).more hb.size))
  clear hL hr hm hc
  unfold FrPost at H1 H2
  generalize (if 65536 < l.length then ([] : List UInt8) else frm l) = F at *
  generalize (if 65536 < l.length then (4 : Int) else 0) = E at *
  go_enter Tryd.func4, Tryd.ntmps4
  go_wp2_with fail
  refine (awake_any w HL.out).mono ?_
  rintro e w1 ⟨rfl, hb1⟩
  have HB1 := Lib.hid hb1
  clear hb1
  go_wp2_with fail
  refine (H1 w1 HB1.out).out.mono ?_
  rintro e w2 ⟨A2, n2, c2, rfl, hn2, hr2, hb2⟩
  have HB2 := Lib.hid (HB1.out.trans (hb2.mono HB1.out.size))
  have HR2 := Lib.hid hr2
  have HN2 := Lib.hid hn2
  clear hb2 hr2 hn2
  go_wp2_with fail
  refine (H2 w2 HB2.out).out.mono ?_
  rintro e w3 ⟨A3, n3, c3, rfl, hn3, hr3, hb3⟩
  have HB3 := Lib.hid (HB2.out.trans (hb3.mono HB2.out.size))
  have s2 := run_str w3 A2 n2 c2 HN2.out (HR2.out.below hb3)
  have s3 := run_str w3 A3 n3 c3 hn3 hr3
  clear hb3 hr3 hn3 H1 H2
  have e1 : (F == F) = true := by simp
  have e2 : (E == E) = true := by simp
  have e3 : (F != F) = false := by simp
  have e4 : (E != E) = false := by simp
  obtain ⟨M, hM⟩ : ∃ M : Int, min (l.length : Int) 20 = M := ⟨_, rfl⟩
  have hM0 : 0 ≤ M := by omega
  have hM20 : M ≤ 20 := by omega
  go_wp2
  clear s2 s3 HB1 HB2 HR2 HN2 e1 e2 e3 e4
  go_loopw [9] (fun v wr => Rel M w v wr) (fun v _ => (30 - intOf v).toNat)
  case atStart => exact ⟨-1, by omega, by omega, rfl, HB3.out⟩
  case round =>
    obtain ⟨k, hk1, hk2, rfl, hbl⟩ := hrel
    have HBL := Lib.hid hbl
    clear hbl HB3
    by_cases hlt : k ≤ M + 1
    · go_wp2_with fail
      refine (H3 wr HBL.out k).out.mono ?_
      rintro e w5 ⟨rfl, hb5⟩
      have HB5 := Lib.hid (HBL.out.trans (hb5.mono HBL.out.size))
      clear hb5
      go_wp2
      go_roundw
      case rel => exact ⟨k + 1, by omega, by omega, by go_num, HB5.out⟩
      case measure => simp [intOf]; omega
    · go_wp2_with fail
      refine (H3 wr HBL.out at_).out.mono ?_
      rintro e w5 ⟨rfl, hb5⟩
      have HB5 := Lib.hid (HBL.out.trans (hb5.mono HBL.out.size))
      clear hb5
      go_wp2
      go_ret
      exact ⟨rfl, HB5.out⟩
theorem own : ownKnob Tryd.prog.godebug = none := by kernel_rfl
theorem laid : laidOutB Tryd.prog = true := by kernel_rfl
theorem allRead : (Tryd.f4.params.toList.all fun t => Tryd.prog.readableRec t && decide (t < Tryd.prog.types.size)) = true := by kernel_rfl
theorem contract (H : Type) (enc : TypeId × Value → H) (W : World) (base : Nat) (args : Array Value) (ds gs : List (DataW H)) (before : List MemPlace)
    (hval : ∀ (j : Nat) t v, Tryd.f4.params[j]? = some t → args[j]? = some v → Value.okWide Tryd.prog W .any base t v)
    (hW : DataW.Whole enc Tryd.prog Tryd.f4.params.toList Rows.frameReadsSpec.vars false W args.toList ds gs before) (hwt : (DataW.weightsEach Tryd.prog (Tryd.f4.params.toList ++ (OpenSpec.ofChange Rows.frameReadsSpec).bare.plain.varTypes Tryd.prog) (ds ++ gs)).all (· ≤ reachBytes) = true) (hL : laidMetH Tryd.prog Rows.frameReadsRow.laid W) :
    Calls Tryd.prog 4 args W fun e W' => ∃ v, e = .returned v ∧ Rows.frameReadsSpec.post enc Tryd.prog Tryd.f4 false true false false W args v W' := by
  have hW' := hW
  obtain ⟨p, q, hA0, hV, rfl, hfz, hnd⟩ := hW
  obtain ⟨rfl, rfl⟩ := trodVars_none hV
  have hlt : ∀ x ∈ p, x.block < W.heap.size := fun x hx => hW'.lt x (by simp [hx])
  have hA : DataW.TrodAll enc Tryd.prog W 0 (fun _ => true) true Tryd.f4.params.toList args.toList ds p := hA0
  rw [Tryd.params4] at hA hval
  obtain ⟨v0, vs0, d0, ds0, p0, q0, hargs, rfl, rfl, h0, r0⟩ := trodAll_cons hA
  obtain ⟨v1, vs1, d1, ds1, p1, q1, rfl, rfl, rfl, h1, r1⟩ := trodAll_cons r0
  obtain ⟨rfl, rfl, rfl⟩ := trodAll_nil r1
  obtain rfl : args = #[v0, v1] := by cases args; simp_all
  rw [Tryd.params4] at hwt
  obtain ⟨y0, z0⟩ := weigh_cons hwt
  obtain ⟨y1, z1⟩ := weigh_cons z0
  obtain ⟨A0, l0, c0, rfl, hl0, hm0, hr0, hd0⟩ := open_u8s Tryd.underlying24 Tryd.underlying5 (by kernel_rfl) (hval 0 24 v0 rfl rfl) h0 (fun x hx => hlt x (by simp [hx]))
  have hb0 : l0.length ≤ 140737488355327 := by have h := weigh_len Tryd.underlying24 (by decide +kernel) hd0 y0; rwa [List.length_map] at h
  obtain ⟨a1, rfl, rfl, rfl, w1⟩ := open_int Tryd.underlying3 (hval 1 3 v1 rfl rfl) h1
  refine (walk W (of_laid hL) l0 A0 c0 hl0 hm0 hr0 hb0 a1 w1).mono fun e W' ⟨he, hb⟩ => ?_
  subst he
  exact ⟨_, rfl, law_post laid (fun t ht => by have h := List.all_eq_true.1 allRead t ht; rw [Bool.and_eq_true, decide_eq_true_eq] at h; exact h) rfl (by kernel_rfl) Tryd.underlying4 rfl hW' hb⟩
noncomputable def laidWorld (os : Os) : World := World.doorLaid Tryd.prog 14 os
theorem laid_met (os : Os) : laidMet Tryd.prog Rows.frameReadsRow.laid ((laidWorld os).forCall (fun _ _ => 0) ⟨#[], #[.slice none 0 0, .int .i64 0], []⟩).memory :=
  laidMet_of_run' 8 (by kernel_rfl) (by kernel_rfl)
theorem reads (os : Os) {H : Type} (enc : TypeId × Value → H) : ∃ places, DataW.whole enc Tryd.prog ((laidWorld os).forCall (fun _ _ => 0) ⟨#[], #[.slice none 0 0, .int .i64 0], []⟩).memory Tryd.f4.params.toList Rows.frameReadsSpec.vars false (#[.slice none 0 0, .int .i64 0] : Array Value).toList 8 = some ([.nil, .lit (.int .i64 0)], [], places) :=
  ⟨[], by kernel_rfl⟩
set_option maxRecDepth 100000 in
theorem lifted (os : Os) (started : os.Started) (H : Type) (enc : TypeId × Value → H) (F : Stop.Interp) :
    ReturnsInHanded {} Tryd.checked os 4 .any ((OpenSpec.ofChange Rows.frameReadsSpec).preRow enc Tryd.prog Tryd.f4 Rows.frameReadsRow.domain false Rows.frameReadsRow.laid) (((OpenSpec.ofChange Rows.frameReadsSpec).at F).post enc Tryd.prog Tryd.f4 false true false false) := by
  obtain ⟨places, hx⟩ := reads os enc
  refine returnsInHanded_of_row (C := Tryd.checked) (s := OpenSpec.ofChange Rows.frameReadsSpec) own started (by kernel_rfl) Tryd.func4
    (witness_row_at (enc := enc) (C := Tryd.checked) false (laidWorld os) #[.slice none 0 0, .int .i64 0] rfl (by kernel_rfl) (by kernel_rfl) (by kernel_rfl)
      (OpenSpec.preRow_of_cond 8 hx (by kernel_rfl) (fun k hk => by cases hk) (by kernel_rfl) (laid_met os))) ?_
  intro W base args ds gs before hval hW _ hcond hwt hL _ _
  exact contract H enc W base args ds gs before hval hW hwt hL
theorem over : Rows.frameReadsRow.holds Tryd.pinned (OpenSpec.ofChange Rows.frameReadsSpec) :=
  OpenClaim.holds_of_cond 4 Tryd.f4 rfl rfl rfl rfl rfl rfl rfl ⟨rfl, rfl, rfl, rfl, rfl⟩ rfl rfl rfl rfl rfl (by kernel_rfl) Tryd.func4 (by kernel_rfl)
    (of_decide_eq_true (by kernel_rfl)) (by unfold Func.isWrapper; first | (rw [if_pos (by decide +kernel)]; kernel_rfl) | (rw [if_neg (by decide +kernel)]; exact ⟨rfl, rfl⟩))
    (fun os started H enc _ F => by rw [OpenClaim.pre_eq_preRow]; exact lifted os started H enc F)
theorem plainly (f : FuncId) (fn : Func) (hf : Tryd.pinned.checked.prog.funcNamed "garner/garnerlaw02.FrameReads" = some f) (hfn : Tryd.pinned.checked.prog.funcs[f]? = some fn) :
    false = Tryd.pinned.checked.prog.looks [] ∧ ∀ (j : Nat) t, fn.params[j]? = some t → Tryd.pinned.checked.prog.wantsStandIn t = false := by
  obtain rfl : f = 4 := Option.some.inj ((show Tryd.prog.funcNamed "garner/garnerlaw02.FrameReads" = some 4 by kernel_rfl).symm.trans hf) |>.symm
  obtain rfl : fn = Tryd.f4 := (Option.some.inj (Tryd.func4.symm.trans hfn)).symm
  refine ⟨by kernel_rfl, fun j t ht => ?_⟩
  rw [Tryd.params4] at ht
  have hm : t ∈ [24, 3] := by simpa using Array.mem_of_getElem? ht
  have hall : ([24, 3].all fun u => !Tryd.prog.wantsStandIn u) = true := by kernel_rfl
  exact (show Tryd.prog.wantsStandIn t = false by simpa using List.all_eq_true.1 hall t hm)
theorem proved : Rows.FrameReadsCardSaid :=
  Claim7.holds_tied_plain_at .later [] _ _ _ _ over (fun _ h => by cases h) (by kernel_rfl) (fun _ h => by cases h) frameReads_row_tie rfl ⟨rfl, rfl⟩ (by kernel_rfl) rfl plainly (by kernel_rfl)

end Go.Proofs.YtajphomdbdgmbaaDoor.frameReads
