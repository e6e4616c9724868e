/- FrameSums: for all lists of parts whose bulk is at most 1048576 the statement's function answers true and leaves its arguments as they were. Conditions: that bound; the program's table holds what the program's text lays (tied by the card). -/
import Derived.Test.YtajphomdbdgmbaaDoorAwake2
import Derived.Test.YtajphomdbdgmbaaDoorOpenParts
import Derived.Test.YtajphomdbdgmbaaDoorBulk
import Derived.Test.YtajphomdbdgmbaaDoorCards
import Derived.Test.YtajphomdbdgmbaaDoorTie
import Derived.Deep.DeepHandedRow
import Derived.LaidMore
namespace Go.Proofs.YtajphomdbdgmbaaDoor.frameSums
open Go.ChangeShapes Go.WideShapes Go.ChangeAt Go.RowKit Words Plain Crc Tab Summ RefSum SumB Put RefPut App Get RefGet Framed Reading Read2 RefRead Awake2 Ope OpenParts Bulk

def Rel (ps : List Part) (w : World) (v i : Value) (wr : World) : Prop := ∃ k : Nat, k ≤ ps.length ∧ i = .int .i64 k ∧ wr.ownsRow w.heap.size 5 1 v (all (ps.take k)).length ((all (ps.take k)).map B8) ∧ Below w.heap.size w wr
theorem take_len (ps : List Part) (k : Nat) : (all (ps.take k)).length ≤ (all ps).length := by
  conv => rhs; rw [← List.take_append_drop k ps, all, List.flatMap_append, List.length_append]
  exact Nat.le_add_right _ _

set_option maxHeartbeats 1600000 in
set_option maxRecDepth 100000 in
theorem walk (w : World) (hL : Laid w w.heap.size) (ps : List Part) (A : Option Addr) (c : Nat) (hc : ps.length ≤ c) (hm : c ≤ maxLen) (hr : Rd w w.heap.size A (ps.map SV)) (hg : ∀ p ∈ ps, Summ.Good w w.heap.size p) (hb : (all ps).length + ps.length ≤ 1048576) :
    Calls Tryd.prog 3 #[.slice A ps.length c] w fun e w' => e = .returned (.bool true) ∧ Below w.heap.size w w' := by
  obtain ⟨i0, hi, hz0, hz1, hz2⟩ := info_parts info_u8
  have HL := Lib.hid hL
  have HR := Lib.hid hr
  have HG := Lib.hid hg
  have HM := Lib.hid hm
  have HT := Lib.hid (take_len ps)
  unfold maxLen at hm
  clear hL hr hg
  go_enter Tryd.func3, Tryd.ntmps3
  go_wp2_with fail
  refine (awake_any w HL.out).mono ?_
  rintro e w1 ⟨rfl, hb1⟩
  have HB1 := Lib.hid hb1
  clear hb1
  go_wp2
  go_loopw [3, 4] (fun v i wr => Rel ps w v i wr) (fun _ i _ => ps.length - (intOf i).toNat)
  case atStart => exact ⟨0, by omega, rfl, by simpa [all] using World.ownsRow_nil w1 w.heap.size 5 1, HB1.out⟩
  case round =>
    obtain ⟨k, hk, rfl, hown, hbl⟩ := hrel
    have HO := Lib.hid hown
    have HBL := Lib.hid hbl
    clear hown hbl HB1
    by_cases hlt : k < ps.length
    · obtain ⟨b, off, rfl, hbb, hcell⟩ := HR.out (by simp; omega)
      have hcx : wr.cell? ⟨b, off + k, none⟩ = some (SV ps[k]) := (HBL.out.cell (p := ⟨b, off + k, none⟩) hbb).trans (hcell k _ (by simp [hlt]))
      obtain ⟨hg1, hg2, hg3⟩ := HG.out ps[k] (List.getElem_mem hlt)
      have hsn := all_snoc hlt
      have ht1 := HT.out (k + 1)
      rw [hsn, List.length_append] at ht1
      generalize all (ps.take k) = d at *
      generalize ps[k] = p at *
      obtain ⟨pA, pc, l⟩ := p
      unfold SV at hcx
      simp only at hcx hg1 hg2 hg3 hsn ht1
      have HG1 := Lib.hid hg1
      have HS := Lib.hid hsn
      clear hcell hg1 hsn hg2 hg3
      go_wp2_with (at_builtin; refine wpList_append_rd _ rfl (.tmp 13) (.tmp 17) 24 rfl w.heap.size 5 i0 (.int .u8 0) 1 Tryd.underlying24 hi hz0 hz1 hz2 rfl _ _ _ rfl HO.out w.heap.size pA l.length pc (l.map B8) rfl (by simp) (HG1.out.below HBL.out) (one8 l) ?c1 ?c2 HBL.out.size ?_)
      case c1 => unfold maxLen; omega
      case c2 => omega
      intro v2 w2 hown2 hg2 _
      have HB2 := Lib.hid (below_app HO.out HBL.out hg2)
      have HO2 := Lib.hid (own_join hown2)
      rw [← HS.out] at HO2
      clear hown2 hg2 HO
      go_wp2
      go_roundw
      case rel => exact ⟨k + 1, by omega, by go_num, HO2.out, HB2.out⟩
      case measure => simp [intOf]; omega
    · obtain rfl : k = ps.length := by omega
      have HO1 := HO.out
      rw [List.take_length] at HO1
      obtain ⟨A2, c2, rfl, h21, h22, _⟩ := own_slice HO1
      have hrd := Rd.of_own HO1
      have S1 := Lib.hid (sum_any ps A c wr w.heap.size w.heap.size (HR.out.below HBL.out) (fun p hp => ⟨(HG.out p hp).1.below HBL.out, (HG.out p hp).2⟩) hc HM.out (HL.out.below HBL.out))
      have S2 := Lib.hid (refsum_any (all ps) A2 c2 wr _ hrd h21 h22)
      have S3 := Lib.hid (sum_one (all ps) A2 _ c2 wr wr.heap.size _ rfl hrd (Nat.le_refl _) h21 h22 ((HL.out.below HBL.out).more HBL.out.size) rfl)
      have HBE := Lib.hid (HBL.out.alloc HBL.out.size (.cells #[.slice A2 (all ps).length c2] 24))
      have S4 := Lib.hid (refsum_any (all ps) A2 c2 (wr.alloc (.cells #[.slice A2 (all ps).length c2] 24)) _ (hrd.alloc (Nat.le_refl _) _) h21 h22)
      clear HO1 HO hrd h21 h22 HT
      generalize sum (all ps) = s at *
      generalize all ps = l at *
      have e1 : ((s : Int) == (s : Int)) = true := by simp
      go_wp2_with fail
      refine S1.out.mono ?_
      rintro e w2 ⟨rfl, rfl⟩
      go_wp2_with fail
      refine S2.out.mono ?_
      rintro e w2 ⟨rfl, rfl⟩
      go_wp2_with fail
      refine S3.out.mono ?_
      rintro e w2 ⟨rfl, rfl⟩
      go_wp2_with fail
      refine S4.out.mono ?_
      rintro e w2 ⟨rfl, rfl⟩
      go_wp2
      go_ret
      exact ⟨rfl, HBE.out⟩
theorem own : ownKnob Tryd.prog.godebug = none := by kernel_rfl
theorem laid : laidOutB Tryd.prog = true := by kernel_rfl
theorem allRead : (Tryd.f3.params.toList.all fun t => Tryd.prog.readableRec t && decide (t < Tryd.prog.types.size)) = true := by kernel_rfl
theorem contract (H : Type) (enc : TypeId × Value → H) (W : World) (base : Nat) (args : Array Value) (ds gs : List (DataW H)) (before : List MemPlace)
    (hval : ∀ (j : Nat) t v, Tryd.f3.params[j]? = some t → args[j]? = some v → Value.okWide Tryd.prog W .any base t v)
    (hW : DataW.Whole enc Tryd.prog Tryd.f3.params.toList Rows.frameSumsSpec.vars false W args.toList ds gs before) (hk : Rows.uptoSmall H (ds ++ gs) = true) (hL : laidMetH Tryd.prog Rows.frameSumsUptoRow.laid W) :
    Calls Tryd.prog 3 args W fun e W' => ∃ v, e = .returned v ∧ Rows.frameSumsSpec.post enc Tryd.prog Tryd.f3 false true false false W args v W' := by
  have hW' := hW
  obtain ⟨p, q, hA0, hV, rfl, hfz, hnd⟩ := hW
  obtain ⟨rfl, rfl⟩ := trodVars_none hV
  have hlt : ∀ x ∈ p, x.block < W.heap.size := fun x hx => hW'.lt x (by simp [hx])
  have hA : DataW.TrodAll enc Tryd.prog W 0 (fun _ => true) true Tryd.f3.params.toList args.toList ds p := hA0
  rw [Tryd.params3] at hA hval
  obtain ⟨v0, vs0, d0, ds0, p0, q0, hargs, rfl, rfl, h0, r0⟩ := trodAll_cons hA
  obtain ⟨rfl, rfl, rfl⟩ := trodAll_nil r0
  obtain rfl : args = #[v0] := by cases args; simp_all
  have hkb : Rows.uptoBulkAll ([d0] ++ []) ≤ 1048576 := of_decide_eq_true hk
  obtain ⟨A0, l0, c0, rfl, hl0, hm0, hr0, hg0, hd0⟩ := open_u8ss Tryd.underlying22 Tryd.underlying24 Tryd.underlying5 (by kernel_rfl) (by kernel_rfl) (hval 0 22 v0 rfl rfl) h0 (fun x hx => hlt x (by simp [hx]))
  have hb0 : (all l0).length + l0.length ≤ 1048576 := by have h := bulk_parts hd0; simp only [List.append_nil, Rows.uptoBulkAll] at hkb; omega
  refine (walk W (of_laid hL) l0 A0 c0 hl0 hm0 hr0 hg0 hb0).mono fun e W' ⟨he, hb⟩ => ?_
  subst he
  exact ⟨_, rfl, law_post laid (fun t ht => by have h := List.all_eq_true.1 allRead t ht; rw [Bool.and_eq_true, decide_eq_true_eq] at h; exact h) rfl (by kernel_rfl) Tryd.underlying4 rfl hW' hb⟩
noncomputable def laidWorld (os : Os) : World := World.doorLaid Tryd.prog 14 os
theorem laid_met (os : Os) : laidMet Tryd.prog Rows.frameSumsUptoRow.laid ((laidWorld os).forCall (fun _ _ => 0) ⟨#[], #[.slice none 0 0], []⟩).memory :=
  laidMet_of_run' 8 (by kernel_rfl) (by kernel_rfl)
theorem reads (os : Os) {H : Type} (enc : TypeId × Value → H) : ∃ places, DataW.whole enc Tryd.prog ((laidWorld os).forCall (fun _ _ => 0) ⟨#[], #[.slice none 0 0], []⟩).memory Tryd.f3.params.toList Rows.frameSumsSpec.vars false (#[.slice none 0 0] : Array Value).toList 8 = some ([.nil], [], places) :=
  ⟨[], by kernel_rfl⟩
set_option maxRecDepth 100000 in
theorem lifted (os : Os) (started : os.Started) (H : Type) (enc : TypeId × Value → H) (F : Stop.Interp) :
    ReturnsInHanded {} Tryd.checked os 3 .any ((Rows.OpenSpec.upto Rows.frameSumsSpec).preRow enc Tryd.prog Tryd.f3 Rows.frameSumsUptoRow.domain false Rows.frameSumsUptoRow.laid) (((Rows.OpenSpec.upto Rows.frameSumsSpec).at F).post enc Tryd.prog Tryd.f3 false true false false) := by
  obtain ⟨places, hx⟩ := reads os enc
  refine returnsInHanded_of_row (C := Tryd.checked) (s := Rows.OpenSpec.upto Rows.frameSumsSpec) own started (by kernel_rfl) Tryd.func3
    (witness_row_at (enc := enc) (C := Tryd.checked) false (laidWorld os) #[.slice none 0 0] rfl (by kernel_rfl) (by kernel_rfl) (by kernel_rfl)
      (OpenSpec.preRow_of_cond 8 hx (by kernel_rfl) (fun k hk => by cases hk; kernel_rfl) (by kernel_rfl) (laid_met os))) ?_
  intro W base args ds gs before hval hW _ hcond _ hL _ _
  exact contract H enc W base args ds gs before hval hW (hcond _ rfl) hL
theorem over : Rows.frameSumsUptoRow.holds Tryd.pinned (Rows.OpenSpec.upto Rows.frameSumsSpec) :=
  OpenClaim.holds_of_cond 3 Tryd.f3 rfl rfl rfl rfl rfl rfl rfl ⟨rfl, rfl, rfl, rfl, rfl⟩ rfl rfl rfl rfl rfl (by kernel_rfl) Tryd.func3 (by kernel_rfl)
    (of_decide_eq_true (by kernel_rfl)) (by unfold Func.isWrapper; first | (rw [if_pos (by decide +kernel)]; kernel_rfl) | (rw [if_neg (by decide +kernel)]; exact ⟨rfl, rfl⟩))
    (fun os started H enc _ F => by rw [OpenClaim.pre_eq_preRow]; exact lifted os started H enc F)
theorem plainly (f : FuncId) (fn : Func) (hf : Tryd.pinned.checked.prog.funcNamed "garner/garnerlaw02.FrameSums" = some f) (hfn : Tryd.pinned.checked.prog.funcs[f]? = some fn) :
    false = Tryd.pinned.checked.prog.looks [] ∧ ∀ (j : Nat) t, fn.params[j]? = some t → Tryd.pinned.checked.prog.wantsStandIn t = false := by
  obtain rfl : f = 3 := Option.some.inj ((show Tryd.prog.funcNamed "garner/garnerlaw02.FrameSums" = some 3 by kernel_rfl).symm.trans hf) |>.symm
  obtain rfl : fn = Tryd.f3 := (Option.some.inj (Tryd.func3.symm.trans hfn)).symm
  refine ⟨by kernel_rfl, fun j t ht => ?_⟩
  rw [Tryd.params3] at ht
  have hm : t ∈ [22] := by simpa using Array.mem_of_getElem? ht
  have hall : ([22].all fun u => !Tryd.prog.wantsStandIn u) = true := by kernel_rfl
  exact (show Tryd.prog.wantsStandIn t = false by simpa using List.all_eq_true.1 hall t hm)
theorem proved : Rows.FrameSumsUptoCardSaid :=
  Claim7.holds_tied_plain_at .later [] _ _ _ _ over (fun _ h => by cases h) (by kernel_rfl) (fun _ h => by cases h) frameSumsUpto_row_tie rfl ⟨rfl, rfl⟩ (by kernel_rfl) rfl plainly (by kernel_rfl)

end Go.Proofs.YtajphomdbdgmbaaDoor.frameSums
