/- WalReplay: for all inputs whose bulk is at most 1048576 the statement's function answers true and leaves its arguments as they were. Conditions: that bound; the program's table holds what the program's text lays (tied by the card). -/
import Derived.Test.YtapbjmbakpopcaaDoorWlReplayW
import Derived.Test.YtapbjmbakpopcaaDoorWlOpen
import Derived.Test.YtapbjmbakpopcaaDoorWlProg
import Derived.Test.YtapbjmbakpopcaaDoorOpens
import Derived.Test.YtapbjmbakpopcaaDoorCards
import Derived.Test.YtapbjmbakpopcaaDoorTie
import Derived.Deep.DeepHandedRow
import Derived.LaidMore
import Derived.LaidSub
namespace Go.Proofs.YtapbjmbakpopcaaDoor.walReplay
open Go Go.ChangeShapes Go.WideShapes Go.ChangeAt Go.RowKit Words DkSpec PdRes Parts5 WlLaw WlSt WlAwake Ope WlOpen Bulk WlProg

set_option maxRecDepth 100000 in
theorem walk (w : World) (hL : WlTab.Lays w w.heap.size) (pl : List Part) (Ap : Option Addr) (cp : Nat) (hcp : pl.length ≤ cp) (hmp : cp ≤ maxLen) (hrp : Rd w w.heap.size Ap (pl.map SV)) (hgp : ∀ q ∈ pl, Parts5.Good w w.heap.size q) (hb : (all pl).length + pl.length ≤ 1048576)
    (sy : List UInt8) (As : Option Addr) (cs : Nat) (hcs : sy.length ≤ cs) (hms : cs ≤ maxLen) (hs : Rd w w.heap.size As (sy.map B8)) (_ : sy.length ≤ 1048576)
    (at_ : Int) (Ak : Option Addr) (ks : List Int) (ck : Nat) (h64 : In64 at_) (hck : ks.length ≤ ck) (hmk : ck ≤ maxLen) (hk : Rd w w.heap.size Ak (ks.map I64)) (hks : ∀ k ∈ ks, In64 k) :
    Calls Tryd.prog 3 #[.slice Ap pl.length cp, .slice As sy.length cs, .agg #[.int .i64 at_, .slice Ak ks.length ck]] w fun e w' => e = .returned (.bool true) ∧ Below w.heap.size w w' := by
  have hal : Below w.heap.size w (w.alloc (.cells #[.int .i64 at_, .slice Ak ks.length ck] 26)) := (Below.refl _ w).alloc (Nat.le_refl _) _
  have hmk0 := WlAwake.marked w #[.int .i64 at_, .slice Ak ks.length ck] 26 (0, 0)
  have H1 := Lib.hid (awake_any wal _ (laid_keep hL hal))
  have H2 : Hid (∀ w1, Below w.heap.size w w1 → _) := Lib.hid fun w1 (hb1 : Below w.heap.size w w1) =>
    WlReplayW.replay_any wal w1 (laid_keep hL hb1) pl Ap cp ((show Ps w Ap pl.length cp pl from ⟨rfl, hcp, hmp, hrp, hgp⟩).below hb1) sy As cs ((hs.below hb1).more hb1.size) hcs hms at_ h64 ks Ak ck ((hk.below hb1).more hb1.size) hck hmk hks hb
  have HK : Hid (∀ w1, Below (w.alloc (.cells #[.int .i64 at_, .slice Ak ks.length ck] 26)).heap.size (w.alloc (.cells #[.int .i64 at_, .slice Ak ks.length ck] 26)) w1 → w1.cell? ⟨w.heap.size, 0, none⟩ = some (.int .i64 at_) ∧ w1.cell? ⟨w.heap.size, 1, none⟩ = some (.slice Ak ks.length ck)) := Lib.hid fun w1 hb1 => by
    obtain ⟨b, o, e, hb', hc⟩ := hmk0.below hb1 (by simp)
    cases e
    exact ⟨hc 0 _ rfl, hc 1 _ rfl⟩
  have HAL := Lib.hid hal
  clear hL hrp hgp hs hk hks hal hmk0
  go_enter Tryd.func3, Tryd.ntmps3
  go_wp2_with fail
  refine H1.out.mono ?_
  rintro e w1 ⟨rfl, hb1⟩
  have HB := Lib.hid (HAL.out.trans (hb1.mono HAL.out.size))
  have H3 := Lib.hid (H2.out w1 HB.out)
  obtain ⟨k0, k1⟩ := HK.out w1 hb1
  clear hb1 H1 H2 HK
  go_wp2_with fail
  refine H3.out.mono ?_
  rintro e w2 ⟨rfl, hb2⟩
  have HB2 := Lib.hid (HB.out.trans (hb2.mono HB.out.size))
  clear hb2 H3
  go_wp2
  go_ret
  exact ⟨rfl, HB2.out⟩
theorem of_laid {W : World} (h : laidMetH Tryd.prog Rows.walReplayUptoRow.laid W) : WlTab.Lays W W.heap.size := WlTab.of_row h (by kernel_rfl) (by kernel_rfl)
theorem own : ownKnob Tryd.prog.godebug = none := by kernel_rfl
theorem laid : laidOutB Tryd.prog = true := by kernel_rfl
theorem allRead : (Tryd.f3.params.toList.all fun t => Tryd.prog.readableRec t && decide (t < Tryd.prog.types.size)) = true := by kernel_rfl
set_option maxRecDepth 100000 in
theorem contract (H : Type) (enc : TypeId × Value → H) (W : World) (base : Nat) (args : Array Value) (ds gs : List (DataW H)) (before : List MemPlace)
    (hval : ∀ (j : Nat) t v, Tryd.f3.params[j]? = some t → args[j]? = some v → Value.okWide Tryd.prog W .any base t v)
    (hW : DataW.Whole enc Tryd.prog Tryd.f3.params.toList Rows.walReplaySpec.vars false W args.toList ds gs before) (hk : Rows.uptoSmall H (ds ++ gs) = true) (hL : laidMetH Tryd.prog Rows.walReplayUptoRow.laid W) :
    Calls Tryd.prog 3 args W fun e W' => ∃ v, e = .returned v ∧ Rows.walReplaySpec.post enc Tryd.prog Tryd.f3 false true false false W args v W' := by
  have hW' := hW
  obtain ⟨p, q, hA0, hV, rfl, hfz, hnd⟩ := hW
  obtain ⟨rfl, rfl⟩ := trodVars_none hV
  have hlt : ∀ x ∈ p, x.block < W.heap.size := fun x hx => hW'.lt x (by simp [hx])
  have hA : DataW.TrodAll enc Tryd.prog W 0 (fun _ => true) true Tryd.f3.params.toList args.toList ds p := hA0
  rw [Tryd.params3] at hA hval
  obtain ⟨v0, vs0, d0, ds0, p0, q0, hargs, rfl, rfl, h0, r0⟩ := trodAll_cons hA
  obtain ⟨v1, vs1, d1, ds1, p1, q1, rfl, rfl, rfl, h1, r1⟩ := trodAll_cons r0
  obtain ⟨v2, vs2, d2, ds2, p2, q2, rfl, rfl, rfl, h2, r2⟩ := trodAll_cons r1
  obtain ⟨rfl, rfl, rfl⟩ := trodAll_nil r2
  obtain rfl : args = #[v0, v1, v2] := by cases args; simp_all
  have hkb : Rows.uptoBulkAll ([d0, d1, d2] ++ []) ≤ 1048576 := of_decide_eq_true hk
  obtain ⟨A0, l0, c0, rfl, hl0, hm0, hr0, hg0, hd0⟩ := open_u8ss Tryd.underlying22 Tryd.underlying23 Tryd.underlying5 (by kernel_rfl) (by kernel_rfl) (hval 0 22 v0 rfl rfl) h0 (fun x hx => hlt x (by simp [hx]))
  have hb0 : (all l0).length + l0.length ≤ 1048576 := by have h := bulk_parts hd0; simp only [List.append_nil, Rows.uptoBulkAll] at hkb; omega
  obtain ⟨A1, l1, c1, rfl, hl1, hm1, hr1, hd1⟩ := open_u8s Tryd.underlying23 Tryd.underlying5 (by kernel_rfl) (hval 1 23 v1 rfl rfl) h1 (fun x hx => hlt x (by simp [hx]))
  have hb1 : l1.length ≤ 1048576 := by have h := bulk_len hd1; rw [List.length_map] at h; simp only [List.append_nil, Rows.uptoBulkAll] at hkb; omega
  obtain ⟨n2, A2, l2, c2, rfl, w2, hl2, hm2, hr2, hk2⟩ := open_crash (hval 2 26 v2 rfl rfl) h2
  refine (walk W (of_laid hL) l0 A0 c0 hl0 hm0 hr0 hg0 hb0 l1 A1 c1 hl1 hm1 hr1 hb1 n2 A2 l2 c2 w2 hl2 hm2 hr2 hk2).mono fun e W' ⟨he, hb⟩ => ?_
  subst he
  exact ⟨_, rfl, law_post laid (fun t ht => by have h := List.all_eq_true.1 allRead t ht; rw [Bool.and_eq_true, decide_eq_true_eq] at h; exact h) rfl (by kernel_rfl) Tryd.underlying4 rfl hW' hb⟩
noncomputable def laidWorld (os : Os) : World := World.doorLaid Tryd.prog 29 os
theorem laid_met (os : Os) : laidMet Tryd.prog Rows.walReplayUptoRow.laid ((laidWorld os).forCall (fun _ _ => 0) ⟨#[], #[.slice none 0 0, .slice none 0 0, .agg #[.int .i64 0, .slice none 0 0]], []⟩).memory :=
  laidMet_of_run' 8 (by kernel_rfl) (by kernel_rfl)
theorem reads (os : Os) {H : Type} (enc : TypeId × Value → H) : ∃ places, DataW.whole enc Tryd.prog ((laidWorld os).forCall (fun _ _ => 0) ⟨#[], #[.slice none 0 0, .slice none 0 0, .agg #[.int .i64 0, .slice none 0 0]], []⟩).memory Tryd.f3.params.toList Rows.walReplaySpec.vars false (#[.slice none 0 0, .slice none 0 0, .agg #[.int .i64 0, .slice none 0 0]] : Array Value).toList 8 = some ([.nil, .nil, .agg [.lit (.int .i64 0), .nil]], [], places) :=
  ⟨[], by kernel_rfl⟩
set_option maxRecDepth 100000 in
theorem lifted (os : Os) (started : os.Started) (H : Type) (enc : TypeId × Value → H) (F : Stop.Interp) :
    ReturnsInHanded {} Tryd.checked os 3 .any ((Rows.OpenSpec.upto Rows.walReplaySpec).preRow enc Tryd.prog Tryd.f3 Rows.walReplayUptoRow.domain false Rows.walReplayUptoRow.laid) (((Rows.OpenSpec.upto Rows.walReplaySpec).at F).post enc Tryd.prog Tryd.f3 false true false false) := by
  obtain ⟨places, hx⟩ := reads os enc
  refine returnsInHanded_of_row (C := Tryd.checked) (s := Rows.OpenSpec.upto Rows.walReplaySpec) own started (by kernel_rfl) Tryd.func3
    (witness_row_at (enc := enc) (C := Tryd.checked) false (laidWorld os) #[.slice none 0 0, .slice none 0 0, .agg #[.int .i64 0, .slice none 0 0]] rfl (by kernel_rfl) (by kernel_rfl) (by kernel_rfl)
      (OpenSpec.preRow_of_cond 8 hx (by kernel_rfl) (fun k hk => by cases hk; kernel_rfl) (by kernel_rfl) (laid_met os))) ?_
  intro W base args ds gs before hval hW _ hcond _ hL _ _
  exact contract H enc W base args ds gs before hval hW (hcond _ rfl) hL
theorem over : Rows.walReplayUptoRow.holds Tryd.pinned (Rows.OpenSpec.upto Rows.walReplaySpec) :=
  OpenClaim.holds_of_cond 3 Tryd.f3 rfl rfl rfl rfl rfl rfl rfl ⟨rfl, rfl, rfl, rfl, rfl⟩ rfl rfl rfl rfl rfl (by kernel_rfl) Tryd.func3 (by kernel_rfl)
    (of_decide_eq_true (by kernel_rfl)) (by unfold Func.isWrapper; first | (rw [if_pos (by decide +kernel)]; kernel_rfl) | (rw [if_neg (by decide +kernel)]; exact ⟨rfl, rfl⟩))
    (fun os started H enc _ F => by rw [OpenClaim.pre_eq_preRow]; exact lifted os started H enc F)
theorem plainly (f : FuncId) (fn : Func) (hf : Tryd.pinned.checked.prog.funcNamed "garner/garnerlaw10.WalReplay" = some f) (hfn : Tryd.pinned.checked.prog.funcs[f]? = some fn) :
    false = Tryd.pinned.checked.prog.looks [] ∧ ∀ (j : Nat) t, fn.params[j]? = some t → Tryd.pinned.checked.prog.wantsStandIn t = false := by
  obtain rfl : f = 3 := Option.some.inj ((show Tryd.prog.funcNamed "garner/garnerlaw10.WalReplay" = some 3 by kernel_rfl).symm.trans hf) |>.symm
  obtain rfl : fn = Tryd.f3 := (Option.some.inj (Tryd.func3.symm.trans hfn)).symm
  refine ⟨by kernel_rfl, fun j t ht => ?_⟩
  rw [Tryd.params3] at ht
  have hm : t ∈ [22, 23, 26] := by simpa using Array.mem_of_getElem? ht
  have hall : ([22, 23, 26].all fun u => !Tryd.prog.wantsStandIn u) = true := by kernel_rfl
  exact (show Tryd.prog.wantsStandIn t = false by simpa using List.all_eq_true.1 hall t hm)
theorem proved : Rows.WalReplayUptoCardSaid :=
  Claim7.holds_tied_plain_at .later [] _ _ _ _ over (fun _ h => by cases h) (by kernel_rfl) (fun _ h => by cases h) walReplayUpto_row_tie rfl ⟨rfl, rfl⟩ (by kernel_rfl) rfl plainly (by kernel_rfl)

end Go.Proofs.YtapbjmbakpopcaaDoor.walReplay
