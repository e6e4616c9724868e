/- VarintPuts: for all lists of uint64 whose bulk is at most 1048576 the statement's function answers true and leaves its argument as it was. Condition: that bound. -/
import Derived.Test.YtinbohfglccagaaAwake
import Derived.Test.YtinbohfglccagaaRefPut
import Derived.Test.YtinbohfglccagaaOpen
import Derived.Test.YtinbohfglccagaaBulk
import Derived.JoinedCond
import Derived.Deep.RegionWith
import Derived.Deep.RegionHeld3
namespace Go.Proofs.Ytinbohfglccagaa.varintPuts
open Go.ChangeShapes Go.WideShapes Go.ChangeAt Go.RowKit Words Plain Put RefPut Awake Ope Bulk

/-- Put, told by what its answer reads as: at every later world, draws or not. -/
def Gives (w : World) (s : List UInt8) (e : Ending) (w' : World) : Prop := ∃ A n c, e = .returned (.slice A n c) ∧ n = s.length ∧ Rd w' w'.heap.size A (s.map B8) ∧ Below w.heap.size w w'
theorem gives_of {w w' : World} {s : List UInt8} {e : Ending} (h : ∃ v, e = .returned v ∧ w'.ownsRow w.heap.size 5 1 v s.length (s.map B8) ∧ Below w.heap.size w w') : Gives w s e w' := by
  obtain ⟨v, rfl, hown, hb⟩ := h
  obtain ⟨A, c, rfl, _⟩ := own_slice hown
  exact ⟨A, _, c, rfl, rfl, Rd.of_own hown, hb⟩

theorem below_drew {w w1 : World} (h : Below w.drew.heap.size w.drew w1) : Below w.heap.size w w1 := ⟨h.os, h.tape, h.output, h.size, h.block⟩
theorem run_str {s : List UInt8} {B : Nat} (w : World) (A : Option Addr) (n c : Nat) (hn : n = s.length) (hr : Rd w B A (s.map B8)) : (convert 24 9 (.slice A n c)).run Try.prog w = .ok (.string ⟨s.toArray⟩) w := by
  subst hn
  exact run_bytes w 24 9 5 Try.underlying24 Try.underlying5 Try.underlying9 A s c B hr

set_option maxHeartbeats 800000 in
theorem walk (w : World) (l : List UInt64) (A : Option Addr) (c : Nat) (hc : l.length ≤ c) (hm : c ≤ maxLen) (hr : Rd w w.heap.size A (l.map B64)) (hb : l.length ≤ 1048576) :
    Calls Try.prog 3 #[.slice A l.length c] w fun e w' => e = .returned (.bool true) ∧ Below w.heap.size w w' := by
  have H1 : Hid (∀ W : World, Rd W W.heap.size A (l.map B64) → Calls Try.prog 10 #[.slice A l.length c] W (Gives W (encs l))) := fun W hW => (put_any l A c W hW (by omega)).mono fun _ _ h => gives_of h
  have H2 : Hid (∀ W : World, Rd W W.heap.size A (l.map B64) → Calls Try.prog 11 #[.slice A l.length c] W (Gives W (encs l))) := fun W hW => (refput_any l A c W hW (by omega)).mono fun _ _ h => gives_of h
  have HR := Lib.hid hr
  clear hr
  go_enter Try.func3, Try.ntmps3
  go_wp2
  go_region_with (first
    | (go_at_call 9; refine (awake_any _).mono ?_; rintro e w1 ⟨rfl, hb1⟩; have HB1 := Lib.hid (below_drew hb1); clear hb1)
    | (go_at_call 10; refine (H1.out _ ((HR.out.below HB1.out).more HB1.out.size)).mono ?_; rintro e w2 ⟨A2, n2, c2, rfl, hn2, hrd2, hb2⟩; have HB2 := Lib.hid (HB1.out.trans (hb2.mono HB1.out.size)); have HN2 := Lib.hid hn2; have HR2 := Lib.hid hrd2; have hcv2 := run_str w2 A2 n2 c2 hn2 hrd2; clear hb2 hn2 hrd2)
    | (go_at_call 11; refine (H2.out _ ((HR.out.below HB2.out).more HB2.out.size)).mono ?_; rintro e w3 ⟨A3, n3, c3, rfl, hn3, hrd3, hb3⟩; have HB3 := Lib.hid (HB2.out.trans (hb3.mono HB2.out.size)); have hcv3 := run_str w3 A3 n3 c3 hn3 hrd3; have hcv2' := run_str w3 A2 n2 c2 HN2.out (HR2.out.below hb3); clear hb3 hn3 hrd3))
  all_goals
    go_wp2
    go_ret
    exact ⟨rfl, HB3.out⟩
theorem own : ownKnob Try.prog.godebug = none := by kernel_rfl
theorem laid : laidOutB Try.prog = true := by kernel_rfl
theorem allRead : (Try.f3.params.toList.all fun t => Try.prog.readableRec t && decide (t < Try.prog.types.size)) = true := by kernel_rfl
theorem contract (H : Type) (enc : TypeId × Value → H) (W : World) (base : Nat) (args : Array Value) (ds gs : List (DataW H)) (before : List MemPlace)
    (hval : ∀ (j : Nat) t v, Try.f3.params[j]? = some t → args[j]? = some v → Value.okWide Try.prog W .any base t v)
    (hW : DataW.Whole enc Try.prog Try.f3.params.toList Rows.varintPutsSpec.vars false W args.toList ds gs before) (hk : Rows.uptoSmall H (ds ++ gs) = true) :
    Calls Try.prog 3 args W fun e W' => ∃ v, e = .returned v ∧ Rows.varintPutsSpec.post enc Try.prog Try.f3 false true false false W args v W' := by
  have hW' := hW
  obtain ⟨p, q, hA0, hV, rfl, hfz, hnd⟩ := hW
  obtain ⟨rfl, rfl⟩ := trodVars_none hV
  have hlt : ∀ x ∈ p, x.block < W.heap.size := fun x hx => hW'.lt x (by simp [hx])
  have hA : DataW.TrodAll enc Try.prog W 0 (fun _ => true) true Try.f3.params.toList args.toList ds p := hA0
  rw [Try.params3] at hA hval
  obtain ⟨v0, vs0, d0, ds0, p0, q0, hargs, rfl, rfl, h0, r0⟩ := trodAll_cons hA
  obtain ⟨rfl, rfl, rfl⟩ := trodAll_nil r0
  obtain rfl : args = #[v0] := by cases args; simp_all
  have hkb : Rows.uptoBulkAll ([d0] ++ []) ≤ 1048576 := of_decide_eq_true hk
  obtain ⟨A0, l0, c0, rfl, hl0, hm0, hr0, hd0⟩ := open_u64s Try.underlying22 Try.underlying29 (by kernel_rfl) (hval 0 22 v0 rfl rfl) h0 (fun x hx => hlt x (by simp [hx]))
  have hb0 : l0.length ≤ 1048576 := by have h := bulk_len hd0; rw [List.length_map] at h; simp only [List.append_nil, Rows.uptoBulkAll] at hkb; omega
  refine (walk W l0 A0 c0 hl0 hm0 hr0 hb0).mono fun e W' ⟨he, hb⟩ => ?_
  subst he
  exact ⟨_, rfl, law_post laid (fun t ht => by have h := List.all_eq_true.1 allRead t ht; rw [Bool.and_eq_true, decide_eq_true_eq] at h; exact h) rfl (by kernel_rfl) Try.underlying4 rfl hW' hb⟩
set_option maxRecDepth 100000 in
theorem lifted (os : Os) (started : os.Started) (H : Type) (enc : TypeId × Value → H) (F : Stop.Interp) :
    ReturnsInHanded {} Try.checked os 3 .any ((Rows.OpenSpec.upto Rows.varintPutsSpec).pre6 enc Try.prog Try.f3 Rows.varintPutsUptoRow.domain false) (((Rows.OpenSpec.upto Rows.varintPutsSpec).at F).post enc Try.prog Try.f3 false true false false) := by
  refine returnsInHanded_of_cond (C := Try.checked) (s := Rows.OpenSpec.upto Rows.varintPutsSpec) (k := Rows.uptoSmall) rfl own started (by kernel_rfl) Try.func3
    (OpenSpec.witness (enc := enc) (C := Try.checked) (s := Rows.OpenSpec.upto Rows.varintPutsSpec) (k := Rows.uptoSmall) rfl false ⟨#[], #[.slice none 0 0], []⟩ 8 (by kernel_rfl) (by kernel_rfl) (by kernel_rfl)
      (x := ([.nil], [], [])) (by kernel_rfl) rfl (by kernel_rfl)) ?_
  intro W base args ds gs before hval hW _ hk _
  exact contract H enc W base args ds gs before hval hW hk
theorem over : Rows.varintPutsUptoRow.holds Try.pinned (Rows.OpenSpec.upto Rows.varintPutsSpec) :=
  OpenClaim.holds_of_cond 3 Try.f3 rfl rfl rfl rfl rfl rfl rfl ⟨rfl, rfl, rfl, rfl, rfl⟩ rfl rfl rfl rfl rfl (by kernel_rfl) Try.func3 (by kernel_rfl)
    (of_decide_eq_true (by kernel_rfl)) (by unfold Func.isWrapper; first | (rw [if_pos (by decide +kernel)]; kernel_rfl) | (rw [if_neg (by decide +kernel)]; exact ⟨rfl, rfl⟩))
    (fun os started H enc _ F => lifted os started H enc F)
theorem proved : Rows.VarintPutsUptoSaid := over

end Go.Proofs.Ytinbohfglccagaa.varintPuts
