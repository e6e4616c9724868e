/- BloomHas at the statement's own row. -/
import Derived.Test.YteaafkadjglnhaaBlHasW
import Derived.Test.YteaafkadjglnhaaBlOpen
import Derived.Test.YteaafkadjglnhaaBlProg
import Derived.OneCell
import Derived.Test.YteaafkadjglnhaaOpen
import Derived.Test.YteaafkadjglnhaaBulk
namespace Go.Proofs.Yteaafkadjglnhaa.bloomHas
open Go Go.ChangeShapes Go.WideShapes Go.ChangeAt Go.RowKit Words Ope Bulk Less BlSpec BlOpen BlLaw BlHasW BlProg

theorem walk (w : World) (l0 : List (List UInt8)) (A0 : Option Addr) (c0 : Nat) (hl0 : l0.length ≤ c0) (hm0 : c0 ≤ maxLen) (hr0 : Rd w w.heap.size A0 (l0.map S8)) (hg0 : ∀ s ∈ l0, s.length ≤ maxLen) (hb0 : weightOf l0 ≤ 1048576)
    (a1 : Int) (_w1 : (Lit.int .i64 a1).wf = true) (l2 : List UInt8) (A2 : Option Addr) (c2 : Nat) (hl2 : l2.length ≤ c2) (hm2 : c2 ≤ maxLen) (hr2 : Rd w w.heap.size A2 (l2.map B8)) (hb2 : l2.length ≤ 1048576) :
    Calls Try.prog 4 #[.slice A0 l0.length c0, .int .i64 a1, .slice A2 l2.length c2] w fun e w' => e = .returned (.bool true) ∧ Below w.heap.size w w' :=
  has_any bloom w l0 A0 c0 hr0 hl0 hm0 (Nat.le_trans (weight_len l0) hb0) hg0 a1 l2 A2 c2 hr2 hl2 hm2 hb2
theorem own : ownKnob Try.prog.godebug = none := by kernel_rfl
theorem laid : laidOutB Try.prog = true := by kernel_rfl
theorem allRead : (Try.f4.params.toList.all fun t => Try.prog.readableRec t && decide (t < Try.prog.types.size)) = true := by kernel_rfl
set_option maxRecDepth 100000 in
theorem contract (H : Type) (enc : TypeId × Value → H) (W : World) (base : Nat) (args : Array Value) (ds gs : List (DataW H)) (before : List MemPlace)
    (hval : ∀ (j : Nat) t v, Try.f4.params[j]? = some t → args[j]? = some v → Value.okWide Try.prog W .any base t v)
    (hW : DataW.Whole enc Try.prog Try.f4.params.toList Rows.bloomHasSpec.vars false W args.toList ds gs before) (hk : Rows.uptoSmall H (ds ++ gs) = true) :
    Calls Try.prog 4 args W fun e W' => ∃ v, e = .returned v ∧ Rows.bloomHasSpec.post enc Try.prog Try.f4 false true false false W args v W' := by
  have hW' := hW
  obtain ⟨p, q, hA0, hV, rfl, hfz, hnd⟩ := hW
  obtain ⟨rfl, rfl⟩ := trodVars_none hV
  have hlt : ∀ x ∈ p, x.block < W.heap.size := fun x hx => hW'.lt x (by simp [hx])
  have hA : DataW.TrodAll enc Try.prog W 0 (fun _ => true) true Try.f4.params.toList args.toList ds p := hA0
  rw [Try.params4] at hA hval
  obtain ⟨v0, vs0, d0, ds0, p0, q0, hargs, rfl, rfl, h0, r0⟩ := trodAll_cons hA
  obtain ⟨v1, vs1, d1, ds1, p1, q1, rfl, rfl, rfl, h1, r1⟩ := trodAll_cons r0
  obtain ⟨v2, vs2, d2, ds2, p2, q2, rfl, rfl, rfl, h2, r2⟩ := trodAll_cons r1
  obtain ⟨rfl, rfl, rfl⟩ := trodAll_nil r2
  obtain rfl : args = #[v0, v1, v2] := by cases args; simp_all
  have hkb : Rows.uptoBulkAll ([d0, d1, d2] ++ []) ≤ 1048576 := of_decide_eq_true hk
  obtain ⟨A0, l0, c0, rfl, hl0, hm0, hr0, hg0, hd0⟩ := open_strs (hval 0 22 v0 rfl rfl) h0
  have hb0 : weightOf l0 ≤ 1048576 := by have h := strs_bulk hd0; simp only [List.append_nil, Rows.uptoBulkAll] at hkb; omega
  obtain ⟨a1, rfl, rfl, rfl, w1⟩ := open_int Try.underlying3 (hval 1 3 v1 rfl rfl) h1
  obtain ⟨A2, l2, c2, rfl, hl2, hm2, hr2, hd2⟩ := open_u8s Try.underlying23 Try.underlying5 (by kernel_rfl) (hval 2 23 v2 rfl rfl) h2 (fun x hx => hlt x (by simp [hx]))
  have hb2 : l2.length ≤ 1048576 := by have h := bulk_len hd2; rw [List.length_map] at h; simp only [List.append_nil, Rows.uptoBulkAll] at hkb; omega
  refine (walk W l0 A0 c0 hl0 hm0 hr0 hg0 hb0 a1 w1 l2 A2 c2 hl2 hm2 hr2 hb2).mono fun e W' ⟨he, hb⟩ => ?_
  subst he
  exact ⟨_, rfl, law_post laid (fun t ht => by have h := List.all_eq_true.1 allRead t ht; rw [Bool.and_eq_true, decide_eq_true_eq] at h; exact h) rfl (by kernel_rfl) Try.underlying4 rfl hW' hb⟩
set_option maxRecDepth 100000 in
theorem lifted (os : Os) (started : os.Started) (H : Type) (enc : TypeId × Value → H) (F : Stop.Interp) :
    ReturnsInHanded {} Try.checked os 4 .any ((Rows.OpenSpec.upto Rows.bloomHasSpec).pre6 enc Try.prog Try.f4 Rows.bloomHasUptoRow.domain false) (((Rows.OpenSpec.upto Rows.bloomHasSpec).at F).post enc Try.prog Try.f4 false true false false) := by
  refine returnsInHanded_of_cond (C := Try.checked) (s := Rows.OpenSpec.upto Rows.bloomHasSpec) (k := Rows.uptoSmall) rfl own started (by kernel_rfl) Try.func4
    (OpenSpec.witness (enc := enc) (C := Try.checked) (s := Rows.OpenSpec.upto Rows.bloomHasSpec) (k := Rows.uptoSmall) rfl false ⟨#[], #[.slice none 0 0, .int .i64 0, .slice none 0 0], []⟩ 8 (by kernel_rfl) (by kernel_rfl) (by kernel_rfl)
      (x := ([.nil, .lit (.int .i64 0), .nil], [], [])) (by kernel_rfl) rfl (by kernel_rfl)) ?_
  intro W base args ds gs before hval hW _ hk _
  exact contract H enc W base args ds gs before hval hW hk
theorem over : Rows.bloomHasUptoRow.holds Try.pinned (Rows.OpenSpec.upto Rows.bloomHasSpec) :=
  OpenClaim.holds_of_cond 4 Try.f4 rfl rfl rfl rfl rfl rfl rfl ⟨rfl, rfl, rfl, rfl, rfl⟩ rfl rfl rfl rfl rfl (by kernel_rfl) Try.func4 (by kernel_rfl)
    (of_decide_eq_true (by kernel_rfl)) (by unfold Func.isWrapper; first | (rw [if_pos (by decide +kernel)]; kernel_rfl) | (rw [if_neg (by decide +kernel)]; exact ⟨rfl, rfl⟩))
    (fun os started H enc _ F => lifted os started H enc F)
theorem proved : Rows.BloomHasUptoSaid := over

end Go.Proofs.Yteaafkadjglnhaa.bloomHas
