/- PostAlgebra: for all three lists of numbers whose bulk is at most 1048576 the statement's function answers true and leaves its arguments as they were. Condition: that bound. -/
import Derived.Test.YtfojpbbmicmooaaPsAlgebraW
import Derived.Test.YtfojpbbmicmooaaPsProg
import Derived.Test.YtfojpbbmicmooaaOpens
namespace Go.Proofs.Ytfojpbbmicmooaa.postAlgebra
open Go Go.ChangeShapes Go.WideShapes Go.ChangeAt Go.RowKit Words Ope Bulk

theorem walk (w : World) (la : List UInt64) (Aa : Option Addr) (ca : Nat) (hca : la.length ≤ ca) (hma : ca ≤ maxLen) (hra : Rd w w.heap.size Aa (la.map B64)) (hla : la.length ≤ 1048576)
    (lb : List UInt64) (Ab : Option Addr) (cb : Nat) (hcb : lb.length ≤ cb) (hmb : cb ≤ maxLen) (hrb : Rd w w.heap.size Ab (lb.map B64)) (hlb : lb.length ≤ 1048576)
    (lc : List UInt64) (Ac : Option Addr) (cc : Nat) (hcc : lc.length ≤ cc) (hmc : cc ≤ maxLen) (hrc : Rd w w.heap.size Ac (lc.map B64)) (hlc : lc.length ≤ 1048576) :
    Calls Try.prog 4 #[.slice Aa la.length ca, .slice Ab lb.length cb, .slice Ac lc.length cc] w fun e w' => e = .returned (.bool true) ∧ Below w.heap.size w w' :=
  PsAlgebraW.algebra_any PsProg.post w ⟨Aa, ca, la⟩ ⟨Ab, cb, lb⟩ ⟨Ac, cc, lc⟩ ⟨hra, hca, hma⟩ ⟨hrb, hcb, hmb⟩ ⟨hrc, hcc, hmc⟩ (by show la.length + lb.length + lc.length ≤ _; omega)
theorem own : ownKnob Try.prog.godebug = none := by kernel_rfl
theorem laid : laidOutB Try.prog = true := by kernel_rfl
theorem allRead : (Try.f4.params.toList.all fun t => Try.prog.readableRec t && decide (t < Try.prog.types.size)) = true := by kernel_rfl
set_option maxRecDepth 100000 in
theorem contract (H : Type) (enc : TypeId × Value → H) (W : World) (base : Nat) (args : Array Value) (ds gs : List (DataW H)) (before : List MemPlace)
    (hval : ∀ (j : Nat) t v, Try.f4.params[j]? = some t → args[j]? = some v → Value.okWide Try.prog W .any base t v)
    (hW : DataW.Whole enc Try.prog Try.f4.params.toList Rows.postAlgebraSpec.vars false W args.toList ds gs before) (hk : Rows.uptoSmall H (ds ++ gs) = true) :
    Calls Try.prog 4 args W fun e W' => ∃ v, e = .returned v ∧ Rows.postAlgebraSpec.post enc Try.prog Try.f4 false true false false W args v W' := by
  have hW' := hW
  obtain ⟨p, q, hA0, hV, rfl, hfz, hnd⟩ := hW
  obtain ⟨rfl, rfl⟩ := trodVars_none hV
  have hlt : ∀ x ∈ p, x.block < W.heap.size := fun x hx => hW'.lt x (by simp [hx])
  have hA : DataW.TrodAll enc Try.prog W 0 (fun _ => true) true Try.f4.params.toList args.toList ds p := hA0
  rw [Try.params4] at hA hval
  obtain ⟨v0, vs0, d0, ds0, p0, q0, hargs, rfl, rfl, h0, r0⟩ := trodAll_cons hA
  obtain ⟨v1, vs1, d1, ds1, p1, q1, rfl, rfl, rfl, h1, r1⟩ := trodAll_cons r0
  obtain ⟨v2, vs2, d2, ds2, p2, q2, rfl, rfl, rfl, h2, r2⟩ := trodAll_cons r1
  obtain ⟨rfl, rfl, rfl⟩ := trodAll_nil r2
  obtain rfl : args = #[v0, v1, v2] := by cases args; simp_all
  have hkb : Rows.uptoBulkAll ([d0, d1, d2] ++ []) ≤ 1048576 := of_decide_eq_true hk
  obtain ⟨A0, l0, c0, rfl, hl0, hm0, hr0, hd0⟩ := open_u64s Try.underlying22 Try.underlying31 (by kernel_rfl) (hval 0 22 v0 rfl rfl) h0 (fun x hx => hlt x (by simp [hx]))
  have hb0 : l0.length ≤ 1048576 := by have h := bulk_len hd0; rw [List.length_map] at h; simp only [List.append_nil, Rows.uptoBulkAll] at hkb; omega
  obtain ⟨A1, l1, c1, rfl, hl1, hm1, hr1, hd1⟩ := open_u64s Try.underlying22 Try.underlying31 (by kernel_rfl) (hval 1 22 v1 rfl rfl) h1 (fun x hx => hlt x (by simp [hx]))
  have hb1 : l1.length ≤ 1048576 := by have h := bulk_len hd1; rw [List.length_map] at h; simp only [List.append_nil, Rows.uptoBulkAll] at hkb; omega
  obtain ⟨A2, l2, c2, rfl, hl2, hm2, hr2, hd2⟩ := open_u64s Try.underlying22 Try.underlying31 (by kernel_rfl) (hval 2 22 v2 rfl rfl) h2 (fun x hx => hlt x (by simp [hx]))
  have hb2 : l2.length ≤ 1048576 := by have h := bulk_len hd2; rw [List.length_map] at h; simp only [List.append_nil, Rows.uptoBulkAll] at hkb; omega
  refine (walk W l0 A0 c0 hl0 hm0 hr0 hb0 l1 A1 c1 hl1 hm1 hr1 hb1 l2 A2 c2 hl2 hm2 hr2 hb2).mono fun e W' ⟨he, hb⟩ => ?_
  subst he
  exact ⟨_, rfl, law_post laid (fun t ht => by have h := List.all_eq_true.1 allRead t ht; rw [Bool.and_eq_true, decide_eq_true_eq] at h; exact h) rfl (by kernel_rfl) Try.underlying4 rfl hW' hb⟩
set_option maxRecDepth 100000 in
theorem lifted (os : Os) (started : os.Started) (H : Type) (enc : TypeId × Value → H) (F : Stop.Interp) :
    ReturnsInHanded {} Try.checked os 4 .any ((Rows.OpenSpec.upto Rows.postAlgebraSpec).pre6 enc Try.prog Try.f4 Rows.postAlgebraUptoRow.domain false) (((Rows.OpenSpec.upto Rows.postAlgebraSpec).at F).post enc Try.prog Try.f4 false true false false) := by
  refine returnsInHanded_of_cond (C := Try.checked) (s := Rows.OpenSpec.upto Rows.postAlgebraSpec) (k := Rows.uptoSmall) rfl own started (by kernel_rfl) Try.func4
    (OpenSpec.witness (enc := enc) (C := Try.checked) (s := Rows.OpenSpec.upto Rows.postAlgebraSpec) (k := Rows.uptoSmall) rfl false ⟨#[], #[.slice none 0 0, .slice none 0 0, .slice none 0 0], []⟩ 8 (by kernel_rfl) (by kernel_rfl) (by kernel_rfl)
      (x := ([.nil, .nil, .nil], [], [])) (by kernel_rfl) rfl (by kernel_rfl)) ?_
  intro W base args ds gs before hval hW _ hk _
  exact contract H enc W base args ds gs before hval hW hk
theorem over : Rows.postAlgebraUptoRow.holds Try.pinned (Rows.OpenSpec.upto Rows.postAlgebraSpec) :=
  OpenClaim.holds_of_cond 4 Try.f4 rfl rfl rfl rfl rfl rfl rfl ⟨rfl, rfl, rfl, rfl, rfl⟩ rfl rfl rfl rfl rfl (by kernel_rfl) Try.func4 (by kernel_rfl)
    (of_decide_eq_true (by kernel_rfl)) (by unfold Func.isWrapper; first | (rw [if_pos (by decide +kernel)]; kernel_rfl) | (rw [if_neg (by decide +kernel)]; exact ⟨rfl, rfl⟩))
    (fun os started H enc _ F => lifted os started H enc F)
theorem proved : Rows.PostAlgebraUptoSaid := over

end Go.Proofs.Ytfojpbbmicmooaa.postAlgebra
