/- PackAll's walk: for all lists the statement's function answers true and leaves its argument as it was. Conditions: PackAny and UnAny for the program. -/
import Derived.Test.YtokmoodiolnfiaaBulk
import Derived.Test.YtokmoodiolnfiaaOpen
import Derived.Test.YtokmoodiolnfiaaUnpack
import Derived.Test.YtokmoodiolnfiaaPack
import Derived.Test.YtokmoodiolnfiaaAwake3
namespace Go.Proofs.Ytokmoodiolnfiaa.packAll
open Go Go.ChangeShapes Go.WideShapes Go.ChangeAt Go.RowKit Words Plain Put RefPut App PkPlain PkSpec UnSpec Need RefPk RefUn RefUn2 PkHas PkOne PkAgain Awake3 Ope Bulk

/-- What Pack and the document's Pack answer: bytes F and an error E. -/
def FE (F : List UInt8) (E : Int) (w : World) (e : Ending) (w' : World) : Prop := ∃ A n c, e = .returned (.tuple #[.slice A n c, .int .i64 E]) ∧ n = F.length ∧ Rd w' w'.heap.size A (F.map B8) ∧ Below w.heap.size w w'
theorem post_fe (l : List UInt64) : ∃ (F : List UInt8) (E : Int), ∀ (w : World) (e : Ending) (w' : World), PackPost l w e w' → FE F E w e w' := by
  by_cases h1 : 65536 < l.length
  · refine ⟨[], 3, ?_⟩
    rintro w e w' (⟨_, rfl, hb⟩ | ⟨h, _⟩ | ⟨h, _⟩)
    · exact ⟨none, 0, 0, rfl, rfl, Rd.nil_, hb⟩
    · omega
    · omega
  · by_cases h2 : Rising l
    · refine ⟨pk l, 0, ?_⟩
      rintro w e w' (⟨h, _⟩ | ⟨_, h, _⟩ | ⟨_, _, v, rfl, hown, hb⟩)
      · omega
      · exact absurd h2 h
      · obtain ⟨A, c, rfl, _, _, _⟩ := own_slice hown
        exact ⟨A, _, c, rfl, rfl, Rd.of_own hown, hb⟩
    · refine ⟨[], 1, ?_⟩
      rintro w e w' (⟨h, _⟩ | ⟨_, _, rfl, hb⟩ | ⟨_, h, _⟩)
      · omega
      · exact ⟨none, 0, 0, rfl, rfl, Rd.nil_, hb⟩
      · exact absurd h h2

set_option maxHeartbeats 800000 in
set_option maxRecDepth 100000 in
theorem walk0 (HP : PackAny) (HU : UnAny) (w : World) (l : List UInt64) (A : Option Addr) (c : Nat) (hc : l.length ≤ c) (hm : c ≤ maxLen) (hr : Rd w w.heap.size A (l.map B64)) :
    Calls Try.prog 3 #[.slice A l.length c] w fun e w' => e = .returned (.bool true) ∧ Below w.heap.size w w' := by
  obtain ⟨F, E, hFE⟩ := post_fe l
  have H1 := fun w' (hb : Below w.heap.size w w') => Lib.hid ((HP l A _ c w' rfl ((hr.below hb).more hb.size) hc hm).mono (hFE w'))
  have H2 := fun w' (hb : Below w.heap.size w w') => Lib.hid ((refpk_any l A _ c w' rfl ((hr.below hb).more hb.size) hc hm).mono (hFE w'))
  have HA := Lib.hid (awake_any HP HU w)
  clear hFE hr hm hc HP HU
  unfold FE at H1 H2
  go_enter Try.func3, Try.ntmps3
  go_wp2_with fail
  refine HA.out.mono ?_
  rintro e w1 ⟨rfl, hb1⟩
  have HB1 := Lib.hid hb1
  clear hb1 HA
  go_wp2_with fail
  refine (H1 w1 HB1.out).out.mono ?_
  rintro e w2 ⟨A2, n2, c2, rfl, hn2, hr2, hb2⟩
  have HB2 := Lib.hid (HB1.out.trans (hb2.mono HB1.out.size))
  have HR2 := Lib.hid hr2
  have HN2 := Lib.hid hn2
  clear hb2 hr2 hn2
  go_wp2_with fail
  refine (H2 w2 HB2.out).out.mono ?_
  rintro e w3 ⟨A3, n3, c3, rfl, hn3, hr3, hb3⟩
  have HB3 := Lib.hid (HB2.out.trans (hb3.mono HB2.out.size))
  have s2 := run_str w3 A2 n2 c2 HN2.out (HR2.out.below hb3)
  have s3 := run_str w3 A3 n3 c3 hn3 hr3
  clear hb3 hr3 hn3 H1 H2
  have e1 : (F == F) = true := by simp
  have e2 : (E == E) = true := by simp
  go_wp2
  go_ret
  exact ⟨rfl, HB3.out⟩
theorem walk (w : World) (l : List UInt64) (A : Option Addr) (c : Nat) (hc : l.length ≤ c) (hm : c ≤ maxLen) (hr : Rd w w.heap.size A (l.map B64)) :
    Calls Try.prog 3 #[.slice A l.length c] w fun e w' => e = .returned (.bool true) ∧ Below w.heap.size w w' :=
  walk0 Pack.pack_any Unpack.un_any w l A c hc hm hr
theorem own : ownKnob Try.prog.godebug = none := by kernel_rfl
theorem laid : laidOutB Try.prog = true := by kernel_rfl
theorem allRead : (Try.f3.params.toList.all fun t => Try.prog.readableRec t && decide (t < Try.prog.types.size)) = true := by kernel_rfl
theorem contract (H : Type) (enc : TypeId × Value → H) (W : World) (base : Nat) (args : Array Value) (ds gs : List (DataW H)) (before : List MemPlace)
    (hval : ∀ (j : Nat) t v, Try.f3.params[j]? = some t → args[j]? = some v → Value.okWide Try.prog W .any base t v)
    (hW : DataW.Whole enc Try.prog Try.f3.params.toList Rows.packAllSpec.vars false W args.toList ds gs before) :
    Calls Try.prog 3 args W fun e W' => ∃ v, e = .returned v ∧ Rows.packAllSpec.post enc Try.prog Try.f3 false true false false W args v W' := by
  have hW' := hW
  obtain ⟨p, q, hA0, hV, rfl, hfz, hnd⟩ := hW
  obtain ⟨rfl, rfl⟩ := trodVars_none hV
  have hlt : ∀ x ∈ p, x.block < W.heap.size := fun x hx => hW'.lt x (by simp [hx])
  have hA : DataW.TrodAll enc Try.prog W 0 (fun _ => true) true Try.f3.params.toList args.toList ds p := hA0
  rw [Try.params3] at hA hval
  obtain ⟨v0, vs0, d0, ds0, p0, q0, hargs, rfl, rfl, h0, r0⟩ := trodAll_cons hA
  obtain ⟨rfl, rfl, rfl⟩ := trodAll_nil r0
  obtain rfl : args = #[v0] := by cases args; simp_all
  obtain ⟨A0, l0, c0, rfl, hl0, hm0, hr0, hd0⟩ := open_u64s Try.underlying22 Try.underlying34 (by kernel_rfl) (hval 0 22 v0 rfl rfl) h0 (fun x hx => hlt x (by simp [hx]))
  refine (walk W l0 A0 c0 hl0 hm0 hr0).mono fun e W' ⟨he, hb⟩ => ?_
  subst he
  exact ⟨_, rfl, law_post laid (fun t ht => by have h := List.all_eq_true.1 allRead t ht; rw [Bool.and_eq_true, decide_eq_true_eq] at h; exact h) rfl (by kernel_rfl) Try.underlying4 rfl hW' hb⟩
set_option maxRecDepth 100000 in
theorem lifted (os : Os) (started : os.Started) (H : Type) (enc : TypeId × Value → H) :
    ReturnsInHanded {} Try.checked os 3 .any (Rows.packAllSpec.pre6 enc Try.prog Try.f3 Rows.packAllRow.domain false) (Rows.packAllSpec.post enc Try.prog Try.f3 false true false false) := by
  refine returnsInHanded_of_change (C := Try.checked) own started (by kernel_rfl) Try.func3
    (ChangeSpec.witness6 (enc := enc) (C := Try.checked) false ⟨#[], #[.slice none 0 0], []⟩ 8 (by kernel_rfl) (by kernel_rfl) (by kernel_rfl) (by kernel_rfl)) ?_
  intro W base args ds gs before hval hW _ _
  exact contract H enc W base args ds gs before hval hW
theorem over : Rows.packAllRow.holds Try.pinned (OpenSpec.ofChange Rows.packAllSpec) :=
  OpenClaim.holds_of_wide 3 Try.f3 rfl rfl rfl rfl rfl rfl rfl ⟨rfl, rfl, rfl, rfl, rfl⟩ rfl rfl rfl rfl rfl (by kernel_rfl) Try.func3 (by kernel_rfl)
    (of_decide_eq_true (by kernel_rfl)) (by unfold Func.isWrapper; first | (rw [if_pos (by decide +kernel)]; kernel_rfl) | (rw [if_neg (by decide +kernel)]; exact ⟨rfl, rfl⟩))
    (fun os started H enc _ => lifted os started H enc)
theorem proved : Rows.PackAllSaid := over

end Go.Proofs.Ytokmoodiolnfiaa.packAll
