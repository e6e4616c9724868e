/- PackReads' walk: for all bytes and every place the statement's function answers true and leaves its arguments as they were. Conditions: PackAny and UnAny for the program; at most 2^47 - 1 bytes. -/
import Derived.SizedLaws
import Derived.Test.YtokmoodiolnfiaaBulk
import Derived.Test.YtokmoodiolnfiaaOpen
import Derived.Test.YtokmoodiolnfiaaUnpack
import Derived.Test.YtokmoodiolnfiaaPack
import Derived.Test.YtokmoodiolnfiaaAwake3
namespace Go.Proofs.Ytokmoodiolnfiaa.packReads
open Go Go.ChangeShapes Go.WideShapes Go.ChangeAt Go.RowKit Words Plain Put RefPut App PkPlain PkSpec UnSpec Need RefPk RefUn RefUn2 PkHas PkOne PkAgain Awake3 Ope Bulk

def intOf : Value → Int
  | .int _ x => x
  | _ => 0
def Rel (m : Int) (w : World) (v : Value) (wr : World) : Prop := ∃ k : Int, -1 ≤ k ∧ k ≤ m + 2 ∧ v = .int .i64 k ∧ Below w.heap.size w wr

set_option maxHeartbeats 800000 in
set_option maxRecDepth 100000 in
theorem walk0 (HP : PackAny) (HU : UnAny) (w : World) (l : List UInt8) (A : Option Addr) (c : Nat) (hc : l.length ≤ c) (hm : c ≤ maxLen) (hr : Rd w w.heap.size A (l.map B8)) (hlen : l.length ≤ 140737488355327) (at_ : Int) (wat : (Lit.int .i64 at_).wf = true) :
    Calls Try.prog 4 #[.slice A l.length c, .int .i64 at_] w fun e w' => e = .returned (.bool true) ∧ Below w.heap.size w w' := by
  have H3 := fun w' (hb : Below w.heap.size w w') x => Lib.hid (one_any HU l A _ c x w' rfl ((hr.below hb).more hb.size) hc hm hlen)
  have HA := Lib.hid (awake_any HP HU w)
  clear hr hm hc HP HU
  go_enter Try.func4, Try.ntmps4
  go_wp2_with fail
  refine HA.out.mono ?_
  rintro e w3 ⟨rfl, hb1⟩
  have HB3 := Lib.hid hb1
  clear hb1 HA
  obtain ⟨M, hM⟩ : ∃ M : Int, min (l.length : Int) 10 = M := ⟨_, rfl⟩
  have hM0 : 0 ≤ M := by omega
  have hM20 : M ≤ 10 := by omega
  go_wp2
  go_loopw [5] (fun v wr => Rel M w v wr) (fun v _ => (30 - intOf v).toNat)
  case atStart => exact ⟨-1, by omega, by omega, rfl, HB3.out⟩
  case round =>
    obtain ⟨k, hk1, hk2, rfl, hbl⟩ := hrel
    have HBL := Lib.hid hbl
    clear hbl HB3
    by_cases hlt : k ≤ M + 1
    · go_wp2_with fail
      refine (H3 wr HBL.out k).out.mono ?_
      rintro e w5 ⟨rfl, hb5⟩
      have HB5 := Lib.hid (HBL.out.trans (hb5.mono HBL.out.size))
      clear hb5
      go_wp2
      go_roundw
      case rel => exact ⟨k + 1, by omega, by omega, by go_num, HB5.out⟩
      case measure => simp [intOf]; omega
    · go_wp2_with fail
      refine (H3 wr HBL.out at_).out.mono ?_
      rintro e w5 ⟨rfl, hb5⟩
      have HB5 := Lib.hid (HBL.out.trans (hb5.mono HBL.out.size))
      clear hb5
      go_wp2
      go_ret
      exact ⟨rfl, HB5.out⟩
theorem walk (w : World) (l : List UInt8) (A : Option Addr) (c : Nat) (hc : l.length ≤ c) (hm : c ≤ maxLen) (hr : Rd w w.heap.size A (l.map B8)) (hlen : l.length ≤ 140737488355327) (at_ : Int) (wat : (Lit.int .i64 at_).wf = true) :
    Calls Try.prog 4 #[.slice A l.length c, .int .i64 at_] w fun e w' => e = .returned (.bool true) ∧ Below w.heap.size w w' :=
  walk0 Pack.pack_any Unpack.un_any w l A c hc hm hr hlen at_ wat
theorem own : ownKnob Try.prog.godebug = none := by kernel_rfl
theorem laid : laidOutB Try.prog = true := by kernel_rfl
theorem allRead : (Try.f4.params.toList.all fun t => Try.prog.readableRec t && decide (t < Try.prog.types.size)) = true := by kernel_rfl
theorem contract (H : Type) (enc : TypeId × Value → H) (W : World) (base : Nat) (args : Array Value) (ds gs : List (DataW H)) (before : List MemPlace)
    (hval : ∀ (j : Nat) t v, Try.f4.params[j]? = some t → args[j]? = some v → Value.okWide Try.prog W .any base t v)
    (hW : DataW.Whole enc Try.prog Try.f4.params.toList Rows.packReadsSpec.vars false W args.toList ds gs before) (hwt : (DataW.weightsEach Try.prog (Try.f4.params.toList ++ Rows.packReadsSpec.plain.varTypes Try.prog) (ds ++ gs)).all (· ≤ reachBytes) = true) :
    Calls Try.prog 4 args W fun e W' => ∃ v, e = .returned v ∧ Rows.packReadsSpec.post enc Try.prog Try.f4 false true false false W args v W' := by
  have hW' := hW
  obtain ⟨p, q, hA0, hV, rfl, hfz, hnd⟩ := hW
  obtain ⟨rfl, rfl⟩ := trodVars_none hV
  have hlt : ∀ x ∈ p, x.block < W.heap.size := fun x hx => hW'.lt x (by simp [hx])
  have hA : DataW.TrodAll enc Try.prog W 0 (fun _ => true) true Try.f4.params.toList args.toList ds p := hA0
  rw [Try.params4] at hA hval
  obtain ⟨v0, vs0, d0, ds0, p0, q0, hargs, rfl, rfl, h0, r0⟩ := trodAll_cons hA
  obtain ⟨v1, vs1, d1, ds1, p1, q1, rfl, rfl, rfl, h1, r1⟩ := trodAll_cons r0
  obtain ⟨rfl, rfl, rfl⟩ := trodAll_nil r1
  obtain rfl : args = #[v0, v1] := by cases args; simp_all
  rw [Try.params4] at hwt
  obtain ⟨y0, z0⟩ := weigh_cons hwt
  obtain ⟨y1, z1⟩ := weigh_cons z0
  obtain ⟨A0, l0, c0, rfl, hl0, hm0, hr0, hd0⟩ := open_u8s Try.underlying24 Try.underlying5 (by kernel_rfl) (hval 0 24 v0 rfl rfl) h0 (fun x hx => hlt x (by simp [hx]))
  have hb0 : l0.length ≤ 140737488355327 := by have h := weigh_len Try.underlying24 (by decide +kernel) hd0 y0; rwa [List.length_map] at h
  obtain ⟨a1, rfl, rfl, rfl, w1⟩ := open_int Try.underlying3 (hval 1 3 v1 rfl rfl) h1
  refine (walk W l0 A0 c0 hl0 hm0 hr0 hb0 a1 w1).mono fun e W' ⟨he, hb⟩ => ?_
  subst he
  exact ⟨_, rfl, law_post laid (fun t ht => by have h := List.all_eq_true.1 allRead t ht; rw [Bool.and_eq_true, decide_eq_true_eq] at h; exact h) rfl (by kernel_rfl) Try.underlying4 rfl hW' hb⟩
set_option maxRecDepth 100000 in
theorem lifted (os : Os) (started : os.Started) (H : Type) (enc : TypeId × Value → H) :
    ReturnsInHanded {} Try.checked os 4 .any (Rows.packReadsSpec.pre6 enc Try.prog Try.f4 Rows.packReadsRow.domain false) (Rows.packReadsSpec.post enc Try.prog Try.f4 false true false false) := by
  refine returnsInHanded_of_change_sized (C := Try.checked) own started (by kernel_rfl) Try.func4
    (ChangeSpec.witness6 (enc := enc) (C := Try.checked) false ⟨#[], #[.slice none 0 0, .int .i64 0], []⟩ 8 (by kernel_rfl) (by kernel_rfl) (by kernel_rfl) (by kernel_rfl)) ?_
  intro W base args ds gs before hval hW _ hwt _
  exact contract H enc W base args ds gs before hval hW hwt
theorem over : Rows.packReadsRow.holds Try.pinned (OpenSpec.ofChange Rows.packReadsSpec) :=
  OpenClaim.holds_of_wide 4 Try.f4 rfl rfl rfl rfl rfl rfl rfl ⟨rfl, rfl, rfl, rfl, rfl⟩ rfl rfl rfl rfl rfl (by kernel_rfl) Try.func4 (by kernel_rfl)
    (of_decide_eq_true (by kernel_rfl)) (by unfold Func.isWrapper; first | (rw [if_pos (by decide +kernel)]; kernel_rfl) | (rw [if_neg (by decide +kernel)]; exact ⟨rfl, rfl⟩))
    (fun os started H enc _ => lifted os started H enc)
theorem proved : Rows.PackReadsSaid := over

end Go.Proofs.Ytokmoodiolnfiaa.packReads
