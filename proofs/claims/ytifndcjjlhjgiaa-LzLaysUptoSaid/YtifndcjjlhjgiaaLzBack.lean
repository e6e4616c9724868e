/- LzBack: for all bytes the statement's function answers true and leaves its argument as it was. No conditions. -/
import Derived.Test.YtifndcjjlhjgiaaBulk
import Derived.Test.YtifndcjjlhjgiaaOpen
import Derived.Test.YtifndcjjlhjgiaaAwake4
namespace Go.Proofs.Ytifndcjjlhjgiaa.lzBack
open Go Go.ChangeShapes Go.WideShapes Go.ChangeAt Go.RowKit Words Plain Put Own App LaySpec CompSpec Expand RefExp Comp Awake4 Ope Bulk

theorem exp_len (b : List UInt8) (A : Option Addr) (n c : Nat) (most : Int) (w : World) (hn : n = b.length) (hr : Rd w w.heap.size A (b.map B8)) (hc : n ≤ c) (hm : c ≤ maxLen) (hbl : n ≤ 140737488355327) :
    Calls Try.prog 9 #[.slice A n c, .int .i64 most] w (XPost w (exp b most)) := by
  subst hn
  exact exp_any b A c most w hr hc hm hbl

/-- Compress, of bytes that are few enough. -/
def COk (w : World) (F : List UInt8) (e : Ending) (w' : World) : Prop := ∃ v, e = .returned (.tuple #[v, .int .i64 0]) ∧ w'.ownsRow w.heap.size 5 1 v F.length (F.map B8) ∧ Below w.heap.size w w'
theorem comp_ok (b : List UInt8) (A : Option Addr) (c : Nat) (w : World) (hr : Rd w w.heap.size A (b.map B8)) (hc : b.length ≤ c) (h : b.length ≤ 65536) : Calls Try.prog 11 #[.slice A b.length c] w (COk w (comp b)) :=
  (comp_any b A c w hr hc).mono fun e w' hp => by
    rcases hp with ⟨h', _⟩ | ⟨_, h'⟩
    · omega
    · exact h'

set_option maxHeartbeats 800000 in
theorem walk_long (w : World) (l : List UInt8) (A : Option Addr) (c : Nat) (hc : l.length ≤ c) (hr : Rd w w.heap.size A (l.map B8)) (hl : 65536 < l.length) :
    Calls Try.prog 4 #[.slice A l.length c] w fun e w' => e = .returned (.bool true) ∧ Below w.heap.size w w' := by
  have HA := Lib.hid (awake_any w)
  have HC := fun w' (hb : Below w.heap.size w w') => Lib.hid (comp_any l A c w' ((hr.below hb).more hb.size) hc)
  have h1 : decide (65536 < (l.length : Int)) = true := by simp; omega
  have HL := Lib.hid hl
  clear hr hc hl
  go_enter Try.func4, Try.ntmps4
  go_wp2_with fail
  refine HA.out.mono ?_
  rintro e w1 ⟨rfl, hb1⟩
  have HB1 := Lib.hid hb1
  have H1 := Lib.hid (HC w1 hb1)
  clear hb1 HA HC
  go_wp2_with fail
  refine H1.out.out.mono ?_
  rintro e w2 hpost
  rcases hpost with ⟨_, rfl, hb2⟩ | ⟨h, _⟩
  · have HB2 := Lib.hid (below_step HB1.out hb2)
    clear hb2 HB1
    go_wp2
    go_ret
    exact ⟨rfl, HB2.out⟩
  · exact absurd HL.out (by omega)

set_option maxHeartbeats 3200000 in
set_option maxRecDepth 100000 in
theorem walk_in (w : World) (l : List UInt8) (A : Option Addr) (c : Nat) (hc : l.length ≤ c) (hr : Rd w w.heap.size A (l.map B8)) (hl : l.length ≤ 65536) :
    Calls Try.prog 4 #[.slice A l.length c] w fun e w' => e = .returned (.bool true) ∧ Below w.heap.size w w' := by
  have HA := Lib.hid (awake_any w)
  have HC := fun w' (hb : Below w.heap.size w w') => Lib.hid (comp_ok l A c w' ((hr.below hb).more hb.size) hc hl)
  have h1 : decide (65536 < (l.length : Int)) = false := by simp; omega
  have HR := Lib.hid hr
  have hlen := comp_length hl
  have e1 := exp_comp hl (most := (l.length : Int)) (by omega)
  have e2 := exp_comp_less hl (most := (l.length : Int) - 1) (by omega)
  have e3 := exp_torn hl (most := (l.length : Int)) (by omega)
  generalize comp l = F at *
  have hF1 := hlen.1
  have hF2 := hlen.2
  have HX := fun A2 c2 w' (hr : Rd w' w'.heap.size A2 (F.map B8)) hc2 hm2 => Lib.hid (exp_any F A2 c2 (l.length : Int) w' hr hc2 hm2 (by omega))
  have HY := fun A2 c2 w' (hr : Rd w' w'.heap.size A2 (F.map B8)) hc2 hm2 => Lib.hid (refexp_any F A2 c2 (l.length : Int) w' hr hc2 hm2 (by omega) (by omega))
  have HZ := fun A2 c2 w' (hr : Rd w' w'.heap.size A2 (F.map B8)) hc2 hm2 => Lib.hid (exp_any F A2 c2 ((l.length : Int) - 1) w' hr hc2 hm2 (by omega))
  have HT := fun A2 c2 w' (hr : Rd w' w'.heap.size A2 ((F.take (F.length - 1)).map B8)) (hc2 : F.length - 1 ≤ c2) hm2 => Lib.hid (exp_len (F.take (F.length - 1)) A2 (F.length - 1) c2 (l.length : Int) w' (by simp) hr hc2 hm2 (by omega))
  rw [e1] at HX HY
  rw [e2] at HZ
  obtain ⟨E9, X9, h9⟩ : ∃ E X, exp (F.take (F.length - 1)) (l.length : Int) = (E, X) := ⟨_, _, rfl⟩
  rw [h9] at HT e3
  have hE9 : ((E9 : Int) != 0) = true := by simp at e3 ⊢; omega
  have hsub : ((F.length : Int) - 1) = ((F.length - 1 : Nat) : Int) := by omega
  have h2 : decide ((l.length : Int) + 8 < (F.length : Int)) = false := by simp; omega
  have h3 : ((F.length : Int) == 0) = false := beq_eq_false_iff_ne.2 (by omega)
  clear hr hc hlen e1 e2 e3 h9
  go_enter Try.func4, Try.ntmps4
  go_wp2_with fail
  refine HA.out.mono ?_
  rintro e w1 ⟨rfl, hb1⟩
  have HB1 := Lib.hid hb1
  have H1 := Lib.hid (HC w1 hb1)
  clear hb1 HA HC
  go_wp2_with fail
  refine H1.out.out.mono ?_
  rintro e w2 ⟨v2, rfl, hown2, hb2⟩
  have HB2 := Lib.hid (below_step HB1.out hb2)
  have HO2 := Lib.hid hown2
  obtain ⟨A2, c2, rfl, h21, h22, _⟩ := own_slice hown2
  have H2 := Lib.hid (HX A2 c2 w2 (Rd.of_own hown2) h21 h22)
  have HM := Lib.hid h22
  clear hown2 hb2 HB1 H1 HX h22
  go_wp2_with fail
  refine H2.out.out.mono ?_
  rintro e w3 ⟨v3, rfl, hown3, hb3⟩
  have HB3 := Lib.hid (below_step HB2.out hb3)
  have HO23 := Lib.hid (own_keep HO2.out hb3)
  have HO3 := Lib.hid hown3
  have H3 := Lib.hid (HY A2 c2 w3 (Rd.of_own HO23.out) h21 HM.out)
  clear hown3 hb3 HB2 H2 HO2 HY
  go_wp2_with fail
  refine H3.out.out.mono ?_
  rintro e w4 ⟨v4, rfl, hown4, hb4⟩
  have HB4 := Lib.hid (below_step HB3.out hb4)
  have HO24 := Lib.hid (own_keep HO23.out hb4)
  have HO34 := Lib.hid (own_keep HO3.out hb4)
  have HRL := Lib.hid (HR.out.below HB4.out)
  obtain ⟨A3, c3, rfl, _, _, _⟩ := own_slice HO34.out
  obtain ⟨A4, c4, rfl, _, _, _⟩ := own_slice hown4
  have s3 := run_str w4 A3 l.length c3 rfl (Rd.of_own HO34.out)
  have s4 := run_str w4 A4 l.length c4 rfl (Rd.of_own hown4)
  have sl := run_str w4 A l.length c rfl HRL.out
  have e1 : (l != l) = false := by simp
  have H4 := Lib.hid (HZ A2 c2 w4 (Rd.of_own HO24.out) h21 HM.out)
  clear hown4 hb4 HB3 H3 HO23 HO3 HO34 HZ
  go_wp2_with fail
  refine H4.out.out.mono ?_
  rintro e w5 ⟨v5, rfl, hown5, hb5⟩
  have HB5 := Lib.hid (below_step HB4.out hb5)
  have HO25 := Lib.hid (own_keep HO24.out hb5)
  have H5 := Lib.hid (HT A2 c2 w5 (by have h := (Rd.of_own HO25.out).take (F.length - 1); rwa [← List.map_take] at h) (by omega) HM.out)
  clear hown5 hb5 HB4 H4 HO24 HT s3 s4 sl HRL
  go_wp2_with fail
  refine H5.out.out.mono ?_
  rintro e w6 ⟨v6, rfl, hown6, hb6⟩
  have HB6 := Lib.hid (below_step HB5.out hb6)
  clear hown6 hb6 HB5 H5
  go_wp2
  go_ret
  exact ⟨rfl, HB6.out⟩
theorem walk (w : World) (l : List UInt8) (A : Option Addr) (c : Nat) (hc : l.length ≤ c) (_hm : c ≤ maxLen) (hr : Rd w w.heap.size A (l.map B8)) :
    Calls Try.prog 4 #[.slice A l.length c] w fun e w' => e = .returned (.bool true) ∧ Below w.heap.size w w' := by
  by_cases hl : l.length ≤ 65536
  · exact walk_in w l A c hc hr hl
  · exact walk_long w l A c hc hr (by omega)
theorem own : ownKnob Try.prog.godebug = none := by kernel_rfl
theorem laid : laidOutB Try.prog = true := by kernel_rfl
theorem allRead : (Try.f4.params.toList.all fun t => Try.prog.readableRec t && decide (t < Try.prog.types.size)) = true := by kernel_rfl
theorem contract (H : Type) (enc : TypeId × Value → H) (W : World) (base : Nat) (args : Array Value) (ds gs : List (DataW H)) (before : List MemPlace)
    (hval : ∀ (j : Nat) t v, Try.f4.params[j]? = some t → args[j]? = some v → Value.okWide Try.prog W .any base t v)
    (hW : DataW.Whole enc Try.prog Try.f4.params.toList Rows.lzBackSpec.vars false W args.toList ds gs before) :
    Calls Try.prog 4 args W fun e W' => ∃ v, e = .returned v ∧ Rows.lzBackSpec.post enc Try.prog Try.f4 false true false false W args v W' := by
  have hW' := hW
  obtain ⟨p, q, hA0, hV, rfl, hfz, hnd⟩ := hW
  obtain ⟨rfl, rfl⟩ := trodVars_none hV
  have hlt : ∀ x ∈ p, x.block < W.heap.size := fun x hx => hW'.lt x (by simp [hx])
  have hA : DataW.TrodAll enc Try.prog W 0 (fun _ => true) true Try.f4.params.toList args.toList ds p := hA0
  rw [Try.params4] at hA hval
  obtain ⟨v0, vs0, d0, ds0, p0, q0, hargs, rfl, rfl, h0, r0⟩ := trodAll_cons hA
  obtain ⟨rfl, rfl, rfl⟩ := trodAll_nil r0
  obtain rfl : args = #[v0] := by cases args; simp_all
  obtain ⟨A0, l0, c0, rfl, hl0, hm0, hr0, hd0⟩ := open_u8s Try.underlying22 Try.underlying5 (by kernel_rfl) (hval 0 22 v0 rfl rfl) h0 (fun x hx => hlt x (by simp [hx]))
  refine (walk W l0 A0 c0 hl0 hm0 hr0).mono fun e W' ⟨he, hb⟩ => ?_
  subst he
  exact ⟨_, rfl, law_post laid (fun t ht => by have h := List.all_eq_true.1 allRead t ht; rw [Bool.and_eq_true, decide_eq_true_eq] at h; exact h) rfl (by kernel_rfl) Try.underlying4 rfl hW' hb⟩
set_option maxRecDepth 100000 in
theorem lifted (os : Os) (started : os.Started) (H : Type) (enc : TypeId × Value → H) :
    ReturnsInHanded {} Try.checked os 4 .any (Rows.lzBackSpec.pre6 enc Try.prog Try.f4 Rows.lzBackRow.domain false) (Rows.lzBackSpec.post enc Try.prog Try.f4 false true false false) := by
  refine returnsInHanded_of_change (C := Try.checked) own started (by kernel_rfl) Try.func4
    (ChangeSpec.witness6 (enc := enc) (C := Try.checked) false ⟨#[], #[.slice none 0 0], []⟩ 8 (by kernel_rfl) (by kernel_rfl) (by kernel_rfl) (by kernel_rfl)) ?_
  intro W base args ds gs before hval hW _ _
  exact contract H enc W base args ds gs before hval hW
theorem over : Rows.lzBackRow.holds Try.pinned (OpenSpec.ofChange Rows.lzBackSpec) :=
  OpenClaim.holds_of_wide 4 Try.f4 rfl rfl rfl rfl rfl rfl rfl ⟨rfl, rfl, rfl, rfl, rfl⟩ rfl rfl rfl rfl rfl (by kernel_rfl) Try.func4 (by kernel_rfl)
    (of_decide_eq_true (by kernel_rfl)) (by unfold Func.isWrapper; first | (rw [if_pos (by decide +kernel)]; kernel_rfl) | (rw [if_neg (by decide +kernel)]; exact ⟨rfl, rfl⟩))
    (fun os started H enc _ => lifted os started H enc)
theorem proved : Rows.LzBackSaid := over

end Go.Proofs.Ytifndcjjlhjgiaa.lzBack
