/- LzRuns: for every byte and every number the statement's function answers true and leaves its arguments as they were. No conditions. -/
import Derived.Test.YtifndcjjlhjgiaaLzBack
import Derived.Deep.OwnRows
import Derived.OneCell
namespace Go.Proofs.Ytifndcjjlhjgiaa.lzRuns
open Go Go.ChangeShapes Go.WideShapes Go.ChangeAt Go.RowKit Words Plain Put Own App LaySpec CompSpec Expand RefExp Comp Awake4 lzBack Ope Bulk

theorem made_size (z : Value) (n : Nat) : (madeCells #[z] n).size = n * 1 := by
  rw [size_madeCells, Nat.mul_one]
/-- The loop that writes the bytes: i are written. -/
def Rel (K : Nat) (X : UInt8) (w : World) (s v : Value) (wr : World) : Prop := ∃ (i : Nat) (xs : List Value), i ≤ K ∧ v = .int .i64 (i : Int) ∧ Hid (xs.take i = List.replicate i (B8 X)) ∧ wr.ownsRow w.heap.size 5 1 s K xs ∧ Below w.heap.size w wr

theorem take_step {xs : List Value} {i K : Nat} {u : Value} (h : xs.take i = List.replicate i u) (hi : i < K) (hl : xs.length = K) : (xs.set i u).take (i + 1) = List.replicate (i + 1) u := by
  rw [List.take_add_one, List.take_set_of_le (Nat.le_refl i), h]
  simp [hl, hi, List.replicate_succ']

theorem comp_len (b : List UInt8) (A : Option Addr) (n c : Nat) (w : World) (hn : n = b.length) (hr : Rd w w.heap.size A (b.map B8)) (hc : n ≤ c) (h : n ≤ 65536) : Calls Try.prog 11 #[.slice A n c] w (COk w (comp b)) := by
  subst hn
  exact comp_ok b A c w hr hc h

set_option maxHeartbeats 3200000 in
set_option maxRecDepth 100000 in
theorem walk (w : World) (x : Int) (wx : (Lit.int .u8 x).wf = true) (n : Int) (wn : (Lit.int .u16 n).wf = true) :
    Calls Try.prog 5 #[.int .u8 x, .int .u16 n] w fun e w' => e = .returned (.bool true) ∧ Below w.heap.size w w' := by
  have hx := u8_of_wf wx
  generalize UInt8.ofNat x.toNat = X at hx
  subst hx
  obtain ⟨hn0, hn1⟩ := bounds_u16 wn
  obtain ⟨N, rfl⟩ := Int.eq_ofNat_of_zero_le hn0
  have hN : N ≤ 65535 := by omega
  obtain ⟨K, hK⟩ : ∃ K, K = if 65536 < N + 64 then 65536 else N + 64 := ⟨_, rfl⟩
  have hK1 : 64 ≤ K ∧ K ≤ 65536 := by
    rw [hK]
    split <;> omega
  obtain ⟨hK64, hK65⟩ := hK1
  have HA := Lib.hid (awake_any w)
  have hmk := run_make_row' (P := Try.prog) 22 5 (.int .u8 0) 1 Try.underlying22 info_u8 rfl .i64 .i64 K (by omega) (by omega)
  have hXl := X.toNat_lt
  clear wx wn hn0 hn1
  have HCK := Lib.hid (comp_run K X hK64 hK65)
  have HLK := Lib.hid (comp_length (b := List.replicate K X) (by simp; omega))
  have HEK := Lib.hid (exp_comp (b := List.replicate K X) (by simp; omega) (most := (K : Int)) (by simp))
  rcases Nat.lt_or_ge 65536 (N + 64) with hbig | hsm
  case' inl =>
    rw [if_pos hbig] at hK
    have hd : decide (65536 < (N : Int) + 64) = true := by simp; omega
    have HK := Lib.hid hK
    clear hbig hK
    go_enter Try.func5, Try.ntmps5
    go_wp2_with fail
    refine HA.out.mono ?_
    rintro e w1 ⟨rfl, hb1⟩
    have HB1 := Lib.hid hb1
    clear hb1 HA
    go_wp2_with fail
    rw [show (65536 : Int) = ((K : Nat) : Int) by have := HK.out; omega]
  case' inr =>
    rw [if_neg (by omega)] at hK
    have hd : decide (65536 < (N : Int) + 64) = false := by simp; omega
    have HK : Hid ((N : Int) + 64 = ((K : Nat) : Int)) := Lib.hid (by omega)
    clear hsm hK
    go_enter Try.func5, Try.ntmps5
    go_wp2_with fail
    refine HA.out.mono ?_
    rintro e w1 ⟨rfl, hb1⟩
    have HB1 := Lib.hid hb1
    clear hb1 HA
    go_wp2_with fail
    rw [HK.out]
  all_goals
    have hown := World.ownsRow_lit (base := w.heap.size) (e := 5) (size := 1) w1 (madeCells #[.int .u8 0] K) K HB1.out.size (by unfold maxLen; omega) (made_size _ _)
    have HO := Lib.hid hown
    have HB2 := Lib.hid (HB1.out.alloc HB1.out.size (.cells (madeCells #[.int .u8 0] K) 5))
    have HG := Lib.hid HB1.out.size
    obtain ⟨g, hg⟩ : ∃ g, w1.heap.size = g := ⟨_, rfl⟩
    rw [hg] at HO HG
    have HGG := Lib.hid hg
    clear hown HB1 hg
    rw [hmk]
    go_wp2
    rw [HGG.out]
    go_loopw [7] (fun v wr => Rel K X w (.slice (some ⟨g, 0, none⟩) K K) v wr) (fun v _ => K - (intOf v).toNat)
    case atStart => exact ⟨0, _, by omega, rfl, Lib.hid (by simp), HO.out, HB2.out⟩
    case round =>
      obtain ⟨i, xs, hi, rfl, ht, hown, hb⟩ := hrel
      clear HO HB2
      have hxl : xs.length = K := by have := hown.1; omega
      by_cases hlt : i < K
      · have hc1 := hown.cellAt i (by omega)
        rw [List.getElem?_eq_getElem (by omega)] at hc1
        obtain ⟨u0, hc2⟩ : ∃ u, wr.cell? ⟨g, i, none⟩ = some u := ⟨_, hc1⟩
        have hfr := hown.frozenAt i
        have HO := Lib.hid (hown.stored i (.int .u8 ((X.toNat : Nat) : Int))).1
        have HB := Lib.hid (hb.setCell (p := ⟨g, i, none⟩) HG.out (.int .u8 ((X.toNat : Nat) : Int)))
        have HTT := Lib.hid (take_step ht.out hlt hxl)
        clear hc1 hown hb ht hxl
        go_wp2
        go_roundw
        case rel => exact ⟨i + 1, _, by omega, by go_num, HTT, HO.out, HB.out⟩
        case measure => simp [intOf]; omega
      · obtain rfl : i = K := by omega
        have hxs : xs = (List.replicate i X).map B8 := by
          have h := ht.out
          rw [List.take_of_length_le (by omega)] at h
          rw [h, List.map_replicate]
        subst hxs
        have HL := Lib.hid (show i = (List.replicate i X).length by simp)
        have HO := Lib.hid hown
        have HB := Lib.hid hb
        have HR0 := Lib.hid (Rd.of_own hown)
        have hF1 : (comp (List.replicate i X)).length ≤ 16 := HCK.out
        generalize hRR : List.replicate i X = R at *
        obtain ⟨F, hF⟩ : ∃ F, comp R = F := ⟨_, rfl⟩
        have HC := fun w' (hb' : Below wr.heap.size wr w') => Lib.hid (comp_len R (some ⟨g, 0, none⟩) i i w' HL.out ((HR0.out.below hb').more hb'.size) (Nat.le_refl _) hK65)
        have HX := fun A2 c2 w' (hr : Rd w' w'.heap.size A2 (F.map B8)) hc2 hm2 => Lib.hid (exp_any F A2 c2 (i : Int) w' hr hc2 hm2 (by rw [← hF]; omega))
        rw [hF] at HC hF1
        rw [← hF, HEK.out, hF] at HX
        clear hown hb ht hxl hF hRR
        go_wp2_with fail
        refine (HC wr (Below.refl _ _)).out.mono ?_
        rintro e w2 ⟨v2, rfl, hown2, hb2⟩
        have HB2 := Lib.hid (below_step HB.out hb2)
        have HO2 := Lib.hid hown2
        have HBR := Lib.hid hb2
        have H2 := Lib.hid (HC w2 hb2)
        clear hown2 hb2 HB HC
        go_wp2_with fail
        refine H2.out.out.mono ?_
        rintro e w3 ⟨v3, rfl, hown3, hb3⟩
        have HB3 := Lib.hid (below_step HB2.out hb3)
        have HBR3 := Lib.hid (below_step HBR.out hb3)
        have HO23 := Lib.hid (own_keep HO2.out hb3)
        have HO3 := Lib.hid hown3
        obtain ⟨A2, c2, rfl, h21, h22, _⟩ := own_slice HO23.out
        have H3 := Lib.hid (HX A2 c2 w3 (Rd.of_own HO23.out) h21 h22)
        clear hown3 hb3 HB2 HO2 H2 HBR HX
        go_wp2_with fail
        refine H3.out.out.mono ?_
        rintro e w4 ⟨v4, rfl, hown4, hb4⟩
        have HB4 := Lib.hid (below_step HB3.out hb4)
        have HBR4 := Lib.hid (below_step HBR3.out hb4)
        have HO24 := Lib.hid (own_keep HO23.out hb4)
        have HO34 := Lib.hid (own_keep HO3.out hb4)
        obtain ⟨A3, c3, rfl, _, _, _⟩ := own_slice HO34.out
        obtain ⟨A4, c4, rfl, _, _, _⟩ := own_slice hown4
        have s2 := run_str w4 A2 F.length c2 rfl (Rd.of_own HO24.out)
        have s3 := run_str w4 A3 F.length c3 rfl (Rd.of_own HO34.out)
        have s4 := run_str w4 A4 R.length c4 rfl (Rd.of_own hown4)
        have s0 := run_str w4 (some ⟨g, 0, none⟩) i i HL.out (HR0.out.below HBR4.out)
        have e1 : (F == F) = true := by simp
        have e2 : (R == R) = true := by simp
        have h16 : decide ((F.length : Int) ≤ 16) = true := by simp; omega
        clear hown4 hb4 HB3 HBR3 HBR4 HO23 HO24 HO3 HO34 H3 HCK HLK HEK HO HL HR0
        go_wp2
        go_ret
        exact ⟨rfl, HB4.out⟩
theorem own : ownKnob Try.prog.godebug = none := by kernel_rfl
theorem laid : laidOutB Try.prog = true := by kernel_rfl
theorem allRead : (Try.f5.params.toList.all fun t => Try.prog.readableRec t && decide (t < Try.prog.types.size)) = true := by kernel_rfl
theorem contract (H : Type) (enc : TypeId × Value → H) (W : World) (base : Nat) (args : Array Value) (ds gs : List (DataW H)) (before : List MemPlace)
    (hval : ∀ (j : Nat) t v, Try.f5.params[j]? = some t → args[j]? = some v → Value.okWide Try.prog W .any base t v)
    (hW : DataW.Whole enc Try.prog Try.f5.params.toList Rows.lzRunsSpec.vars false W args.toList ds gs before) :
    Calls Try.prog 5 args W fun e W' => ∃ v, e = .returned v ∧ Rows.lzRunsSpec.post enc Try.prog Try.f5 false true false false W args v W' := by
  have hW' := hW
  obtain ⟨p, q, hA0, hV, rfl, hfz, hnd⟩ := hW
  obtain ⟨rfl, rfl⟩ := trodVars_none hV
  have hlt : ∀ x ∈ p, x.block < W.heap.size := fun x hx => hW'.lt x (by simp [hx])
  have hA : DataW.TrodAll enc Try.prog W 0 (fun _ => true) true Try.f5.params.toList args.toList ds p := hA0
  rw [Try.params5] at hA hval
  obtain ⟨v0, vs0, d0, ds0, p0, q0, hargs, rfl, rfl, h0, r0⟩ := trodAll_cons hA
  obtain ⟨v1, vs1, d1, ds1, p1, q1, rfl, rfl, rfl, h1, r1⟩ := trodAll_cons r0
  obtain ⟨rfl, rfl, rfl⟩ := trodAll_nil r1
  obtain rfl : args = #[v0, v1] := by cases args; simp_all
  obtain ⟨a0, rfl, rfl, rfl, w0⟩ := open_int Try.underlying5 (hval 0 5 v0 rfl rfl) h0
  obtain ⟨a1, rfl, rfl, rfl, w1⟩ := open_int Try.underlying30 (hval 1 30 v1 rfl rfl) h1
  refine (walk W a0 w0 a1 w1).mono fun e W' ⟨he, hb⟩ => ?_
  subst he
  exact ⟨_, rfl, law_post laid (fun t ht => by have h := List.all_eq_true.1 allRead t ht; rw [Bool.and_eq_true, decide_eq_true_eq] at h; exact h) rfl (by kernel_rfl) Try.underlying4 rfl hW' hb⟩
set_option maxRecDepth 100000 in
theorem lifted (os : Os) (started : os.Started) (H : Type) (enc : TypeId × Value → H) :
    ReturnsInHanded {} Try.checked os 5 .any (Rows.lzRunsSpec.pre6 enc Try.prog Try.f5 Rows.lzRunsRow.domain false) (Rows.lzRunsSpec.post enc Try.prog Try.f5 false true false false) := by
  refine returnsInHanded_of_change (C := Try.checked) own started (by kernel_rfl) Try.func5
    (ChangeSpec.witness6 (enc := enc) (C := Try.checked) false ⟨#[], #[.int .u8 0, .int .u16 0], []⟩ 8 (by kernel_rfl) (by kernel_rfl) (by kernel_rfl) (by kernel_rfl)) ?_
  intro W base args ds gs before hval hW _ _
  exact contract H enc W base args ds gs before hval hW
theorem over : Rows.lzRunsRow.holds Try.pinned (OpenSpec.ofChange Rows.lzRunsSpec) :=
  OpenClaim.holds_of_wide 5 Try.f5 rfl rfl rfl rfl rfl rfl rfl ⟨rfl, rfl, rfl, rfl, rfl⟩ rfl rfl rfl rfl rfl (by kernel_rfl) Try.func5 (by kernel_rfl)
    (of_decide_eq_true (by kernel_rfl)) (by unfold Func.isWrapper; first | (rw [if_pos (by decide +kernel)]; kernel_rfl) | (rw [if_neg (by decide +kernel)]; exact ⟨rfl, rfl⟩))
    (fun os started H enc _ => lifted os started H enc)
theorem proved : Rows.LzRunsSaid := over

end Go.Proofs.Ytifndcjjlhjgiaa.lzRuns
