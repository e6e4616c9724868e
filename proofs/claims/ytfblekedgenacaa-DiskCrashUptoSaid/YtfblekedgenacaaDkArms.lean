/- DiskArms: for every byte and every bool the statement's function answers true and leaves its arguments as they were. No conditions. -/
import Derived.Test.YtfblekedgenacaaRows
import Derived.Test.YtfblekedgenacaaAwake5
import Derived.Test.YtfblekedgenacaaOpen
import Derived.ProofKit
import Derived.OpenShut
namespace Go.Proofs.Ytfblekedgenacaa.diskArms
open Go.ChangeShapes Go.WideShapes Go.ChangeAt Go.RowKit Words DkSpec DkLaws RefDisk PdDisk PdChange PdOps PdSync PdRen PdRead PdList PdApp PdRes PdSt Awake5 Ope

theorem down_st (w : World) (K : Nat → Nat) (p : Nat) (d : DSt) (h : PDisk w K 1 p d) : Calls Try.prog 21 #[.pointer (some ⟨p, 0, none⟩)] w fun e w' => e = .returned (.bool d.off) ∧ w = w' := by
  obtain ⟨M, D, L, G, Q, h⟩ := h
  exact down_any w K 1 p M D L G Q d h
/-- The disk, k rounds on. -/
def aK (n k : Nat) (full : Bool) : DSt := aSt 0 full ((n + 1 - k : Nat) == 0) ((n + 1 - k : Nat) : Int)
theorem aK_in {n k : Nat} {full : Bool} (h : k ≤ n) : aK n k full = aSt 0 full false (((n - k : Nat) : Int) + 1) := by
  unfold aK
  rw [show n + 1 - k = (n - k) + 1 by omega]
  rfl
theorem aK_next {n k : Nat} {full : Bool} (h : k ≤ n) : aK n (k + 1) full = aSt 0 full ((n - k : Nat) == 0) ((n - k : Nat) : Int) := by
  unfold aK
  rw [show n + 1 - (k + 1) = n - k by omega]
theorem aK_end (n : Nat) (full : Bool) : aK n (n + 1) full = aSt 0 full true 0 := by
  unfold aK
  rw [show n + 1 - (n + 1) = 0 by omega]
  rfl
theorem few (s : Nat) (full off : Bool) (left : Int) : (aSt s full off left).files.length ≤ 1000000000 := by show 1 ≤ 1000000000; omega
theorem small (s : Nat) (full off : Bool) (left : Int) : ∀ f ∈ (aSt s full off left).files, f.data.length ≤ 140737488355328 := by
  intro f hf
  simp [aSt] at hf
  subst hf
  show 1 ≤ 140737488355328
  omega
def Rel (w0 : World) (p n : Nat) (full : Bool) (i : Value) (wr : World) : Prop := ∃ k : Nat, k ≤ n + 1 ∧ i = .int .i64 (k : Int) ∧ Hid (∃ K, St w0 wr K p (aK n k full))
theorem ls (full : Bool) (left : Int) : list (aSt 0 full false left) = (0, [na]) := rfl

set_option maxHeartbeats 6400000 in
set_option maxRecDepth 100000 in
theorem walk (w : World) (a0 : Int) (w0 : (Lit.int .u8 a0).wf = true) (full : Bool) :
    Calls Try.prog 6 #[.int .u8 a0, .bool full] w fun e w' => e = .returned (.bool true) ∧ Below w.heap.size w w' := by
  obtain ⟨n, rfl, hn⟩ : ∃ n : Nat, a0 = (n : Int) ∧ n ≤ 255 := by
    simp only [Lit.wf, Bool.and_eq_true, decide_eq_true_eq] at w0
    rw [show IntKind.u8.min = 0 from rfl, show IntKind.u8.max = 255 from rfl] at w0
    exact ⟨a0.toNat, by omega, by omega⟩
  clear w0
  have H0 := Lib.hid (awake_any w)
  go_enter Try.func6, Try.ntmps6
  go_wp2_with fail
  refine H0.out.mono ?_
  rintro e w1 ⟨rfl, hb1⟩
  have HB1 := Lib.hid hb1
  have H1 := Lib.hid (new_any w1 (fun _ => 0) 1)
  clear hb1 H0
  go_wp2_with fail
  refine H1.out.mono ?_
  rintro e w2 ⟨p, K2, rfl, _, hd2, ht2⟩
  have S2 := Lib.hid (St.first hd2 ht2)
  have S2' := Lib.hid (S2.out.lit (.cells #[.int .u8 1] 5) 0)
  have H2 := Lib.hid (append_any _ _ 1 p fresh na [1] (some ⟨w2.heap.size, 0, none⟩) 1 S2'.out.disk (by decide) (by decide) (by decide) (lit_rd w2 #[.int .u8 1] 5 (0, 0)) (fun b off e h => lit_kind (by decide) b off e h))
  clear hd2 ht2 H1
  go_wp2_with fail
  refine H2.out.mono ?_
  rw [a1]
  rintro e w3 ⟨rfl, K3, hd3, ht3⟩
  have S3 := Lib.hid (S2'.out.step hd3 ht3)
  have H3 := Lib.hid (fill_any _ _ 1 p _ full S3.out.disk)
  clear hd3 ht3 H2
  go_wp2_with fail
  refine H3.out.mono ?_
  rintro e w4 ⟨rfl, K4, hd4, ht4⟩
  have S4 := Lib.hid (S3.out.step hd4 ht4)
  have H4 := Lib.hid (arm_any _ _ 1 p _ ((n : Int) + 1) S4.out.disk (by omega) (by omega))
  rw [a2 full n] at H4
  clear hd4 ht4 H3
  go_wp2_with fail
  refine H4.out.mono ?_
  rintro e w5 ⟨rfl, K5, hd5, ht5⟩
  have S5 := Lib.hid (S4.out.step hd5 ht5)
  clear hd5 ht5 H4
  go_wp2
  go_loopw [6] (fun i wr => Rel w1 p n full i wr) (fun i _ => n + 1 - (intOf i).toNat)
  case atStart => exact ⟨0, by omega, rfl, Lib.hid ⟨K5, S5.out⟩⟩
  case round =>
    obtain ⟨k, hk, rfl, hst⟩ := hrel
    obtain ⟨K, hs⟩ := hst.out
    have SS := Lib.hid hs
    clear hst hs S2 S2' S3 S4 S5
    by_cases hkn : k ≤ n
    · rw [aK_in hkn] at SS
      have HNX := Lib.hid (aK_next (full := full) hkn)
      have h5 := a5 full (n - k) 0
      generalize n - k = m at *
      have H6 := Lib.hid (read_any _ _ 1 p _ na SS.out.disk (by decide) (small _ _ _ _))
      rw [a3] at H6
      go_wp2_with fail
      refine H6.out.mono ?_
      unfold RdPost
      dsimp only
      rintro e w6 ⟨v6, rfl, _, hb6⟩
      have S6 := Lib.hid (SS.out.new hb6 0)
      have H7 := Lib.hid (list_any _ _ 1 p _ S6.out.disk (few _ _ _ _))
      rw [ls] at H7
      clear hb6 H6
      go_wp2_with fail
      refine H7.out.mono ?_
      unfold LsPost
      dsimp only
      rintro e w7 ⟨v7, rfl, _, hb7⟩
      have S7 := Lib.hid (S6.out.new hb7 0)
      have H8 := Lib.hid (down_st _ _ p _ S7.out.disk)
      clear hb7 H7
      go_wp2_with fail
      refine H8.out.mono ?_
      rintro e w8 ⟨rfl, rfl⟩
      have H9 := Lib.hid (delete_any _ _ 1 p _ nnone S7.out.disk (by decide))
      rw [h5] at H9
      clear H8
      go_wp2_with fail
      refine H9.out.mono ?_
      rintro e w9 ⟨rfl, K9, hd9, ht9⟩
      have S9 := Lib.hid (S7.out.step hd9 ht9)
      have H10 := Lib.hid (sync_any _ _ 1 p _ nA S9.out.disk (by decide))
      rw [a6] at H10
      clear hd9 ht9 H9
      go_wp2_with fail
      refine H10.out.mono ?_
      rintro e w10 ⟨rfl, K10, hd10, ht10⟩
      have S10 := Lib.hid (S9.out.step hd10 ht10)
      clear hd10 ht10 H10
      go_wp2
      go_round
      case rel => exact ⟨k + 1, by omega, by go_num, Lib.hid ⟨K10, by rw [HNX.out]; exact S10.out⟩⟩
      case measure => simp [intOf]; omega
    · have hk1 : k = n + 1 := by omega
      subst hk1
      rw [aK_end] at SS
      have H6 := Lib.hid (read_any _ _ 1 p _ na SS.out.disk (by decide) (small _ _ _ _))
      rw [a7] at H6
      go_wp2_with fail
      refine H6.out.mono ?_
      unfold RdPost
      dsimp only
      rintro e w6 ⟨v6, rfl, hown6, hb6⟩
      obtain ⟨A6, c6, rfl, _⟩ := RefTake.own_rd hown6
      have S6 := Lib.hid (SS.out.new hb6 0)
      have H7 := Lib.hid (list_any _ _ 1 p _ S6.out.disk (few _ _ _ _))
      rw [a8] at H7
      clear hown6 hb6 H6
      go_wp2_with fail
      refine H7.out.mono ?_
      unfold LsPost
      dsimp only
      rintro e w7 ⟨v7, rfl, hown7, hb7⟩
      obtain ⟨A7, c7, rfl, _⟩ := RefTake.own_rd hown7
      have S7 := Lib.hid (S6.out.new hb7 0)
      have H8 := Lib.hid (down_st _ _ p _ S7.out.disk)
      clear hown7 hb7 H7
      go_wp2_with fail
      refine H8.out.mono ?_
      rintro e w8 ⟨rfl, rfl⟩
      have H9 := Lib.hid (append_any _ _ 1 p _ nb [] none 0 S7.out.disk (by decide) (few _ _ _ _) (by show 0 ≤ 140737488355328; omega) Rd.nil_ (fun b off e => by cases e))
      rw [a9] at H9
      clear H8
      go_wp2_with fail
      refine H9.out.mono ?_
      rintro e w9 ⟨rfl, K9, hd9, ht9⟩
      have S9 := Lib.hid (S7.out.step hd9 ht9)
      have H10 := Lib.hid (rename_any _ _ 1 p _ na nb S9.out.disk (by decide) (by decide) (few _ _ _ _))
      rw [a10] at H10
      clear hd9 ht9 H9
      go_wp2_with fail
      refine H10.out.mono ?_
      rintro e w10 ⟨rfl, K10, hd10, ht10⟩
      have S10 := Lib.hid (S9.out.step hd10 ht10)
      have H11 := Lib.hid (append_any _ _ 1 p _ [] [] none 0 S10.out.disk (by decide) (few _ _ _ _) (by show 0 ≤ 140737488355328; omega) Rd.nil_ (fun b off e => by cases e))
      rw [a11] at H11
      clear hd10 ht10 H10
      go_wp2_with fail
      refine H11.out.mono ?_
      rintro e w11 ⟨rfl, K11, hd11, ht11⟩
      have S11 := Lib.hid (S10.out.step hd11 ht11)
      have H12 := Lib.hid (arm_any _ _ 1 p _ (-1) S11.out.disk (by omega) (by omega))
      rw [a12] at H12
      clear hd11 ht11 H11
      go_wp2_with fail
      refine H12.out.mono ?_
      rintro e w12 ⟨rfl, K12, hd12, ht12⟩
      have S12 := Lib.hid (S11.out.step hd12 ht12)
      have H13 := Lib.hid (down_st _ _ p _ S12.out.disk)
      clear hd12 ht12 H12
      go_wp2_with fail
      refine H13.out.mono ?_
      rintro e w13 ⟨rfl, rfl⟩
      have S13 := Lib.hid (S12.out.lit (.cells #[.int .i64 9] 3) 0)
      have H14 := Lib.hid (restart_any _ _ 1 p _ [9] (some ⟨w12.heap.size, 0, none⟩) 1 S13.out.disk (few _ _ _ _) (lit_rd w12 #[.int .i64 9] 3 (0, 0)) (fun b off e h => lit_kind (by decide) b off e h) (by decide) (by decide) (by unfold maxLen; omega))
      rw [a13] at H14
      clear H13
      go_wp2_with fail
      refine H14.out.mono ?_
      rintro e w14 ⟨rfl, K14, hd14, ht14⟩
      have S14 := Lib.hid (S13.out.step hd14 ht14)
      have H15 := Lib.hid (read_any _ _ 1 p _ na S14.out.disk (by decide) (small _ _ _ _))
      rw [a3] at H15
      clear hd14 ht14 H14
      go_wp2_with fail
      refine H15.out.mono ?_
      unfold RdPost
      dsimp only
      rintro e w15 ⟨v15, rfl, hown15, hb15⟩
      obtain ⟨A15, c15, rfl, _, _, hrd15, _⟩ := RefTake.own_rd hown15
      have S15 := Lib.hid (S14.out.new hb15 0)
      have s15 := run_str (s := [1]) w15 A15 1 c15 rfl hrd15
      have H16 := Lib.hid (down_st _ _ p _ S15.out.disk)
      clear hown15 hrd15 hb15 H15
      go_wp2_with fail
      refine H16.out.mono ?_
      rintro e w16 ⟨rfl, rfl⟩
      have H17 := Lib.hid (append_any _ _ 1 p _ nb [] none 0 S15.out.disk (by decide) (few _ _ _ _) (by show 0 ≤ 140737488355328; omega) Rd.nil_ (fun b off e => by cases e))
      clear H16
      go_wp2_with fail
      refine H17.out.mono ?_
      rintro e w17 ⟨he, K17, hd17, ht17⟩
      rw [a14] at he
      subst he
      have S17 := Lib.hid (S15.out.step hd17 ht17)
      clear hd17 ht17 H17
      go_wp2
      go_ret
      exact ⟨rfl, HB1.out.trans (S17.out.below.mono HB1.out.size)⟩
theorem own : ownKnob Try.prog.godebug = none := by kernel_rfl
theorem laid : laidOutB Try.prog = true := by kernel_rfl
theorem allRead : (Try.f6.params.toList.all fun t => Try.prog.readableRec t && decide (t < Try.prog.types.size)) = true := by kernel_rfl
set_option maxRecDepth 100000 in
theorem contract (H : Type) (enc : TypeId × Value → H) (W : World) (base : Nat) (args : Array Value) (ds gs : List (DataW H)) (before : List MemPlace)
    (hval : ∀ (j : Nat) t v, Try.f6.params[j]? = some t → args[j]? = some v → Value.okWide Try.prog W .any base t v)
    (hW : DataW.Whole enc Try.prog Try.f6.params.toList Rows.diskArmsSpec.vars false W args.toList ds gs before) :
    Calls Try.prog 6 args W fun e W' => ∃ v, e = .returned v ∧ Rows.diskArmsSpec.post enc Try.prog Try.f6 false true false false W args v W' := by
  have hW' := hW
  obtain ⟨p, q, hA0, hV, rfl, hfz, hnd⟩ := hW
  obtain ⟨rfl, rfl⟩ := trodVars_none hV
  have hlt : ∀ x ∈ p, x.block < W.heap.size := fun x hx => hW'.lt x (by simp [hx])
  have hA : DataW.TrodAll enc Try.prog W 0 (fun _ => true) true Try.f6.params.toList args.toList ds p := hA0
  rw [Try.params6] at hA hval
  obtain ⟨v0, vs0, d0, ds0, p0, q0, hargs, rfl, rfl, h0, r0⟩ := trodAll_cons hA
  obtain ⟨v1, vs1, d1, ds1, p1, q1, rfl, rfl, rfl, h1, r1⟩ := trodAll_cons r0
  obtain ⟨rfl, rfl, rfl⟩ := trodAll_nil r1
  obtain rfl : args = #[v0, v1] := by cases args; simp_all
  obtain ⟨a0, rfl, rfl, rfl, w0⟩ := open_int Try.underlying5 (hval 0 5 v0 rfl rfl) h0
  obtain ⟨a1, rfl, rfl, rfl⟩ := open_bool Try.underlying4 (hval 1 4 v1 rfl rfl) h1
  refine (walk W a0 w0 a1).mono fun e W' ⟨he, hb⟩ => ?_
  subst he
  exact ⟨_, rfl, law_post laid (fun t ht => by have h := List.all_eq_true.1 allRead t ht; rw [Bool.and_eq_true, decide_eq_true_eq] at h; exact h) rfl (by kernel_rfl) Try.underlying4 rfl hW' hb⟩
set_option maxRecDepth 100000 in
theorem lifted (os : Os) (started : os.Started) (H : Type) (enc : TypeId × Value → H) :
    ReturnsInHanded {} Try.checked os 6 .any (Rows.diskArmsSpec.pre6 enc Try.prog Try.f6 Rows.diskArmsRow.domain false) (Rows.diskArmsSpec.post enc Try.prog Try.f6 false true false false) := by
  refine returnsInHanded_of_change (C := Try.checked) own started (by kernel_rfl) Try.func6
    (ChangeSpec.witness6 (enc := enc) (C := Try.checked) false ⟨#[], #[.int .u8 0, .bool false], []⟩ 8 (by kernel_rfl) (by kernel_rfl) (by kernel_rfl) (by kernel_rfl)) ?_
  intro W base args ds gs before hval hW _ _
  exact contract H enc W base args ds gs before hval hW
theorem over : Rows.diskArmsRow.holds Try.pinned (OpenSpec.ofChange Rows.diskArmsSpec) :=
  OpenClaim.holds_of_wide 6 Try.f6 rfl rfl rfl rfl rfl rfl rfl ⟨rfl, rfl, rfl, rfl, rfl⟩ rfl rfl rfl rfl rfl (by kernel_rfl) Try.func6 (by kernel_rfl)
    (of_decide_eq_true (by kernel_rfl)) (by unfold Func.isWrapper; first | (rw [if_pos (by decide +kernel)]; kernel_rfl) | (rw [if_neg (by decide +kernel)]; exact ⟨rfl, rfl⟩))
    (fun os started H enc _ => lifted os started H enc)
theorem proved : Rows.DiskArmsSaid := over

end Go.Proofs.Ytfblekedgenacaa.diskArms
