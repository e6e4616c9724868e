/- VarintSizes: for every uint64 the statement's function answers true and leaves its argument as it was. No conditions. -/
import Derived.Test.YtinbohfglccagaaRows
import Derived.Test.YtinbohfglccagaaAwake
import Derived.WalkKit
import Derived.ProofKit
import Derived.OpenShut
import Derived.Test.YtinbohfglccagaaOpen
namespace Go.Proofs.Ytinbohfglccagaa.varintSizes
open Go.ChangeShapes Go.WideShapes Go.ChangeAt Go.RowKit Words Plain Put Awake Ope


/-- Put of one number that lies in a row that was made just now. -/
theorem put_one (n : UInt64) (w : World) (g : Nat) (hg : g = w.heap.size) :
    Calls Try.prog 10 #[.slice (some ⟨g, 0, none⟩) 1 1] (w.alloc (.cells #[.int .u64 (n.toNat : Int)] 29)) fun ee w' => ∃ b off c, ee = .returned (.slice (some ⟨b, off, none⟩) (Lib.uvarint n.toNat).length c) ∧
      (Lib.uvarint n.toNat).length ≤ c ∧ c ≤ maxLen ∧ b < w'.heap.size ∧ w.heap.size < b ∧ (∀ j u, ((Lib.uvarint n.toNat).map B8)[j]? = some u → w'.cell? ⟨b, off + j, none⟩ = some u) ∧ Below (w.heap.size + 1) (w.alloc (.cells #[.int .u64 (n.toNat : Int)] 29)) w' := by
  subst hg
  have h := put_any [n] (some ⟨w.heap.size, 0, none⟩) 1 _ ((Rd.made w #[.int .u64 (n.toNat : Int)] 29).more (by simp)) (by simp)
  refine h.mono ?_
  rintro e w' ⟨v, rfl, hown, hb⟩
  rw [encs_one] at hown
  obtain ⟨A, c, rfl, h1, h2, h3⟩ := own_slice hown
  have hp := Lib.uvarint_pos n.toNat
  have hlt := hown.lt
  obtain ⟨b, off, rfl, hbb, hc⟩ := Rd.of_own hown (by simp; omega)
  exact ⟨b, off, c, rfl, h1, h2, hbb, by have := (hlt b rfl).1; simp at this; omega, hc, hb.mono (by simp)⟩

def Cnt (L : Nat) (k m : Value) : Prop := ∃ K M : Nat, M < 18446744073709551616 ∧ k = .int .i64 (K : Int) ∧ m = .int .u64 (M : Int) ∧ Hid (L = K + left_ M) ∧ K ≤ L

def Idx (k : Nat) (v : Value) : Prop := ∃ i : Nat, i ≤ k ∧ v = .int .i64 (i : Int)
theorem done_ {w w1 w2 : World} {o : Obj} (h1 : Hid (Below w.heap.size w w1)) (h2 : Hid (Below (w1.heap.size + 1) (w1.alloc o) w2)) : Below w.heap.size w w2 :=
  (h1.out.alloc h1.out.size o).trans (h2.out.mono (by have := h1.out.size; omega))

set_option maxHeartbeats 800000 in
set_option maxRecDepth 100000 in
theorem walk (w : World) (n : UInt64) :
    Calls Try.prog 7 #[.int .u64 (n.toNat : Int)] w fun e w' => e = .returned (.bool true) ∧ Below w.heap.size w w' := by
  have hn := n.toNat_lt
  go_enter Try.func7, Try.ntmps7
  go_wp2_with fail
  refine (awake_any _).mono ?_
  rintro e w1 ⟨rfl, hb⟩
  have HB := Lib.hid hb
  clear hb
  go_wp2_with fail
  refine (put_one n _ _ (by simp)).mono ?_
  rintro e w2 ⟨b, off, c, rfl, h1, h2, h3, h4, hc, hb2⟩
  have HB2 := Lib.hid hb2
  have hu := uv_left n.toNat
  have hl10 := Lib.uvarint_length64 hn
  have hup := Lib.uvarint_pos n.toNat
  have HM := fun i => Lib.hid (uv_more i n.toNat)
  have HL := fun k => Lib.hid (uv_last k n.toNat)
  have HC : Hid (∀ i, i < (Lib.uvarint n.toNat).length → w2.cell? ⟨b, off + i, none⟩ = some (.int .u8 ((((Lib.uvarint n.toNat).getD i 0).toNat : Nat) : Int))) := fun i hi => hc i _ (by simp [List.getElem?_map, hi, B8])
  clear hb2 hc
  generalize hx : n.toNat = x at *
  clear hx
  generalize Lib.uvarint x = U at *
  have HU := Lib.hid hu
  clear hu
  go_wp2
  go_loop [4, 5] (fun k m => Cnt U.length k m) (fun _ m => (intOf m).toNat)
  case atStart => exact ⟨1, x / 128, by omega, rfl, by go_num, HU.out, by omega⟩
  case round =>
    obtain ⟨K, M, hM, rfl, rfl, hrel, hK⟩ := hrel
    by_cases hm : 0 < M
    · have h := left_pos M (by omega)
      have h' := left_step M (by omega)
      have hr := hrel.out
      have H := Lib.hid h'
      clear h' h1 h2 h3 h4
      have hK' : K + 1 ≤ U.length := by omega
      clear h hr
      go_wp2
      go_round
      case rel => exact ⟨K + 1, M / 128, by omega, by go_num, by go_num, by have := hrel.out; have := H.out; show U.length = _; omega, by omega⟩
      case measure => simp [intOf]; omega
    · obtain rfl : M = 0 := by omega
      have hr := hrel.out
      rw [left_zero] at hr
      obtain ⟨k, rfl⟩ : ∃ k, K = k + 1 := ⟨K - 1, by omega⟩
      have hl := (HL k).out hr
      have hcl := HC.out k (by omega)
      generalize hy : ((U.getD k 0).toNat) = y at *
      clear hy
      have HR := Lib.hid hr
      clear hr hK hup
      have hne : ((U.length : Int) != (k : Int) + 1) = false := by have := HR.out; simp; omega
      have hk : k < U.length := by have := HR.out; omega
      have hkm : (k : Int) ≤ 10 := by omega
      have hy128 : y < 128 := hl.1
      have HI := Lib.hid hl.2
      clear hl
      by_cases hz : y = 0
      · have h0 : x = 0 := HI.out hz
        subst h0 hz
        go_wp2
        go_loop [6] (fun i => Idx k i) (fun i => k - (intOf i).toNat)
        case atStart => exact ⟨0, by omega, rfl⟩
        case round =>
          obtain ⟨i, hi, rfl⟩ := hrel
          by_cases hlt : i < k
          · have hci := HC.out i (by omega)
            have hm := (HM i).out (by omega)
            generalize (U.getD i 0).toNat = z at *
            go_wp2
            go_round
            case rel => exact ⟨i + 1, by omega, by go_num⟩
            case measure => simp [intOf]; omega
          · go_wp2
            go_ret
            exact ⟨rfl, done_ HB HB2⟩
      · have hzb : ((y : Int) == 0) = false := by simp; omega
        go_wp2
        go_loop [6] (fun i => Idx k i) (fun i => k - (intOf i).toNat)
        case atStart => exact ⟨0, by omega, rfl⟩
        case round =>
          obtain ⟨i, hi, rfl⟩ := hrel
          by_cases hlt : i < k
          · have hci := HC.out i (by omega)
            have hm := (HM i).out (by omega)
            generalize (U.getD i 0).toNat = z at *
            go_wp2
            go_round
            case rel => exact ⟨i + 1, by omega, by go_num⟩
            case measure => simp [intOf]; omega
          · go_wp2
            go_ret
            exact ⟨rfl, done_ HB HB2⟩

theorem own : ownKnob Try.prog.godebug = none := by kernel_rfl
theorem laid : laidOutB Try.prog = true := by kernel_rfl
theorem allRead : (Try.f7.params.toList.all fun t => Try.prog.readableRec t && decide (t < Try.prog.types.size)) = true := by kernel_rfl
theorem contract (H : Type) (enc : TypeId × Value → H) (W : World) (base : Nat) (args : Array Value) (ds gs : List (DataW H)) (before : List MemPlace)
    (hval : ∀ (j : Nat) t v, Try.f7.params[j]? = some t → args[j]? = some v → Value.okWide Try.prog W .any base t v)
    (hW : DataW.Whole enc Try.prog Try.f7.params.toList Rows.varintSizesSpec.vars false W args.toList ds gs before) :
    Calls Try.prog 7 args W fun e W' => ∃ v, e = .returned v ∧ Rows.varintSizesSpec.post enc Try.prog Try.f7 false true false false W args v W' := by
  have hW' := hW
  obtain ⟨p, q, hA0, hV, rfl, hfz, hnd⟩ := hW
  obtain ⟨rfl, rfl⟩ := trodVars_none hV
  have hlt : ∀ x ∈ p, x.block < W.heap.size := fun x hx => hW'.lt x (by simp [hx])
  have hA : DataW.TrodAll enc Try.prog W 0 (fun _ => true) true Try.f7.params.toList args.toList ds p := hA0
  rw [Try.params7] at hA hval
  obtain ⟨v0, vs0, d0, ds0, p0, q0, hargs, rfl, rfl, h0, r0⟩ := trodAll_cons hA
  obtain ⟨rfl, rfl, rfl⟩ := trodAll_nil r0
  obtain rfl : args = #[v0] := by cases args; simp_all
  obtain ⟨b0, rfl, rfl, rfl, w0⟩ := open_int Try.underlying29 (hval 0 29 v0 rfl rfl) h0
  obtain ⟨a0, rfl⟩ := u64_of w0
  refine (walk W a0).mono fun e W' ⟨he, hb⟩ => ?_
  subst he
  exact ⟨_, rfl, law_post laid (fun t ht => by have h := List.all_eq_true.1 allRead t ht; rw [Bool.and_eq_true, decide_eq_true_eq] at h; exact h) rfl (by kernel_rfl) Try.underlying4 rfl hW' hb⟩
set_option maxRecDepth 100000 in
theorem lifted (os : Os) (started : os.Started) (H : Type) (enc : TypeId × Value → H) :
    ReturnsInHanded {} Try.checked os 7 .any (Rows.varintSizesSpec.pre6 enc Try.prog Try.f7 Rows.varintSizesRow.domain false) (Rows.varintSizesSpec.post enc Try.prog Try.f7 false true false false) := by
  refine returnsInHanded_of_change (C := Try.checked) own started (by kernel_rfl) Try.func7
    (ChangeSpec.witness6 (enc := enc) (C := Try.checked) false ⟨#[], #[.int .u64 0], []⟩ 8 (by kernel_rfl) (by kernel_rfl) (by kernel_rfl) (by kernel_rfl)) ?_
  intro W base args ds gs before hval hW _ _
  exact contract H enc W base args ds gs before hval hW
theorem over : Rows.varintSizesRow.holds Try.pinned (OpenSpec.ofChange Rows.varintSizesSpec) :=
  OpenClaim.holds_of_wide 7 Try.f7 rfl rfl rfl rfl rfl rfl rfl ⟨rfl, rfl, rfl, rfl, rfl⟩ rfl rfl rfl rfl rfl (by kernel_rfl) Try.func7 (by kernel_rfl)
    (of_decide_eq_true (by kernel_rfl)) (by unfold Func.isWrapper; first | (rw [if_pos (by decide +kernel)]; kernel_rfl) | (rw [if_neg (by decide +kernel)]; exact ⟨rfl, rfl⟩))
    (fun os started H enc _ => lifted os started H enc)
theorem proved : Rows.VarintSizesSaid := over

end Go.Proofs.Ytinbohfglccagaa.varintSizes
