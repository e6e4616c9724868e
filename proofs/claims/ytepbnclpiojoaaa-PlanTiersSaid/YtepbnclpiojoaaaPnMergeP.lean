/- The contract of the program's Merge: the places of the first four of the least tier that fit, in a row of the call's own. Conditions: the segments lie in memory, each count an int, at most 2^47 bytes of them. -/
import Derived.Test.YtepbnclpiojoaaaPnFirst
import Derived.Test.YtepbnclpiojoaaaPnFit
namespace Go.Proofs.Ytepbnclpiojoaaa.PnMergeP
open Go Go.RowKit Words AppN PnSpec SgMem PnRef PnGone PnMerge PnSame PnLaw PnTier PnFirst PnFit

theorem info_ints : ∃ i, Try.prog.info? 26 = some i ∧ i.size = 1 := ⟨_, rfl, rfl⟩
theorem index_arr (f : Nat → Value) (k : Nat) (hk : k < 32) (w : World) : (Instr.index 43 (.agg (arr f)) (.int .i64 (k : Int))).run Try.prog w = .ok (f k) w := by
  have h1 := arr_at f hk
  obtain ⟨i, hi, hs⟩ := info_ints
  unfold Instr.index
  simp [go_sem, asIntOf, run_underlying Try.underlying43, hk, part, isAgg, sizeOf, typeInfo, run_underlying Try.underlying26, hi, hs, h1]
def MgRel (W : World) (cs : List Int) (f : Nat → Value) (v : Value) (wr : World) : Prop :=
  ∃ k : Nat, k ≤ 32 ∧ v = .int .i64 (k : Int) ∧ Hid (∀ u, u < k → fits cs u = false) ∧ Hid (∀ t, wr.ownsRow W.heap.size 3 1 (f t) (picks cs t).length ((picks cs t).map IV)) ∧ Hid (Below W.heap.size W wr)

set_option maxHeartbeats 3200000 in
set_option maxRecDepth 100000 in
theorem merge_own (w : World) (s : Sl) (l : List Sg) (hs : Sgs w s l) (hok : ∀ x ∈ l, In64 x.count) (hl : l.length * 32 ≤ 140737488355328) :
    Calls Try.prog 13 #[slV s] w fun e w' => Below w.heap.size w w' ∧ ∃ v, e = .returned v ∧ w'.ownsRow w.heap.size 3 1 v (merge (l.map Sg.count)).length ((merge (l.map Sg.count)).map IV) := by
  have HS := Lib.hid hs
  have HC := fun w' (hb : Below w.heap.size w w') => first_any w' s l (hs.below hb) hok hl
  have HCS : Hid (∀ c ∈ l.map Sg.count, In64 c) := Lib.hid (by simpa using hok)
  have HOK := Lib.hid hok
  have HPM : Hid (∀ t i, i ∈ picks (l.map Sg.count) t → i < l.length) := Lib.hid fun t i h => by have := (picksTo_mem h).1; simpa using this
  have HF : ∀ w' sp t, Below w.heap.size w w' → Ls w' sp (picks (l.map Sg.count) t) → Calls Try.prog 20 #[slV s, slV sp] w' fun e w'' => e = .returned (.bool (decide (sumOf (l.map Sg.count) (picks (l.map Sg.count) t) ≤ 65536))) ∧ Below w'.heap.size w' w'' := fun w' sp t hb h => fit_any w' s sp l _ (hs.below hb) h (HPM.out t) hok hl
  obtain ⟨A, n, c⟩ := s
  unfold slV at HC HF ⊢
  simp only at HC HF ⊢
  clear hs hok
  go_enter Try.func13, Try.ntmps13
  go_wp2_with fail
  refine (HC _ (Below.refl _ _)).mono ?_
  rintro _ w1 ⟨f, rfl, ho1, hb1⟩
  have HO1 := Lib.hid ho1
  have HB1 := Lib.hid hb1
  clear ho1 hb1 HC
  have IX := index_arr f
  go_wp2
  go_loopw [7] (fun v wr => MgRel w (l.map Sg.count) f v wr) (fun v _ => 32 - (intOf v).toNat)
  case atStart => exact ⟨0, by omega, rfl, Lib.hid (by simp), HO1, HB1⟩
  case round =>
    obtain ⟨k, hk, rfl, HL, HO, HBr⟩ := hrel
    by_cases h32 : k < 32
    case neg =>
      have hd : decide ((k : Int) < 32) = false := decide_eq_false (by omega)
      have HE : Hid (merge (l.map Sg.count) = []) := Lib.hid (merge_none fun u hu => HL.out u (by omega))
      go_wp2
      go_ret
      rw [HE.out]
      exact ⟨HBr.out, _, rfl, World.ownsRow_nil _ _ _ _⟩
    have hd : decide ((k : Int) < 32) = true := decide_eq_true (by omega)
    obtain ⟨A5, c5, hfk⟩ := own_slice (HO.out k)
    have hrun : ∀ w, (Instr.index 43 (.agg (arr f)) (.int .i64 (k : Int))).run Try.prog w = .ok (.slice A5 (picks (l.map Sg.count) k).length c5) w := fun w => by rw [IX k h32, hfk]
    have HLS : Hid (Ls wr (A5, (picks (l.map Sg.count) k).length, c5) (picks (l.map Sg.count) k)) := Lib.hid (by
      obtain ⟨A6, c6, e, h⟩ := own_ls (HO.out k)
      rw [hfk] at e
      cases e
      exact h)
    have HFT : Hid (fits (l.map Sg.count) k = ((picks (l.map Sg.count) k).length == 4 && decide (sumOf (l.map Sg.count) (picks (l.map Sg.count) k) ≤ 65536))) := Lib.hid rfl
    have HMS : Hid (fits (l.map Sg.count) k = true → merge (l.map Sg.count) = picks (l.map Sg.count) k) := Lib.hid fun h => merge_some HCS.out HL.out h
    have HNX : Hid (fits (l.map Sg.count) k = false → ∀ u, u < k + 1 → fits (l.map Sg.count) u = false) := Lib.hid fun h u hu => by
      by_cases hut : u = k
      · rw [hut]; exact h
      · exact HL.out u (by omega)
    have hpl : (picks (l.map Sg.count) k).length ≤ 4 := picksTo_len _ _ _
    by_cases h4 : (picks (l.map Sg.count) k).length = 4
    case neg =>
      have j4 : (((picks (l.map Sg.count) k).length : Int) == 4) = false := by simp; omega
      have HNF := Lib.hid (HNX.out (by rw [HFT.out]; simp [h4]))
      go_wp2
      exact ⟨⟨k + 1, by omega, by go_num, HNF, HO, HBr⟩, by simp [intOf]; omega⟩
    have HCF := HF wr (A5, (picks (l.map Sg.count) k).length, c5) k HBr.out HLS.out
    simp only at HCF
    have HL4 := Lib.hid h4
    have HFK := Lib.hid hfk
    rw [h4] at HCF hrun
    clear h4 hfk hpl HLS HF IX
    have HFX : Hid (∀ b, decide (sumOf (l.map Sg.count) (picks (l.map Sg.count) k) ≤ 65536) = b → fits (l.map Sg.count) k = b) := Lib.hid fun b h => by rw [HFT.out, HL4.out, h]; rfl
    by_cases hz : sumOf (l.map Sg.count) (picks (l.map Sg.count) k) ≤ 65536
    · rw [decide_eq_true hz] at HCF
      have HM := Lib.hid (HMS.out (HFX.out _ (decide_eq_true hz)))
      clear hz
      go_wp2_with fail
      refine HCF.mono ?_
      rintro _ w2 ⟨rfl, hb⟩
      have HB2 : Hid (Below w.heap.size w w2) := Lib.hid (HBr.out.trans (hb.mono HBr.out.size))
      have HOW : Hid (w2.ownsRow w.heap.size 3 1 (.slice A5 4 c5) (picks (l.map Sg.count) k).length ((picks (l.map Sg.count) k).map IV)) := Lib.hid (by have h := own_keepT (HO.out k) hb; rw [HFK.out, HL4.out] at h; rw [HL4.out]; exact h)
      clear hb HCF
      go_wp2
      go_ret
      rw [HM.out]
      exact ⟨HB2.out, _, rfl, HOW.out⟩
    · rw [decide_eq_false hz] at HCF
      have HNF := Lib.hid (HNX.out (HFX.out _ (decide_eq_false hz)))
      clear hz
      go_wp2_with fail
      refine HCF.mono ?_
      rintro _ w2 ⟨rfl, hb⟩
      have HB2 : Hid (Below w.heap.size w w2) := Lib.hid (HBr.out.trans (hb.mono HBr.out.size))
      have HOW : Hid (∀ t, w2.ownsRow w.heap.size 3 1 (f t) (picks (l.map Sg.count) t).length ((picks (l.map Sg.count) t).map IV)) := Lib.hid fun t => own_keepT (HO.out t) hb
      clear hb HCF
      go_wp2
      exact ⟨⟨k + 1, by omega, by go_num, HNF, HOW, HB2⟩, by simp [intOf]; omega⟩
theorem merge_any (w : World) (s : Sl) (l : List Sg) (hs : Sgs w s l) (hok : ∀ x ∈ l, In64 x.count) (hl : l.length * 32 ≤ 140737488355328) :
    Calls Try.prog 13 #[slV s] w (LPost (merge (l.map Sg.count)) w) := (merge_own w s l hs hok hl).mono fun _ _ h => lpost_own h
end Go.Proofs.Ytepbnclpiojoaaa.PnMergeP
