/- The contract of the statements' own 'all': of two disks that are the same in all, or of none, all files are alike. Conditions: those that 'Fine' names; at most 10^9 files, of at most 2^47 bytes. -/
import Derived.Test.YtfblekedgenacaaMv
import Derived.StillTailTactics
namespace Go.Proofs.Ytfblekedgenacaa.All5
open Go Go.RowKit Words DkSpec PdLook RefDisk PdDisk PdRes Pairs Mv

theorem heq_nil (b : Nat) (w : World) : (binOp .eql 24 (.pointer (some ⟨b, 0, none⟩)) (.pointer none)).run Try.prog w = .ok (.bool false) w := PdChange.eq_nil b w
theorem req_some (b : Nat) (w : World) : (binOp .eql 27 (.pointer (some ⟨b, 0, none⟩)) (.pointer none)).run Try.prog w = .ok (.bool false) w := by kernel_rfl
theorem read_there {d : DSt} (hg : DkSpec.Good d) (ho : d.off = false) {f : DFile} (hf : f ∈ d.files) : DkSpec.read f.name d = (0, f.data) := by
  have hl := look_mem hg.1 hf
  have hr : refused f.name f.name d = 0 := by unfold refused; rw [(hg.2 f hf).1, ho]; rfl
  have hp := place_look (s := f.name) hg.1
  have hold := old_look (s := f.name) hg.1
  rw [hl] at hp hold
  unfold DkSpec.read
  rw [if_neg (by rw [hr]; simp), hp, hold]
  rfl
def Rel (w1 : World) (n : Nat) (i : Value) (wr : World) : Prop := ∃ k : Nat, k ≤ n ∧ i = .int .i64 (k : Int) ∧ Hid (Below w1.heap.size w1 wr)

set_option maxHeartbeats 3200000 in
set_option maxRecDepth 100000 in
theorem all_any (w : World) (K : Nat → Nat) (oh ow : Nat) (vh vw : Value) (s : Option DSt) (n T : Nat) (hh : HalfH w K oh vh s) (hw : HalfW w K ow vw s) (hf : Fine n T s) (hn : n ≤ 1000000000) (hT : T ≤ 140737488355328) :
    Calls Try.prog 13 #[vh, vw] w fun e w' => e = .returned (.bool true) ∧ Below w.heap.size w w' := by
  cases s with
  | none =>
    have e1 : vh = .pointer none := hh
    have e2 : vw = .pointer none := hw
    subst e1 e2
    have HD := Lib.hid (PdChange.down_nil w)
    have h1 := PdChange.nil_nil
    have h2 := RefOps5.eq_nil
    have h3 := RefOps5.nil_nil
    clear hh hw hf
    go_enter Try.func13, Try.ntmps13
    go_wp2_with fail
    refine HD.out.mono ?_
    rintro e w1 ⟨rfl, rfl⟩
    go_wp2
    go_ret
    exact ⟨rfl, Below.refl _ _⟩
  | some d =>
    obtain ⟨ph, rfl, hd⟩ := hh
    obtain ⟨p, rfl, hr⟩ := hw
    have h1 := hf d rfl
    have HD : Hid (Calls Try.prog 21 #[.pointer (some ⟨ph, 0, none⟩)] w fun e w' => e = .returned (.bool d.off) ∧ w = w') := Lib.hid (h_down (s := some d) (show HalfH w K oh (.pointer (some ⟨ph, 0, none⟩)) (some d) from ⟨ph, rfl, hd⟩))
    have q1 := heq_nil ph
    have q2 := req_some p
    have q3 := fun w => RefOps5.ne_nil p 0 w
    have HP := Lib.hid hd
    have HG := Lib.hid h1.good
    have HS : Hid (∀ f ∈ d.files, f.data.length ≤ 140737488355328) := Lib.hid (fun f hm => Nat.le_trans (h1.small f hm) hT)
    have hfew : d.files.length ≤ 1000000000 := Nat.le_trans h1.few hn
    obtain ⟨A, c, hc, hm, hp, _, c0, _, c2, _, _, _, _, _, _, hfr⟩ := hr
    have HFR := Lib.hid hfr
    clear hd hf h1 hfr
    cases hoff : d.off with
    | true =>
      rw [hoff] at HD c2
      clear hoff
      go_enter Try.func13, Try.ntmps13
      go_wp2_with fail
      refine HD.out.mono ?_
      rintro e w1 ⟨rfl, rfl⟩
      go_wp2
      go_ret
      exact ⟨rfl, Below.refl _ _⟩
    | false =>
      rw [hoff] at c2
      have HL := Lib.hid (PdList.list_any w K oh ph d HP.out hfew)
      have hll : list d = (0, d.files.map (·.name)) := by unfold list; rw [hoff]; rfl
      rw [hll] at HL
      have HOFF := Lib.hid hoff
      obtain ⟨m, hmm⟩ : ∃ m, d.files.length = m := ⟨_, rfl⟩
      have hlm : (d.files.map (·.name)).length = m := by simp [hmm]
      have HM := Lib.hid hmm
      rw [hmm] at hc c0 hfew
      unfold PdList.LsPost at HL
      simp only [hlm] at HL
      unfold maxLen at hm
      clear hoff hll hmm hlm HD
      go_enter Try.func13, Try.ntmps13
      go_wp2_with fail
      refine HL.out.mono ?_
      rintro e w1 ⟨v, rfl, hown, hb1⟩
      obtain ⟨A1, c1, rfl, hm1, hc1, hrd1, _⟩ := RefTake.own_rd hown
      have HRD := Lib.hid hrd1
      have HB1 := Lib.hid hb1
      have d0 : w1.cell? ⟨p, 0, none⟩ = some (.slice A m c) := (hb1.cell (p := ⟨p, 0, none⟩) hp).trans c0
      have hem : ((m : Int) != (m : Int)) = false := by simp
      unfold maxLen at hc1
      clear hown hrd1 hb1
      go_wp2
      go_loopw [7] (fun i wr => Rel w1 m i wr) (fun i _ => m - (intOf i).toNat)
      case atStart => exact ⟨0, by omega, rfl, Lib.hid (Below.refl _ _)⟩
      case round =>
        obtain ⟨k, hk, rfl, hb⟩ := hrel
        have HB := Lib.hid hb.out
        clear hb
        by_cases hlt : k < m
        · have hltf : k < d.files.length := by rw [HM.out]; exact hlt
          obtain ⟨g, off, rfl, hgl, _, _, hcell⟩ := HFR.out (by omega)
          obtain ⟨k0, ⟨A', c', k1, _, _, hrd, _⟩, _⟩ := hcell k d.files[k] (List.getElem?_eq_getElem hltf)
          obtain ⟨b1, o1, rfl, hb1l, hcn⟩ := HRD.out (by simp [HM.out]; omega)
          have hbw : Below w.heap.size w wr := HB1.out.trans (HB.out.mono HB1.out.size)
          have n1 : wr.cell? ⟨b1, o1 + k, none⟩ = some (.string ⟨d.files[k].name.toArray⟩) := (HB.out.cell (p := ⟨b1, o1 + k, none⟩) hb1l).trans (hcn k (S8 d.files[k].name) (by simp [hltf]))
          have hmem : d.files[k] ∈ d.files := List.getElem_mem hltf
          have H2 := Lib.hid (PdRead.read_any wr K oh ph d d.files[k].name (PDisk.grow HP.out hbw.block) (by have := (HG.out.2 _ hmem).1; unfold nameOk at this; simp at this; unfold maxLen; omega) HS.out)
          rw [read_there HG.out HOFF.out hmem] at H2
          unfold S8 at k0
          have HRD2 := Lib.hid hrd
          have HB2 := Lib.hid hbw
          have HKK := Lib.hid (And.intro k0 k1)
          generalize d.files[k] = f at *
          clear hcell hcn hmem hbw hrd k0 k1
          unfold PdRead.RdPost at H2
          simp only at H2
          obtain ⟨bn, hbn⟩ : ∃ bn, f.data.length = bn := ⟨_, rfl⟩
          have HBN := Lib.hid hbn
          rw [hbn] at H2 HKK
          clear hbn
          go_wp2_with fail
          refine H2.out.mono ?_
          rintro e w3 ⟨v3, rfl, hown3, hb3⟩
          obtain ⟨A3, c3, rfl, _, _, hrd3, _⟩ := RefTake.own_rd hown3
          have HB3 : Hid (Below w1.heap.size w1 w3) := Lib.hid (HB.out.trans (hb3.mono HB.out.size))
          have hbw3 : Below w.heap.size w w3 := HB1.out.trans (HB3.out.mono HB1.out.size)
          have m0 : w3.drew.cell? ⟨p, 0, none⟩ = some (.slice (some ⟨g, off, none⟩) m c) := (hbw3.cell (p := ⟨p, 0, none⟩) hp).trans c0
          have m1 : w3.drew.cell? ⟨g, off + k * 3, none⟩ = some (.string ⟨f.name.toArray⟩) := (hbw3.cell (p := ⟨g, off + k * 3, none⟩) hgl).trans HKK.out.1
          have m2 : w3.drew.cell? ⟨g, off + k * 3 + 1, none⟩ = some (.slice A' bn c') := (hbw3.cell (p := ⟨g, off + k * 3 + 1, none⟩) hgl).trans HKK.out.2
          have m3 : w3.drew.cell? ⟨b1, o1 + k, none⟩ = some (.string ⟨f.name.toArray⟩) := (hb3.cell (p := ⟨b1, o1 + k, none⟩) (Nat.lt_of_lt_of_le hb1l HB.out.size)).trans n1
          have s3 := PdSt.run_str (s := f.data) w3.drew A3 bn c3 HBN.out.symm hrd3
          have s4 := PdSt.run_str (s := f.data) w3.drew A' bn c' HBN.out.symm (HRD2.out.below hbw3.drew)
          have e1 : (f.name != f.name) = false := by simp
          have e2 : (f.data != f.data) = false := by simp
          clear hown3 hb3 hrd3 hbw3 H2 n1
          go_wp2
          refine wp_region_still_lit (by kernel_rfl) (by kernel_rfl) ?_
          iterate 31 (refine wpStill_step (fun K hK => ?_); go_simp; refine hK _ ?_; clear hK K)
          refine wpStill_nil ?_
          go_wp2
          go_roundw
          case rel => exact ⟨k + 1, by omega, by go_num, Lib.hid HB3.out.drew⟩
          case measure => simp [intOf]; omega
        · have hkn : k = m := by omega
          subst hkn
          go_wp2
          go_ret
          exact ⟨rfl, HB1.out.trans (HB.out.mono HB1.out.size)⟩
end Go.Proofs.Ytfblekedgenacaa.All5
