/- The contract of the program's class. Conditions: the reader lies in memory; its runes are ones that UTF-8 has bytes for, at most 1000. -/
import Derived.Test.YtdmbgjpidlllcaaRqRows
import Derived.Test.YtdmbgjpidlllcaaRqOrd
import Derived.Test.YtdmbgjpidlllcaaRxParses
namespace Go.Proofs.Ytdmbgjpidlllcaa.RqClass
open Go Go.RowKit Words AppN Km Mo_ RxSpec RxEq RxMem RxClean RqPlain RqMem RqNeed RqLay RqTimes RqCont RqEsc RqMbr RqSt

theorem class_first (rs : List Nat) : classL [] true rs = match piece rs with
    | none => none
    | some (m, r1) => classL m false r1 := by
  rw [classL_eq]
  simp only [Bool.not_true, Bool.false_and, Bool.false_eq_true, if_false, List.nil_append]
  cases piece rs <;> rfl
theorem piece_sc {rs : List Nat} {m r1 : List Nat} (hr : ∀ r ∈ rs, UtSpec.sc r) (h : piece rs = some (m, r1)) : ∀ r ∈ r1, UtSpec.sc r := by
  unfold piece at h
  cases hm : RxSpec.member rs with
  | none => rw [hm] at h; cases h
  | some x =>
    obtain ⟨m0, r0⟩ := x
    rw [hm] at h
    have h0 := rest_sc hr hm
    simp only at h
    split at h
    · cases hk : RxSpec.member r0.tail with
      | none => rw [hk] at h; cases h
      | some y =>
        obtain ⟨k0, r2⟩ := y
        rw [hk] at h
        have h1 := rest_sc (fun r hr => h0 r (List.mem_of_mem_tail hr)) hk
        simp only at h
        cases hf : fromTo m0 k0 with
        | none => rw [hf] at h; cases h
        | some z => rw [hf] at h; cases h; exact h1
    · cases h; exact h0
def ansOf (inv : Bool) (x : Option (List Nat × List Nat)) : Option (List Nat × List Nat) := match x with
  | none => none
  | some (set, r1) => some (clean set inv, r1)
section
variable {κ B : Nat} {w w' w0 : World} {K K' K0 : Nat → Nat} {o p : Nat} {s s' : Sl} {rs rs' : List Nat} {op dp op' dp' : Nat} {ms ms' : List NM} {v v' vk : Value} {l : List Nat}
/-- New memory of a callee's is the caller's. -/
theorem cp_new {A : Option Addr} {n c : Nat} {m r1 : List Nat} (hm : Mo K0 K (fun x => x = o) w0 w) (hr : RQ B w K o p s r1 op dp ms v) (hn : n = m.length) (hown : w'.ownsRow w.heap.size 21 1 (.slice A n c) n (m.map R32)) (hb : Below w.heap.size w w') :
    CP κ B K0 o p op dp ms v w0 (some (m, r1)) (.returned (.slice A n c)) w' := by
  subst hn
  have hmo : Mo K (kmark K w.heap.size κ) (fun _ => False) w w' := Mo.new hb _
  exact ⟨A, c, s, _, rfl, hr.mo hmo, hm.trans (hmo.widen fun _ h => h.elim), own_monoA hown hm.size, fun b hb => kmark_new (hown.lt b hb).1⟩
/-- The members so far, in a row of the frame's own. -/
structure CSt (B : Nat) (w0 w : World) (K0 K : Nat → Nat) (o p : Nat) (s : Sl) (rs : List Nat) (op dp : Nat) (ms : List NM) (v vm : Value) (ps : List (Nat × Nat)) : Prop where
  rp : RQ B w K o p s rs op dp ms v
  mo : Mo K0 K (fun x => x = o) w0 w
  own : w.ownsRow w0.heap.size 21 1 vm (2 * ps.length) ((flatP ps).map R32)
  kind : ∀ b, vm.ownBlock = some b → K b = o + 1
theorem CSt.call {vm : Value} {ps : List (Nat × Nat)} (h : CSt B w0 w K0 K o p s rs op dp ms v vm ps) (hr : RQ B w' K' o p s' rs' op' dp' ms' v') (hm : Mo K K' (fun x => x = o) w w') : CSt B w0 w' K0 K' o p s' rs' op' dp' ms' v' vm ps := by
  obtain ⟨h1, h2⟩ := own_mo (m := o + 1) h.own h.kind hm (by omega)
  exact ⟨hr, h.mo.trans hm, h1, h2⟩
/-- More members. -/
theorem CSt.push {vm v2 : Value} {ps qs : List (Nat × Nat)} (h : CSt B w0 w K0 K o p s rs op dp ms v vm ps) (hown : w'.ownsRow w0.heap.size 21 1 v2 (2 * (ps ++ qs).length) ((flatP (ps ++ qs)).map R32)) (hg : w.grownBy w' vm.ownBlock) (hat : v2.ownBlock = vm.ownBlock ∨ v2.ownBlock = some w.heap.size) :
    CSt B w0 w' K0 (kmark K w.heap.size (o + 1)) o p s rs op dp ms v v2 (ps ++ qs) := by
  have hmo : Mo K (kmark K w.heap.size (o + 1)) (fun y => y = o + 1) w w' := ⟨hg.os, hg.tape, hg.output, hg.size, fun i hi hk => ⟨hg.block i hi (fun e => hk (h.kind i e.symm)), kmark_old hi⟩⟩
  refine ⟨h.rp.moT hmo fun _ h => h, ⟨hmo.os.trans h.mo.os, hmo.tape.trans h.mo.tape, hmo.output.trans h.mo.output, Nat.le_trans h.mo.size hg.size, fun i hi hk => ?_⟩, hown, fun b hb => ?_⟩
  · have hi2 : i < w.heap.size := Nat.lt_of_lt_of_le hi h.mo.size
    obtain ⟨a1, a2⟩ := h.mo.keep i hi hk
    exact ⟨(hg.block i hi2 (fun e => by have := (h.own.lt i e.symm).1; omega)).trans a1, (kmark_old hi2).trans a2⟩
  · rcases hat with e | e
    · rw [e] at hb
      rw [kmark_old (h.own.lt b hb).2]
      exact h.kind b hb
    · rw [e] at hb
      injection hb with hb
      exact kmark_new (by omega)
/-- What the loop holds. -/
def CRel (B : Nat) (W : World) (K : Nat → Nat) (o p : Nat) (op dp : Nat) (ms : List NM) (v : Value) (N : Nat) (R : Option (List Nat × List Nat)) (vm : Value) (wr : World) : Prop :=
  ∃ (K' : Nat → Nat) (s' : Sl) (rs' : List Nat) (ps : List (Nat × Nat)), Hid (CSt B W wr K K' o p s' rs' op dp ms v vm ps) ∧ Hid (classL (flatP ps) false rs' = R) ∧ Hid (∀ r ∈ rs', UtSpec.sc r) ∧ Hid (Vp ps) ∧ ps ≠ [] ∧ ps.length + 4 * rs'.length ≤ N
theorem skip_any (h : RQ B w K o p s rs op dp ms v) (c : Nat) : Calls Try.prog 25 #[.pointer (some ⟨p, 0, none⟩), .int .i32 (c : Int)] w fun e w' => e = .returned (.bool (hd rs c)) ∧ ∃ s', RQ B w' K o p s' (if hd rs c = true then rs.tail else rs) op dp ms v ∧ Mo K K (fun x => x = o) w w' := by
  by_cases hc : hd rs c = true
  · obtain ⟨t, rfl, ht⟩ := hd_yes hc
    rw [hc, if_pos rfl, ht]
    exact skip_yes c h
  · rw [if_neg hc]
    have hc' : hd rs c = false := by simpa using hc
    rw [hc']
    refine (skip_no h c hc').mono ?_
    rintro e w' ⟨rfl, rfl⟩
    exact ⟨rfl, s, h, Mo.refl _ _ _⟩
def lenV : Value → Nat
  | .slice _ n _ => n
  | _ => 0
theorem rest_len {rs : List Nat} (c : Nat) : (if hd rs c = true then rs.tail else rs).length ≤ rs.length := by
  split
  · simp
  · exact Nat.le_refl _
theorem rest_sub {rs : List Nat} (c : Nat) (h : ∀ r ∈ rs, UtSpec.sc r) : ∀ r ∈ (if hd rs c = true then rs.tail else rs), UtSpec.sc r := by
  split
  · exact fun r hr => h r (List.mem_of_mem_tail hr)
  · exact h
theorem sc_rs {rs : List Nat} (h : ∀ r ∈ rs, UtSpec.sc r) : Rs rs := fun r hr => by have := h r hr; unfold UtSpec.sc at this; omega
set_option maxHeartbeats 12800000 in
set_option maxRecDepth 100000 in
theorem class_any (h : RQ B w K o p s rs op dp ms v) (hr : ∀ r ∈ rs, UtSpec.sc r) (hlen : rs.length ≤ 1000) : Calls Try.prog 44 #[.pointer (some ⟨p, 0, none⟩)] w (CP κ B K o p op dp ms v w (ansOf (hd rs 94) (classL [] true (if hd rs 94 = true then rs.tail else rs)))) := by
  have HSK := skip_any h 94
  have hl1 := rest_len (rs := rs) 94
  have HR1 := Lib.hid (rest_sub 94 hr)
  generalize (if hd rs 94 = true then rs.tail else rs) = rs1 at *
  generalize hd rs 94 = inv at *
  obtain ⟨R, hR⟩ : ∃ R, classL [] true rs1 = R := ⟨_, rfl⟩
  rw [hR]
  rw [class_first] at hR
  obtain ⟨i0, hi, hz0, hz1, hz2⟩ := info_i32
  clear h hr
  go_enter Try.func44, Try.ntmps44
  go_wp2_with fail
  refine HSK.mono ?_
  rintro _ w1 ⟨rfl, s1, hq1, hm1⟩
  have HM1 := Lib.hid hm1
  have HMB := member_any (κ := o + 1) (by omega) hq1 HR1.out
  clear HSK hm1 hq1
  cases hp : piece rs1 with
  | none =>
    rw [hp] at hR HMB
    subst hR
    unfold CP at HMB
    simp only at HMB
    clear hp
    go_wp2_with fail
    refine HMB.mono ?_
    rintro _ w2 ⟨rfl, h2⟩
    exact ⟨rfl, FP.of HM1.out ⟨rfl, h2⟩⟩
  | some x =>
    obtain ⟨m, r1⟩ := x
    obtain ⟨hrs, ps, rfl, hv, hne, hl4⟩ := piece_vp (sc_rs HR1.out) hp
    have hsh := piece_short hp
    have HSC := Lib.hid (piece_sc HR1.out hp)
    rw [hp] at hR HMB
    simp only at hR
    have HRR := Lib.hid hR
    have HV := Lib.hid hv
    unfold CP at HMB
    simp only at HMB
    have hfl : (flatP ps).length = 2 * ps.length := flatP_len ps
    clear hp hR hv hrs
    go_wp2_with fail
    refine HMB.mono ?_
    rintro _ w2 ⟨A, c, s2, K2, rfl, hq2, hm2, how⟩
    rw [hfl] at how ⊢
    have HC0 : Hid (CSt B w w2 K K2 o p s2 r1 op dp ms v (.slice A (2 * ps.length) c) ps) := Lib.hid ⟨hq2, HM1.out.trans hm2, own_monoA how.own HM1.out.size, how.kind⟩
    clear HMB hq2 hm2 how hfl
    go_wp2
    go_loopw [4] (fun vm wr => CRel B w K o p op dp ms v 4004 R vm wr) (fun vm _ => 8010 - lenV vm)
    case atStart => exact ⟨K2, s2, r1, ps, HC0, HRR, HSC, HV, hne, by omega⟩
    case round =>
      obtain ⟨K3, s3, rs3, qs, HC, HRS, HSC3, HV3, hne3, hN⟩ := hrel
      obtain ⟨A3, c3, hv3⟩ := own_sl HC.out.own
      subst hv3
      have HSK := skip_any HC.out.rp 93
      cases h93 : hd rs3 93 with
      | true =>
        have HE : Hid (R = some (flatP qs, rs3.tail)) := Lib.hid (by rw [← HRS.out, classL_eq, h93]; rfl)
        rw [h93] at HSK
        simp only [if_true] at HSK
        clear h93
        go_wp2_with fail
        refine HSK.mono ?_
        rintro _ w4 ⟨rfl, s4, hq4, hm4⟩
        have HC4 := Lib.hid (HC.out.call hq4 hm4)
        clear HSK hq4 hm4
        have hql : 2 * qs.length ≤ c3 ∧ c3 ≤ maxLen := ((RxParse.own_at HC4.out.own (by simp [flatP_len])).2)
        have HRD := Lib.hid (RxParse.own_at HC4.out.own (by simp [flatP_len])).1
        have HIO := RqOrd.inOrder_any qs A3 c3 w4 HV3.out HRD.out hql.1 hql.2 (by omega) hne3
        cases inv with
        | false =>
          have HE2 : Hid (ansOf false R = some (clean (flatP qs) false, rs3.tail)) := Lib.hid (by rw [HE.out]; rfl)
          obtain ⟨cl, hcl⟩ : ∃ cl, clean (flatP qs) false = cl := ⟨_, rfl⟩
          rw [hcl] at HIO HE2
          clear hcl HE HRS hql HRD
          go_wp2_with fail
          refine HIO.mono ?_
          rintro _ w5 ⟨v5, rfl, hown5, hb5⟩
          obtain ⟨A5, c5, rfl⟩ := own_sl hown5
          have HF : Hid (CP κ B K o p op dp ms v w (ansOf false R) (.returned (.slice A5 cl.length c5)) w5) := Lib.hid (by rw [HE2.out]; exact cp_new HC4.out.mo HC4.out.rp rfl hown5 hb5)
          clear HIO hown5 hb5
          go_wp2
          go_ret
          exact HF.out
        | true =>
          have HE2 : Hid (ansOf true R = some (clean (flatP qs) true, rs3.tail)) := Lib.hid (by rw [HE.out]; rfl)
          have hoc := RqPlain.oth_clean (flatP qs)
          obtain ⟨cps, hcps, hcv, hcl⟩ := clean_pairs (flatP qs)
          rw [hcps] at hoc HIO
          obtain ⟨dl, hdl⟩ : ∃ dl, clean (flatP qs) true = dl := ⟨_, rfl⟩
          rw [hdl] at HE2 hoc
          have HOC := Lib.hid hoc
          have HCV := Lib.hid hcv
          have hfl : (flatP cps).length = 2 * cps.length := flatP_len cps
          rw [hfl] at HIO
          clear hcps hdl hoc hcv hfl HE HRS hql HRD
          go_wp2_with fail
          refine HIO.mono ?_
          rintro _ w5 ⟨v5, rfl, hown5, hb5⟩
          obtain ⟨A5, c5, rfl⟩ := own_sl hown5
          have hrd5 := RxParse.own_at hown5 (by simp [flatP_len])
          have HOT := RqOth.others_any cps A5 c5 w5 HCV.out hrd5.1 hrd5.2.1 hrd5.2.2 (by omega)
          rw [HOC.out] at HOT
          have HB5 := Lib.hid hb5
          clear HIO hown5 hb5 hrd5
          go_wp2_with fail
          refine HOT.mono ?_
          rintro _ w6 ⟨v6, rfl, hown6, hb6⟩
          obtain ⟨A6, c6, rfl⟩ := own_sl hown6
          have HF : Hid (CP κ B K o p op dp ms v w (ansOf true R) (.returned (.slice A6 dl.length c6)) w6) := Lib.hid (by rw [HE2.out]; exact cp_new (HC4.out.mo.trans (Mo.same HB5.out)) (HC4.out.rp.below HB5.out) rfl hown6 hb6)
          clear HOT hown6 hb6
          go_wp2
          go_ret
          exact HF.out
      | false =>
        rw [h93] at HSK
        simp only [Bool.false_eq_true, if_false] at HSK
        have HRS4 : Hid ((match piece rs3 with | none => none | some (m, r1) => classL (flatP qs ++ m) false r1) = R) := Lib.hid (by rw [← HRS.out, classL_eq, h93]; rfl)
        clear h93 HRS
        go_wp2_with fail
        refine HSK.mono ?_
        rintro _ w4 ⟨rfl, s4, hq4, hm4⟩
        have HC4 := Lib.hid (HC.out.call hq4 hm4)
        have HMB := member_any (κ := o + 2) (by omega) hq4 HSC3.out
        clear HSK hq4 hm4 HC
        cases hp : piece rs3 with
        | none =>
          have hR := HRS4.out
          rw [hp] at hR HMB
          simp only at hR
          subst hR
          unfold CP at HMB
          simp only at HMB
          clear hp HRS4
          go_wp2_with fail
          refine HMB.mono ?_
          rintro _ w5 ⟨rfl, h2⟩
          exact ⟨rfl, FP.of HC4.out.mo ⟨rfl, h2⟩⟩
        | some x =>
          obtain ⟨m, r1⟩ := x
          obtain ⟨hrs, us, rfl, hvu, hneu, hl4u⟩ := piece_vp (sc_rs HSC3.out) hp
          have hshu := piece_short hp
          have HSC5 := Lib.hid (piece_sc HSC3.out hp)
          have hR := HRS4.out
          rw [hp] at hR HMB
          simp only at hR
          rw [← flatP_app] at hR
          have HRS5 := Lib.hid hR
          have HV5 : Hid (Vp (qs ++ us)) := Lib.hid fun y hy => by
            rcases List.mem_append.1 hy with hy | hy
            · exact HV3.out y hy
            · exact hvu y hy
          have hfl : (flatP us).length = 2 * us.length := flatP_len us
          have hu0 : 0 < us.length := List.length_pos_iff.2 hneu
          unfold CP at HMB
          simp only at HMB
          rw [hfl] at HMB
          clear hp hR hvu hrs HRS4 hneu hfl
          go_wp2_with fail
          refine HMB.mono ?_
          rintro _ w5 ⟨A5, c5, s5, K5, rfl, hq5, hm5, how5⟩
          have HC5 := Lib.hid (HC4.out.call hq5 hm5)
          have HRD5 := Lib.hid how5.rd.1
          have hw0 := HC5.out.mo.size
          clear HMB hq5 hm5 how5 HC4
          go_wp2_with (at_builtin; refine wpList_append_rd _ rfl (.tmp 12) (.tmp 14) 31 rfl w.heap.size 1 21 i0 (.int .i32 0) 4 Try.underlying31 hi hz0 hz1 hz2 rfl (by decide) _ _ _ rfl HC5.out.own w5.heap.size A5 (2 * us.length) c5 ((flatP us).map R32) rfl (by simp [flatP_len]) HRD5.out (r32_ones _) ?c3 ?c4 hw0 ?_)
          case c3 => unfold maxLen; omega
          case c4 => omega
          intro v6 w6 hown6 hg6 hat6
          have hown7 : w6.ownsRow w.heap.size 21 1 v6 (2 * (qs ++ us).length) ((flatP (qs ++ us)).map R32) := by
            rw [flatP_app, List.map_append, List.length_append, Nat.mul_add]
            exact hown6
          have HC6 := Lib.hid (HC5.out.push hown7 hg6 hat6)
          obtain ⟨A6, c6, rfl⟩ := own_sl hown7
          clear hown6 hown7 hg6 hat6 HC5 HRD5
          have hlq : (qs ++ us).length = qs.length + us.length := List.length_append
          have hneq : qs ++ us ≠ [] := by
            intro e
            have := congrArg List.length e
            rw [hlq, List.length_nil] at this
            omega
          generalize qs ++ us = zs at *
          have hmz : 8010 - lenV (.slice A6 (2 * zs.length) c6) < 8010 - lenV (.slice A3 (2 * qs.length) c3) := by simp only [lenV]; omega
          have hNz : zs.length + 4 * r1.length ≤ 4004 := by omega
          clear hlq
          go_wp2
          exact ⟨⟨_, _, r1, zs, HC6, HRS5, HSC5, HV5, hneq, hNz⟩, hmz⟩
end
end Go.Proofs.Ytdmbgjpidlllcaa.RqClass
