/- The contracts of the program's group and atom, by those of its alternative at shorter texts. Conditions: the reader lies in memory and may go on. · The program's alternative, for texts of every length. Conditions: the reader lies in memory and may go on. -/
import Derived.Test.YtdmbgjpidlllcaaRqItems
import Derived.Test.YtdmbgjpidlllcaaRqClass
import Derived.Test.YtdmbgjpidlllcaaRxAtoms
namespace Go.Proofs.Ytdmbgjpidlllcaa.RqAtom
open Go Go.RowKit Words AppN Km Mo_ RxSpec RxEq RxMem RxClean RxNode RxPost RxRowP RxAtom RqPlain RqMem RqNeed RqLay RqTimes RqCont RqEsc RqMbr RqSt RqRow RqAlt RqItem RqClass

/-- What a group is. -/
def grp (t : List Nat) : Res := match altS t with
  | none => none
  | some (p, k, r1) => if hd r1 41 then some (p, k + 1, r1.tail) else none
theorem esc_sc {rs m r1 : List Nat} (hr : ∀ r ∈ rs, UtSpec.sc r) (h : esc rs = some (m, r1)) : ∀ r ∈ r1, UtSpec.sc r := by
  cases rs with
  | nil => cases h
  | cons b t =>
    have key : r1 = t := by
      rw [esc_cons] at h
      repeat' split at h
      all_goals first | (cases h; done) | (simp only [Option.some.injEq, Prod.mk.injEq] at h; exact h.2.symm)
    subst key
    exact fun r h => hr r (List.mem_cons_of_mem _ h)
theorem classL_sc : ∀ (N : Nat) (set : List Nat) (first : Bool) (rs s r1 : List Nat), rs.length ≤ N → (∀ r ∈ rs, UtSpec.sc r) → classL set first rs = some (s, r1) → ∀ r ∈ r1, UtSpec.sc r
  | N, set, first, rs, s, r1, hN, hr, h => by
    rw [classL_eq] at h
    split at h
    · cases h; exact fun r h => hr r (List.mem_of_mem_tail h)
    · cases hp : piece rs with
      | none => rw [hp] at h; cases h
      | some x =>
        obtain ⟨m, r2⟩ := x
        rw [hp] at h
        have h1 := piece_short hp
        match N, hN with
        | 0, hN => omega
        | N + 1, hN => exact classL_sc N _ _ r2 _ _ (by omega) (piece_sc hr hp) h
theorem cls_ans (t : List Nat) : cls t = (ansOf (hd t 94) (classL [] true (if hd t 94 = true then t.tail else t))).map fun x => (.set x.1, x.2) := by
  unfold cls ansOf
  cases classL [] true (if hd t 94 = true then t.tail else t) with
  | none => rfl
  | some x =>
    obtain ⟨set, r1⟩ := x
    simp only [Option.map_some]
theorem bars_inn (r : Nat) (h : r ≠ 40 ∧ r ≠ 91 ∧ r ≠ 46 ∧ r ≠ 94 ∧ r ≠ 36 ∧ r ≠ 92) : inn r bars = inn r (specB.map UInt8.toNat) := by
  unfold inn bars specB
  rw [Bool.eq_iff_iff]
  simp
  omega
theorem atomS_group (t : List Nat) : atomS (40 :: t) = grp t := by
  rw [atomS_cons, if_pos rfl]
  unfold grp
  cases altS t with
  | none => rfl
  | some x => rfl
section
variable {κ B : Nat} {w w' w0 : World} {K K' K0 : Nat → Nat} {o p : Nat} {s s' : Sl} {rs rs' : List Nat} {op dp op' dp' : Nat} {ms ms' : List NM} {v v' vk : Value} {l : List Nat}
theorem max_castI (x b : Nat) : max (x : Int) ((b : Int) + 1) = ((max x (b + 1) : Nat) : Int) := by omega
set_option maxHeartbeats 6400000 in
set_option maxRecDepth 100000 in
theorem group_of {N : Nat} (HA : AltQ' N) {rs0 t : List Nat} (hr : RQ B w K o p s t op dp ms v) (hp : PreQ t (op + 1) (max dp (op + 1)) ms) (hN : t.length ≤ N) (hlen : t.length < rs0.length) (hdp : op ≤ dp) (hop : op ≤ 2000) :
    Calls Try.prog 42 #[.pointer (some ⟨p, 0, none⟩)] w fun e w' => (e = .panicked FCH ∨ ∃ x : Int, e = .returned (.int .i64 x)) ∧ TP B K o p rs0 op dp ms 0 w (grp t) e w' := by
  obtain ⟨c0, c1, c2, c3⟩ := hr.cells
  have f2 := hr.frozen 2
  obtain ⟨W1, hW1⟩ : ∃ W1, w.setCell ⟨p, 2, none⟩ (.int .i64 ((op : Int) + 1)) = W1 := ⟨_, rfl⟩
  have HQ1 : Hid (RQ B W1 K o p s t (op + 1) dp ms v) := Lib.hid (by rw [← hW1]; exact hr.poke 2 _ hr.runes (by unfold qcells; simp))
  have HM1 : Hid (Mo K K (fun x => x = o) w W1) := Lib.hid (by rw [← hW1]; exact hr.pokeMo 2 _)
  have HW1 := Lib.hid hW1
  obtain ⟨d0, d1, d2, d3⟩ := HQ1.out.cells
  have g3 := HQ1.out.frozen 3
  obtain ⟨mx, hmx⟩ : ∃ mx, max dp (op + 1) = mx := ⟨_, rfl⟩
  have HMX := Lib.hid hmx
  have hmxe := max_castI dp op
  rw [hmx] at hmxe hp
  rw [show ((op + 1 : Nat) : Int) = (op : Int) + 1 by omega] at d2
  have HW2 : Hid (∀ n, RQ B ((W1.drewN n).setCell ⟨p, 3, none⟩ (.int .i64 (mx : Int))) K o p s t (op + 1) mx ms v ∧ Mo K K (fun x => x = o) w ((W1.drewN n).setCell ⟨p, 3, none⟩ (.int .i64 (mx : Int)))) := Lib.hid fun n => by
    have hb : Below W1.heap.size W1 (W1.drewN n) := RxPeek.below_drewN (Below.refl _ _) n
    have h1 := HQ1.out.below hb
    exact ⟨h1.poke 3 _ h1.runes (by unfold qcells; simp), (HM1.out.trans (Mo.same hb)).trans (h1.pokeMo 3 _)⟩
  have HP := Lib.hid hp
  have hw1 : IntKind.i64.wrap ((op : Int) + 1) = (op : Int) + 1 := by rw [IntKind.wrap_i64]; omega
  have hw2 : wrap64 ((op : Int) + 1) = (op : Int) + 1 := by unfold wrap64; omega
  clear hr hW1 hmx hp
  go_enter Try.func42, Try.ntmps42
  go_wp2
  rw [HW1.out]
  have x2 : W1.drew.cell? ⟨p, 2, none⟩ = some (.int .i64 ((op : Int) + 1)) := d2
  have x3 : W1.drew.cell? ⟨p, 3, none⟩ = some (.int .i64 (dp : Int)) := d3
  have xf : W1.drew.frozen? ⟨p, 3, none⟩ = false := g3
  refine wp_region_still_tail 12 (by kernel_rfl) (by kernel_rfl) ?_
  simp only [List.take_succ_cons, List.take_zero, List.drop_succ_cons, List.drop_zero]
  iterate 12 (refine wpStill_step (fun K hK => ?_); go_simp; refine hK _ ?_; clear hK K)
  refine wpStill_nil ?_
  change wpList _ _ _ _ _ W1.drew
  obtain ⟨W2, hW2⟩ : ∃ W2, (W1.setCell ⟨p, 3, none⟩ (.int .i64 (mx : Int))).drew = W2 := ⟨_, rfl⟩
  have HQ2 : Hid (RQ B W2 K o p s t (op + 1) mx ms v ∧ Mo K K (fun x => x = o) w W2) := Lib.hid (by rw [← hW2]; exact HW2.out 1)
  have HWE := Lib.hid hW2
  have HC := HA B W2 K o p s t (op + 1) mx ms v HQ2.out.1 HP.out hN
  clear hW2 HW2 d0 d1 HQ1
  go_wp2_with fail
  rw [HWE.out]
  clear x2 x3 xf d2 d3 g3
  cases ha : altS t with
  | none =>
    have HG : Hid (grp t = none) := Lib.hid (by unfold grp; rw [ha])
    rw [ha] at HC
    unfold TP at HC
    simp only at HC
    clear ha
    refine HC.mono ?_
    rintro _ w5 ⟨rfl, h5⟩
    have hres : TP B K o p rs0 op dp ms 0 w (grp t) (.panicked FCH) w5 := by rw [HG.out]; exact FP.of HQ2.out.2 ⟨rfl, h5⟩
    exact ⟨rfl, .inl rfl, hres⟩
  | some y =>
    obtain ⟨q, k, r1⟩ := y
    rw [ha] at HC
    have HAL := Lib.hid ha
    have hsh := alt_short ha
    unfold TP at HC
    simp only at HC
    clear ha
    refine HC.mono ?_
    rintro _ w5 ⟨K5, s5, ms5, v5, rfl, hr5, hm5, hn5, hf5, hsc5⟩
    have HSK := RqAlt.skip_any hr5 41
    have HM5 := Lib.hid (HQ2.out.2.trans hm5)
    have HN5 := Lib.hid hn5
    have HSC := Lib.hid hsc5
    obtain ⟨x, hx⟩ : ∃ x, ms5.length - 1 = x := ⟨_, rfl⟩
    have HX := Lib.hid hx
    rw [hx]
    clear HC hr5 hm5 hn5 hsc5 hx HQ2 HWE
    cases h41 : hd r1 41 with
    | false =>
      have HG : Hid (grp t = none) := Lib.hid (by unfold grp; rw [HAL.out]; simp only; rw [h41]; rfl)
      rw [h41] at HSK
      simp only [Bool.false_eq_true, if_false] at HSK
      clear h41
      go_wp2_with fail
      refine HSK.mono ?_
      rintro _ w6 ⟨rfl, s6, hq6, hm6⟩
      have HM6 := Lib.hid (HM5.out.trans hm6)
      clear HSK hq6 hm6
      go_wp2_with (go_at_call 18; refine (need_no _).mono ?_; rintro e w' ⟨rfl, rfl⟩)
      have hres : TP B K o p rs0 op dp ms 0 w (grp t) (.panicked FCH) w' := by rw [HG.out]; exact ⟨rfl, _, HM6.out⟩
      exact ⟨rfl, .inl rfl, hres⟩
    | true =>
      have HG : Hid (grp t = some (q, k + 1, r1.tail)) := Lib.hid (by unfold grp; rw [HAL.out]; simp only; rw [h41]; rfl)
      have htl := hd_tail h41
      rw [h41] at HSK
      simp only [if_true] at HSK
      clear h41
      go_wp2_with fail
      refine HSK.mono ?_
      rintro _ w6 ⟨rfl, s6, hq6, hm6⟩
      obtain ⟨b0, b1, b2, b3⟩ := hq6.cells
      have bf := hq6.frozen 2
      rw [show ((op + 1 : Nat) : Int) = (op : Int) + 1 by omega] at b2
      have HM6 := Lib.hid (HM5.out.trans hm6)
      have HQ7 : Hid (RQ B (w6.setCell ⟨p, 2, none⟩ (.int .i64 (op : Int))) K5 o p s6 r1.tail op (max dp (op + (k + 1))) ms5 v5 ∧ Mo K K5 (fun x => x = o) w (w6.setCell ⟨p, 2, none⟩ (.int .i64 (op : Int)))) := Lib.hid (by
        refine ⟨?_, HM6.out.trans (hq6.pokeMo 2 _)⟩
        rw [show max dp (op + (k + 1)) = max mx (op + 1 + k) by have := HMX.out; omega]
        exact hq6.poke 2 _ hq6.runes (by unfold qcells; simp))
      have HF : Hid (TP B K o p rs0 op dp ms 0 w (grp t) (.returned (.int .i64 (x : Int))) (w6.setCell ⟨p, 2, none⟩ (.int .i64 (op : Int)))) := Lib.hid (by
        rw [HG.out, ← HX.out]
        exact ⟨K5, s6, ms5, v5, rfl, HQ7.out.1, HQ7.out.2, HN5.out, by omega, fun r hr => HSC.out r (List.mem_of_mem_tail hr)⟩)
      clear HSK hq6 hm6 HQ7 b0 b1 b3
      go_wp2_with (go_at_call 18; refine (need_ok _).mono ?_; rintro e w' ⟨rfl, rfl⟩)
      go_ret
      exact ⟨.inr ⟨_, rfl⟩, HF.out⟩
set_option maxHeartbeats 25600000 in
set_option maxRecDepth 100000 in
theorem atom_of {N : Nat} (HA : AltQ' N) : AtomQ (N + 1) := by
  intro B w K o p s rs op dp ms v hr hp hN hne
  cases rs with
  | nil => exact absurd rfl hne
  | cons r t =>
    have HNX := next_ok hr
    have hv := hp.runes r (by simp)
    have HSC : Hid (∀ x ∈ t, UtSpec.sc x) := Lib.hid fun x hx => hp.runes x (List.mem_cons_of_mem _ hx)
    have hms : ms.length < 100000 := by have := hp.few; omega
    have htop := hp.top
    have hlen := hp.len
    have hdeep := hp.deep
    have hfew := hp.few
    simp only [List.length_cons] at hlen hdeep hfew hN
    clear hr hp hne
    by_cases e40 : r = 40
    case' pos =>
      subst e40
      rw [atomS_group]
      obtain ⟨R, hR⟩ : ∃ R, grp t = R := ⟨_, rfl⟩
      rw [hR]
      have HRR := Lib.hid hR
      clear hR
      go_enter Try.func37, Try.ntmps37
      go_wp2_with fail
      refine HNX.mono ?_
      rintro _ w1 ⟨rfl, s1, hq1, hm1⟩
      have HQ := Lib.hid hq1
      have HM := Lib.hid hm1
      have hsz1 : B ≤ w1.heap.size := by have := hq1.bp; have := hq1.lt; omega
      clear HNX hq1 hm1
      have HG := group_of HA (rs0 := 40 :: t) HQ.out ⟨by omega, by omega, by omega, HSC.out, by omega⟩ (by omega) (by simp) htop (by omega)
      rw [HRR.out] at HG
      clear HQ
      go_wp2_with fail
      refine HG.mono ?_
      rintro e w9 ⟨he, h9⟩
      have H9 := Lib.hid (TP.of HM.out h9)
      clear HG h9
      rcases he with rfl | ⟨x, rfl⟩
      · exact ⟨rfl, H9.out⟩
      · go_wp2
        go_ret
        exact H9.out
    have d40 : ((r : Int) == 40) = false := by simp; omega
    by_cases e91 : r = 91
    case' pos =>
      subst e91
      obtain ⟨ans, hans⟩ : ∃ ans, ansOf (hd t 94) (classL [] true (if hd t 94 = true then t.tail else t)) = ans := ⟨_, rfl⟩
      have HR2 : Hid (atomS (91 :: t) = ans.map fun x => (.set x.1, 0, x.2)) := Lib.hid (by
        rw [atomS_cons, if_neg (by decide), if_pos rfl, cls_ans, hans, Option.map_map]
        rfl)
      have HAN := Lib.hid hans
      generalize atomS (91 :: t) = R at *
      go_enter Try.func37, Try.ntmps37
      go_wp2_with fail
      refine HNX.mono ?_
      rintro _ w1 ⟨rfl, s1, hq1, hm1⟩
      have HQ := Lib.hid hq1
      have HM := Lib.hid hm1
      have hsz1 : B ≤ w1.heap.size := by have := hq1.bp; have := hq1.lt; omega
      clear HNX hq1 hm1
      have HC := class_any (κ := o + 2) HQ.out HSC.out (by omega)
      rw [HAN.out] at HC
      clear HQ hans
      cases hx : ans with
      | none =>
        rw [hx] at HC HR2
        unfold CP at HC
        simp only at HC
        clear hx HAN
        go_wp2_with fail
        refine HC.mono ?_
        rintro _ w5 ⟨rfl, h5⟩
        have hres : TP B K o p (91 :: t) op dp ms 0 w R (.panicked FCH) w5 := by rw [HR2.out]; exact FP.of HM.out ⟨rfl, h5⟩
        exact ⟨rfl, hres⟩
      | some y =>
        obtain ⟨m, r1⟩ := y
        rw [hx] at HC HR2 HAN
        have HSH : Hid (r1.length < (91 :: t).length ∧ ∀ r ∈ r1, UtSpec.sc r) := Lib.hid (by
          have h9 := HAN.out
          unfold ansOf at h9
          cases hcl : classL [] true (if hd t 94 = true then t.tail else t) with
          | none => rw [hcl] at h9; cases h9
          | some z =>
            obtain ⟨set, r2⟩ := z
            rw [hcl] at h9
            simp only [Option.some.injEq, Prod.mk.injEq] at h9
            obtain ⟨_, rfl⟩ := h9
            have h1 := classL_short _ _ _ _ _ _ (Nat.le_refl _) hcl
            have h2 := rest_len (rs := t) 94
            exact ⟨by simp; omega, classL_sc _ _ _ _ _ _ (Nat.le_refl _) (rest_sub 94 HSC.out) hcl⟩)
        unfold CP at HC
        simp only at HC
        clear hx HAN
        go_wp2_with fail
        refine HC.mono ?_
        rintro _ w5 ⟨A5, c5, s5, K5, rfl, hq5, hm5, how5⟩
        have HST := set_end (rs := 91 :: t) hq5 (HM.out.trans hm5) (how5.sq hsz1) hms HSH.out.1 htop HSH.out.2
        clear HC hq5 hm5 how5
        go_wp2_with fail
        refine HST.mono ?_
        rintro e w9 ⟨⟨x, rfl⟩, h9⟩
        have H9 := Lib.hid h9
        clear HST h9
        go_wp2
        go_ret
        rw [HR2.out]
        exact H9.out
    have d91 : ((r : Int) == 91) = false := by simp; omega
    by_cases e46 : r = 46
    case' pos =>
      subst e46
      have HR2 : Hid (atomS (46 :: t) = some (.set [0, 9, 11, 1114111], 0, t)) := Lib.hid (by rw [atomS_cons]; rfl)
      generalize atomS (46 :: t) = R at *
      go_enter Try.func37, Try.ntmps37
      go_wp2_with fail
      refine HNX.mono ?_
      rintro _ w1 ⟨rfl, s1, hq1, hm1⟩
      have HQ := Lib.hid hq1
      have HM := Lib.hid hm1
      have hsz1 : B ≤ w1.heap.size := by have := hq1.bp; have := hq1.lt; omega
      clear HNX hq1 hm1
      obtain ⟨W2, hW2⟩ : ∃ W2, w1.alloc (.cells #[.int .i32 10, .int .i32 10] 21) = W2 := ⟨_, rfl⟩
      have HW2 := Lib.hid hW2
      have HQ2 : Hid (RQ B W2 K o p s1 t op dp ms v ∧ Mo K K (fun x => x = o) w W2) := Lib.hid (by
        have hb : Below w1.heap.size w1 W2 := by rw [← hW2]; exact (Below.refl _ w1).alloc (Nat.le_refl _) _
        exact ⟨HQ.out.below hb, HM.out.trans (Mo.same hb)⟩)
      have hrd2 : Rd W2 W2.heap.size (some ⟨w1.heap.size, 0, none⟩) ((flatP [(10, 10)]).map R32) := by
        rw [← hW2]
        have h := Rd.made' w1 ([10, 10].map R32).toArray 21
        simpa [R32, flatP] using h
      have HOT := RqOth.others_any [(10, 10)] (some ⟨w1.heap.size, 0, none⟩) 2 W2 (by simp [Vp]) hrd2 (by simp) (by unfold maxLen; omega) (by simp)
      rw [show oth 0 (flatP [(10, 10)]) = [0, 9, 11, 1114111] from rfl] at HOT
      simp only [List.length_cons, List.length_nil, Nat.zero_add, Nat.mul_one] at HOT
      have hsz2 : B ≤ W2.heap.size := by have := HQ2.out.1.bp; have := HQ2.out.1.lt; omega
      clear HQ HM hW2 hrd2
      go_wp2_with fail
      rw [HW2.out]
      refine HOT.mono ?_
      rintro _ w5 ⟨v5, rfl, hown5, hb5⟩
      obtain ⟨A5, c5, rfl⟩ := own_sl hown5
      have hmo5 : Mo K (kmark K W2.heap.size (o + 2)) (fun _ => False) W2 w5 := Mo.new hb5 _
      have how5 : OwR w5 (kmark K W2.heap.size (o + 2)) (o + 2) W2.heap.size A5 4 c5 ([0, 9, 11, 1114111].map R32) := ⟨hown5, fun b hb => kmark_new (hown5.lt b hb).1⟩
      have HST := set_end (zs := [0, 9, 11, 1114111]) (rs := 46 :: t) (HQ2.out.1.mo hmo5) (HQ2.out.2.trans (hmo5.widen fun _ h => h.elim)) (OwR.sq (m := [0, 9, 11, 1114111]) how5 hsz2) hms (by simp) htop HSC.out
      simp only [List.length_cons, List.length_nil, Nat.zero_add, Nat.reduceAdd] at HST
      clear HOT hown5 hb5 hmo5 how5 HQ2
      go_wp2_with fail
      refine HST.mono ?_
      rintro e w9 ⟨⟨x, rfl⟩, h9⟩
      have H9 := Lib.hid h9
      clear HST h9
      go_wp2
      go_ret
      rw [HR2.out]
      exact H9.out
    have d46 : ((r : Int) == 46) = false := by simp; omega
    by_cases e94 : r = 94
    case' pos =>
      subst e94
      have HR2 : Hid (atomS (94 :: t) = some (.bol, 0, t)) := Lib.hid (by rw [atomS_cons]; rfl)
      generalize atomS (94 :: t) = R at *
      go_enter Try.func37, Try.ntmps37
      go_wp2_with fail
      refine HNX.mono ?_
      rintro _ w1 ⟨rfl, s1, hq1, hm1⟩
      have HQ := Lib.hid hq1
      have HM := Lib.hid hm1
      have hsz1 : B ≤ w1.heap.size := by have := hq1.bp; have := hq1.lt; omega
      clear HNX hq1 hm1
      have HL := leaf_end (kind := 6) (zs := []) (sl := 0) (t := .bol) (k := 0) (rs := 94 :: t) HQ.out HM.out (Sq.nil_ _ _ _ _) hms (by simp [emit]) rfl (by simp; omega) htop HSC.out
      rw [show ((6 : Nat) : Int) = 6 from rfl] at HL
      simp only [List.length_nil] at HL
      clear HQ HM
      go_wp2_with fail
      refine HL.mono ?_
      rintro e w9 ⟨⟨x, rfl⟩, h9⟩
      have H9 := Lib.hid h9
      clear HL h9
      go_wp2
      go_ret
      rw [HR2.out]
      exact H9.out
    have d94 : ((r : Int) == 94) = false := by simp; omega
    by_cases e36 : r = 36
    case' pos =>
      subst e36
      have HR2 : Hid (atomS (36 :: t) = some (.eol, 0, t)) := Lib.hid (by rw [atomS_cons]; rfl)
      generalize atomS (36 :: t) = R at *
      go_enter Try.func37, Try.ntmps37
      go_wp2_with fail
      refine HNX.mono ?_
      rintro _ w1 ⟨rfl, s1, hq1, hm1⟩
      have HQ := Lib.hid hq1
      have HM := Lib.hid hm1
      have hsz1 : B ≤ w1.heap.size := by have := hq1.bp; have := hq1.lt; omega
      clear HNX hq1 hm1
      have HL := leaf_end (kind := 7) (zs := []) (sl := 0) (t := .eol) (k := 0) (rs := 36 :: t) HQ.out HM.out (Sq.nil_ _ _ _ _) hms (by simp [emit]) rfl (by simp; omega) htop HSC.out
      rw [show ((7 : Nat) : Int) = 7 from rfl] at HL
      simp only [List.length_nil] at HL
      clear HQ HM
      go_wp2_with fail
      refine HL.mono ?_
      rintro e w9 ⟨⟨x, rfl⟩, h9⟩
      have H9 := Lib.hid h9
      clear HL h9
      go_wp2
      go_ret
      rw [HR2.out]
      exact H9.out
    have d36 : ((r : Int) == 36) = false := by simp; omega
    by_cases e92 : r = 92
    case' pos =>
      subst e92
      obtain ⟨ans, hans⟩ : ∃ ans, esc t = ans := ⟨_, rfl⟩
      have HR2 : Hid (atomS (92 :: t) = ans.map fun x => (.set x.1, 0, x.2)) := Lib.hid (by
        rw [atomS_cons, if_neg (by decide), if_neg (by decide), if_neg (by decide), if_neg (by decide), if_neg (by decide), if_pos rfl, hans])
      have HAN := Lib.hid hans
      generalize atomS (92 :: t) = R at *
      go_enter Try.func37, Try.ntmps37
      go_wp2_with fail
      refine HNX.mono ?_
      rintro _ w1 ⟨rfl, s1, hq1, hm1⟩
      have HQ := Lib.hid hq1
      have HM := Lib.hid hm1
      have hsz1 : B ≤ w1.heap.size := by have := hq1.bp; have := hq1.lt; omega
      clear HNX hq1 hm1
      have HC := escape_any (κ := o + 2) HQ.out HSC.out
      rw [HAN.out] at HC
      clear HQ hans
      cases hx : ans with
      | none =>
        rw [hx] at HC HR2
        unfold CP at HC
        simp only at HC
        clear hx HAN
        go_wp2_with fail
        refine HC.mono ?_
        rintro _ w5 ⟨rfl, h5⟩
        have hres : TP B K o p (92 :: t) op dp ms 0 w R (.panicked FCH) w5 := by rw [HR2.out]; exact FP.of HM.out ⟨rfl, h5⟩
        exact ⟨rfl, hres⟩
      | some y =>
        obtain ⟨m, r1⟩ := y
        rw [hx] at HC HR2 HAN
        have HSH : Hid (r1.length < (92 :: t).length ∧ ∀ r ∈ r1, UtSpec.sc r) := Lib.hid (by
          have h1 := esc_short HAN.out
          exact ⟨by simp; omega, esc_sc HSC.out HAN.out⟩)
        unfold CP at HC
        simp only at HC
        clear hx HAN
        go_wp2_with fail
        refine HC.mono ?_
        rintro _ w5 ⟨A5, c5, s5, K5, rfl, hq5, hm5, how5⟩
        have HST := set_end (rs := 92 :: t) hq5 (HM.out.trans hm5) (how5.sq hsz1) hms HSH.out.1 htop HSH.out.2
        clear HC hq5 hm5 how5
        go_wp2_with fail
        refine HST.mono ?_
        rintro e w9 ⟨⟨x, rfl⟩, h9⟩
        have H9 := Lib.hid h9
        clear HST h9
        go_wp2
        go_ret
        rw [HR2.out]
        exact H9.out
    have d92 : ((r : Int) == 92) = false := by simp; omega
    have HI := fun wz => spec_has wz r hv
    have HR2 : Hid (atomS (r :: t) = if inn r (specB.map UInt8.toNat) then none else some (.set [r, r], 0, t)) := Lib.hid (by
      rw [atomS_cons, if_neg e40, if_neg e91, if_neg e46, if_neg e94, if_neg e36, if_neg e92, bars_inn r ⟨e40, e91, e46, e94, e36, e92⟩])
    clear e40 e91 e46 e94 e36 e92
    generalize atomS (r :: t) = R at *
    cases hi : inn r (specB.map UInt8.toNat) with
    | true =>
      simp only [hi] at HI
      have HR3 : Hid (R = none) := Lib.hid (by rw [HR2.out, hi]; rfl)
      clear hi HR2
      go_enter Try.func37, Try.ntmps37
      go_wp2_with fail
      refine HNX.mono ?_
      rintro _ w1 ⟨rfl, s1, hq1, hm1⟩
      have HQ := Lib.hid hq1
      have HM := Lib.hid hm1
      have hsz1 : B ≤ w1.heap.size := by have := hq1.bp; have := hq1.lt; omega
      clear HNX hq1 hm1
      clear HQ
      go_wp2_with fail
      refine (HI _).mono ?_
      rintro _ w2 ⟨rfl, hb2⟩
      have HM2 := Lib.hid (HM.out.trans (Mo.same hb2))
      clear HI HM hb2
      go_wp2_with (go_at_call 18; refine (need_no _).mono ?_; rintro e w' ⟨rfl, rfl⟩)
      have hres : TP B K o p (r :: t) op dp ms 0 w R (.panicked FCH) w' := by rw [HR3.out]; exact ⟨rfl, K, HM2.out⟩
      exact ⟨rfl, hres⟩
    | false =>
      simp only [hi] at HI
      have HR3 : Hid (R = some (.set [r, r], 0, t)) := Lib.hid (by rw [HR2.out, hi]; rfl)
      clear hi HR2
      have HR2 := HR3
      clear HR3
      go_enter Try.func37, Try.ntmps37
      go_wp2_with fail
      refine HNX.mono ?_
      rintro _ w1 ⟨rfl, s1, hq1, hm1⟩
      have HQ := Lib.hid hq1
      have HM := Lib.hid hm1
      have hsz1 : B ≤ w1.heap.size := by have := hq1.bp; have := hq1.lt; omega
      clear HNX hq1 hm1
      go_wp2_with fail
      refine (HI _).mono ?_
      rintro _ w2 ⟨rfl, hb2⟩
      have HQ2 := Lib.hid (HQ.out.below hb2)
      have HM2 := Lib.hid (HM.out.trans (Mo.same hb2))
      have hsz2 : B ≤ w2.heap.size := by have := HQ2.out.bp; have := HQ2.out.lt; omega
      clear HI HM HQ hb2
      have hmo3 := new_mo w2 K (.cells #[.int .i32 (r : Int), .int .i32 (r : Int)] 21) (o + 2)
      have hsq3 := made_sq (B := B) w2 K o [r, r] (by simp) hsz2
      have HST := Lib.hid (set_end (zs := [r, r]) (rs := r :: t) (HQ2.out.mo hmo3) (HM2.out.trans (hmo3.widen fun _ h => h.elim)) hsq3 hms (by simp) htop HSC.out)
      clear hmo3 hsq3
      go_wp2_with (first | (go_at_call 18; refine (need_ok _).mono ?_; rintro e w' ⟨rfl, rfl⟩) | fail)
      refine HST.out.mono ?_
      rintro e w9 ⟨⟨x, rfl⟩, h9⟩
      have H9 := Lib.hid h9
      clear HST h9
      go_wp2
      go_ret
      rw [HR2.out]
      exact H9.out
end
end Go.Proofs.Ytdmbgjpidlllcaa.RqAtom

namespace Go.Proofs.Ytdmbgjpidlllcaa.RqAll
open Go Go.RowKit Words AppN Km Mo_ RxSpec RxEq RxMem RxClean RxNode RxPost RxRowP RxAtom RqPlain RqMem RqNeed RqLay RqTimes RqCont RqEsc RqMbr RqSt RqRow RqAlt RqItem RqClass RqAtom

/-- The alternative's contract. -/
theorem alt_all : ∀ N, AltQ' N
  | 0 => alt_of (row_of (item_of fun B w K o p s rs op dp ms v h hp hN hne => by
      cases rs with
      | nil => exact absurd rfl hne
      | cons r t => simp only [List.length_cons] at hN; omega))
  | N + 1 => alt_of (row_of (item_of (atom_of (alt_all N))))

end Go.Proofs.Ytdmbgjpidlllcaa.RqAll

