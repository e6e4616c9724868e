/- The contract of the document's All: the words of a text, or of its inner runs alone, in new memory. Condition: the text has at most 2^40 bytes. -/
import Derived.Test.YtkgmcabamhpjhaaGreatUtTx
import Derived.Test.YtkgmcabamhpjhaaGreatTxOnce
import Derived.Test.YtkgmcabamhpjhaaGreatUtRunesB
namespace Go.Proofs.YtkgmcabamhpjhaaGreat.TxAll
open Go Go.RowKit Words App UtSpec UtShelf UtSmall UtRange UtOne UtOwn UtRunes UtBytes TxSpec Less TxOnce

def sel (b : Bool) (q : List (List Nat × Bool)) : List (List UInt8) := (q.filter fun p => !b || p.2).map fun p => wof p.1
theorem sel_words (s : List UInt8) : sel false (runsA [] false (rs s)) = words s := by
  unfold sel words
  rw [← runsA_fst (rs s) [] false, List.map_map]
  congr 1
  rw [List.filter_eq_self]
  intro p _
  rfl
theorem sel_inners (s : List UInt8) : sel true (runsA [] false (rs s)) = inners s := by
  unfold sel inners
  congr 1
theorem runsA_run (c : List Nat) (hc : ∀ r ∈ c, wd r = true) : ∀ (cur : List Nat) (st : Bool) (R : List Nat), runsA cur st (c ++ R) = runsA (cur ++ c) st R := by
  induction c with
  | nil => intro cur st R; simp
  | cons r c ih =>
    intro cur st R
    rw [List.cons_append, show runsA cur st (r :: (c ++ R)) = if wd r = true then runsA (cur ++ [r]) st (c ++ R) else if cur = [] then runsA [] true (c ++ R) else (cur, st) :: runsA [] true (c ++ R) from rfl, if_pos (hc r (by simp)), ih (fun x hx => hc x (by simp [hx]))]
    simp
theorem runsA_skip {r : Nat} (hr : wd r = false) (st : Bool) (R : List Nat) : runsA [] st (r :: R) = runsA [] true R := by
  have h : ¬ wd r = true := by rw [hr]; decide
  rw [show runsA [] st (r :: R) = if wd r = true then runsA ([] ++ [r]) st R else if ([] : List Nat) = [] then runsA [] true R else ([], st) :: runsA [] true R from rfl, if_neg h, if_pos rfl]
/-- A run, and what is behind it. -/
theorem runsA_step {c R : List Nat} (hc : ∀ r ∈ c, wd r = true) (hn : c ≠ []) (st : Bool) (hR : R = [] ∨ ∃ x R', R = x :: R' ∧ wd x = false) : runsA [] st (c ++ R) = (c, st && !R.isEmpty) :: runsA [] true R := by
  rw [runsA_run c hc, List.nil_append]
  rcases hR with rfl | ⟨x, R', rfl, hx⟩
  · rw [show runsA c st [] = if c = [] then [] else [(c, false)] from rfl, if_neg hn]
    simp [runsA]
  · have h : ¬ wd x = true := by rw [hx]; decide
    rw [show runsA c st (x :: R') = if wd x = true then runsA (c ++ [x]) st R' else if c = [] then runsA [] true R' else (c, st) :: runsA [] true R' from rfl, if_neg h, if_neg hn, runsA_skip hx]
    simp
theorem sel_cons (b : Bool) (p : List Nat × Bool) (q : List (List Nat × Bool)) : sel b (p :: q) = (if (!b || p.2) = true then [wof p.1] else []) ++ sel b q := by
  unfold sel
  rw [List.filter_cons]
  split <;> simp
/-- The loop behind a run. -/
theorem all_step {b : Bool} {R : List Nat} {i m : Nat} {L T : List (List UInt8)} (hm : 0 < m) (hi : i + m ≤ R.length) (hw : ∀ r ∈ (R.drop i).take m, wd r = true)
    (he : i + m = R.length ∨ ∃ h : i + m < R.length, wd (R[i + m]'h) = false) (h : L ++ sel b (runsA [] (decide (0 < i)) (R.drop i)) = T) :
    (L ++ (if (!b || (decide (0 < i) && decide (i + m < R.length))) = true then [wof ((R.drop i).take m)] else [])) ++ sel b (runsA [] (decide (0 < i + m)) (R.drop (i + m))) = T := by
  have e : R.drop i = (R.drop i).take m ++ R.drop (i + m) := by rw [← List.drop_drop, List.take_append_drop]
  have hn : (R.drop i).take m ≠ [] := by
    intro h
    have := congrArg List.length h
    rw [List.length_take, List.length_drop, List.length_nil] at this
    omega
  have hR : R.drop (i + m) = [] ∨ ∃ x R', R.drop (i + m) = x :: R' ∧ wd x = false := by
    rcases he with he | ⟨h, he⟩
    · exact .inl (List.drop_eq_nil_of_le (by omega))
    · exact .inr ⟨_, _, List.drop_eq_getElem_cons h, he⟩
  have hE : (!(R.drop (i + m)).isEmpty) = decide (i + m < R.length) := by
    rw [Bool.eq_iff_iff]
    simp
  rw [← h]
  conv => rhs; rw [e, runsA_step hw hn _ hR, sel_cons, hE]
  rw [List.append_assoc, show decide (0 < i + m) = true by simp; omega]
theorem wof_next {c : List Nat} {k : Nat} (hk : k < c.length) : wof (c.take (k + 1)) = wof (c.take k) ++ if k < 32 then enc (smallN c[k]) else [] := by
  unfold wof
  rw [List.take_take, List.take_take]
  by_cases h : k < 32
  · rw [if_pos h, Nat.min_eq_right (by omega), Nat.min_eq_right (by omega), List.take_succ_eq_append_getElem hk, List.map_append, encs_append]
    simp [encs]
  · rw [if_neg h, Nat.min_eq_left (by omega), Nat.min_eq_left (by omega), List.append_nil]
theorem wof_len {c : List Nat} (h : ∀ r ∈ c, sc r) : (wof c).length ≤ 128 := by
  unfold wof
  have h1 := encs_len (rs := (c.take 32).map smallN) (fun r hr => by
    obtain ⟨x, hx, rfl⟩ := List.mem_map.1 hr
    exact smallN_sc (h x (List.mem_of_mem_take hx)))
  rw [List.length_map, List.length_take] at h1
  omega

def I32 (r : Nat) : Value := .int .i32 (r : Int)
/-- The loop over the runes, between runs. -/
def ARel (b : Bool) (R : List Nat) (T : List (List UInt8)) (w1 _w : World) (vl vi : Value) (wr : World) : Prop :=
  ∃ (i : Nat) (L : List (List UInt8)), vi = .int .i64 (i : Int) ∧ i ≤ R.length ∧ L.length ≤ i ∧ wr.ownsRow w1.heap.size 9 1 vl L.length (L.map S8) ∧ Hid (L ++ sel b (runsA [] (decide (0 < i)) (R.drop i)) = T) ∧ Hid (Below w1.heap.size w1 wr)
/-- The loop over a run: m runes of it are read. -/
def WRel (R : List Nat) (i n : Nat) (xs : List Value) (w1 : World) (vl vi vw : Value) (wr : World) : Prop :=
  ∃ (m : Nat) (W : ByteArray), vi = .int .i64 ((i + m : Nat) : Int) ∧ i + m ≤ R.length ∧ vw = .string W ∧ Hid (W = ⟨(wof ((R.drop i).take m)).toArray⟩) ∧ W.size ≤ 128 ∧ Hid (∀ r ∈ (R.drop i).take m, wd r = true) ∧ wr.ownsRow w1.heap.size 9 1 vl n xs ∧ Hid (Below w1.heap.size w1 wr)
def APost (b : Bool) (s : List UInt8) (w : World) (e : Ending) (w' : World) : Prop :=
  ∃ v, e = .returned v ∧ w'.ownsRow w.heap.size 9 1 v (sel b (runsA [] false (rs s))).length ((sel b (runsA [] false (rs s))).map S8) ∧ Below w.heap.size w w'
theorem own_word {w : World} {base : Nat} {v : Value} {L : List (List UInt8)} {x : List UInt8} {W : ByteArray} (hW : W = ⟨x.toArray⟩) (h : w.ownsRow base 9 1 v (L.length + 1) (L.map S8 ++ [.string W])) : w.ownsRow base 9 1 v (L ++ [x]).length ((L ++ [x]).map S8) := by
  subst hW
  rw [List.length_append, List.map_append]
  exact h
theorem refword_at (r : Nat) (w : World) (b : Bool) (hb : wd r = b) : Calls Tryz.prog 65 #[.int .i32 (r : Int)] w fun e w' => e = .returned (.bool b) ∧ w = w' := by
  subst hb
  exact refword_any (r : Int) w
theorem take_next {R : List Nat} {i m : Nat} (h : i + m < R.length) : (R.drop i).take (m + 1) = (R.drop i).take m ++ [R[i + m]] := by
  rw [List.take_succ_eq_append_getElem (by rw [List.length_drop]; omega), List.getElem_drop]
theorem word_grow {R : List Nat} {i m : Nat} {W : ByteArray} (h : i + m < R.length) (hm : m < 32) (hW : W = ⟨(wof ((R.drop i).take m)).toArray⟩) : W ++ ⟨(enc (smallN R[i + m])).toArray⟩ = ⟨(wof ((R.drop i).take (m + 1))).toArray⟩ := by
  have h1 : m < (R.drop i).length := by rw [List.length_drop]; omega
  rw [wof_next h1, if_pos hm, List.getElem_drop, hW]
  apply ByteArray.ext
  simp
theorem word_stay {R : List Nat} {i m : Nat} {W : ByteArray} (h : i + m < R.length) (hm : ¬ m < 32) (hW : W = ⟨(wof ((R.drop i).take m)).toArray⟩) : W = ⟨(wof ((R.drop i).take (m + 1))).toArray⟩ := by
  have h1 : m < (R.drop i).length := by rw [List.length_drop]; omega
  rw [wof_next h1, if_neg hm, List.append_nil]
  exact hW
theorem size_len (l : List UInt8) : (⟨l.toArray⟩ : ByteArray).size = l.length := by show l.toArray.size = _; simp

set_option maxHeartbeats 12800000 in
set_option maxRecDepth 100000 in
theorem all_any (s : ByteArray) (b : Bool) (w : World) (hs : s.size ≤ 1099511627776) : Calls Tryz.prog 43 #[.string s, .bool b] w (APost b s.data.toList w) := by
  obtain ⟨i1, gi, gz0, gz1, gz2⟩ := info_parts info_str
  have HR := Lib.hid (runes_any s w hs)
  unfold RPost at HR
  have hrl := runes_len s.data.toList
  have e2 : s.data.toList.length = s.size := by simp
  rw [e2] at hrl
  have hRR : (runes s.data.toList).map R32 = (rs s.data.toList).map I32 := by unfold rs; rw [List.map_map]; rfl
  have hRL : (runes s.data.toList).length = (rs s.data.toList).length := by unfold rs; rw [List.length_map]
  have HSC := Lib.hid (rs_sc s.data.toList)
  rw [hRR, hRL] at HR
  rw [hRL] at hrl
  unfold APost
  generalize rs s.data.toList = R at *
  obtain ⟨T, hT⟩ : ∃ T, sel b (runsA [] false R) = T := ⟨_, rfl⟩
  rw [hT]
  have HT := Lib.hid hT
  clear hRR hRL e2 hT
  go_enter Tryz.func43, Tryz.ntmps43
  go_wp2_with fail
  refine HR.out.mono ?_
  rintro e w1 ⟨v1, rfl, hown1, hb1⟩
  obtain ⟨A, c, rfl, hAc, hcm, _⟩ := own_slice hown1
  have HRD := Lib.hid (Rd.of_own hown1)
  have HB1 := Lib.hid hb1
  unfold maxLen at hcm
  clear hown1 hb1 HR
  go_wp2
  go_loopw [7, 8] (fun vl vi wr => ARel b R T w1 w vl vi wr) (fun _ vi _ => R.length - (intOf vi).toNat)
  case atStart => exact ⟨0, [], rfl, Nat.zero_le _, Nat.le_refl _, World.ownsRow_nil .., Lib.hid (by rw [List.nil_append, List.drop_zero]; exact HT.out), Lib.hid (Below.refl _ _)⟩
  case round =>
    obtain ⟨i, L, rfl, hi, hLl, hown, HL, HB⟩ := hrel
    have HO := Lib.hid hown
    clear hown
    by_cases hlt : i < R.length
    · obtain ⟨bb, off, rfl, hbb, hcell⟩ := HRD.out (by simp; omega)
      have HC : Hid (∀ (wx : World) (k : Nat) (h : k < R.length), Below w1.heap.size w1 wx → wx.cell? ⟨bb, off + k, none⟩ = some (.int .i32 ((R[k]'h : Nat) : Int))) := Lib.hid (fun wx k h hb => by
        rw [hb.cell (p := ⟨bb, off + k, none⟩) hbb]
        refine hcell k _ ?_
        rw [List.getElem?_map, List.getElem?_eq_getElem h]
        rfl)
      have k1 := HC.out wr i hlt HB.out
      obtain ⟨r, hr⟩ : ∃ r, R[i] = r := ⟨_, rfl⟩
      rw [hr] at k1
      obtain ⟨bw, hbw⟩ : ∃ bw, wd r = bw := ⟨_, rfl⟩
      have HW1 := Lib.hid (refword_at r wr bw hbw)
      have hdr : R.drop i = r :: R.drop (i + 1) := by rw [← hr]; exact List.drop_eq_getElem_cons hlt
      clear hcell
      cases bw with
      | false =>
        have HL2 : Hid (L ++ sel b (runsA [] (decide (0 < i + 1)) (R.drop (i + 1))) = T) := Lib.hid (by
          have h := HL.out
          rw [hdr, runsA_skip hbw] at h
          rw [show decide (0 < i + 1) = true by simp]
          exact h)
        clear hr hbw hdr HL
        go_wp2_with fail
        refine HW1.out.mono ?_
        rintro e w' ⟨rfl, rfl⟩
        go_wp2
        go_roundw
        case rel => exact ⟨i + 1, L, by go_num, by omega, by omega, HO.out, HL2, HB⟩
        case measure => simp [intOf]; omega
      | true =>
        have HWR : Hid (wd (R[i]'hlt) = true) := Lib.hid (by rw [hr]; exact hbw)
        clear hr hbw hdr
        go_wp2_with fail
        refine HW1.out.mono ?_
        rintro e w' ⟨rfl, rfl⟩
        clear HW1 k1
        obtain ⟨wo, rfl⟩ : ∃ wo : World, wo = wr := ⟨_, rfl⟩
        go_wp2
        go_loopw [8, 10] (fun vi vw wr => WRel R i L.length (L.map S8) w1 _ vi vw wr) (fun vi _ _ => R.length - (intOf vi).toNat)
        case atStart => exact ⟨0, ByteArray.empty, by go_num, by omega, rfl, Lib.hid rfl, by decide, Lib.hid (by simp), HO.out, HB⟩
        case round =>
          obtain ⟨m, W, rfl, him, rfl, HWW, hWs, HWD, hown2, HB2⟩ := hrel
          have HO2 := Lib.hid hown2
          clear hown2 HO HB
          by_cases hml : i + m < R.length
          · have k2 := HC.out wr (i + m) hml HB2.out
            have hsr : sc (R[i + m]) := HSC.out _ (List.getElem_mem hml)
            have HWG : Hid (m < 32 → W ++ ⟨(enc (smallN R[i + m])).toArray⟩ = ⟨(wof ((R.drop i).take (m + 1))).toArray⟩) := Lib.hid (fun h => word_grow hml h HWW.out)
            have HWS : Hid (¬ m < 32 → W = ⟨(wof ((R.drop i).take (m + 1))).toArray⟩) := Lib.hid (fun h => word_stay hml h HWW.out)
            have hlen1 : (wof ((R.drop i).take (m + 1))).length ≤ 128 := wof_len (fun r hr => HSC.out r (List.mem_of_mem_drop (List.mem_of_mem_take hr)))
            have HWN : Hid (wd (R[i + m]) = true → ∀ r ∈ (R.drop i).take (m + 1), wd r = true) := Lib.hid (fun h r hr => by
              rw [take_next hml] at hr
              rcases List.mem_append.1 hr with hr | hr
              · exact HWD.out r hr
              · rw [List.mem_singleton] at hr
                rw [hr]
                exact h)
            have HWE : Hid (wd (R[i + m]) = false → i + m = R.length ∨ ∃ h : i + m < R.length, wd (R[i + m]'h) = false) := Lib.hid (fun h => .inr ⟨hml, h⟩)
            have HM0 : Hid (wd (R[i + m]) = false → 0 < m) := Lib.hid (fun h => by
              rcases Nat.eq_zero_or_pos m with rfl | h0
              · have := HWR.out
                simp only [Nat.add_zero] at h
                rw [h] at this
                cases this
              · exact h0)
            obtain ⟨q, hq⟩ : ∃ q, R[i + m] = q := ⟨_, rfl⟩
            rw [hq] at k2 hsr HWG HWN HM0 HWE
            obtain ⟨bw, hbw⟩ : ∃ bw, wd q = bw := ⟨_, rfl⟩
            have HW2 := Lib.hid (refword_at q wr bw hbw)
            clear hq
            cases bw with
            | true =>
              have HWN2 := Lib.hid (HWN.out hbw)
              clear HWN HWE HM0 hbw HWD HWW
              go_wp2_with fail
              refine HW2.out.mono ?_
              rintro e w' ⟨rfl, rfl⟩
              by_cases hm32 : m < 32
              · have HG2 := Lib.hid (HWG.out hm32)
                have hq1 : q ≤ 1114111 := by unfold sc at hsr; omega
                have HSM := Lib.hid (refsmall_any (q : Int) wr (by omega) (by omega))
                rw [small_nat] at HSM
                have HBY := Lib.hid (bytes_any (smallN q) wr (smallN_sc hsr))
                unfold BPost at HBY
                generalize enc (smallN q) = E at *
                generalize smallN q = sq at *
                have HM : Hid (Rd (wr.alloc (.cells (E.map B8).toArray 5)) (wr.heap.size + 1) (some ⟨wr.heap.size, 0, none⟩) (E.map B8)) := Lib.hid (by simpa using Rd.made wr (E.map B8).toArray 5)
                have hcv := run_bytes (P := Tryz.prog) (wr.alloc (.cells (E.map B8).toArray 5)) 102 9 5 Tryz.underlying102 Tryz.underlying5 Tryz.underlying9 (some ⟨wr.heap.size, 0, none⟩) E E.length _ HM.out
                have HZ2 : Hid ((W ++ ⟨E.toArray⟩).size ≤ 128) := Lib.hid (by rw [HG2.out, size_len]; exact hlen1)
                have hEs : (⟨E.toArray⟩ : ByteArray).size ≤ 128 := by have h := HZ2.out; rw [ByteArray.size_append] at h; omega
                have hmi : ((i + m : Nat) : Int) - (i : Int) = (m : Int) := by omega
                have hd32 : decide ((m : Int) < 32) = true := by simp; omega
                have HO3 := Lib.hid (HO2.out.alloc (.cells (E.map B8).toArray 5))
                have HB3 : Hid (Below w1.heap.size w1 (wr.alloc (.cells (E.map B8).toArray 5))) := Lib.hid (HB2.out.alloc HB2.out.size _)
                clear HWG HWS hlen1 hsr HM
                go_wp2_with fail
                refine HSM.out.mono ?_
                rintro e w' ⟨rfl, rfl⟩
                go_wp2_with fail
                refine HBY.out.mono ?_
                rintro e w' ⟨rfl, rfl⟩
                clear HSM HBY HW2
                go_wp2
                go_roundw
                case rel => exact ⟨m + 1, W ++ ⟨E.toArray⟩, by go_num, by omega, rfl, HG2, HZ2.out, HWN2, HO3.out, HB3⟩
                case measure => simp [intOf]; omega
              · have HS2 := Lib.hid (HWS.out hm32)
                have hmi : ((i + m : Nat) : Int) - (i : Int) = (m : Int) := by omega
                have hd32 : decide ((m : Int) < 32) = false := by simp; omega
                clear HWG HWS hlen1 HW2
                go_wp2
                go_roundw
                case rel => exact ⟨m + 1, W, by go_num, by omega, rfl, HS2, hWs, HWN2, HO2.out, HB2⟩
                case measure => simp [intOf]; omega
            | false =>
              have hm0 := HM0.out hbw
              have HST := Lib.hid (all_step (b := b) hm0 him HWD.out (HWE.out hbw) HL.out)
              clear HWN HM0 HWE hbw HWG HWS hlen1 hsr
              go_wp2_with fail
              refine HW2.out.mono ?_
              rintro e w' ⟨rfl, rfl⟩
              clear HW2 k2
              obtain ⟨z, hz⟩ : ∃ z, (!b || (decide (0 < i) && decide (i + m < R.length))) = z := ⟨_, rfl⟩
              rw [hz] at HST
              have f1 : decide (0 < (i : Int)) = decide (0 < i) := by rw [decide_eq_decide]; omega
              have f2 : decide (((i + m : Nat) : Int) < (R.length : Int)) = decide (i + m < R.length) := by rw [decide_eq_decide]; omega
              have hbase := HB2.out.size
              obtain ⟨x1, hx1⟩ : ∃ x, decide (0 < i) = x := ⟨_, rfl⟩
              obtain ⟨x2, hx2⟩ : ∃ x, decide (i + m < R.length) = x := ⟨_, rfl⟩
              rw [hx1, hx2] at hz
              rw [hx1] at f1
              rw [hx2] at f2
              have f3 : decide ((i : Int) + (m : Int) < (R.length : Int)) = x2 := by rw [← f2]; congr 2
              have f4 : decide (0 < i) = x1 := hx1
              have f5 : decide (i + m < R.length) = x2 := hx2
              have HWX := HWW
              have hone : ∀ u ∈ [Value.string W], u.oneCell' = true := by intro u hu; simp at hu; subst hu; rfl
              have HONE := Lib.hid hone
              have g2 : L.length + 1 ≤ maxLen := by unfold maxLen; omega
              have g3 : (L.length + 1) * 16 ≤ 140737488355328 := by omega
              have g4 : w1.heap.size ≤ (wr.alloc (.cells #[.string W] 9)).heap.size := by simp; omega
              have HMW := Lib.hid (Rd.made wr #[.string W] 9)
              clear hx1 hx2 hone HWW HL
              cases z with
              | true =>
                have HST2 : Hid ((L ++ [wof ((R.drop i).take m)]) ++ sel b (runsA [] (decide (0 < i + m)) (R.drop (i + m))) = T) := Lib.hid HST.out
                have HZZ := Lib.hid hz
                clear HST hz
                revert f1 f2 f3 f4 f5 HZZ
                cases b <;> cases x1 <;> cases x2 <;> intro f1 f2 f3 f4 f5 HZZ
                all_goals first
                  | (exact absurd HZZ.out (by decide))
                  | (exfalso; have h9 := of_decide_eq_true f5; omega)
                  | (exfalso; have h9 := of_decide_eq_false f5; omega)
                  | skip
                all_goals
                  go_wp2_with (at_builtin; refine wpList_append_rd _ rfl (.tmp 67) (.tmp 69) 49 rfl w1.heap.size 9 i1 (.string ByteArray.empty) 16 Tryz.underlying49 gi gz0 gz1 gz2 rfl _ _ _ rfl (HO2.out.alloc _) (wr.heap.size + 1) (some ⟨wr.heap.size, 0, none⟩) 1 1 [.string W] rfl rfl HMW.out HONE.out g2 g3 g4 ?_)
                  intro v3 w3 hown3 hg3 _
                  have HO3 := Lib.hid (own_word HWX.out hown3)
                  have HB3 := Lib.hid (below_appw HO2.out HB2.out hg3)
                  clear hown3 hg3
                  go_wp2
                  go_roundw
                  case rel => exact ⟨i + m, L ++ [wof ((R.drop i).take m)], by go_num, him, by simp; omega, HO3.out, HST2, HB3⟩
                  case measure => simp [intOf]; omega
              | false =>
                have HST2 : Hid (L ++ sel b (runsA [] (decide (0 < i + m)) (R.drop (i + m))) = T) := Lib.hid (by
                  have h := HST.out
                  rw [if_neg (by decide), List.append_nil] at h
                  exact h)
                have HZZ := Lib.hid hz
                clear HST hz HMW HONE
                revert f1 f2 f3 f4 f5 HZZ
                cases b <;> cases x1 <;> cases x2 <;> intro f1 f2 f3 f4 f5 HZZ
                all_goals first
                  | (exact absurd HZZ.out (by decide))
                  | (exfalso; have h9 := of_decide_eq_true f5; omega)
                  | (exfalso; have h9 := of_decide_eq_false f5; omega)
                  | skip
                all_goals
                  go_wp2
                  go_roundw
                  case rel => exact ⟨i + m, L, by go_num, him, by omega, HO2.out, HST2, HB2⟩
                  case measure => simp [intOf]; omega
          · have himl : i + m = R.length := by omega
            have hm0 : 0 < m := by omega
            have HST := Lib.hid (all_step (b := b) hm0 him HWD.out (.inl himl) HL.out)
            have hge : R.length ≤ i + m := by omega
            clear himl hml
            obtain ⟨z, hz⟩ : ∃ z, (!b || (decide (0 < i) && decide (i + m < R.length))) = z := ⟨_, rfl⟩
            rw [hz] at HST
            have f1 : decide (0 < (i : Int)) = decide (0 < i) := by rw [decide_eq_decide]; omega
            have f2 : decide (((i + m : Nat) : Int) < (R.length : Int)) = decide (i + m < R.length) := by rw [decide_eq_decide]; omega
            have hbase := HB2.out.size
            obtain ⟨x1, hx1⟩ : ∃ x, decide (0 < i) = x := ⟨_, rfl⟩
            obtain ⟨x2, hx2⟩ : ∃ x, decide (i + m < R.length) = x := ⟨_, rfl⟩
            rw [hx1, hx2] at hz
            rw [hx1] at f1
            rw [hx2] at f2
            have f3 : decide ((i : Int) + (m : Int) < (R.length : Int)) = x2 := by rw [← f2]; congr 2
            have f4 : decide (0 < i) = x1 := hx1
            have f5 : decide (i + m < R.length) = x2 := hx2
            have HWX := HWW
            have hone : ∀ u ∈ [Value.string W], u.oneCell' = true := by intro u hu; simp at hu; subst hu; rfl
            have HONE := Lib.hid hone
            have g2 : L.length + 1 ≤ maxLen := by unfold maxLen; omega
            have g3 : (L.length + 1) * 16 ≤ 140737488355328 := by omega
            have g4 : w1.heap.size ≤ (wr.alloc (.cells #[.string W] 9)).heap.size := by simp; omega
            have HMW := Lib.hid (Rd.made wr #[.string W] 9)
            clear hx1 hx2 hone HWW HL
            cases z with
            | true =>
              have HST2 : Hid ((L ++ [wof ((R.drop i).take m)]) ++ sel b (runsA [] (decide (0 < i + m)) (R.drop (i + m))) = T) := Lib.hid HST.out
              have HZZ := Lib.hid hz
              clear HST hz
              revert f1 f2 f3 f4 f5 HZZ
              cases b <;> cases x1 <;> cases x2 <;> intro f1 f2 f3 f4 f5 HZZ
              all_goals first
                | (exact absurd HZZ.out (by decide))
                | (exfalso; have h9 := of_decide_eq_true f5; omega)
                | (exfalso; have h9 := of_decide_eq_false f5; omega)
                | skip
              all_goals
                go_wp2_with (at_builtin; refine wpList_append_rd _ rfl (.tmp 67) (.tmp 69) 49 rfl w1.heap.size 9 i1 (.string ByteArray.empty) 16 Tryz.underlying49 gi gz0 gz1 gz2 rfl _ _ _ rfl (HO2.out.alloc _) (wr.heap.size + 1) (some ⟨wr.heap.size, 0, none⟩) 1 1 [.string W] rfl rfl HMW.out HONE.out g2 g3 g4 ?_)
                intro v3 w3 hown3 hg3 _
                have HO3 := Lib.hid (own_word HWX.out hown3)
                have HB3 := Lib.hid (below_appw HO2.out HB2.out hg3)
                clear hown3 hg3
                go_wp2
                go_roundw
                case rel => exact ⟨i + m, L ++ [wof ((R.drop i).take m)], by go_num, him, by simp; omega, HO3.out, HST2, HB3⟩
                case measure => simp [intOf]; omega
            | false =>
              have HST2 : Hid (L ++ sel b (runsA [] (decide (0 < i + m)) (R.drop (i + m))) = T) := Lib.hid (by
                have h := HST.out
                rw [if_neg (by decide), List.append_nil] at h
                exact h)
              have HZZ := Lib.hid hz
              clear HST hz HMW HONE
              revert f1 f2 f3 f4 f5 HZZ
              cases b <;> cases x1 <;> cases x2 <;> intro f1 f2 f3 f4 f5 HZZ
              all_goals first
                | (exact absurd HZZ.out (by decide))
                | (exfalso; have h9 := of_decide_eq_true f5; omega)
                | (exfalso; have h9 := of_decide_eq_false f5; omega)
                | skip
              all_goals
                go_wp2
                go_roundw
                case rel => exact ⟨i + m, L, by go_num, him, by omega, HO2.out, HST2, HB2⟩
                case measure => simp [intOf]; omega
    · have hin : i = R.length := by omega
      have HE : Hid (L = T) := Lib.hid (by
        have h := HL.out
        rw [hin, List.drop_length] at h
        rw [← h]
        simp [sel, runsA])
      have HB3 := Lib.hid (HB1.out.trans (HB.out.mono HB1.out.size))
      have HO3 := Lib.hid (own_mono HO.out HB1.out.size)
      clear HL HB HO hin
      go_wp2
      go_ret
      exact ⟨_, rfl, by rw [← HE.out]; exact HO3.out, HB3.out⟩
end Go.Proofs.YtkgmcabamhpjhaaGreat.TxAll
