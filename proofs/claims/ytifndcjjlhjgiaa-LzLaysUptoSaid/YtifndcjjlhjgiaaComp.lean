/- The contracts of lz.putPlain, lz.putParts and lz.Compress: what 'CompSpec.comp' says, in memory of the call's own; nothing that was there has changed. Condition: the slice's length is at most its capacity. -/
import Derived.Test.YtifndcjjlhjgiaaFind
import Derived.Test.YtifndcjjlhjgiaaAppend
namespace Go.Proofs.Ytifndcjjlhjgiaa.Comp
open Go Go.RowKit Words Plain Put Own App CompSpec Map Find

/-- What putPlain answers: the row from block B on, longer; nothing else has changed. -/
def QPost (B : Nat) (w : World) (row : Option Nat) (l : List UInt8) (e : Ending) (w' : World) : Prop :=
  ∃ v, e = .returned v ∧ w'.ownsRow B 5 1 v l.length (l.map B8) ∧ w.grownBy w' row
/-- A row that grows in place or moves to a new block, twice. -/
theorem grown_two {w w1 w2 w4 : World} {r r2 : Option Nat} (h1 : Below w.heap.size w w1) (h2 : w1.grownBy w2 r) (h4 : w2.grownBy w4 r2) (hr : r2 = r ∨ r2 = some w1.heap.size) : w.grownBy w4 r := by
  have s1 := h1.size
  have s2 := h2.size
  have s4 := h4.size
  refine ⟨h4.os.trans (h2.os.trans h1.os), h4.tape.trans (h2.tape.trans h1.tape), h4.output.trans (h2.output.trans h1.output), by omega, fun i hi hne => ?_⟩
  have hne2 : some i ≠ r2 := by
    rcases hr with rfl | rfl
    · exact hne
    · intro e
      injection e with e
      omega
  rw [h4.block i (by omega) hne2, h2.block i (by omega) hne, h1.block i hi]

theorem below_b {B : Nat} {w w' : World} {n : Nat} {e : TypeId} {v : Value} {xs : List Value} (h : w.ownsRow B e 1 v n xs) (hg : w.grownBy w' v.ownBlock) (hB : B ≤ w.heap.size) : Below B w w' :=
  (Below.refl _ _).grown hg hB (own_lt h)


set_option maxHeartbeats 800000 in
theorem plain_nil (B : Nat) (w : World) (acc : List UInt8) (x : List UInt8) (v : Value) (A : Option Addr) (c : Nat) (hown : w.ownsRow B 5 1 v acc.length (acc.map B8)) (h : x = []) : Calls Try.prog 17 #[v, .slice A 0 c] w (QPost B w v.ownBlock (acc ++ plainP x)) := by
  subst h
  have HO := Lib.hid hown
  obtain ⟨A1, c1, rfl, _, _, _⟩ := own_slice hown
  have e : acc ++ plainP [] = acc := by simp [plainP]
  rw [e]
  clear hown e
  go_enter Try.func17, Try.ntmps17
  go_wp2
  go_ret
  exact ⟨_, rfl, HO.out, only_of_below (Below.refl _ _) _⟩

set_option maxHeartbeats 1600000 in
set_option maxRecDepth 100000 in
theorem plain_some (B : Nat) (w : World) (hB : B ≤ w.heap.size) (acc : List UInt8) (x : List UInt8) (v : Value) (A : Option Addr) (c : Nat) (hown : w.ownsRow B 5 1 v acc.length (acc.map B8)) (hr : Rd w B A (x.map B8)) (hacc : acc.length ≤ 1000000) (hx : x.length ≤ 65536) (h : x ≠ []) : Calls Try.prog 17 #[v, .slice A x.length c] w (QPost B w v.ownBlock (acc ++ plainP x)) := by
  obtain ⟨i0, hi, hz0, hz1, hz2⟩ := info_parts info_u8
  have HO := Lib.hid hown
  have HR := Lib.hid hr
  obtain ⟨A1, c1, rfl, _, _, _⟩ := own_slice hown
  have hpos : 0 < x.length := List.length_pos_iff.2 h
  have hz : ((x.length : Int) == 0) = false := beq_eq_false_iff_ne.2 (by omega)
  have HE : Hid (acc ++ plainP x = (acc ++ Lib.uvarint (2 * x.length)) ++ x) := Lib.hid (by unfold plainP; rw [if_neg h, List.append_assoc])
  have HP := Lib.hid (put_one (2 * x.length) w (by omega))
  have hU := uv3 (2 * x.length) (by omega)
  rw [show ((2 * x.length : Nat) : Int) = (x.length : Int) * 2 by omega] at HP
  generalize Lib.uvarint (2 * x.length) = U at *
  clear hown hr h
  go_enter Try.func17, Try.ntmps17
  go_wp2_with fail
  refine HP.out.mono ?_
  rintro e w1 ⟨v1, rfl, hown1, hb1⟩
  have HB1 := Lib.hid (hb1.mono hB)
  have HBB := Lib.hid hb1
  have HO1 := Lib.hid (own_keep HO.out hb1)
  obtain ⟨A2, c2, rfl, _, _, _⟩ := own_slice hown1
  have HR1 := Lib.hid (Rd.of_own hown1)
  clear hown1 hb1 HP HO
  have hB1 : B ≤ w1.heap.size := by have := HB1.out.size; omega
  go_wp2_with (at_builtin; refine wpList_append_rd _ rfl (.tmp 9) (.tmp 15) 22 rfl B 5 i0 (.int .u8 0) 1 Try.underlying22 hi hz0 hz1 hz2 rfl _ _ _ rfl HO1.out w1.heap.size _ _ _ (U.map B8) rfl (by simp) HR1.out (one8 U) ?f2 ?f3 hB1 ?_)
  case f2 => unfold maxLen; omega
  case f3 => omega
  intro v2 w2 hown2 hg2 hloc
  have HLOC := Lib.hid hloc
  have HG2 := Lib.hid hg2
  have HB2 := Lib.hid (HB1.out.trans (below_b HO1.out hg2 hB1))
  have HO2 := Lib.hid (own_join (by simpa using hown2))
  have hl2 : (acc ++ U).length ≤ 1000003 := by rw [List.length_append]; omega
  clear hown2 hg2 HO1 HR1 HB1 hloc
  have hB2 : B ≤ w2.heap.size := by have := HB2.out.size; omega
  generalize acc ++ U = acc2 at *
  have HR2 := Lib.hid (HR.out.below HB2.out)
  obtain ⟨A3, c3, rfl, _, _, _⟩ := own_slice HO2.out
  go_wp2_with (at_builtin; refine wpList_append_rd _ rfl (.tmp 17) (.tmp 18) 22 rfl B 5 i0 (.int .u8 0) 1 Try.underlying22 hi hz0 hz1 hz2 rfl _ _ _ rfl HO2.out B _ _ _ (x.map B8) rfl (by simp) HR2.out (one8 x) ?g2 ?g3 hB2 ?_)
  case g2 => unfold maxLen; omega
  case g3 => omega
  intro v4 w4 hown4 hg4 _
  have HB4 := Lib.hid (grown_two HBB.out HG2.out hg4 HLOC.out)
  have HO4 := Lib.hid (own_join (by simpa using hown4))
  clear hown4 hg4 HO2 HR2 HB2
  go_wp2
  go_ret
  rw [HE.out]
  exact ⟨v4, rfl, HO4.out, HB4.out⟩
/-- lz.putPlain. -/
theorem plain_any (B : Nat) (w : World) (hB : B ≤ w.heap.size) (acc : List UInt8) (x : List UInt8) (v : Value) (A : Option Addr) (c : Nat) (hown : w.ownsRow B 5 1 v acc.length (acc.map B8)) (hr : Rd w B A (x.map B8)) (hacc : acc.length ≤ 1000000) (hx : x.length ≤ 65536) {n : Nat} (hn : n = x.length) : Calls Try.prog 17 #[v, .slice A n c] w (QPost B w v.ownBlock (acc ++ plainP x)) := by
  subst hn
  by_cases h : x = []
  · have := plain_nil B w acc x v A c hown h
    rw [h] at this ⊢
    exact this
  · exact plain_some B w hB acc x v A c hown hr hacc hx h

/-- The loop over the bytes. -/
def RelC (b T : List UInt8) (M : Nat) (w : World) (v x y : Value) (wr : World) : Prop := ∃ (k done a : Nat) (acc : List UInt8), done ≤ a ∧ a ≤ b.length ∧ acc.length ≤ 4 * done ∧ x = .int .i64 (done : Int) ∧ y = .int .i64 (a : Int) ∧
  Hid (b.length ≤ a + k ∧ parts b k done a acc = T) ∧ wr.ownsRow (M + 1) 5 1 v acc.length (acc.map B8) ∧ MapOk wr M b a ∧ Below w.heap.size w wr ∧ M + 1 ≤ wr.heap.size
/-- The loop over an echo's bytes. -/
def RelK (b acc : List UInt8) (n a M : Nat) (v : Value) (w : World) (y i : Value) (wr : World) : Prop := ∃ j : Nat, j ≤ n ∧ y = .int .i64 ((a + j : Nat) : Int) ∧ i = .int .i64 (j : Int) ∧
  wr.ownsRow (M + 1) 5 1 v acc.length (acc.map B8) ∧ MapOk wr M b (a + j) ∧ Below w.heap.size w wr ∧ M + 1 ≤ wr.heap.size

theorem own_lt' {w w1 : World} {B n n' : Nat} {e : TypeId} {v v' : Value} {xs xs' : List Value} (h : w.ownsRow B e 1 v n xs) (h' : w1.ownsRow w.heap.size e 1 v' n' xs') : v'.ownBlock = none ∨ v'.ownBlock ≠ v.ownBlock := by
  cases hv : v'.ownBlock with
  | none => exact .inl rfl
  | some k =>
    right
    intro e
    have h1 := (h'.lt k hv).1
    have h2 := (h.lt k e.symm).2
    omega
theorem own_grown {w w' : World} {B n M : Nat} {e : TypeId} {v : Value} {xs : List Value} (h : w.ownsRow B e 1 v n xs) (hg : w.grownBy w' (some M)) (hM : M < B) : w'.ownsRow B e 1 v n xs :=
  h.kept hg (by
    cases hv : v.ownBlock with
    | none => simp
    | some k => have := (h.lt k hv).1; right; simp; omega)


set_option maxHeartbeats 3200000 in
set_option maxRecDepth 100000 in
theorem parts_any (b : List UInt8) (A : Option Addr) (c : Nat) (w : World) (hr : Rd w w.heap.size A (b.map B8)) (hc : b.length ≤ c) (hbl : b.length ≤ 65536) : Calls Try.prog 16 #[.slice A b.length c] w (QPost w.heap.size w none (parts b b.length 0 0 [])) := by
  obtain ⟨i0, hi, hz0, hz1, hz2⟩ := info_parts info_u8
  obtain ⟨T, hT⟩ : ∃ T, parts b b.length 0 0 [] = T := ⟨_, rfl⟩
  rw [hT]
  have HT := Lib.hid hT
  have HR := Lib.hid hr
  have hmm := @run_makeMap Try.prog
  clear hT hr
  obtain ⟨M, hM⟩ : ∃ M, M = w.heap.size := ⟨_, rfl⟩
  have HM := Lib.hid hM
  go_enter Try.func16, Try.ntmps16
  go_wp2
  rw [← hM]
  have HK0 : Hid (MapOk (w.alloc (.map #[] 0)) M b 0) := Lib.hid ⟨0, .map [], Nat.le_refl _, by rw [hM]; exact World.ownsMap_made _ _ _ _, tells_zero b⟩
  have HB0 := Lib.hid ((Below.refl w.heap.size w).alloc (Nat.le_refl _) (.map #[] 0))
  have HS0 : Hid (M + 1 ≤ (w.alloc (.map #[] 0)).heap.size) := Lib.hid (by simp [hM])
  clear hM
  go_loopw [3, 5, 6] (fun v x y wr => RelC b T M w v x y wr) (fun _ _ y _ => b.length - (intOf y).toNat)
  case atStart => exact ⟨b.length, 0, 0, [], by omega, by omega, by simp, rfl, rfl, Lib.hid ⟨by omega, HT.out⟩, World.ownsRow_nil _ _ _ _, HK0.out, HB0.out, HS0.out⟩
  case round =>
    obtain ⟨k, done, a, acc, hda, hab, hal, rfl, rfl, hk, hown, hmap, hb, hsz⟩ := hrel
    clear HK0 HB0 HS0 HT
    have HO := Lib.hid hown
    have HB := Lib.hid hb
    have HMap := Lib.hid hmap
    obtain ⟨A1, c1, rfl, _, _, _⟩ := own_slice hown
    by_cases hlt : a < b.length
    · have HF := Lib.hid (findEcho_any b A c a wr M w.heap.size (HR.out.below hb) hc hbl hmap (by omega))
      have hel := echo_le (b := b) (a := a) (by omega)
      obtain ⟨k', hk'⟩ : ∃ k', k = k' + 1 := ⟨k - 1, by have := hk.out.1; omega⟩
      have hpt := hk.out.2
      have hkl := hk.out.1
      rw [hk', parts, if_pos hlt] at hpt
      rw [hk'] at hkl
      obtain ⟨N, E, hNE⟩ : ∃ N E, CompSpec.echo b a = (N, E) := ⟨_, _, rfl⟩
      rw [hNE] at HF hpt hel
      simp only at hpt hel
      clear hown hb hmap hk hNE hk'
      by_cases hge : N ≤ E.length
      · rw [if_pos hge] at hpt
        have HPT := Lib.hid hpt
        have HKL := Lib.hid hkl
        have h1 : decide ((N : Int) ≤ (E.length : Int)) = true := by simp; omega
        have h2 : decide (N ≤ E.length) = true := by simp; omega
        clear hpt hkl
        go_wp2_with fail
        refine HF.out.mono ?_
        rintro e w1 ⟨v1, rfl, hown1, hb1⟩
        have HB1 := Lib.hid (below_step HB.out hb1)
        have HO1 := Lib.hid (own_keep HO.out hb1)
        have HMap1 := Lib.hid (HMap.out.kept hb1 (show M < wr.heap.size by omega))
        obtain ⟨A2, c2, rfl, _, _, _⟩ := own_slice hown1
        have hsz1 : M + 1 ≤ w1.heap.size := by have := hb1.size; omega
        have HKeep := Lib.hid (keep_any b A c a w1 M w.heap.size (HR.out.below HB1.out) hc hbl HMap1.out (by omega))
        clear hown1 hb1 HF HB HO HMap HMap1
        go_wp2_with fail
        refine HKeep.out.mono ?_
        rintro e w2 ⟨rfl, hmap2, hg2⟩
        have HMap2 := Lib.hid hmap2
        have HB2 := Lib.hid (HB1.out.grown hg2 HB1.out.size (fun q hq => by cases hq; exact Nat.le_of_eq HM.out.symm))
        have HO2 := Lib.hid (own_grown HO1.out hg2 (Nat.lt_succ_self M))
        have hsz2 : M + 1 ≤ w2.heap.size := by have := hg2.size; omega
        clear hmap2 hg2 HB1 HO1 HKeep
        go_wp2
        go_roundw
        case rel => exact ⟨k', done, a + 1, acc, by omega, by omega, hal, rfl, by go_num, Lib.hid ⟨by have := HKL.out; omega, HPT.out⟩, HO2.out, HMap2.out, HB2.out, hsz2⟩
        case measure => simp [intOf]; omega
      · rw [if_neg hge] at hpt
        have HPT := Lib.hid hpt
        have HKL := Lib.hid hkl
        have h1 : decide ((N : Int) ≤ (E.length : Int)) = false := by simp; omega
        have h2 : decide (N ≤ E.length) = false := by simp; omega
        have hN1 : 1 ≤ N := by omega
        have hEl : E.length < N := by omega
        have hNb : a + N ≤ b.length := hel
        have hac : ¬ c = done := by omega
        clear hpt hkl hge hel
        go_wp2_with fail
        refine HF.out.mono ?_
        rintro e w1 ⟨v1, rfl, hown1, hb1⟩
        have HB1 := Lib.hid (below_step HB.out hb1)
        have HO1 := Lib.hid (own_keep HO.out hb1)
        have HMap1 := Lib.hid (HMap.out.kept hb1 (show M < wr.heap.size by omega))
        have hsz1 : M + 1 ≤ w1.heap.size := by have := hb1.size; omega
        have HE1 := Lib.hid (own_mono hown1 (show M + 1 ≤ wr.heap.size from hsz))
        obtain ⟨A2, c2, rfl, _, _, _⟩ := own_slice hown1
        obtain ⟨g, off, hA, _, _⟩ := HR.out (by simp; omega)
        subst hA
        have HX : Hid (Rd w1 (M + 1) (some ⟨g, off + done, none⟩) (((b.take a).drop done).map B8)) := by
          refine Lib.hid ?_
          have h9 := (((HR.out.below HB1.out).take a).cut (k := done) (cap := c) (by simp; omega)).more (show w.heap.size ≤ M + 1 by have := HM.out; omega)
          rw [if_neg hac, Option.map_some, add_off] at h9
          rw [List.map_drop, List.map_take]
          exact h9
        have hXL : ((b.take a).drop done).length = a - done := by simp; omega
        have HXL := Lib.hid hXL
        have hX65 : ((b.take a).drop done).length ≤ 65536 := by omega
        have hPL := plainP_length (b := (b.take a).drop done) hX65
        have hP4 : (acc ++ plainP ((b.take a).drop done)).length ≤ 4 * a := by
          rw [List.length_append]
          by_cases h0 : a = done
          · subst h0
            rw [show (b.take a).drop a = [] by simp]
            simp [plainP]
            omega
          · omega
        have hst : (a : Int) - (done : Int) = ((a - done : Nat) : Int) := by omega
        generalize (b.take a).drop done = X at *
        have HV := Lib.hid (own_lt' HO.out hown1)
        clear hown1 hb1 HF HB HO HMap hXL hPL
        go_wp2_with fail
        refine (plain_any (M + 1) w1 hsz1 acc X _ _ _ HO1.out HX.out (by omega) hX65 HXL.out.symm).mono ?_
        rintro e w3 ⟨v3, rfl, hown3, hg3⟩
        have HB3 := Lib.hid (HB1.out.grown hg3 HB1.out.size (fun q hq => by have := HO1.out.lt q hq; have := HM.out; omega))
        have HMap3 := Lib.hid (HMap1.out.kept (below_b HO1.out hg3 hsz1) (Nat.lt_succ_self M))
        have HE3 := Lib.hid (HE1.out.kept hg3 HV.out)
        have HO3 := Lib.hid hown3
        have hsz3 : M + 1 ≤ w3.heap.size := by have := hg3.size; omega
        clear hown3 hg3 HB1 HO1 HMap1 HE1 HX HXL HV
        have HRE := Lib.hid (Rd.of_own HE3.out)
        generalize hAcc : acc ++ plainP X = acc3 at *
        have hl3 : acc3.length ≤ 1000000 := by omega
        go_wp2_with (at_builtin; refine wpList_append_rd _ rfl (.tmp 36) (.tmp 37) 22 rfl (M + 1) 5 i0 (.int .u8 0) 1 Try.underlying22 hi hz0 hz1 hz2 rfl _ _ _ rfl HO3.out w3.heap.size _ _ _ (E.map B8) rfl (by simp) HRE.out (one8 E) ?f2 ?f3 hsz3 ?_)
        case f2 => unfold maxLen; omega
        case f3 => omega
        intro v4 w4 hown4 hg4 _
        have HB4 := Lib.hid (HB3.out.grown hg4 HB3.out.size (fun q hq => by have := HO3.out.lt q hq; have := HM.out; omega))
        have HMap4 := Lib.hid (HMap3.out.kept (below_b HO3.out hg4 hsz3) (Nat.lt_succ_self M))
        have HO4 := Lib.hid (own_join (by simpa using hown4))
        have hsz4 : M + 1 ≤ w4.heap.size := by have := hg4.size; omega
        have hl4 : (acc3 ++ E).length ≤ 4 * (a + N) := by rw [List.length_append]; omega
        clear hown4 hg4 HB3 HO3 HMap3 HE3 HRE
        subst hAcc
        generalize hAcc : acc ++ plainP X ++ E = acc4 at *
        clear hAcc
        go_wp2
        go_loopw [6, 40] (fun y i wr => RelK b acc4 N a M v4 w y i wr) (fun _ i _ => N - (intOf i).toNat)
        case atStart => exact ⟨0, by omega, rfl, rfl, HO4.out, HMap4.out, HB4.out, hsz4⟩
        case round =>
          obtain ⟨j, hj, rfl, rfl, hown, hmap, hb, hsz⟩ := hrel
          clear HO4 HMap4 HB4 hsz4
          by_cases hjn : j < N
          · have HB5 := Lib.hid hb
            have HO5 := Lib.hid hown
            have HKeep := Lib.hid (keep_any b (some ⟨g, off, none⟩) c (a + j) wr M w.heap.size (HR.out.below hb) hc hbl hmap (by omega))
            clear hown hb hmap
            go_wp2_with fail
            refine HKeep.out.mono ?_
            rintro e w2 ⟨rfl, hmap2, hg2⟩
            have HMap2 := Lib.hid hmap2
            have HB2 := Lib.hid (HB5.out.grown hg2 HB5.out.size (fun q hq => by cases hq; exact Nat.le_of_eq HM.out.symm))
            have HO2 := Lib.hid (own_grown HO5.out hg2 (Nat.lt_succ_self M))
            have hsz2 : M + 1 ≤ w2.heap.size := by have := hg2.size; omega
            clear hmap2 hg2 HB5 HO5 HKeep
            go_wp2
            go_roundw
            case rel => exact ⟨j + 1, by omega, by go_num, by go_num, HO2.out, HMap2.out, HB2.out, hsz2⟩
            case measure => simp [intOf]; omega
          · obtain rfl : j = N := by omega
            have HB5 := Lib.hid hb
            have HO5 := Lib.hid hown
            have HMap5 := Lib.hid hmap
            clear hown hb hmap
            go_wp2
            go_roundw
            case rel => exact ⟨k', a + j, a + j, acc4, by omega, by omega, hl4, rfl, rfl, Lib.hid ⟨by have := HKL.out; omega, HPT.out⟩, HO5.out, HMap5.out, HB5.out, hsz⟩
            case measure => simp [intOf]; omega
    · obtain rfl : a = b.length := by omega
      have HPT : Hid (acc ++ plainP (b.drop done) = T) := by
        refine Lib.hid ?_
        have h9 := hk.out.2
        cases k with
        | zero => exact h9
        | succ k => rw [parts, if_neg (by omega)] at h9; exact h9
      have hXL : (b.drop done).length = b.length - done := by simp
      have HXL := Lib.hid hXL
      have hX65 : (b.drop done).length ≤ 65536 := by omega
      have hst : (b.length : Int) - (done : Int) = ((b.length - done : Nat) : Int) := by omega
      have HX : Hid (Rd wr (M + 1) (if c = done then A else A.map (·.add done)) ((b.drop done).map B8)) := by
        refine Lib.hid ?_
        have h9 := ((HR.out.below hb).cut (k := done) (cap := c) (by simp; omega)).more (show w.heap.size ≤ M + 1 by have := HM.out; omega)
        rw [List.map_drop]
        exact h9
      generalize b.drop done = X at *
      have HDL := Lib.hid hda
      clear hown hb hmap hk hXL
      by_cases hcd : c = done
      · rw [if_pos hcd] at HX
        subst hcd
        go_wp2_with fail
        refine (plain_any (M + 1) wr hsz acc X _ _ _ HO.out HX.out (by omega) hX65 (by rw [HXL.out]; omega)).mono ?_
        rintro e w3 ⟨v3, rfl, hown3, hg3⟩
        have HB3 := Lib.hid (HB.out.grown hg3 HB.out.size (fun q hq => by have := HO.out.lt q hq; have := HM.out; omega))
        have HO3 := Lib.hid (own_mono hown3 (show w.heap.size ≤ M + 1 by have := HM.out; omega))
        clear hown3 hg3 HB HO HX
        go_wp2
        go_ret
        rw [← HPT.out]
        exact ⟨v3, rfl, HO3.out, only_of_below HB3.out _⟩
      · rw [if_neg hcd] at HX
        go_wp2_with fail
        refine (plain_any (M + 1) wr hsz acc X _ _ _ HO.out HX.out (by omega) hX65 (by rw [HXL.out])).mono ?_
        rintro e w3 ⟨v3, rfl, hown3, hg3⟩
        have HB3 := Lib.hid (HB.out.grown hg3 HB.out.size (fun q hq => by have := HO.out.lt q hq; have := HM.out; omega))
        have HO3 := Lib.hid (own_mono hown3 (show w.heap.size ≤ M + 1 by have := HM.out; omega))
        clear hown3 hg3 HB HO HX
        go_wp2
        go_ret
        rw [← HPT.out]
        exact ⟨v3, rfl, HO3.out, only_of_below HB3.out _⟩

/-- What Compress answers. -/
def CPost (w : World) (b : List UInt8) (e : Ending) (w' : World) : Prop :=
  (65536 < b.length ∧ e = .returned (.tuple #[.slice none 0 0, .int .i64 4]) ∧ Below w.heap.size w w') ∨
  (b.length ≤ 65536 ∧ ∃ v, e = .returned (.tuple #[v, .int .i64 0]) ∧ w'.ownsRow w.heap.size 5 1 v (comp b).length ((comp b).map B8) ∧ Below w.heap.size w w')


set_option maxHeartbeats 800000 in
theorem comp_long (b : List UInt8) (A : Option Addr) (c : Nat) (w : World) (h : 65536 < b.length) : Calls Try.prog 11 #[.slice A b.length c] w (CPost w b) := by
  have h1 : decide (65536 < (b.length : Int)) = true := by simp; omega
  have HL := Lib.hid h
  clear h
  go_enter Try.func11, Try.ntmps11
  go_wp2
  go_ret2
  exact .inl ⟨HL.out, rfl, Below.refl _ _⟩

set_option maxHeartbeats 1600000 in
set_option maxRecDepth 100000 in
theorem comp_in (b : List UInt8) (A : Option Addr) (c : Nat) (w : World) (hr : Rd w w.heap.size A (b.map B8)) (hc : b.length ≤ c) (h : b.length ≤ 65536) : Calls Try.prog 11 #[.slice A b.length c] w (CPost w b) := by
  obtain ⟨i0, hi, hz0, hz1, hz2⟩ := info_parts info_u8
  have h1 : decide (65536 < (b.length : Int)) = false := by simp; omega
  have HP := Lib.hid (put_one b.length w (by omega))
  have HE : Hid (comp b = Lib.uvarint b.length ++ body b) := Lib.hid rfl
  have hU := uv3 b.length (by omega)
  have hbl := body_le h
  have HBD : Hid (body b = if (plainP b).length < (parts b b.length 0 0 []).length then plainP b else parts b b.length 0 0 []) := Lib.hid rfl
  have HPA := fun w' hr' => Lib.hid (parts_any b A c w' hr' hc h)
  have HPL := fun (w' : World) hr' => Lib.hid (plain_any w'.heap.size w' (Nat.le_refl _) [] b (.slice none 0 0) A c (World.ownsRow_nil _ _ _ _) hr' (by simp) h rfl)
  simp only [List.nil_append] at HPL
  have HR := Lib.hid hr
  have HBL := Lib.hid h
  generalize Lib.uvarint b.length = U at *
  generalize parts b b.length 0 0 [] = PA at *
  generalize plainP b = PL at *
  clear hr hc
  go_enter Try.func11, Try.ntmps11
  go_wp2_with fail
  refine HP.out.mono ?_
  rintro e w1 ⟨v1, rfl, hown1, hb1⟩
  have HB1 := Lib.hid hb1
  have HO1 := Lib.hid hown1
  have HC1 := Lib.hid (HPA w1 ((HR.out.below hb1).more hb1.size))
  clear hown1 hb1 HP HPA
  go_wp2_with fail
  refine HC1.out.out.mono ?_
  rintro e w2 ⟨v2, rfl, hown2, hg2⟩
  have hb12 : Below w1.heap.size w1 w2 := ⟨hg2.os, hg2.tape, hg2.output, hg2.size, fun i hi => hg2.block i hi (by simp)⟩
  have HB2 := Lib.hid (below_step HB1.out hb12)
  have HO2 := Lib.hid hown2
  have HO12 := Lib.hid (own_keep HO1.out hb12)
  have HS12 := Lib.hid (hb12.size)
  have HC2 := Lib.hid (HPL w2 ((HR.out.below HB2.out).more HB2.out.size))
  clear hown2 hg2 hb12 HC1 HO1 HPL
  go_wp2_with fail
  refine HC2.out.out.mono ?_
  rintro e w3 ⟨v3, rfl, hown3, hg3⟩
  have hb23 : Below w2.heap.size w2 w3 := ⟨hg3.os, hg3.tape, hg3.output, hg3.size, fun i hi => hg3.block i hi (by simp [Value.ownBlock])⟩
  have HB3 := Lib.hid (below_step HB2.out hb23)
  have HO3 := Lib.hid hown3
  have HO13 := Lib.hid (own_keep HO12.out hb23)
  have HO23 := Lib.hid (own_keep HO2.out hb23)
  clear hown3 hg3 hb23 HC2 HO12 HO2 HB2
  obtain ⟨A2, c2, rfl, _, _, _⟩ := own_slice HO23.out
  obtain ⟨A3, c3, rfl, _, _, _⟩ := own_slice HO3.out
  by_cases hlt : PL.length < PA.length
  · rw [if_pos hlt] at HBD
    have h5 : decide (PL.length < PA.length) = true := by simp; omega
    have h6 : decide ((PL.length : Int) < (PA.length : Int)) = true := by simp; omega
    have hl : PL.length ≤ 65539 := by rw [← HBD.out]; omega
    have HRX := Lib.hid (Rd.of_own HO3.out)
    clear hlt
    go_wp2_with (at_builtin; refine wpList_append_rd _ rfl (.tmp 25) (.tmp 26) 22 rfl w.heap.size 5 i0 (.int .u8 0) 1 Try.underlying22 hi hz0 hz1 hz2 rfl _ _ _ rfl HO13.out w3.heap.size _ _ _ (PL.map B8) rfl (by simp) HRX.out (one8 PL) ?f2 ?f3 HB3.out.size ?_)
    case f2 => unfold maxLen; omega
    case f3 => omega
    intro v4 w4 hown4 hg4 _
    have HB4 := Lib.hid (below_app HO13.out HB3.out hg4)
    have HO4 := Lib.hid (own_join (by simpa using hown4))
    clear hown4 hg4
    go_wp2
    go_ret2
    refine .inr ⟨HBL.out, v4, rfl, ?_, HB4.out⟩
    rw [HE.out, HBD.out]
    exact HO4.out
  · rw [if_neg hlt] at HBD
    have h5 : decide (PL.length < PA.length) = false := by simp; omega
    have h6 : decide ((PL.length : Int) < (PA.length : Int)) = false := by simp; omega
    have hl : PA.length ≤ 65539 := by rw [← HBD.out]; omega
    have HRX := Lib.hid (Rd.of_own HO23.out)
    clear hlt
    go_wp2_with (at_builtin; refine wpList_append_rd _ rfl (.tmp 25) (.tmp 26) 22 rfl w.heap.size 5 i0 (.int .u8 0) 1 Try.underlying22 hi hz0 hz1 hz2 rfl _ _ _ rfl HO13.out w3.heap.size _ _ _ (PA.map B8) rfl (by simp) HRX.out (one8 PA) ?g2 ?g3 HB3.out.size ?_)
    case g2 => unfold maxLen; omega
    case g3 => omega
    intro v4 w4 hown4 hg4 _
    have HB4 := Lib.hid (below_app HO13.out HB3.out hg4)
    have HO4 := Lib.hid (own_join (by simpa using hown4))
    clear hown4 hg4
    go_wp2
    go_ret2
    refine .inr ⟨HBL.out, v4, rfl, ?_, HB4.out⟩
    rw [HE.out, HBD.out]
    exact HO4.out
/-- lz.Compress. -/
theorem comp_any (b : List UInt8) (A : Option Addr) (c : Nat) (w : World) (hr : Rd w w.heap.size A (b.map B8)) (hc : b.length ≤ c) : Calls Try.prog 11 #[.slice A b.length c] w (CPost w b) := by
  by_cases h : 65536 < b.length
  · exact comp_long b A c w h
  · exact comp_in b A c w hr hc (by omega)
end Go.Proofs.Ytifndcjjlhjgiaa.Comp
