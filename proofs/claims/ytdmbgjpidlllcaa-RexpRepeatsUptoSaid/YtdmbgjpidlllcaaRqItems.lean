/- The contract of the program's item, by that of its atom. Conditions: the reader lies in memory and may go on. · The contract of the program's alternative, by that of its row at texts no longer. Conditions: the reader lies in memory and may go on. -/
import Derived.Test.YtdmbgjpidlllcaaRqRows
namespace Go.Proofs.Ytdmbgjpidlllcaa.RqItem
open Go Go.RowKit Words AppN Km Mo_ RxSpec RxEq RxMem RxClean RxNode RxPost RxRowP RqPlain RqMem RqNeed RqLay RqTimes RqCont RqEsc RqMbr RqSt RqRow

theorem digit_sub {rs : List Nat} {n : Nat} {r1 : List Nat} (h : digit rs = some (n, r1)) : ∀ r ∈ r1, r ∈ rs := by
  obtain ⟨_, r, rfl, _⟩ := digit_small h
  exact fun x hx => List.mem_cons_of_mem _ hx
theorem bnd_facts {rs : List Nat} {lo hi : Nat} {r1 : List Nat} (h : bnd rs = some (lo, hi, r1)) : r1.length ≤ rs.length ∧ ∀ r ∈ r1, r ∈ rs := by
  unfold bnd at h
  cases hd1 : digit rs with
  | none => rw [hd1] at h; cases h
  | some x =>
    obtain ⟨lo', r2⟩ := x
    rw [hd1] at h
    have h1 := digit_short hd1
    have s1 := digit_sub hd1
    simp only at h
    cases hd2 : (if hd r2 44 = true then digit r2.tail else some (lo', r2)) with
    | none => rw [hd2] at h; cases h
    | some y =>
      obtain ⟨hi', r3⟩ := y
      rw [hd2] at h
      have h2 : r3.length ≤ r2.length ∧ ∀ r ∈ r3, r ∈ r2 := by
        split at hd2
        · rename_i hh
          have := digit_short hd2
          have := hd_tail hh
          exact ⟨by omega, fun r hr => List.mem_of_mem_tail (digit_sub hd2 r hr)⟩
        · cases hd2; exact ⟨Nat.le_refl _, fun _ h => h⟩
      simp only at h
      split at h
      · rename_i hc
        cases h
        have := hd_tail hc.1
        exact ⟨by omega, fun r hr => s1 r (h2.2 r (List.mem_of_mem_tail hr))⟩
      · cases h
theorem tms_facts {rs : List Nat} {lo : Nat} {hi : Int} {ok : Bool} {r1 : List Nat} (h : tms rs = some (lo, hi, ok, r1)) : (∀ r ∈ r1, r ∈ rs) ∧ (ok = true → r1.length < rs.length) ∧ (ok = false → r1 = rs) := by
  unfold tms at h
  have ht : ∀ c, hd rs c = true → rs.tail.length < rs.length := fun c h => hd_tail h
  split at h
  · rename_i hh; cases h; exact ⟨fun r hr => List.mem_of_mem_tail hr, fun _ => ht _ hh, fun h => by cases h⟩
  split at h
  · rename_i hh; cases h; exact ⟨fun r hr => List.mem_of_mem_tail hr, fun _ => ht _ hh, fun h => by cases h⟩
  split at h
  · rename_i hh; cases h; exact ⟨fun r hr => List.mem_of_mem_tail hr, fun _ => ht _ hh, fun h => by cases h⟩
  split at h
  · rename_i hh
    have h9 := ht _ hh
    cases hb : bnd rs.tail with
    | none => rw [hb] at h; cases h
    | some x =>
      obtain ⟨a, b, c⟩ := x
      rw [hb] at h
      obtain ⟨b1, b2⟩ := bnd_facts hb
      cases h
      exact ⟨fun r hr => List.mem_of_mem_tail (b2 r hr), fun _ => by omega, fun h => by cases h⟩
  · cases h; exact ⟨fun _ h => h, fun h => (by cases h), fun _ => rfl⟩
theorem itemS_eq (rs : List Nat) : itemS rs = match atomS rs with
    | none => none
    | some (p, k, r1) => match tms r1 with
      | none => none
      | some (lo, hi, ok, r2) => if ok then some (.rep p lo hi, k, r2) else some (p, k, r2) := by
  rw [itemS]
  cases atomS rs with
  | none => rfl
  | some x =>
    obtain ⟨p, k, r1⟩ := x
    simp only
    rw [repS_tms]
    cases ht : tms r1 with
    | none => rfl
    | some y =>
      obtain ⟨lo, hi, ok, r2⟩ := y
      cases ok with
      | true => rfl
      | false => simp only [Bool.false_eq_true, if_false, Option.map_some]
/-- atom, at texts of at most N runes. -/
def AtomQ (N : Nat) : Prop := ∀ (B : Nat) (w : World) (K : Nat → Nat) (o p : Nat) (s : Sl) (rs : List Nat) (op dp : Nat) (ms : List NM) (v : Value), RQ B w K o p s rs op dp ms v → PreQ rs op dp ms → rs.length ≤ N → rs ≠ [] →
  Calls Try.prog 37 #[.pointer (some ⟨p, 0, none⟩)] w (TP B K o p rs op dp ms 0 w (atomS rs))
section
variable {B : Nat} {w w' w0 : World} {K K' K0 : Nat → Nat} {o p : Nat} {s s' : Sl} {rs rs' : List Nat} {op dp op' dp' : Nat} {ms ms' : List NM} {v v' vk : Value} {l : List Nat}
theorem kid_sq {B : Nat} (w : World) (K : Nat → Nat) (o x : Nat) (hB : B ≤ w.heap.size) : Sq B (w.alloc (.cells #[.int .i64 (x : Int)] 3)) (kmark K w.heap.size (o + 2)) o (some ⟨w.heap.size, 0, none⟩, 1, 1) ([x].map IV) := by
  have h := Rd.made' w ([x].map IV).toArray 3
  refine ⟨⟨rfl, Nat.le_refl _, show 1 ≤ maxLen by unfold maxLen; omega, by simpa [IV] using h, fun b off e _ => ?_⟩, fun b off e _ => ?_⟩
  · injection e with e
    injection e with e _
    rw [← e, kmark_new (Nat.le_refl _)]
    exact ⟨by omega, by omega⟩
  · injection e with e
    injection e with e _
    subst e
    exact ⟨hB, fun j _ => frozen_of_row _ _ _ _ _ (heap_alloc_new w _)⟩
set_option maxHeartbeats 6400000 in
set_option maxRecDepth 100000 in
theorem item_of {N : Nat} (HA : AtomQ N) : ItemQ N := by
  intro B w K o p s rs op dp ms v hr hp hN hne
  have HC := HA B w K o p s rs op dp ms v hr hp hN hne
  have HBW : Hid (B ≤ w.heap.size) := Lib.hid (by have := hr.bp; have := hr.lt; omega)
  have hfw0 := hp.few
  have HP := Lib.hid hp
  obtain ⟨R, hR⟩ : ∃ R, itemS rs = R := ⟨_, rfl⟩
  rw [hR]
  rw [itemS_eq] at hR
  clear hr hp hne
  cases ha : atomS rs with
  | none =>
    rw [ha] at HC hR
    subst hR
    unfold TP at HC ⊢
    simp only at HC ⊢
    clear ha
    go_enter Try.func33, Try.ntmps33
    go_wp2_with fail
    refine HC.mono ?_
    rintro _ w5 ⟨rfl, h5⟩
    exact ⟨rfl, .inl rfl, rfl, h5⟩
  | some y =>
    obtain ⟨t, k, r1⟩ := y
    rw [ha] at HC hR
    unfold TP at HC
    simp only at HC hR
    have HR := Lib.hid hR
    clear ha hR
    go_enter Try.func33, Try.ntmps33
    go_wp2_with fail
    refine HC.mono ?_
    rintro _ w5 ⟨K5, s5, ms5, v5, rfl, hr5, hm5, hn5, hf5, hsc5⟩
    have hnl := nodes_len hn5
    have hpos := emit_pos t ms.length
    have HNL := Lib.hid hnl
    clear hnl
    have HT := times_any hr5 (sc_le hsc5)
    have HM5 := Lib.hid hm5
    have HN5 := Lib.hid hn5
    have HSC := Lib.hid hsc5
    obtain ⟨x, hx⟩ : ∃ x, ms5.length - 1 = x := ⟨_, rfl⟩
    have HX := Lib.hid hx
    rw [hx]
    clear HC hr5 hm5 hn5 hsc5 hx
    cases htm : tms r1 with
    | none =>
      have hR := HR.out
      rw [htm] at hR HT
      simp only at hR
      subst hR
      unfold MP at HT
      simp only at HT
      clear htm
      go_wp2_with fail
      refine HT.mono ?_
      rintro _ w6 ⟨rfl, h6⟩
      exact ⟨rfl, .inl rfl, FP.of HM5.out ⟨rfl, h6⟩⟩
    | some y =>
      obtain ⟨lo, hi, ok, r2⟩ := y
      obtain ⟨f1, f2, f3⟩ := tms_facts htm
      have HSC2 : Hid (∀ r ∈ r2, UtSpec.sc r) := Lib.hid fun r hr => HSC.out r (f1 r hr)
      have hR := HR.out
      rw [htm] at hR HT
      simp only at hR
      unfold MP at HT
      simp only at HT
      clear htm HR f1
      cases ok with
      | false =>
        have e2 := f3 rfl
        subst e2
        have HR2 : Hid (R = some (t, k, r2)) := Lib.hid (by rw [← hR]; rfl)
        clear hR f2 f3
        go_wp2_with fail
        refine HT.mono ?_
        rintro _ w6 ⟨rfl, s6, hq6, hm6⟩
        have HF : Hid (TP B K o p rs op dp ms 0 w R (.returned (.int .i64 (x : Int))) w6) := Lib.hid (by
          rw [HR2.out, ← HX.out]
          exact ⟨K5, s6, ms5, v5, rfl, hq6, HM5.out.trans hm6, HN5.out, by omega, HSC2.out⟩)
        clear HT hq6 hm6
        go_wp2
        go_ret
        exact ⟨.inr ⟨_, rfl⟩, HF.out⟩
      | true =>
        have hsh := f2 rfl
        have HR2 : Hid (R = some (.rep t lo hi, k, r2)) := Lib.hid (by rw [← hR]; rfl)
        clear hR f2 f3
        go_wp2_with fail
        refine HT.mono ?_
        rintro _ w6 ⟨rfl, s6, hq6, hm6⟩
        have hsz6 : B ≤ w6.heap.size := by have := hq6.bp; have := hq6.lt; omega
        have hmo7 := new_mo w6 K5 (.cells #[.int .i64 (x : Int)] 3) (o + 2)
        have HL := lay_any (m := ⟨⟨5, [x], (lo : Int), hi, []⟩, (some ⟨w6.heap.size, 0, none⟩, 1, 1), (none, 0, 0)⟩) (hq6.mo hmo7) ⟨kid_sq w6 K5 o x hsz6, Sq.nil_ _ _ _ _⟩ (by omega)
        have HM7 := Lib.hid ((HM5.out.trans hm6).trans (hmo7.widen fun _ h => h.elim))
        unfold aggN slV at HL
        simp only at HL
        rw [show ((5 : Nat) : Int) = 5 from rfl] at HL
        clear HT hq6 hm6 hmo7 HM5
        go_wp2_with fail
        refine HL.mono ?_
        rintro e w8 ⟨rfl, v8, K8, hq8, hm8⟩
        have HF : Hid (TP B K o p rs op dp ms 0 w R (.returned (.int .i64 (ms5.length : Int))) w8) := Lib.hid (by
          rw [HR2.out]
          refine ⟨K8, s6, ms5 ++ [⟨⟨5, [x], (lo : Int), hi, []⟩, (some ⟨w6.heap.size, 0, none⟩, 1, 1), (none, 0, 0)⟩], v8, by simp, hq8, HM7.out.trans hm8, ?_, by simp; omega, HSC2.out⟩
          rw [nds_snoc, HN5.out, emit, ← HX.out, HNL.out, List.append_assoc])
        clear HL hq8 hm8
        go_wp2
        go_ret
        exact ⟨.inr ⟨_, rfl⟩, HF.out⟩
end
end Go.Proofs.Ytdmbgjpidlllcaa.RqItem

namespace Go.Proofs.Ytdmbgjpidlllcaa.RqAlt
open Go Go.RowKit Words AppN Km Mo_ RxSpec RxEq RxMem RxClean RxNode RxPost RxRowP RqPlain RqMem RqNeed RqLay RqTimes RqCont RqEsc RqMbr RqSt RqRow

/-- An alternative so far: at least a row. -/
structure AltS (rs0 rs : List Nat) (op dp0 dp : Nat) (ms0 ms : List NM) (l : List Nat) (ps : List Pat) (k : Nat) : Prop where
  len : rs.length ≤ 1000
  deep : op + rs.length ≤ 2000
  runes : ∀ r ∈ rs, UtSpec.sc r
  top : op ≤ dp
  same : altS rs0 = altL ps k rs
  kids : l = roots ps ms0.length
  nodes : nds ms = nds ms0 ++ emits ps ms0.length
  most : dp = max dp0 (op + k)
  few : ms.length + 4 * rs.length ≤ ms0.length + 4 * rs0.length + 1
  on : ps.length + rs.length ≤ rs0.length + 1
  some_ : 1 ≤ ps.length
theorem AltS.start {rs r1 : List Nat} {op dp k : Nat} {ms ms2 : List NM} {p : Pat} (h : PreQ rs op dp ms) (hi : rowL [] 0 rs = some (p, k, r1)) (h2 : nds ms2 = nds ms ++ emit p ms.length) (h3 : ms2.length + 4 * r1.length ≤ ms.length + 4 * rs.length + 1) (h4 : ∀ r ∈ r1, UtSpec.sc r) : AltS rs r1 op dp (max dp (op + k)) ms ms2 [ms2.length - 1] [p] k := by
  have hsh := row_short hi
  obtain ⟨e1, e2⟩ := snoc_facts (ms0 := ms) (ms := ms) (ps := []) (l := []) (by simp [emits]) (by simp [roots]) h2
  have q1 := h.len
  have q2 := h.deep
  have q3 := h.few
  have q7 := h.top
  refine ⟨by omega, by omega, h4, by omega, ?_, by simpa using e1, by simpa using e2, rfl, h3, by simp; omega, by simp⟩
  rw [altS_eq, hi]
theorem AltS.next {rs0 rs r1 : List Nat} {op dp0 dp k k' : Nat} {ms0 ms ms2 : List NM} {l : List Nat} {ps : List Pat} {p : Pat} (h : AltS rs0 rs op dp0 dp ms0 ms l ps k) (hb : hd rs 124 = true) (hi : rowL [] 0 rs.tail = some (p, k', r1)) (h2 : nds ms2 = nds ms ++ emit p ms.length)
    (h3 : ms2.length + 4 * r1.length ≤ ms.length + 4 * rs.tail.length + 1) (h4 : ∀ r ∈ r1, UtSpec.sc r) : AltS rs0 r1 op dp0 (max dp (op + k')) ms0 ms2 (l ++ [ms2.length - 1]) (ps ++ [p]) (max k k') := by
  have hsh := row_short hi
  have ht := hd_tail hb
  obtain ⟨e1, e2⟩ := snoc_facts h.nodes h.kids h2
  have q1 := h.len
  have q2 := h.deep
  have q4 := h.few
  have q5 := h.on
  have q6 := h.most
  have q7 := h.top
  refine ⟨by omega, by omega, h4, by omega, ?_, e1, e2, by omega, by omega, by rw [List.length_append]; simp; omega, by simp⟩
  rw [h.same, altL_eq ps k rs, if_pos hb, hi]
theorem AltS.bad {rs0 rs : List Nat} {op dp0 dp k : Nat} {ms0 ms : List NM} {l : List Nat} {ps : List Pat} (h : AltS rs0 rs op dp0 dp ms0 ms l ps k) (hb : hd rs 124 = true) (hi : rowL [] 0 rs.tail = none) : altS rs0 = none := by
  rw [h.same, altL_eq ps k rs, if_pos hb, hi]
theorem AltS.stop {rs0 rs : List Nat} {op dp0 dp k : Nat} {ms0 ms : List NM} {l : List Nat} {ps : List Pat} (h : AltS rs0 rs op dp0 dp ms0 ms l ps k) (hb : hd rs 124 = false) : altS rs0 = some (mkAlt ps, k, rs) := by
  rw [h.same, altL_eq ps k rs, if_neg (by rw [hb]; simp)]
section
variable {B : Nat} {w w' w0 : World} {K K' K0 : Nat → Nat} {o p : Nat} {s s' : Sl} {rs rs' : List Nat} {op dp op' dp' : Nat} {ms ms' : List NM} {v v' vk : Value} {l : List Nat}
def ARel (B : Nat) (W : World) (K : Nat → Nat) (o p : Nat) (rs0 : List Nat) (op dp0 : Nat) (ms0 : List NM) (v2 : Value) (wr : World) : Prop :=
  ∃ (K' : Nat → Nat) (s' : Sl) (rs' : List Nat) (dp' : Nat) (ms' : List NM) (v' : Value) (l : List Nat) (ps : List Pat) (k : Nat), Hid (FrQ B W wr K K' o p s' rs' op dp' ms' v' v2 l) ∧ Hid (AltS rs0 rs' op dp0 dp' ms0 ms' l ps k)
theorem rows_one (w : World) (base x : Nat) (hb : base ≤ w.heap.size) : (w.alloc (.cells #[.int .i64 (x : Int)] 3)).ownsRow base 3 1 (.slice (some ⟨w.heap.size, 0, none⟩) 1 1) 1 ([x].map IV) :=
  ⟨rfl, .inr ⟨w.heap.size, 1, #[.int .i64 (x : Int)], rfl, hb, heap_alloc_new w _, Nat.le_refl _, by unfold maxLen; omega, rfl, rfl⟩⟩
theorem skip_any (h : RQ B w K o p s rs op dp ms v) (c : Nat) : Calls Try.prog 25 #[.pointer (some ⟨p, 0, none⟩), .int .i32 (c : Int)] w fun e w' => e = .returned (.bool (hd rs c)) ∧ ∃ s', RQ B w' K o p s' (if hd rs c = true then rs.tail else rs) op dp ms v ∧ Mo K K (fun x => x = o) w w' := by
  by_cases hc : hd rs c = true
  · obtain ⟨t, rfl, ht⟩ := hd_yes hc
    rw [hc, if_pos rfl, ht]
    exact skip_yes c h
  · rw [if_neg hc]
    have hc' : hd rs c = false := by simpa using hc
    rw [hc']
    refine (skip_no h c hc').mono ?_
    rintro e w' ⟨rfl, rfl⟩
    exact ⟨rfl, s, h, Mo.refl _ _ _⟩
set_option maxHeartbeats 12800000 in
set_option maxRecDepth 100000 in
theorem alt_of {N : Nat} (HI : RowC N) : AltQ' N := by
  intro B w K o p s rs op dp ms v hr hp hN
  obtain ⟨i0, hi, hz0, hz1, hz2⟩ := info_int
  have HP := Lib.hid hp
  have HBW : Hid (B ≤ w.heap.size) := Lib.hid (by have := hr.bp; have := hr.lt; omega)
  have HC := HI B w K o p s rs op dp ms v hr hp hN
  have hfw0 := hp.few
  have hln0 := hp.len
  obtain ⟨R, hR⟩ : ∃ R, altS rs = R := ⟨_, rfl⟩
  rw [hR]
  have HRE := Lib.hid hR
  clear hR hr hp
  cases hr0 : rowL [] 0 rs with
  | none =>
    have HR2 : Hid (R = none) := Lib.hid (by rw [← HRE.out, altS_eq, hr0])
    rw [hr0] at HC
    unfold TP at HC
    simp only at HC
    clear hr0
    go_enter Try.func17, Try.ntmps17
    go_wp2_with fail
    refine HC.mono ?_
    rintro _ w5 ⟨rfl, h5⟩
    have hres : TP B K o p rs op dp ms 2 w R (.panicked FCH) w5 := by rw [HR2.out]; exact ⟨rfl, h5⟩
    exact ⟨rfl, hres⟩
  | some y =>
    obtain ⟨q, k, r1⟩ := y
    have HI0 := Lib.hid hr0
    rw [hr0] at HC
    unfold TP at HC
    simp only at HC
    clear hr0
    go_enter Try.func17, Try.ntmps17
    go_wp2_with fail
    refine HC.mono ?_
    rintro _ w5 ⟨K5, s5, ms5, v5, rfl, hr5, hm5, hn5, hf5, hsc5⟩
    have hsz5 := hm5.size
    have hq1 : 1 ≤ r1.length ∨ True := .inr trivial
    have HS0 : Hid (AltS rs r1 op dp (max dp (op + k)) ms ms5 [ms5.length - 1] [q] k) := Lib.hid (AltS.start HP.out HI0.out hn5 hf5 hsc5)
    obtain ⟨x, hx⟩ : ∃ x, ms5.length - 1 = x := ⟨_, rfl⟩
    rw [hx] at HS0 ⊢
    have HF0 : Hid (FrQ B w (w5.alloc (.cells #[.int .i64 (x : Int)] 3)) K (kmark K5 w5.heap.size (o + 1)) o p s5 r1 op (max dp (op + k)) ms5 v5 (.slice (some ⟨w5.heap.size, 0, none⟩) 1 1) [x]) := Lib.hid (by
      have hmo := new_mo w5 K5 (.cells #[.int .i64 (x : Int)] 3) (o + 1)
      exact ⟨hr5.mo hmo, ⟨rows_one w5 _ x hsz5, fun b hb => by injection hb with hb; exact kmark_new (by have hb : w5.heap.size = b := hb; omega)⟩, hm5.trans (hmo.widen fun _ h => h.elim)⟩)
    clear hr5 hm5 hn5 hsc5 hx HC hq1 hf5
    go_wp2
    go_loopw [3] (fun v2 wr => ARel B w K o p rs op dp ms v2 wr) (fun v _ => 1003 - RqRow.lenV v)
    case atStart => exact ⟨_, s5, r1, _, ms5, v5, [x], [q], k, HF0, HS0⟩
    case round =>
      obtain ⟨K', s', rs', dp', ms', v', l, ps, k3, HF, HS⟩ := hrel
      obtain ⟨A3, c3, rfl⟩ := own_sl HF.out.fk.own
      have hll : l.length = ps.length := by rw [HS.out.kids, roots_len]
      have hon := HS.out.on
      have hfew := HS.out.few
      have hl0 : l.length ≤ 1001 := by omega
      have HSK := skip_any HF.out.rp 124
      have hms9 : ms'.length < 100000 := by omega
      clear hll
      cases hbar : hd rs' 124 with
      | false =>
        have HR2 : Hid (R = some (mkAlt ps, k3, rs')) := Lib.hid (by rw [← HRE.out]; exact HS.out.stop hbar)
        rw [hbar] at HSK
        simp only [Bool.false_eq_true, if_false] at HSK
        clear hbar
        go_wp2_with fail
        refine HSK.mono ?_
        rintro _ w6 ⟨rfl, s6, hq6, hm6⟩
        have HF6 := Lib.hid (HF.out.call hq6 hm6)
        have hpn : ps ≠ [] := fun e => by have := HS.out.some_; rw [e] at this; simp at this
        have HJE := join_end (kind := 4) (sl := 2) (rs0 := rs) (t := mkAlt ps) HBW.out HF6.out HS.out.kids HS.out.nodes hpn (fun q e => by rw [e]; rfl) (fun h2 b => by
          match ps, h2 with
          | a :: b' :: ps', _ => simp [mkAlt, emit]) HS.out.most (by omega) hms9 HS.out.runes
        rw [show ((4 : Nat) : Int) = 4 from rfl] at HJE
        clear hpn HS HF HRE HSK hq6 hm6 HF6
        go_wp2_with fail
        refine HJE.mono ?_
        rintro e w9 ⟨⟨x9, rfl⟩, h9⟩
        have H9 := Lib.hid h9
        clear HJE h9
        go_wp2
        go_ret
        rw [HR2.out]
        exact H9.out
      | true =>
        have HBR := Lib.hid hbar
        have htl := hd_tail hbar
        rw [hbar] at HSK
        simp only [if_true] at HSK
        clear hbar
        go_wp2_with fail
        refine HSK.mono ?_
        rintro _ w6 ⟨rfl, s6, hq6, hm6⟩
        have HF6 := Lib.hid (HF.out.call hq6 hm6)
        have HC := HI B w6 K' o p s6 rs'.tail op dp' ms' v' HF6.out.rp ⟨by have := HS.out.len; omega, by have := HS.out.deep; omega, by omega, fun r hr => HS.out.runes r (List.mem_of_mem_tail hr), HS.out.top⟩ (by omega)
        clear hq6 hm6 HSK HF
        cases hr9 : rowL [] 0 rs'.tail with
        | none =>
          have HR2 : Hid (R = none) := Lib.hid (by rw [← HRE.out]; exact HS.out.bad HBR.out hr9)
          rw [hr9] at HC
          unfold TP at HC
          simp only at HC
          clear hr9
          go_wp2_with fail
          refine HC.mono ?_
          rintro _ w7 ⟨rfl, h5⟩
          have hres : TP B K o p rs op dp ms 2 w R (.panicked FCH) w7 := by rw [HR2.out]; exact FP.of HF6.out.mo ⟨rfl, h5⟩
          exact ⟨rfl, hres⟩
        | some y =>
          obtain ⟨q9, k9, r9⟩ := y
          rw [hr9] at HC
          unfold TP at HC
          simp only at HC
          have HI9 := Lib.hid hr9
          clear hr9
          go_wp2_with fail
          refine HC.mono ?_
          rintro _ w7 ⟨K7, s7, ms7, v7, rfl, hr7, hm7, hn7, hf7, hsc7⟩
          have HF7 := Lib.hid (HF6.out.call hr7 hm7)
          have HS7 := Lib.hid (HS.out.next HBR.out HI9.out hn7 hf7 hsc7)
          obtain ⟨x7, hx7⟩ : ∃ x, ms7.length - 1 = x := ⟨_, rfl⟩
          rw [hx7] at HS7 ⊢
          have hsz7 := HF7.out.mo.size
          clear hr7 hm7 hn7 hsc7 hx7 HC HF6 HS
          have HOA : Hid ((w7.alloc (.cells #[.int .i64 (x7 : Int)] 3)).ownsRow w.heap.size 3 1 (.slice A3 l.length c3) l.length (l.map IV)) := Lib.hid (HF7.out.fk.own.alloc _)
          go_wp2_with (at_builtin; refine wpList_append_own_at _ rfl (.tmp 9) (.tmp 12) 30 rfl w.heap.size 3 i0 (.int .i64 0) 1 8 Try.underlying30 hi hz0 hz1 hz2 rfl (by decide) _ _ _ rfl HOA.out ⟨w7.heap.size, 0, none⟩ 1 1 ([x7].map IV) rfl (by simp) (cellNewI _ _ _) (iv_ones _) ?c3 ?c4 ?c5 ?_)
          case c3 => unfold maxLen; omega
          case c4 => omega
          case c5 => simp; omega
          intro v8 w8 hown8 hg8 _ hat8
          have HF8 := Lib.hid (HF7.out.push (x := x7) hown8 hg8 (by simpa using hat8))
          obtain ⟨A8, c8, hv8⟩ := own_sl hown8
          subst hv8
          have hm : 1003 - RqRow.lenV (.slice A8 (l.length + 1) c8) < 1003 - RqRow.lenV (.slice A3 l.length c3) := by simp [RqRow.lenV]; omega
          clear hown8 hg8 hat8 HOA HF7
          go_wp2
          exact ⟨⟨_, _, r9, _, ms7, v7, l ++ [x7], _, _, HF8, HS7⟩, hm⟩
end
end Go.Proofs.Ytdmbgjpidlllcaa.RqAlt

