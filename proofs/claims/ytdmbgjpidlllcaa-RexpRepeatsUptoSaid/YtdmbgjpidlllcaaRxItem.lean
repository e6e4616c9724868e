/- The contract of the document's item, by that of its atom. Conditions: the parser lies in memory and may go on, a rune is left. -/
import Derived.Test.YtdmbgjpidlllcaaRxRows
namespace Go.Proofs.Ytdmbgjpidlllcaa.RxItem
open Go Go.RowKit Words AppN Km Mo_ RxSpec RxEq RxMem RxPeek RxIn RxEsc RxMbr RxClean RxNode RxPost RxRowP RxRow RxAlt RxItemP

/-- atom, at texts of at most N runes. -/
def AtomC (S : Sl) (rs : List Nat) (N : Nat) : Prop := ∀ (w : World) (K : Nat → Nat) (o p : Nat) (q : PSt) (ms : List NM) (v : Value), RP w K o p S rs q ms v → Pre rs q ms → rs.length - q.at_ ≤ N → q.at_ < rs.length →
  Calls Try.prog 39 #[.pointer (some ⟨p, 0, none⟩)] w (NPost w K o p S rs 0 q ms (atomS (rs.drop q.at_)))
theorem pkz_hd {rs : List Nat} {q : PSt} {c : Nat} (h : pkz rs q = (c : Int)) : q.bad = false ∧ hd (rs.drop q.at_) c = true := by
  have hg : q.bad = false := by
    cases hb : q.bad with
    | false => rfl
    | true => rw [pkz_bad hb] at h; omega
  refine ⟨hg, ?_⟩
  cases hd0 : rs.drop q.at_ with
  | nil => rw [pkz_nil hd0] at h; omega
  | cons r t =>
    obtain ⟨e, _, _⟩ := pkz_cons hg hd0
    rw [e] at h
    rw [hd_cons]; simp; omega
theorem pkz_no {rs : List Nat} {q : PSt} {c : Nat} (hg : q.bad = false) (h : pkz rs q ≠ (c : Int)) : hd (rs.drop q.at_) c = false := by
  cases hd0 : rs.drop q.at_ with
  | nil => rfl
  | cons r t =>
    obtain ⟨e, _, _⟩ := pkz_cons hg hd0
    rw [e] at h
    rw [hd_cons]; simp; omega
theorem hd_ne {rs : List Nat} {c : Nat} (h : hd rs c = true) : rs ≠ [] := by rintro rfl; cases h
theorem hd_two {rs : List Nat} {c d : Nat} (h : hd rs c = true) (hcd : c ≠ d) : hd rs d = false := by
  cases rs with
  | nil => rfl
  | cons r t => rw [hd_cons] at h ⊢; simp at h ⊢; omega
theorem drop_tail (rs : List Nat) (n : Nat) : (rs.drop n).tail = rs.drop (n + 1) := by rw [List.tail_drop]
/-- The end: the node behind the parser's. -/
theorem node_end {w0 w : World} {K0 K : Nat → Nat} {o p : Nat} {S : Sl} {rs : List Nat} {q q2 : PSt} {ms ms1 : List NM} {v : Value} {x nb kb : Nat} {lo hi : Int} (h : It w0 w K0 K o p S rs q2 ms1 v x nb kb lo hi) (hl : ms1.length < 100000)
    (hok : ∀ ms2, nds ms2 = nds ms1 ++ [⟨5, [x], lo, hi, []⟩] → NOk rs 0 q ms (itemS (rs.drop q.at_)) ms1.length q2 ms2) :
    Calls Try.prog 31 #[.pointer (some ⟨p, 0, none⟩), .agg #[.int .i64 5, .slice (some ⟨kb, 0, none⟩) 1 1, .int .i64 lo, .int .i64 hi, .slice none 0 0]] w fun e w' => e = .returned (.int .i64 (ms1.length : Int)) ∧ NPost w0 K0 o p S rs 0 q ms (itemS (rs.drop q.at_)) (.returned (.int .i64 (ms1.length : Int))) w' :=
  (node_any h.rp h.okn hl).mono fun e w' ⟨he, v9, K9, hr9, hm9⟩ => ⟨he, ms1.length, K9, q2, _, v9, rfl, hr9, h.mo.trans hm9, hok _ (by rw [nds_snoc])⟩
set_option maxHeartbeats 25600000 in
set_option maxRecDepth 100000 in
theorem item_of {S : Sl} {rs : List Nat} {N : Nat} (HI : AtomC S rs N) : ItemC S rs N := by
  intro w K o p q ms v hr hp hN hlt
  have hlen := hp.len
  have hfew0 := hp.few
  have HA := HI w K o p q ms v hr hp hN hlt
  clear hr
  go_enter Try.func36, Try.ntmps36
  go_wp2_with fail
  refine HA.mono ?_
  rintro _ w1 ⟨x, K1, q1, ms1, v1, rfl, hr1, hm1, hn1⟩
  have hat1 := hn1.here
  have hfew1 := hn1.few
  have HN1 := Lib.hid hn1
  have HR1 := Lib.hid hr1
  have HM1 := Lib.hid hm1
  have HT := Lib.hid (It.start hr1 hm1 x (-1))
  clear hn1 hr1 hm1 HA
  have hz : ∃ z, pkz rs q1 = z := ⟨_, rfl⟩
  obtain ⟨z, hz⟩ := hz
  by_cases e43 : z = 43
  · have hg := (pkz_hd (rs := rs) (q := q1) (c := 43) (by omega)).1
    have hh := (pkz_hd (rs := rs) (q := q1) (c := 43) (by omega)).2
    have HAS : Hid (∃ p1 k1 r1, atomS (rs.drop q.at_) = some (p1, k1, r1) ∧ rs.drop q1.at_ = r1) := Lib.hid (by
      cases ha : atomS (rs.drop q.at_) with
      | none => have := HN1.out.no ha; rw [this] at hg; cases hg
      | some y => obtain ⟨p1, k1, r1⟩ := y; exact ⟨p1, k1, r1, rfl, (HN1.out.yes p1 k1 r1 ha).2.2.2.2.1⟩)
    obtain ⟨p1, k1, r1, ha, hr1⟩ := HAS.out
    rw [hr1] at hh
    have ht := hd_tail hh
    rw [← hr1, List.length_tail, List.length_drop] at ht
    have HOK : Hid (∀ ms2, nds ms2 = nds ms1 ++ [⟨5, [x], 1, -1, []⟩] → NOk rs 0 q ms (itemS (rs.drop q.at_)) ms1.length { q1 with at_ := q1.at_ + 1 } ms2) := Lib.hid fun ms2 h2 =>
      item_rep HN1.out ha (lo := 1) (hi := -1) (r2 := r1.tail) (by unfold repS; rw [if_pos hh]) hg rfl rfl (by simp only; omega) (by rw [← hr1, drop_tail]) (by simp only; omega) h2
    clear ha hr1 hh ht HAS HN1 HR1 HM1
    obtain ⟨b0, b1, b2, b3, b4⟩ := HT.out.cells
    have f2 := HT.out.frozen 2
    have f3 := HT.out.frozen 3
    have HIS := is_yes HT.out.rp (by first | omega | (simp only; omega)) 43 (by first | omega | (simp only; omega))
    go_wp2_with fail
    refine HIS.mono ?_
    rintro _ w2 ⟨rfl, hr, hm⟩
    have HT2 := Lib.hid (HT.out.call hr hm)
    clear hr hm HIS HT
    obtain ⟨b0, b1, b2, b3, b4⟩ := HT2.out.cells
    have f2 := HT2.out.frozen 2
    have f3 := HT2.out.frozen 3
    have HT3 := Lib.hid (HT2.out.poke 2 (.int .i64 1) 1 (-1) (by simp))
    obtain ⟨g0, g1, g2, g3, g4⟩ := HT3.out.cells
    clear HT2
    have HND := node_end (q := q) (ms := ms) HT3.out (by omega) HOK.out
    go_wp2_with fail
    refine HND.mono ?_
    rintro _ w9 ⟨rfl, hres⟩
    have HRES := Lib.hid hres
    clear hres HND
    go_wp2
    go_ret
    exact HRES.out
  by_cases e63 : z = 63
  · have hg := (pkz_hd (rs := rs) (q := q1) (c := 63) (by omega)).1
    have hh := (pkz_hd (rs := rs) (q := q1) (c := 63) (by omega)).2
    have HAS : Hid (∃ p1 k1 r1, atomS (rs.drop q.at_) = some (p1, k1, r1) ∧ rs.drop q1.at_ = r1) := Lib.hid (by
      cases ha : atomS (rs.drop q.at_) with
      | none => have := HN1.out.no ha; rw [this] at hg; cases hg
      | some y => obtain ⟨p1, k1, r1⟩ := y; exact ⟨p1, k1, r1, rfl, (HN1.out.yes p1 k1 r1 ha).2.2.2.2.1⟩)
    obtain ⟨p1, k1, r1, ha, hr1⟩ := HAS.out
    rw [hr1] at hh
    have ht := hd_tail hh
    rw [← hr1, List.length_tail, List.length_drop] at ht
    have HOK : Hid (∀ ms2, nds ms2 = nds ms1 ++ [⟨5, [x], 0, 1, []⟩] → NOk rs 0 q ms (itemS (rs.drop q.at_)) ms1.length { q1 with at_ := q1.at_ + 1 } ms2) := Lib.hid fun ms2 h2 =>
      item_rep HN1.out ha (lo := 0) (hi := 1) (r2 := r1.tail) (by unfold repS; rw [if_neg (by rw [hd_two hh (by decide)]; simp), if_pos hh]) hg rfl rfl (by simp only; omega) (by rw [← hr1, drop_tail]) (by simp only; omega) h2
    clear ha hr1 hh ht HAS HN1 HR1 HM1
    have HIS := is_no HT.out.rp (by first | omega | (simp only; omega)) 43 (by first | omega | (simp only; omega))
    go_wp2_with fail
    refine HIS.mono ?_
    rintro _ w2 ⟨rfl, hb⟩
    have HT1 := Lib.hid (HT.out.below hb)
    clear hb HIS HT
    have HIS := is_yes HT1.out.rp (by first | omega | (simp only; omega)) 63 (by first | omega | (simp only; omega))
    go_wp2_with fail
    refine HIS.mono ?_
    rintro _ w3 ⟨rfl, hr, hm⟩
    have HT2 := Lib.hid (HT1.out.call hr hm)
    clear hr hm HIS HT1
    obtain ⟨b0, b1, b2, b3, b4⟩ := HT2.out.cells
    have f2 := HT2.out.frozen 2
    have f3 := HT2.out.frozen 3
    have HT3 := Lib.hid (HT2.out.poke 3 (.int .i64 1) 0 1 (by simp))
    obtain ⟨g0, g1, g2, g3, g4⟩ := HT3.out.cells
    clear HT2
    have HND := node_end (q := q) (ms := ms) HT3.out (by omega) HOK.out
    go_wp2_with fail
    refine HND.mono ?_
    rintro _ w9 ⟨rfl, hres⟩
    have HRES := Lib.hid hres
    clear hres HND
    go_wp2
    go_ret
    exact HRES.out
  by_cases e123 : z = 123
  · have hg := (pkz_hd (rs := rs) (q := q1) (c := 123) (by omega)).1
    have hh := (pkz_hd (rs := rs) (q := q1) (c := 123) (by omega)).2
    have HAS : Hid (∃ p1 k1 r1, atomS (rs.drop q.at_) = some (p1, k1, r1) ∧ rs.drop q1.at_ = r1) := Lib.hid (by
      cases ha : atomS (rs.drop q.at_) with
      | none => have := HN1.out.no ha; rw [this] at hg; cases hg
      | some y => obtain ⟨p1, k1, r1⟩ := y; exact ⟨p1, k1, r1, rfl, (HN1.out.yes p1 k1 r1 ha).2.2.2.2.1⟩)
    obtain ⟨p1, k1, r1, ha, hr1⟩ := HAS.out
    rw [hr1] at hh
    have ht := hd_tail hh
    rw [← hr1, List.length_tail, List.length_drop] at ht
    have HD1 : Hid (rs.drop (q1.at_ + 1) = r1.tail) := Lib.hid (by rw [← hr1, drop_tail])
    have HREP : Hid (repS p1 r1 = match digit r1.tail with
        | none => none
        | some (lo, r2) => match (if hd r2 44 then digit r2.tail else some (lo, r2)) with
          | none => none
          | some (hi, r3) => if hd r3 125 ∧ lo ≤ hi then some (.rep p1 lo hi, r3.tail) else none) := Lib.hid (by
      unfold repS
      rw [if_neg (by rw [hd_two hh (by decide)]; simp), if_neg (by rw [hd_two hh (by decide)]; simp), if_pos hh]; rfl)
    have HNE : Hid (r1 ≠ []) := Lib.hid (hd_ne hh)
    have HHA := Lib.hid ha
    clear ha hh hr1 HAS HR1 HM1
    have HIS := is_no HT.out.rp (by first | omega | (simp only; omega)) 43 (by first | omega | (simp only; omega))
    go_wp2_with fail
    refine HIS.mono ?_
    rintro _ w2 ⟨rfl, hb⟩
    have HT1 := Lib.hid (HT.out.below hb)
    clear hb HIS HT
    have HIS := is_no HT1.out.rp (by first | omega | (simp only; omega)) 63 (by first | omega | (simp only; omega))
    go_wp2_with fail
    refine HIS.mono ?_
    rintro _ w3 ⟨rfl, hb⟩
    have HT2 := Lib.hid (HT1.out.below hb)
    clear hb HIS HT1
    have HIS := is_yes HT2.out.rp (by first | omega | (simp only; omega)) 123 (by first | omega | (simp only; omega))
    go_wp2_with fail
    refine HIS.mono ?_
    rintro _ w4 ⟨rfl, hr, hm⟩
    have HT3 := Lib.hid (HT2.out.call hr hm)
    clear hr hm HIS HT2
    have HD := digit_any HT3.out.rp hg (by simp only; omega) hlen
    simp only [HD1.out] at HD
    go_wp2_with fail
    refine HD.mono ?_
    rintro _ w5 ⟨n, at2, b2, rfl, hn8, hr, hm, hat2, hsome, hnone⟩
    have HT4 := Lib.hid (HT3.out.call hr hm)
    have HSOME := Lib.hid hsome
    have HNONE := Lib.hid hnone
    clear hr hm HD HT3 hsome hnone
    obtain ⟨b0, b1, b2', b3', b4⟩ := HT4.out.cells
    have f2 := HT4.out.frozen 2
    have f3 := HT4.out.frozen 3
    have HT5 := Lib.hid (HT4.out.poke 2 (.int .i64 (n : Int)) n (-1) (by simp))
    have hx5 := HT5.out.cells.2.2.1
    have hy5 := HT5.out.cells.2.2.2.1
    have fx5 := HT5.out.frozen 3
    have HT6 := Lib.hid (HT5.out.poke 3 (.int .i64 (n : Int)) n n (by simp))
    clear HT4 HT5
    obtain ⟨z2, hz2'⟩ : ∃ z2, pkz rs { q1 with at_ := at2, bad := b2 } = z2 := ⟨_, rfl⟩
    by_cases e44 : z2 = 44
    · obtain ⟨hg2, hh2⟩ := pkz_hd (rs := rs) (q := { q1 with at_ := at2, bad := b2 }) (c := 44) (by omega)
      simp only at hg2 hh2
      have HDS : Hid (∃ r2, digit r1.tail = some (n, r2) ∧ rs.drop at2 = r2) := Lib.hid (by
        cases hd0 : digit r1.tail with
        | none => have := HNONE.out hd0; rw [this] at hg2; cases hg2
        | some y => obtain ⟨m, r2⟩ := y; obtain ⟨y1, _, y3⟩ := HSOME.out m r2 hd0; exact ⟨r2, by rw [y1], y3⟩)
      obtain ⟨r2, hd1, hr2⟩ := HDS.out
      have hq12 : q1.at_ + 1 ≤ at2 := by
        have := digit_short hd1
        rw [← hr2, ← HD1.out, List.length_drop, List.length_drop] at this
        omega
      rw [hr2] at hh2
      have ht2 := hd_tail hh2
      rw [← hr2, List.length_tail, List.length_drop] at ht2
      have HREP2 : Hid (repS p1 r1 = match digit r2.tail with
            | none => none
            | some (hi, r3) => if hd r3 125 ∧ n ≤ hi then some (.rep p1 n hi, r3.tail) else none) := Lib.hid (by rw [HREP.out, hd1]; simp only; rw [if_pos hh2])
      have HD2 : Hid (rs.drop (at2 + 1) = r2.tail) := Lib.hid (by rw [← hr2, drop_tail])
      clear hd1 HDS HSOME HNONE hh2 hr2
      have HIS := is_yes HT6.out.rp (by first | omega | (simp only; omega)) 44 (by first | omega | (simp only; omega))
      go_wp2_with fail
      refine HIS.mono ?_
      rintro _ w6 ⟨rfl, hr, hm⟩
      have HT7 := Lib.hid (HT6.out.call hr hm)
      clear hr hm HIS HT6
      have HD := digit_any HT7.out.rp hg2 (by simp only; omega) hlen
      simp only [HD2.out] at HD
      go_wp2_with fail
      refine HD.mono ?_
      rintro _ w7 ⟨n2, at3, b3, rfl, hn28, hr, hm, hat3, hsome, hnone⟩
      have HT8 := Lib.hid (HT7.out.call hr hm)
      have HSOME := Lib.hid hsome
      have HNONE := Lib.hid hnone
      clear hr hm HD HT7 hsome hnone b0 b1 b2' b3' b4 f2 f3 hx5 hy5 fx5
      obtain ⟨k0, k1', k2, k3, k4⟩ := HT8.out.cells
      have fk3 := HT8.out.frozen 3
      have HT9 := Lib.hid (HT8.out.poke 3 (.int .i64 (n2 : Int)) n n2 (by simp))
      clear HT8
      obtain ⟨z3, hz3'⟩ : ∃ z3, pkz rs { q1 with at_ := at3, bad := b3 } = z3 := ⟨_, rfl⟩
      by_cases e125 : z3 = 125
      · obtain ⟨hg3, hh3⟩ := pkz_hd (rs := rs) (q := { q1 with at_ := at3, bad := b3 }) (c := 125) (by omega)
        simp only at hg3 hh3
        have HDS : Hid (∃ r3, digit r2.tail = some (n2, r3) ∧ rs.drop at3 = r3) := Lib.hid (by
          cases hd0 : digit r2.tail with
          | none => have := HNONE.out hd0; rw [this] at hg3; cases hg3
          | some y => obtain ⟨m, r3⟩ := y; obtain ⟨y1, _, y3⟩ := HSOME.out m r3 hd0; exact ⟨r3, by rw [y1], y3⟩)
        obtain ⟨r3, hd3, hr3⟩ := HDS.out
        have hsh2 := digit_short hd3
        rw [hr3] at hh3
        have ht3 := hd_tail hh3
        rw [← hr3, List.length_tail, List.length_drop] at ht3
        have hsh3 : at2 + 1 ≤ at3 := by
          have := hsh2
          rw [← hr3, ← HD2.out, List.length_drop, List.length_drop] at this
          omega
        have HIS := is_yes HT9.out.rp (by first | omega | (simp only; omega)) 125 (by first | omega | (simp only; omega))
        go_wp2_with fail
        refine HIS.mono ?_
        rintro _ w8 ⟨rfl, hr, hm⟩
        have HTA := Lib.hid (HT9.out.call hr hm)
        clear hr hm HIS HT9
        obtain ⟨b0, b1, b2', b3', b4⟩ := HTA.out.cells
        have f2 := HTA.out.frozen 2
        have f3 := HTA.out.frozen 3
        by_cases hle : n ≤ n2
        · have dl : decide ((n2 : Int) < (n : Int)) = false := decide_eq_false (by omega)
          have dln : decide (n2 < n) = false := decide_eq_false (by omega)
          have HOK : Hid (∀ ms2, nds ms2 = nds ms1 ++ [⟨5, [x], n, n2, []⟩] → NOk rs 0 q ms (itemS (rs.drop q.at_)) ms1.length { q1 with at_ := at3 + 1, bad := b3 } ms2) := Lib.hid fun ms2 h2 =>
            item_rep HN1.out HHA.out (lo := n) (hi := n2) (r2 := r3.tail) (by rw [HREP2.out, hd3]; simp only; rw [if_pos ⟨hh3, hle⟩]) hg3 rfl rfl (by simp only; omega) (by simp only; rw [← hr3, drop_tail]) (by simp only; omega) h2
          clear HN1 HHA HREP HREP2 HDS HSOME HNONE hh3 hd3 hr3 hle
          have HND := node_end (q := q) (ms := ms) HTA.out (by omega) HOK.out
          go_wp2_with fail
          refine HND.mono ?_
          rintro _ w9 ⟨rfl, hres⟩
          have HRES := Lib.hid hres
          clear hres HND
          go_wp2
          go_ret
          exact HRES.out
        · have dl : decide ((n2 : Int) < (n : Int)) = true := decide_eq_true (by omega)
          have dln : decide (n2 < n) = true := decide_eq_true (by omega)
          have HOK : Hid (∀ ms2, nds ms2 = nds ms1 ++ [⟨5, [x], n, n2, []⟩] → NOk rs 0 q ms (itemS (rs.drop q.at_)) ms1.length { q1 with at_ := at3 + 1, bad := true } ms2) := Lib.hid fun ms2 h2 =>
            item_bad HN1.out HHA.out (by rw [HREP2.out, hd3]; simp only; rw [if_neg (fun h => hle h.2)]) rfl rfl (by simp only; omega) HNE.out (by have := nodes_len h2; simpa using this)
          clear HN1 HHA HREP HREP2 HDS HSOME HNONE hh3 hd3 hr3 hle
          obtain ⟨b0, b1, b2', b3', b4⟩ := HTA.out.cells
          have f2 := HTA.out.frozen 2
          have f3 := HTA.out.frozen 3
          obtain ⟨c0, c1, c2, c3, c4, c5⟩ := HTA.out.rp.cells
          have f5 := HTA.out.rp.frozen 5
          have HTB := Lib.hid (HTA.out.call (HTA.out.rp.poke 5 (.bool true) { q1 with at_ := at3 + 1, bad := true } (by unfold pcells; simp)) (HTA.out.rp.pokeMo 5 (.bool true)))
          obtain ⟨g0, g1, g2, g3, g4⟩ := HTB.out.cells
          clear HTA
          have HND := node_end (q := q) (ms := ms) HTB.out (by omega) HOK.out
          go_wp2_with fail
          refine HND.mono ?_
          rintro _ w9 ⟨rfl, hres⟩
          have HRES := Lib.hid hres
          clear hres HND
          go_wp2
          go_ret
          exact HRES.out
      · have HOK : Hid (∀ ms2, nds ms2 = nds ms1 ++ [⟨5, [x], n, n2, []⟩] → NOk rs 0 q ms (itemS (rs.drop q.at_)) ms1.length { q1 with at_ := at3, bad := true } ms2) := Lib.hid fun ms2 h2 =>
          item_bad HN1.out HHA.out (by
            rw [HREP2.out]
            cases hd0 : digit r2.tail with
            | none => rfl
            | some y =>
              obtain ⟨m, r3⟩ := y
              obtain ⟨y1, y2, y3⟩ := HSOME.out m r3 hd0
              have hno := pkz_no (rs := rs) (q := { q1 with at_ := at3, bad := b3 }) (c := 125) y2 (by omega)
              simp only at hno
              rw [y3] at hno
              simp only
              rw [if_neg (by rw [hno]; simp)]) rfl rfl (by simp only; omega) HNE.out (by have := nodes_len h2; simpa using this)
        clear HN1 HHA HREP HREP2 HSOME HNONE
        have HIS := is_no HT9.out.rp (by first | omega | (simp only; omega)) 125 (by first | omega | (simp only; omega))
        go_wp2_with fail
        refine HIS.mono ?_
        rintro _ w8 ⟨rfl, hb⟩
        have HTA := Lib.hid (HT9.out.below hb)
        clear hb HIS HT9
        obtain ⟨b0, b1, b2', b3', b4⟩ := HTA.out.cells
        have f2 := HTA.out.frozen 2
        have f3 := HTA.out.frozen 3
        obtain ⟨c0, c1, c2, c3, c4, c5⟩ := HTA.out.rp.cells
        have f5 := HTA.out.rp.frozen 5
        have HTB := Lib.hid (HTA.out.call (HTA.out.rp.poke 5 (.bool true) { q1 with at_ := at3, bad := true } (by unfold pcells; simp)) (HTA.out.rp.pokeMo 5 (.bool true)))
        obtain ⟨g0, g1, g2, g3, g4⟩ := HTB.out.cells
        clear HTA
        have HND := node_end (q := q) (ms := ms) HTB.out (by omega) HOK.out
        go_wp2_with fail
        refine HND.mono ?_
        rintro _ w9 ⟨rfl, hres⟩
        have HRES := Lib.hid hres
        clear hres HND
        go_wp2
        go_ret
        exact HRES.out
    · have HIS := is_no HT6.out.rp (by first | omega | (simp only; omega)) 44 (by first | omega | (simp only; omega))
      go_wp2_with fail
      refine HIS.mono ?_
      rintro _ w6 ⟨rfl, hb⟩
      have HT7 := Lib.hid (HT6.out.below hb)
      clear hb HIS HT6
      by_cases e125 : z2 = 125
      · obtain ⟨hg3, hh3⟩ := pkz_hd (rs := rs) (q := { q1 with at_ := at2, bad := b2 }) (c := 125) (by omega)
        simp only at hg3 hh3
        have HDS : Hid (∃ r2, digit r1.tail = some (n, r2) ∧ rs.drop at2 = r2) := Lib.hid (by
          cases hd0 : digit r1.tail with
          | none => have := HNONE.out hd0; rw [this] at hg3; cases hg3
          | some y => obtain ⟨m, r2⟩ := y; obtain ⟨y1, _, y3⟩ := HSOME.out m r2 hd0; exact ⟨r2, by rw [y1], y3⟩)
        obtain ⟨r2, hd3, hr3⟩ := HDS.out
        have hsh2 := digit_short hd3
        rw [hr3] at hh3
        have ht3 := hd_tail hh3
        rw [← hr3, List.length_tail, List.length_drop] at ht3
        have hsh3 : q1.at_ + 1 ≤ at2 := by
          have := hsh2
          rw [← hr3, ← HD1.out, List.length_drop, List.length_drop] at this
          omega
        have HOK : Hid (∀ ms2, nds ms2 = nds ms1 ++ [⟨5, [x], n, n, []⟩] → NOk rs 0 q ms (itemS (rs.drop q.at_)) ms1.length { q1 with at_ := at2 + 1, bad := b2 } ms2) := Lib.hid fun ms2 h2 =>
          item_rep HN1.out HHA.out (lo := n) (hi := n) (r2 := r2.tail) (by rw [HREP.out, hd3]; simp only; rw [if_neg (by rw [hd_two hh3 (by decide)]; simp)]; simp only; rw [if_pos ⟨hh3, Nat.le_refl _⟩]) hg3 rfl rfl (by simp only; omega) (by simp only; rw [← hr3, drop_tail]) (by simp only; omega) h2
        clear HN1 HHA HREP HDS HSOME HNONE hh3 hd3 hr3
        have HIS := is_yes HT7.out.rp (by first | omega | (simp only; omega)) 125 (by first | omega | (simp only; omega))
        go_wp2_with fail
        refine HIS.mono ?_
        rintro _ w8 ⟨rfl, hr, hm⟩
        have HTA := Lib.hid (HT7.out.call hr hm)
        clear hr hm HIS HT7
        obtain ⟨b0, b1, b2', b3', b4⟩ := HTA.out.cells
        have f2 := HTA.out.frozen 2
        have f3 := HTA.out.frozen 3
        have HND := node_end (q := q) (ms := ms) HTA.out (by omega) HOK.out
        go_wp2_with fail
        refine HND.mono ?_
        rintro _ w9 ⟨rfl, hres⟩
        have HRES := Lib.hid hres
        clear hres HND
        go_wp2
        go_ret
        exact HRES.out
      · have HOK : Hid (∀ ms2, nds ms2 = nds ms1 ++ [⟨5, [x], n, n, []⟩] → NOk rs 0 q ms (itemS (rs.drop q.at_)) ms1.length { q1 with at_ := at2, bad := true } ms2) := Lib.hid fun ms2 h2 =>
          item_bad HN1.out HHA.out (by
            rw [HREP.out]
            cases hd0 : digit r1.tail with
            | none => rfl
            | some y =>
              obtain ⟨m, r2⟩ := y
              obtain ⟨y1, y2, y3⟩ := HSOME.out m r2 hd0
              have hno := pkz_no (rs := rs) (q := { q1 with at_ := at2, bad := b2 }) (c := 125) y2 (by omega)
              have hno2 := pkz_no (rs := rs) (q := { q1 with at_ := at2, bad := b2 }) (c := 44) y2 (by omega)
              simp only at hno hno2
              rw [y3] at hno hno2
              simp only
              rw [if_neg (by rw [hno2]; simp)]
              simp only
              rw [if_neg (by rw [hno]; simp)]) rfl rfl (by simp only; omega) HNE.out (by have := nodes_len h2; simpa using this)
        clear HN1 HHA HREP HSOME HNONE
        have HIS := is_no HT7.out.rp (by first | omega | (simp only; omega)) 125 (by first | omega | (simp only; omega))
        go_wp2_with fail
        refine HIS.mono ?_
        rintro _ w8 ⟨rfl, hb⟩
        have HTA := Lib.hid (HT7.out.below hb)
        clear hb HIS HT7
        obtain ⟨b0, b1, b2', b3', b4⟩ := HTA.out.cells
        have f2 := HTA.out.frozen 2
        have f3 := HTA.out.frozen 3
        obtain ⟨c0, c1, c2, c3, c4, c5⟩ := HTA.out.rp.cells
        have f5 := HTA.out.rp.frozen 5
        have HTB := Lib.hid (HTA.out.call (HTA.out.rp.poke 5 (.bool true) { q1 with at_ := at2, bad := true } (by unfold pcells; simp)) (HTA.out.rp.pokeMo 5 (.bool true)))
        obtain ⟨g0, g1, g2, g3, g4⟩ := HTB.out.cells
        clear HTA
        have HND := node_end (q := q) (ms := ms) HTB.out (by omega) HOK.out
        go_wp2_with fail
        refine HND.mono ?_
        rintro _ w9 ⟨rfl, hres⟩
        have HRES := Lib.hid hres
        clear hres HND
        go_wp2
        go_ret
        exact HRES.out
  by_cases e42 : z = 42
  · have hg := (pkz_hd (rs := rs) (q := q1) (c := 42) (by omega)).1
    have hh := (pkz_hd (rs := rs) (q := q1) (c := 42) (by omega)).2
    have HAS : Hid (∃ p1 k1 r1, atomS (rs.drop q.at_) = some (p1, k1, r1) ∧ rs.drop q1.at_ = r1) := Lib.hid (by
      cases ha : atomS (rs.drop q.at_) with
      | none => have := HN1.out.no ha; rw [this] at hg; cases hg
      | some y => obtain ⟨p1, k1, r1⟩ := y; exact ⟨p1, k1, r1, rfl, (HN1.out.yes p1 k1 r1 ha).2.2.2.2.1⟩)
    obtain ⟨p1, k1, r1, ha, hr1⟩ := HAS.out
    rw [hr1] at hh
    have ht := hd_tail hh
    rw [← hr1, List.length_tail, List.length_drop] at ht
    have HOK : Hid (∀ ms2, nds ms2 = nds ms1 ++ [⟨5, [x], 0, -1, []⟩] → NOk rs 0 q ms (itemS (rs.drop q.at_)) ms1.length { q1 with at_ := q1.at_ + 1 } ms2) := Lib.hid fun ms2 h2 =>
      item_rep HN1.out ha (lo := 0) (hi := -1) (r2 := r1.tail) (by unfold repS; rw [if_neg (by rw [hd_two hh (by decide)]; simp), if_neg (by rw [hd_two hh (by decide)]; simp), if_neg (by rw [hd_two hh (by decide)]; simp), if_pos hh]) hg rfl rfl (by simp only; omega) (by rw [← hr1, drop_tail]) (by simp only; omega) h2
    clear ha hr1 hh ht HAS HN1 HR1 HM1
    have HIS := is_no HT.out.rp (by first | omega | (simp only; omega)) 43 (by first | omega | (simp only; omega))
    go_wp2_with fail
    refine HIS.mono ?_
    rintro _ w2 ⟨rfl, hb⟩
    have HT1 := Lib.hid (HT.out.below hb)
    clear hb HIS HT
    have HIS := is_no HT1.out.rp (by first | omega | (simp only; omega)) 63 (by first | omega | (simp only; omega))
    go_wp2_with fail
    refine HIS.mono ?_
    rintro _ w3 ⟨rfl, hb⟩
    have HT2 := Lib.hid (HT1.out.below hb)
    clear hb HIS HT1
    have HIS := is_no HT2.out.rp (by first | omega | (simp only; omega)) 123 (by first | omega | (simp only; omega))
    go_wp2_with fail
    refine HIS.mono ?_
    rintro _ w4 ⟨rfl, hb⟩
    have HT3 := Lib.hid (HT2.out.below hb)
    clear hb HIS HT2
    have HIS := is_yes HT3.out.rp (by first | omega | (simp only; omega)) 42 (by first | omega | (simp only; omega))
    go_wp2_with fail
    refine HIS.mono ?_
    rintro _ w5 ⟨rfl, hr, hm⟩
    have HT4 := Lib.hid (HT3.out.call hr hm)
    clear hr hm HIS HT3
    obtain ⟨b0, b1, b2, b3, b4⟩ := HT4.out.cells
    have f2 := HT4.out.frozen 2
    have f3 := HT4.out.frozen 3
    have HND := node_end (q := q) (ms := ms) HT4.out (by omega) HOK.out
    go_wp2_with fail
    refine HND.mono ?_
    rintro _ w9 ⟨rfl, hres⟩
    have HRES := Lib.hid hres
    clear hres HND
    go_wp2
    go_ret
    exact HRES.out
  have HOK : Hid (NOk rs 0 q ms (itemS (rs.drop q.at_)) x q1 ms1) := Lib.hid (by
    cases hb : q1.bad with
    | true => exact item_none HN1.out hb
    | false =>
      cases ha : atomS (rs.drop q.at_) with
      | none => rw [HN1.out.no ha] at hb; cases hb
      | some y =>
        obtain ⟨p1, k1, r1⟩ := y
        have hr1 := (HN1.out.yes p1 k1 r1 ha).2.2.2.2.1
        have n1 := pkz_no (rs := rs) (q := q1) (c := 43) hb (by omega)
        have n2 := pkz_no (rs := rs) (q := q1) (c := 63) hb (by omega)
        have n3 := pkz_no (rs := rs) (q := q1) (c := 123) hb (by omega)
        have n4 := pkz_no (rs := rs) (q := q1) (c := 42) hb (by omega)
        rw [hr1] at n1 n2 n3 n4
        exact item_plain HN1.out ha (by unfold repS; rw [if_neg (by rw [n1]; simp), if_neg (by rw [n2]; simp), if_neg (by rw [n3]; simp), if_neg (by rw [n4]; simp)]))
  clear HN1 HR1 HM1
  have HIS := is_no HT.out.rp (by first | omega | (simp only; omega)) 43 (by first | omega | (simp only; omega))
  go_wp2_with fail
  refine HIS.mono ?_
  rintro _ w2 ⟨rfl, hb⟩
  have HT1 := Lib.hid (HT.out.below hb)
  clear hb HIS HT
  have HIS := is_no HT1.out.rp (by first | omega | (simp only; omega)) 63 (by first | omega | (simp only; omega))
  go_wp2_with fail
  refine HIS.mono ?_
  rintro _ w3 ⟨rfl, hb⟩
  have HT2 := Lib.hid (HT1.out.below hb)
  clear hb HIS HT1
  have HIS := is_no HT2.out.rp (by first | omega | (simp only; omega)) 123 (by first | omega | (simp only; omega))
  go_wp2_with fail
  refine HIS.mono ?_
  rintro _ w4 ⟨rfl, hb⟩
  have HT3 := Lib.hid (HT2.out.below hb)
  clear hb HIS HT2
  have HIS := is_no HT3.out.rp (by first | omega | (simp only; omega)) 42 (by first | omega | (simp only; omega))
  go_wp2_with fail
  refine HIS.mono ?_
  rintro _ w5 ⟨rfl, hb⟩
  have HT4 := Lib.hid (HT3.out.below hb)
  clear hb HIS HT3
  have HRES := Lib.hid (show NPost w K o p S rs 0 q ms (itemS (rs.drop q.at_)) (.returned (.int .i64 (x : Int))) w5 from ⟨x, _, q1, ms1, v1, rfl, HT4.out.rp, HT4.out.mo, HOK.out⟩)
  go_wp2
  go_ret
  exact HRES.out
end Go.Proofs.Ytdmbgjpidlllcaa.RxItem
