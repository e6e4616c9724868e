/- The contract of the document's atom, by those of its alt at shorter texts and of its class. Conditions: the parser lies in memory and may go on, a rune is left. · The numbers of a parsed tree are small. Of no program. No conditions. · The three texts that every statement of layer 18 parses first. Of no program. No conditions. -/
import Derived.Test.YtdmbgjpidlllcaaRxItem
namespace Go.Proofs.Ytdmbgjpidlllcaa.RxAtom
open Go Go.RowKit Words AppN Km Mo_ RxSpec RxEq RxMem RxPeek RxIn RxEsc RxMbr RxClean RxNode RxPost RxRowP RxRow RxAlt RxItemP RxItem

def ClassC (S : Sl) (rs : List Nat) : Prop := ∀ (w : World) (K : Nat → Nat) (o p : Nat) (q : PSt) (ms : List NM) (v : Value), RP w K o p S rs q ms v → Pre rs q ms →
  Calls Try.prog 49 #[.pointer (some ⟨p, 0, none⟩)] w (NPost w K o p S rs 0 q ms ((cls (rs.drop q.at_)).map fun x => (x.1, 0, x.2)))
theorem atomS_cons (r : Nat) (t : List Nat) : atomS (r :: t) = if r = 40 then
      match altS t with
      | none => none
      | some (p, k, r1) => if hd r1 41 then some (p, k + 1, r1.tail) else none
    else if r = 91 then (cls t).map fun x => (x.1, 0, x.2)
    else if r = 46 then some (.set [0, 9, 11, 1114111], 0, t)
    else if r = 94 then some (.bol, 0, t)
    else if r = 36 then some (.eol, 0, t)
    else if r = 92 then (esc t).map fun x => (.set x.1, 0, x.2)
    else if inn r bars then none
    else some (.set [r, r], 0, t) := by rw [atomS]; rfl
section
variable {rs : List Nat} {q q2 : PSt} {ms ms2 : List NM} {ans : Res} {p : Pat} {nd : Nd} {r1 : List Nat}
theorem leaf_ok (h : Pre rs q ms) (hlt : q.at_ < rs.length) (ha : ans = some (p, 0, r1)) (he : emit p ms.length = [nd]) (hn : nds ms2 = nds ms ++ [nd]) (hb : q2.bad = false) (hd : q2.deep = q.deep) (hm : q2.most = q.most) (hh : q2.at_ ≤ rs.length) (hr : rs.drop q2.at_ = r1) (hl : q.at_ < q2.at_) : NOk rs 0 q ms ans ms.length q2 ms2 := by
  have hlen := nodes_len hn
  simp only [List.length_cons, List.length_nil] at hlen
  refine ⟨by omega, hd, by omega, fun p' k' r' hx => ?_, fun hx => by rw [ha] at hx; cases hx⟩
  rw [ha] at hx
  injection hx with hx
  injection hx with e1 e2
  injection e2 with e2 e3
  subst e1 e2 e3
  exact ⟨by omega, by rw [hn, he], hb, hh, hr, by rw [hm]; have := h.top; omega, by omega⟩
theorem leaf_bad (hlt : q.at_ < rs.length) (ha : ans = none) (hn : nds ms2 = nds ms ++ [nd]) (hb : q2.bad = true) (hd : q2.deep = q.deep) (hh : q2.at_ ≤ rs.length + 3) : NOk rs 0 q ms ans ms.length q2 ms2 := by
  have hlen := nodes_len hn
  simp only [List.length_cons, List.length_nil] at hlen
  exact ⟨hh, hd, by omega, (fun p' k' r' hx => by rw [ha] at hx; cases hx), fun _ => hb⟩
end
/-- The end of a leaf: a node behind the parser's. -/
theorem leaf_end {w0 w : World} {K0 K : Nat → Nat} {o p : Nat} {S : Sl} {rs : List Nat} {q q2 : PSt} {ms : List NM} {v : Value} {ans : Res} {A : Option Addr} {c : Nat} {zs : List Int} {kind : Nat} (hr : RP w K o p S rs q2 ms v) (hm : Mo K0 K (fun y => y = o) w0 w) (hs : Sd w K o (A, zs.length, c) (zs.map I32)) (hl : ms.length < 100000)
    (hok : ∀ ms2, nds ms2 = nds ms ++ [⟨kind, [], 0, 0, zs⟩] → NOk rs 0 q ms ans ms.length q2 ms2) :
    Calls Try.prog 31 #[.pointer (some ⟨p, 0, none⟩), .agg #[.int .i64 (kind : Int), .slice none 0 0, .int .i64 0, .int .i64 0, .slice A zs.length c]] w fun e w' => e = .returned (.int .i64 (ms.length : Int)) ∧ NPost w0 K0 o p S rs 0 q ms ans (.returned (.int .i64 (ms.length : Int))) w' :=
  (node_any (m := ⟨⟨kind, [], 0, 0, zs⟩, (none, 0, 0), (A, zs.length, c)⟩) hr ⟨Sd.nil_ _ _ _, hs⟩ hl).mono fun e w' ⟨he, v9, K9, hr9, hm9⟩ => ⟨he, ms.length, K9, q2, _, v9, rfl, hr9, hm.trans hm9, hok _ (by rw [nds_snoc])⟩
def barsB : List UInt8 := [41, 93, 123, 125, 42, 43, 63, 124]
set_option maxHeartbeats 25600000 in
set_option maxRecDepth 100000 in
theorem atom_of {S : Sl} {rs : List Nat} {N : Nat} (HAL : AltC' S rs N) (HCL : ClassC S rs) : AtomC S rs (N + 1) := by
  intro w K o p q ms v hr hp hN hlt
  have hlen := hp.len
  have hfew := hp.few
  have hdeep := hp.deep
  have HP := Lib.hid hp
  have HR := Lib.hid hr
  have HC := peek_any hr (by omega)
  obtain ⟨r, t, hd0⟩ : ∃ r t, rs.drop q.at_ = r :: t := ⟨_, _, List.drop_eq_getElem_cons hlt⟩
  obtain ⟨hpk, hdr, hle⟩ := pkz_cons hp.good hd0
  rw [hpk] at HC
  obtain ⟨ans, ha⟩ : ∃ ans, atomS (rs.drop q.at_) = ans := ⟨_, rfl⟩
  rw [ha]
  rw [hd0, atomS_cons] at ha
  have HDR := Lib.hid hdr
  have HQ : Hid (({ q with at_ := q.at_ + 1 } : PSt) = { q with at_ := q.at_ + 1, bad := false }) := Lib.hid (by rw [← hp.good])
  have HP1 : Hid (Pre rs { q with at_ := q.at_ + 1, bad := false } ms) := Lib.hid ⟨rfl, hle, hp.len, by simp only; omega, by simp only; omega, hp.runes, hp.top⟩
  clear hr hd0 hpk hdr hp
  by_cases e40 : r = 40
  · subst e40
    rw [if_pos rfl] at ha
    have HAN := Lib.hid ha
    clear ha
    go_enter Try.func39, Try.ntmps39
    go_wp2_with fail
    refine HC.mono ?_
    rintro _ w1 ⟨rfl, hbl⟩
    have H1 := Lib.hid (HR.out.below hbl)
    obtain ⟨c0, c1, c2, c3, c4, c5⟩ := H1.out.cells
    have f1 := H1.out.frozen 1
    have H2 := pokeAt H1.out
    rw [HQ.out] at H2
    have H2 := Lib.hid H2
    have HM2 : Hid (Mo K K (fun x => x = o) w (w1.setCell ⟨p, 1, none⟩ (.int .i64 ((q.at_ : Int) + 1)))) := Lib.hid ((Mo.same hbl).trans (H1.out.pokeMo 1 _))
    clear HC hbl HR
    clear H1
    obtain ⟨d0, d1, d2, d3, d4, d5⟩ := H2.out.cells
    have f3 := H2.out.frozen 3
    have H3 := Lib.hid (H2.out.poke 3 (.int .i64 ((q.deep : Int) + 1)) { q with at_ := q.at_ + 1, bad := false, deep := q.deep + 1 } (by unfold pcells; simp))
    have HM3 := Lib.hid (HM2.out.trans (H2.out.pokeMo 3 (.int .i64 ((q.deep : Int) + 1))))
    obtain ⟨g0, g1, g2, g3, g4, g5⟩ := H3.out.cells
    have f4 := H3.out.frozen 4
    simp only at g0 g1 g2 g3 g4 g5
    clear H2
    by_cases hmx : q.most < q.deep + 1
    · have dm : decide ((q.most : Int) < (q.deep : Int) + 1) = true := decide_eq_true (by omega)
      have dmn : decide (q.most < q.deep + 1) = true := decide_eq_true hmx
      have HPA : Hid (Pre rs { q with at_ := q.at_ + 1, bad := false, deep := q.deep + 1, most := q.deep + 1 } ms) := Lib.hid ⟨rfl, hle, hlen, by simp only; omega, by simp only; omega, HP.out.runes, by simp only; omega⟩
      have HAC : ∀ nq, Hid (Calls Try.prog 21 #[.pointer (some ⟨p, 0, none⟩)] ((((w1.setCell ⟨p, 1, none⟩ (.int .i64 ((q.at_ : Int) + 1))).setCell ⟨p, 3, none⟩ (.int .i64 ((q.deep : Int) + 1))).drewN nq).setCell ⟨p, 4, none⟩ (.int .i64 ((q.deep : Int) + 1))) (NPost w K o p S rs 2 { q with at_ := q.at_ + 1, bad := false, deep := q.deep + 1, most := q.deep + 1 } ms (altS t))) := fun nq => Lib.hid (by
        have hrp : RP ((((w1.setCell ⟨p, 1, none⟩ (.int .i64 ((q.at_ : Int) + 1))).setCell ⟨p, 3, none⟩ (.int .i64 ((q.deep : Int) + 1))).drewN nq).setCell ⟨p, 4, none⟩ (.int .i64 ((q.deep : Int) + 1))) K o p S rs { q with at_ := q.at_ + 1, bad := false, deep := q.deep + 1, most := q.deep + 1 } ms v := (H3.out.below (below_drewN (Below.refl _ _) nq)).poke 4 _ _ (by unfold pcells; simp)
        have hmo : Mo K K (fun x => x = o) w ((((w1.setCell ⟨p, 1, none⟩ (.int .i64 ((q.at_ : Int) + 1))).setCell ⟨p, 3, none⟩ (.int .i64 ((q.deep : Int) + 1))).drewN nq).setCell ⟨p, 4, none⟩ (.int .i64 ((q.deep : Int) + 1))) := (HM3.out.trans (Mo.same (below_drewN (Below.refl _ _) nq))).trans ((H3.out.below (below_drewN (Below.refl _ _) nq)).pokeMo 4 _)
        have h := HAL _ K o p { q with at_ := q.at_ + 1, bad := false, deep := q.deep + 1, most := q.deep + 1 } ms v hrp HPA.out (by simp only; omega)
        simp only [HDR.out] at h
        exact h.mono fun e w' ⟨x, K5, q5, ms5, v5, he, hr5, hm5, hn5⟩ => ⟨x, K5, q5, ms5, v5, he, hr5, hmo.trans hm5, hn5⟩)
      go_wp2
      go_quiet (fail)
      go_wp2_with fail
      refine (HAC _).out.mono ?_
      rintro _ w5 ⟨x, K5, q5, ms5, v5, rfl, hr5, hm5, hn5⟩
      have hat5 := hn5.here
      have hdp5 := hn5.deep
      have hfw5 := hn5.few
      simp only at hdp5 hfw5
      have H5 := Lib.hid hr5
      have HM5 := Lib.hid hm5
      have HN5 := Lib.hid hn5
      clear hr5 hm5 hn5 HAC H3 HM3
      obtain ⟨z, hz⟩ : ∃ z, pkz rs q5 = z := ⟨_, rfl⟩
      by_cases e41 : z = 41
      · obtain ⟨hg5, hh5⟩ := pkz_hd (rs := rs) (q := q5) (c := 41) (by omega)
        have HAS : Hid (∃ p1 k1 r1, altS t = some (p1, k1, r1) ∧ rs.drop q5.at_ = r1) := Lib.hid (by
          cases ha : altS t with
          | none => have := HN5.out.no ha; rw [this] at hg5; cases hg5
          | some y => obtain ⟨p1, k1, r1⟩ := y; exact ⟨p1, k1, r1, rfl, (HN5.out.yes p1 k1 r1 ha).2.2.2.2.1⟩)
        obtain ⟨p1, k1, r1, ha, hr1⟩ := HAS.out
        rw [hr1] at hh5
        have ht := hd_tail hh5
        rw [← hr1, List.length_tail, List.length_drop] at ht
        have HOK : Hid (NOk rs 0 q ms ans x { q5 with at_ := q5.at_ + 1, deep := q.deep } ms5) := Lib.hid (by
          obtain ⟨y1, y2, y3, y4, y5, y6, y7⟩ := HN5.out.yes p1 k1 r1 ha
          have hans : ans = some (p1, k1 + 1, r1.tail) := by rw [← HAN.out, ha]; simp only; rw [if_pos hh5]
          simp only at y6 y7
          refine ⟨by simp only; omega, rfl, by omega, fun p' k' r' hx => ?_, fun hx => by rw [hans] at hx; cases hx⟩
          rw [hans] at hx
          injection hx with hx
          injection hx with x1 x2
          injection x2 with x2 x3
          subst x1 x2 x3
          exact ⟨y1, y2, y3, by simp only; omega, by simp only; rw [← hr1, drop_tail], by simp only; rw [y6]; omega, by simp only; omega⟩)
        have HIS := is_yes H5.out (by omega) 41 (by omega)
        clear ha hr1 hh5 ht HAS HN5 HAN
        go_wp2_with fail
        refine HIS.mono ?_
        rintro _ w6 ⟨rfl, hr6, hm6⟩
        have H6 := Lib.hid hr6
        have HM6 := Lib.hid (HM5.out.trans hm6)
        clear hr6 hm6 HIS H5
        obtain ⟨j0, j1, j2, j3, j4, j5⟩ := H6.out.cells
        have fj := H6.out.frozen 3
        rw [hdp5] at j3
        have H7 := Lib.hid (H6.out.poke 3 (.int .i64 (q.deep : Int)) { q5 with at_ := q5.at_ + 1, deep := q.deep } (by unfold pcells; simp))
        have HRES := Lib.hid (show NPost w K o p S rs 0 q ms ans (.returned (.int .i64 (x : Int))) (w6.setCell ⟨p, 3, none⟩ (.int .i64 (q.deep : Int))) from ⟨x, K5, _, ms5, v5, rfl, H7.out, HM6.out.trans (H6.out.pokeMo 3 _), HOK.out⟩)
        clear H6 H7 HM6
        go_wp2
        go_ret
        exact HRES.out
      · have HOK : Hid (NOk rs 0 q ms ans x { q5 with bad := true, deep := q.deep } ms5) := Lib.hid (by
          have hans : ans = none := by
            rw [← HAN.out]
            cases ha : altS t with
            | none => rfl
            | some y =>
              obtain ⟨p1, k1, r1⟩ := y
              obtain ⟨y1, y2, y3, y4, y5, y6, y7⟩ := HN5.out.yes p1 k1 r1 ha
              have hno := pkz_no (rs := rs) (q := q5) (c := 41) y3 (by omega)
              rw [y5] at hno
              simp only
              rw [if_neg (by rw [hno]; simp)]
          exact ⟨by simp only; omega, rfl, by omega, (fun p' k' r' hx => by rw [hans] at hx; cases hx), fun _ => rfl⟩)
        have HIS := is_no H5.out (by omega) 41 (by omega)
        clear HN5 HAN
        go_wp2_with fail
        refine HIS.mono ?_
        rintro _ w6 ⟨rfl, hb6⟩
        have H6 := Lib.hid (H5.out.below hb6)
        have HM6 := Lib.hid (HM5.out.trans (Mo.same hb6))
        clear hb6 HIS H5
        obtain ⟨j0, j1, j2, j3, j4, j5⟩ := H6.out.cells
        have fj := H6.out.frozen 5
        have H7 := Lib.hid (H6.out.poke 5 (.bool true) { q5 with bad := true } (by unfold pcells; simp))
        have HM7 := Lib.hid (HM6.out.trans (H6.out.pokeMo 5 (.bool true)))
        obtain ⟨i0, i1, i2, i3, i4, i5⟩ := H7.out.cells
        have fi := H7.out.frozen 3
        simp only at i3
        rw [hdp5] at i3
        have H8 := Lib.hid (H7.out.poke 3 (.int .i64 (q.deep : Int)) { q5 with bad := true, deep := q.deep } (by unfold pcells; simp))
        have HRES := Lib.hid (show NPost w K o p S rs 0 q ms ans (.returned (.int .i64 (x : Int))) ((w6.setCell ⟨p, 5, none⟩ (.bool true)).setCell ⟨p, 3, none⟩ (.int .i64 (q.deep : Int))) from ⟨x, K5, _, ms5, v5, rfl, H8.out, HM7.out.trans (H7.out.pokeMo 3 _), HOK.out⟩)
        clear H6 H7 H8 HM6 HM7
        go_wp2
        go_ret
        exact HRES.out
    · have dm : decide ((q.most : Int) < (q.deep : Int) + 1) = false := decide_eq_false (by omega)
      have dmn : decide (q.most < q.deep + 1) = false := decide_eq_false hmx
      have HPA : Hid (Pre rs { q with at_ := q.at_ + 1, bad := false, deep := q.deep + 1, most := q.most } ms) := Lib.hid ⟨rfl, hle, hlen, by simp only; omega, by simp only; omega, HP.out.runes, by simp only; omega⟩
      have HAC : ∀ nq, Hid (Calls Try.prog 21 #[.pointer (some ⟨p, 0, none⟩)] (((w1.setCell ⟨p, 1, none⟩ (.int .i64 ((q.at_ : Int) + 1))).setCell ⟨p, 3, none⟩ (.int .i64 ((q.deep : Int) + 1))).drewN nq) (NPost w K o p S rs 2 { q with at_ := q.at_ + 1, bad := false, deep := q.deep + 1, most := q.most } ms (altS t))) := fun nq => Lib.hid (by
        have hrp : RP (((w1.setCell ⟨p, 1, none⟩ (.int .i64 ((q.at_ : Int) + 1))).setCell ⟨p, 3, none⟩ (.int .i64 ((q.deep : Int) + 1))).drewN nq) K o p S rs { q with at_ := q.at_ + 1, bad := false, deep := q.deep + 1, most := q.most } ms v := H3.out.below (below_drewN (Below.refl _ _) nq)
        have hmo : Mo K K (fun x => x = o) w (((w1.setCell ⟨p, 1, none⟩ (.int .i64 ((q.at_ : Int) + 1))).setCell ⟨p, 3, none⟩ (.int .i64 ((q.deep : Int) + 1))).drewN nq) := HM3.out.trans (Mo.same (below_drewN (Below.refl _ _) nq))
        have h := HAL _ K o p { q with at_ := q.at_ + 1, bad := false, deep := q.deep + 1, most := q.most } ms v hrp HPA.out (by simp only; omega)
        simp only [HDR.out] at h
        exact h.mono fun e w' ⟨x, K5, q5, ms5, v5, he, hr5, hm5, hn5⟩ => ⟨x, K5, q5, ms5, v5, he, hr5, hmo.trans hm5, hn5⟩)
      go_wp2
      go_quiet (fail)
      go_wp2_with fail
      refine (HAC _).out.mono ?_
      rintro _ w5 ⟨x, K5, q5, ms5, v5, rfl, hr5, hm5, hn5⟩
      have hat5 := hn5.here
      have hdp5 := hn5.deep
      have hfw5 := hn5.few
      simp only at hdp5 hfw5
      have H5 := Lib.hid hr5
      have HM5 := Lib.hid hm5
      have HN5 := Lib.hid hn5
      clear hr5 hm5 hn5 HAC H3 HM3
      obtain ⟨z, hz⟩ : ∃ z, pkz rs q5 = z := ⟨_, rfl⟩
      by_cases e41 : z = 41
      · obtain ⟨hg5, hh5⟩ := pkz_hd (rs := rs) (q := q5) (c := 41) (by omega)
        have HAS : Hid (∃ p1 k1 r1, altS t = some (p1, k1, r1) ∧ rs.drop q5.at_ = r1) := Lib.hid (by
          cases ha : altS t with
          | none => have := HN5.out.no ha; rw [this] at hg5; cases hg5
          | some y => obtain ⟨p1, k1, r1⟩ := y; exact ⟨p1, k1, r1, rfl, (HN5.out.yes p1 k1 r1 ha).2.2.2.2.1⟩)
        obtain ⟨p1, k1, r1, ha, hr1⟩ := HAS.out
        rw [hr1] at hh5
        have ht := hd_tail hh5
        rw [← hr1, List.length_tail, List.length_drop] at ht
        have HOK : Hid (NOk rs 0 q ms ans x { q5 with at_ := q5.at_ + 1, deep := q.deep } ms5) := Lib.hid (by
          obtain ⟨y1, y2, y3, y4, y5, y6, y7⟩ := HN5.out.yes p1 k1 r1 ha
          have hans : ans = some (p1, k1 + 1, r1.tail) := by rw [← HAN.out, ha]; simp only; rw [if_pos hh5]
          simp only at y6 y7
          refine ⟨by simp only; omega, rfl, by omega, fun p' k' r' hx => ?_, fun hx => by rw [hans] at hx; cases hx⟩
          rw [hans] at hx
          injection hx with hx
          injection hx with x1 x2
          injection x2 with x2 x3
          subst x1 x2 x3
          exact ⟨y1, y2, y3, by simp only; omega, by simp only; rw [← hr1, drop_tail], by simp only; rw [y6]; omega, by simp only; omega⟩)
        have HIS := is_yes H5.out (by omega) 41 (by omega)
        clear ha hr1 hh5 ht HAS HN5 HAN
        go_wp2_with fail
        refine HIS.mono ?_
        rintro _ w6 ⟨rfl, hr6, hm6⟩
        have H6 := Lib.hid hr6
        have HM6 := Lib.hid (HM5.out.trans hm6)
        clear hr6 hm6 HIS H5
        obtain ⟨j0, j1, j2, j3, j4, j5⟩ := H6.out.cells
        have fj := H6.out.frozen 3
        rw [hdp5] at j3
        have H7 := Lib.hid (H6.out.poke 3 (.int .i64 (q.deep : Int)) { q5 with at_ := q5.at_ + 1, deep := q.deep } (by unfold pcells; simp))
        have HRES := Lib.hid (show NPost w K o p S rs 0 q ms ans (.returned (.int .i64 (x : Int))) (w6.setCell ⟨p, 3, none⟩ (.int .i64 (q.deep : Int))) from ⟨x, K5, _, ms5, v5, rfl, H7.out, HM6.out.trans (H6.out.pokeMo 3 _), HOK.out⟩)
        clear H6 H7 HM6
        go_wp2
        go_ret
        exact HRES.out
      · have HOK : Hid (NOk rs 0 q ms ans x { q5 with bad := true, deep := q.deep } ms5) := Lib.hid (by
          have hans : ans = none := by
            rw [← HAN.out]
            cases ha : altS t with
            | none => rfl
            | some y =>
              obtain ⟨p1, k1, r1⟩ := y
              obtain ⟨y1, y2, y3, y4, y5, y6, y7⟩ := HN5.out.yes p1 k1 r1 ha
              have hno := pkz_no (rs := rs) (q := q5) (c := 41) y3 (by omega)
              rw [y5] at hno
              simp only
              rw [if_neg (by rw [hno]; simp)]
          exact ⟨by simp only; omega, rfl, by omega, (fun p' k' r' hx => by rw [hans] at hx; cases hx), fun _ => rfl⟩)
        have HIS := is_no H5.out (by omega) 41 (by omega)
        clear HN5 HAN
        go_wp2_with fail
        refine HIS.mono ?_
        rintro _ w6 ⟨rfl, hb6⟩
        have H6 := Lib.hid (H5.out.below hb6)
        have HM6 := Lib.hid (HM5.out.trans (Mo.same hb6))
        clear hb6 HIS H5
        obtain ⟨j0, j1, j2, j3, j4, j5⟩ := H6.out.cells
        have fj := H6.out.frozen 5
        have H7 := Lib.hid (H6.out.poke 5 (.bool true) { q5 with bad := true } (by unfold pcells; simp))
        have HM7 := Lib.hid (HM6.out.trans (H6.out.pokeMo 5 (.bool true)))
        obtain ⟨i0, i1, i2, i3, i4, i5⟩ := H7.out.cells
        have fi := H7.out.frozen 3
        simp only at i3
        rw [hdp5] at i3
        have H8 := Lib.hid (H7.out.poke 3 (.int .i64 (q.deep : Int)) { q5 with bad := true, deep := q.deep } (by unfold pcells; simp))
        have HRES := Lib.hid (show NPost w K o p S rs 0 q ms ans (.returned (.int .i64 (x : Int))) ((w6.setCell ⟨p, 5, none⟩ (.bool true)).setCell ⟨p, 3, none⟩ (.int .i64 (q.deep : Int))) from ⟨x, K5, _, ms5, v5, rfl, H8.out, HM7.out.trans (H7.out.pokeMo 3 _), HOK.out⟩)
        clear H6 H7 H8 HM6 HM7
        go_wp2
        go_ret
        exact HRES.out
  rw [if_neg e40] at ha
  have d40 : ((r : Int) == 40) = false := by simp; omega
  by_cases e91 : r = 91
  · subst e91
    rw [if_pos rfl] at ha
    have HAN := Lib.hid ha
    clear ha
    go_enter Try.func39, Try.ntmps39
    go_wp2_with fail
    refine HC.mono ?_
    rintro _ w1 ⟨rfl, hbl⟩
    have H1 := Lib.hid (HR.out.below hbl)
    obtain ⟨c0, c1, c2, c3, c4, c5⟩ := H1.out.cells
    have f1 := H1.out.frozen 1
    have H2 := pokeAt H1.out
    rw [HQ.out] at H2
    have H2 := Lib.hid H2
    have HM2 : Hid (Mo K K (fun x => x = o) w (w1.setCell ⟨p, 1, none⟩ (.int .i64 ((q.at_ : Int) + 1)))) := Lib.hid ((Mo.same hbl).trans (H1.out.pokeMo 1 _))
    clear HC hbl HR
    have HCC := HCL _ K o p { q with at_ := q.at_ + 1, bad := false } ms v H2.out HP1.out
    simp only [HDR.out, HAN.out] at HCC
    clear H1 H2
    go_wp2_with fail
    refine HCC.mono ?_
    rintro _ w5 ⟨x, K5, q5, ms5, v5, rfl, hr5, hm5, hn5⟩
    have HRES := Lib.hid (show NPost w K o p S rs 0 q ms ans (.returned (.int .i64 (x : Int))) w5 from ⟨x, K5, q5, ms5, v5, rfl, hr5, HM2.out.trans hm5, ⟨hn5.here, hn5.deep, by have := hn5.few; simp only at this; omega, fun p' k' r' hx => by
      obtain ⟨y1, y2, y3, y4, y5, y6, y7⟩ := hn5.yes p' k' r' hx
      simp only at y7
      exact ⟨y1, y2, y3, y4, y5, y6, by omega⟩, hn5.no⟩⟩)
    clear hr5 hm5 hn5 HCC
    go_wp2
    go_ret
    exact HRES.out
  rw [if_neg e91] at ha
  have d91 : ((r : Int) == 91) = false := by simp; omega
  by_cases e46 : r = 46
  · subst e46
    rw [if_pos rfl] at ha
    have HAN := Lib.hid ha.symm
    clear ha
    go_enter Try.func39, Try.ntmps39
    go_wp2_with fail
    refine HC.mono ?_
    rintro _ w1 ⟨rfl, hbl⟩
    have H1 := Lib.hid (HR.out.below hbl)
    obtain ⟨c0, c1, c2, c3, c4, c5⟩ := H1.out.cells
    have f1 := H1.out.frozen 1
    have H2 := pokeAt H1.out
    rw [HQ.out] at H2
    have H2 := Lib.hid H2
    have HM2 : Hid (Mo K K (fun x => x = o) w (w1.setCell ⟨p, 1, none⟩ (.int .i64 ((q.at_ : Int) + 1)))) := Lib.hid ((Mo.same hbl).trans (H1.out.pokeMo 1 _))
    clear HC hbl HR
    have HSD := made_sd (w1.setCell ⟨p, 1, none⟩ (.int .i64 ((q.at_ : Int) + 1))) K o [0, 9, 11, 1114111] (by simp)
    have HND := leaf_end (q := q) (ans := ans) (kind := 2) (H2.out.mo (new_mo _ K _ (o + 2))) (HM2.out.trans ((new_mo _ K _ (o + 2)).widen fun _ h => h.elim)) HSD (by omega) (fun ms2 h2 =>
      leaf_ok HP.out hlt HAN.out (by simp [emit]) h2 rfl rfl rfl (by simp only; omega) (by simp only; exact HDR.out) (by simp only; omega))
    simp only [World.size_setCell] at HND
    clear H1 H2 HSD
    go_wp2_with fail
    refine HND.mono ?_
    rintro _ w9 ⟨rfl, hres⟩
    have HRES := Lib.hid hres
    clear hres HND
    go_wp2
    go_ret
    exact HRES.out
  rw [if_neg e46] at ha
  have d46 : ((r : Int) == 46) = false := by simp; omega
  by_cases e94 : r = 94
  · subst e94
    rw [if_pos rfl] at ha
    have HAN := Lib.hid ha.symm
    clear ha
    go_enter Try.func39, Try.ntmps39
    go_wp2_with fail
    refine HC.mono ?_
    rintro _ w1 ⟨rfl, hbl⟩
    have H1 := Lib.hid (HR.out.below hbl)
    obtain ⟨c0, c1, c2, c3, c4, c5⟩ := H1.out.cells
    have f1 := H1.out.frozen 1
    have H2 := pokeAt H1.out
    rw [HQ.out] at H2
    have H2 := Lib.hid H2
    have HM2 : Hid (Mo K K (fun x => x = o) w (w1.setCell ⟨p, 1, none⟩ (.int .i64 ((q.at_ : Int) + 1)))) := Lib.hid ((Mo.same hbl).trans (H1.out.pokeMo 1 _))
    clear HC hbl HR
    have HND := leaf_end (q := q) (ans := ans) (kind := 6) (zs := []) (c := 0) H2.out HM2.out (Sd.nil_ _ _ _) (by omega) (fun ms2 h2 =>
      leaf_ok HP.out hlt HAN.out (by simp [emit]) h2 rfl rfl rfl (by simp only; omega) (by simp only; exact HDR.out) (by simp only; omega))
    clear H1 H2
    go_wp2_with fail
    refine HND.mono ?_
    rintro _ w9 ⟨rfl, hres⟩
    have HRES := Lib.hid hres
    clear hres HND
    go_wp2
    go_ret
    exact HRES.out
  rw [if_neg e94] at ha
  have d94 : ((r : Int) == 94) = false := by simp; omega
  by_cases e36 : r = 36
  · subst e36
    rw [if_pos rfl] at ha
    have HAN := Lib.hid ha.symm
    clear ha
    go_enter Try.func39, Try.ntmps39
    go_wp2_with fail
    refine HC.mono ?_
    rintro _ w1 ⟨rfl, hbl⟩
    have H1 := Lib.hid (HR.out.below hbl)
    obtain ⟨c0, c1, c2, c3, c4, c5⟩ := H1.out.cells
    have f1 := H1.out.frozen 1
    have H2 := pokeAt H1.out
    rw [HQ.out] at H2
    have H2 := Lib.hid H2
    have HM2 : Hid (Mo K K (fun x => x = o) w (w1.setCell ⟨p, 1, none⟩ (.int .i64 ((q.at_ : Int) + 1)))) := Lib.hid ((Mo.same hbl).trans (H1.out.pokeMo 1 _))
    clear HC hbl HR
    have HND := leaf_end (q := q) (ans := ans) (kind := 7) (zs := []) (c := 0) H2.out HM2.out (Sd.nil_ _ _ _) (by omega) (fun ms2 h2 =>
      leaf_ok HP.out hlt HAN.out (by simp [emit]) h2 rfl rfl rfl (by simp only; omega) (by simp only; exact HDR.out) (by simp only; omega))
    clear H1 H2
    go_wp2_with fail
    refine HND.mono ?_
    rintro _ w9 ⟨rfl, hres⟩
    have HRES := Lib.hid hres
    clear hres HND
    go_wp2
    go_ret
    exact HRES.out
  rw [if_neg e36] at ha
  have d36 : ((r : Int) == 36) = false := by simp; omega
  by_cases e92 : r = 92
  · subst e92
    rw [if_pos rfl] at ha
    have HAN := Lib.hid ha
    clear ha
    go_enter Try.func39, Try.ntmps39
    go_wp2_with fail
    refine HC.mono ?_
    rintro _ w1 ⟨rfl, hbl⟩
    have H1 := Lib.hid (HR.out.below hbl)
    obtain ⟨c0, c1, c2, c3, c4, c5⟩ := H1.out.cells
    have f1 := H1.out.frozen 1
    have H2 := pokeAt H1.out
    rw [HQ.out] at H2
    have H2 := Lib.hid H2
    have HM2 : Hid (Mo K K (fun x => x = o) w (w1.setCell ⟨p, 1, none⟩ (.int .i64 ((q.at_ : Int) + 1)))) := Lib.hid ((Mo.same hbl).trans (H1.out.pokeMo 1 _))
    clear HC hbl HR
    have HES := escape_any H2.out rfl (by simp only; omega) hlen
    simp only [HDR.out] at HES
    clear H1 H2
    go_wp2_with fail
    refine HES.mono ?_
    rintro _ w5 ⟨A5, c5', zs, K5, at5, b5, rfl, hs5, hr5, hm5, hat5, hz2, hz8, hyes, hno⟩
    have HND := leaf_end (q := q) (ans := ans) (kind := 2) hr5 (HM2.out.trans hm5) hs5 (by omega) (fun ms2 h2 => by
      cases he : esc t with
      | none => exact leaf_bad hlt (by rw [← HAN.out, he]; rfl) h2 (hno he) rfl (by simp only; omega)
      | some y =>
        obtain ⟨m, r1⟩ := y
        obtain ⟨y1, y2, y3, y4⟩ := hyes m r1 he
        have hsh := esc_short he
        rw [← y4, ← HDR.out, List.length_drop, List.length_drop] at hsh
        exact leaf_ok HP.out hlt (p := .set m) (r1 := r1) (by rw [← HAN.out, he]; rfl) (by simp only [emit]; rw [y1]) h2 y2 rfl rfl y3 y4 (by simp only; omega))
    clear hs5 hr5 hm5 hyes hno HES
    go_wp2_with fail
    refine HND.mono ?_
    rintro _ w9 ⟨rfl, hres⟩
    have HRES := Lib.hid hres
    clear hres HND
    go_wp2
    go_ret
    exact HRES.out
  rw [if_neg e92] at ha
  have d92 : ((r : Int) == 92) = false := by simp; omega
  have HI : ∀ wz, Calls Try.prog 51 #[.int .i32 (r : Int), .string ⟨barsB.toArray⟩] wz fun e w' => e = .returned (.bool (inn r bars)) ∧ Below wz.heap.size wz w' := fun wz => by
    have h := in_any wz (r : Int) barsB (by decide)
    rw [any_inn, show barsB.map UInt8.toNat = bars from rfl] at h
    exact h
  have hr0 : decide ((r : Int) < 0) = false := decide_eq_false (by omega)
  have HAN := Lib.hid ha
  clear ha e40 e91 e46 e94 e36 e92
  go_enter Try.func39, Try.ntmps39
  go_wp2_with fail
  refine HC.mono ?_
  rintro _ w1 ⟨rfl, hbl⟩
  have H1 := Lib.hid (HR.out.below hbl)
  obtain ⟨c0, c1, c2, c3, c4, c5⟩ := H1.out.cells
  have f1 := H1.out.frozen 1
  have H2 := pokeAt H1.out
  rw [HQ.out] at H2
  have H2 := Lib.hid H2
  have HM2 : Hid (Mo K K (fun x => x = o) w (w1.setCell ⟨p, 1, none⟩ (.int .i64 ((q.at_ : Int) + 1)))) := Lib.hid ((Mo.same hbl).trans (H1.out.pokeMo 1 _))
  clear HC hbl HR
  go_wp2_with fail
  refine (HI _).mono ?_
  rintro _ w4 ⟨rfl, hb4⟩
  have H4 := Lib.hid (H2.out.below hb4)
  have HM4 := Lib.hid (HM2.out.trans (Mo.same hb4))
  clear H1 H2 HI hb4
  cases hi : inn r bars with
  | false =>
    rw [hi] at HAN
    have HSD := made_sd w4 K o [(r : Int), (r : Int)] (by simp)
    have HND := leaf_end (q := q) (ans := ans) (kind := 2) (H4.out.mo (new_mo _ K _ (o + 2))) (HM4.out.trans ((new_mo _ K _ (o + 2)).widen fun _ h => h.elim)) HSD (by omega) (fun ms2 h2 =>
      leaf_ok HP.out hlt (p := .set [r, r]) HAN.out.symm (by simp [emit]) h2 rfl rfl rfl (by simp only; omega) (by simp only; exact HDR.out) (by simp only; omega))
    clear H4 HSD hi
    go_wp2_with fail
    refine HND.mono ?_
    rintro _ w9 ⟨rfl, hres⟩
    have HRES := Lib.hid hres
    clear hres HND
    go_wp2
    go_ret
    exact HRES.out
  | true =>
    rw [hi] at HAN
    obtain ⟨j0, j1, j2, j3, j4, j5⟩ := H4.out.cells
    have fj := H4.out.frozen 5
    have H5 := Lib.hid (H4.out.poke 5 (.bool true) { q with at_ := q.at_ + 1, bad := true } (by unfold pcells; simp))
    have HM5 := Lib.hid (HM4.out.trans (H4.out.pokeMo 5 (.bool true)))
    have HSD := made_sd (w4.setCell ⟨p, 5, none⟩ (.bool true)) K o [(r : Int), (r : Int)] (by simp)
    have HND := leaf_end (q := q) (ans := ans) (kind := 2) (H5.out.mo (new_mo _ K _ (o + 2))) (HM5.out.trans ((new_mo _ K _ (o + 2)).widen fun _ h => h.elim)) HSD (by omega) (fun ms2 h2 =>
      leaf_bad hlt HAN.out.symm h2 rfl rfl (by simp only; omega))
    simp only [World.size_setCell] at HND
    clear H4 H5 HSD hi
    go_wp2_with fail
    refine HND.mono ?_
    rintro _ w9 ⟨rfl, hres⟩
    have HRES := Lib.hid hres
    clear hres HND
    go_wp2
    go_ret
    exact HRES.out
end Go.Proofs.Ytdmbgjpidlllcaa.RxAtom

namespace Go.Proofs.Ytdmbgjpidlllcaa.RxSmall
open RxSpec RxEq RxAtom

def SmN (nd : Nd) : Prop := nd.lo ≤ 1000000 ∧ nd.hi ≤ 1000000
def Sm (p : Pat) : Prop := ∀ b, ∀ nd ∈ emit p b, SmN nd
def Sms (l : List Pat) : Prop := ∀ p ∈ l, Sm p
theorem emits_sm : ∀ {l : List Pat}, Sms l → ∀ b, ∀ nd ∈ emits l b, SmN nd
  | [], _, _, nd, h => by simp [emits] at h
  | p :: l, hl, b, nd, h => by
    rw [emits, List.mem_append] at h
    rcases h with h | h
    · exact hl p (List.mem_cons_self ..) b nd h
    · exact emits_sm (fun q hq => hl q (List.mem_cons_of_mem _ hq)) _ nd h
theorem sms_snoc {l : List Pat} {p : Pat} (hl : Sms l) (hp : Sm p) : Sms (l ++ [p]) := fun q hq => by
  rw [List.mem_append, List.mem_singleton] at hq
  rcases hq with h | rfl
  · exact hl q h
  · exact hp
theorem sm_leaf {p : Pat} {nd : Nd} (he : ∀ b, emit p b = [nd]) (hn : SmN nd) : Sm p := fun b nd' h => by
  rw [he, List.mem_singleton] at h
  rw [h]; exact hn
theorem zero_sm {k : Nat} {l : List Nat} {s : List Int} : SmN ⟨k, l, 0, 0, s⟩ := ⟨by simp, by simp⟩
theorem mkRow_sm {l : List Pat} (hl : Sms l) : Sm (mkRow l) := by
  unfold mkRow
  split
  · exact sm_leaf (fun b => by rw [emit]) zero_sm
  · exact hl _ (List.mem_cons_self ..)
  · intro b nd h
    rw [emit, List.mem_append, List.mem_singleton] at h
    rcases h with h | rfl
    · exact emits_sm hl _ nd h
    · exact zero_sm
theorem mkAlt_sm {l : List Pat} (hl : Sms l) : Sm (mkAlt l) := by
  unfold mkAlt
  split
  · exact hl _ (List.mem_cons_self ..)
  · intro b nd h
    rw [emit, List.mem_append, List.mem_singleton] at h
    rcases h with h | rfl
    · exact emits_sm hl _ nd h
    · exact zero_sm
theorem rep_sm {p : Pat} {lo : Nat} {hi : Int} (hp : Sm p) (h1 : lo ≤ 10) (h2 : hi ≤ 10) : Sm (.rep p lo hi) := by
  intro b nd h
  rw [emit, List.mem_append, List.mem_singleton] at h
  rcases h with h | rfl
  · exact hp _ nd h
  · exact ⟨by simp only; omega, by simp only; omega⟩
theorem digit_le {rs : List Nat} {n : Nat} {r1 : List Nat} (h : digit rs = some (n, r1)) : n ≤ 8 := by
  cases rs with
  | nil => cases h
  | cons r t =>
    rw [digit_cons] at h
    split at h
    · injection h with h
      injection h with h
      omega
    · cases h
theorem repS_sm {p q : Pat} {rs r1 : List Nat} (hp : Sm p) (h : repS p rs = some (q, r1)) : Sm q := by
  unfold repS at h
  split at h
  · injection h with h; injection h with h; subst h; exact rep_sm hp (by omega) (by omega)
  split at h
  · injection h with h; injection h with h; subst h; exact rep_sm hp (by omega) (by omega)
  split at h
  · cases hd1 : digit rs.tail with
    | none => rw [hd1] at h; cases h
    | some x =>
      obtain ⟨lo, r2⟩ := x
      rw [hd1] at h
      simp only at h
      have hlo := digit_le hd1
      cases hd2 : (if hd r2 44 = true then digit r2.tail else some (lo, r2)) with
      | none => rw [hd2] at h; cases h
      | some y =>
        obtain ⟨hi, r3⟩ := y
        rw [hd2] at h
        simp only at h
        have hhi : hi ≤ 8 := by
          split at hd2
          · exact digit_le hd2
          · injection hd2 with hd2; injection hd2 with hd2; omega
        split at h
        · injection h with h; injection h with h; subst h; exact rep_sm hp (by omega) (by omega)
        · cases h
  split at h
  · injection h with h; injection h with h; subst h; exact rep_sm hp (by omega) (by omega)
  · injection h with h; injection h with h; subst h; exact hp
def AtS (N : Nat) : Prop := ∀ rs p k r1, rs.length ≤ N → atomS rs = some (p, k, r1) → Sm p
def ItS (N : Nat) : Prop := ∀ rs p k r1, rs.length ≤ N → itemS rs = some (p, k, r1) → Sm p
def RoS (N : Nat) : Prop := ∀ ps k0 rs p k r1, Sms ps → rs.length ≤ N → rowL ps k0 rs = some (p, k, r1) → Sm p
def LiS (N : Nat) : Prop := ∀ ps k0 rs p k r1, Sms ps → rs.length ≤ N → altL ps k0 rs = some (p, k, r1) → Sm p
def AlS (N : Nat) : Prop := ∀ rs p k r1, rs.length ≤ N → altS rs = some (p, k, r1) → Sm p
theorem item_sm {N : Nat} (H : AtS N) : ItS N := by
  intro rs p k r1 hN h
  rw [itemS] at h
  cases ha : atomS rs with
  | none => rw [ha] at h; cases h
  | some x =>
    obtain ⟨p', k', r'⟩ := x
    rw [ha] at h
    simp only at h
    cases hr : repS p' r' with
    | none => rw [hr] at h; cases h
    | some y =>
      rw [hr] at h
      injection h with h
      injection h with h
      subst h
      exact repS_sm (H rs p' k' r' hN ha) hr
theorem row_sm {N : Nat} (H : ItS N) : ∀ M, M ≤ N → RoS M := by
  intro M
  induction M with
  | zero =>
    intro _ ps k0 rs p k r1 hps hl h
    rw [rowL_eq, if_pos (.inl (List.eq_nil_of_length_eq_zero (by omega)))] at h
    injection h with h; injection h with h; subst h
    exact mkRow_sm hps
  | succ M ih =>
    intro hM ps k0 rs p k r1 hps hl h
    rw [rowL_eq] at h
    split at h
    · injection h with h; injection h with h; subst h; exact mkRow_sm hps
    · cases hi : itemS rs with
      | none => rw [hi] at h; cases h
      | some x =>
        obtain ⟨p', k', r'⟩ := x
        rw [hi] at h
        have := item_short hi
        exact ih (by omega) _ _ _ _ _ _ (sms_snoc hps (H rs p' k' r' (by omega) hi)) (by omega) h
theorem list_sm {N : Nat} (H : RoS N) : ∀ M, M ≤ N → LiS M := by
  intro M
  induction M with
  | zero =>
    intro _ ps k0 rs p k r1 hps hl h
    obtain rfl : rs = [] := List.eq_nil_of_length_eq_zero (by omega)
    rw [altL_eq, hd_nil, if_neg (by simp)] at h
    injection h with h; injection h with h; subst h
    exact mkAlt_sm hps
  | succ M ih =>
    intro hM ps k0 rs p k r1 hps hl h
    rw [altL_eq] at h
    split at h
    · rename_i hb
      have := hd_tail hb
      cases hi : rowL [] 0 rs.tail with
      | none => rw [hi] at h; cases h
      | some x =>
        obtain ⟨p', k', r'⟩ := x
        rw [hi] at h
        have := row_short hi
        exact ih (by omega) _ _ _ _ _ _ (sms_snoc hps (H [] 0 rs.tail p' k' r' (fun _ h => by cases h) (by omega) hi)) (by omega) h
    · injection h with h; injection h with h; subst h; exact mkAlt_sm hps
theorem alt_sm {N : Nat} (H : RoS N) : AlS N := by
  intro rs p k r1 hN h
  rw [altS_eq] at h
  cases hi : rowL [] 0 rs with
  | none => rw [hi] at h; cases h
  | some x =>
    obtain ⟨p', k', r'⟩ := x
    rw [hi] at h
    have := row_short hi
    have hp := H [] 0 rs p' k' r' (fun _ h => by cases h) hN hi
    exact list_sm H N (Nat.le_refl _) _ _ _ _ _ _ (fun q hq => by rw [List.mem_singleton] at hq; rw [hq]; exact hp) (by omega) h
theorem set_sm (l : List Nat) : Sm (.set l) := sm_leaf (fun b => by rw [emit]) zero_sm
theorem atom_sm {N : Nat} (H : AlS N) : AtS (N + 1) := by
  intro rs p k r1 hN h
  cases rs with
  | nil => rw [atomS] at h; cases h
  | cons r t =>
    rw [atomS_cons] at h
    simp only [List.length_cons] at hN
    split at h
    · cases ha : altS t with
      | none => rw [ha] at h; cases h
      | some x =>
        obtain ⟨p', k', r'⟩ := x
        rw [ha] at h
        simp only at h
        split at h
        · injection h with h; injection h with h; subst h; exact H t p' k' r' (by omega) ha
        · cases h
    split at h
    · cases hc : cls t with
      | none => rw [hc] at h; cases h
      | some x =>
        rw [hc] at h
        injection h with h; injection h with h; subst h
        unfold cls at hc
        split at hc
        · cases hc
        · injection hc with hc; subst hc; exact set_sm _
    split at h
    · injection h with h; injection h with h; subst h; exact set_sm _
    split at h
    · injection h with h; injection h with h; subst h; exact sm_leaf (fun b => by rw [emit]) zero_sm
    split at h
    · injection h with h; injection h with h; subst h; exact sm_leaf (fun b => by rw [emit]) zero_sm
    split at h
    · cases hc : esc t with
      | none => rw [hc] at h; cases h
      | some x =>
        rw [hc] at h
        injection h with h; injection h with h; subst h
        exact set_sm _
    split at h
    · cases h
    · injection h with h; injection h with h; subst h; exact set_sm _
theorem at_zero : AtS 0 := by
  intro rs p k r1 hN h
  obtain rfl : rs = [] := List.eq_nil_of_length_eq_zero (by omega)
  rw [atomS] at h
  cases h
theorem al_all : ∀ N, AlS N
  | 0 => alt_sm (row_sm (item_sm at_zero) 0 (Nat.le_refl _))
  | N + 1 => alt_sm (row_sm (item_sm (atom_sm (al_all N))) (N + 1) (Nat.le_refl _))
theorem altS_sm {rs : List Nat} {p : Pat} {k : Nat} {r1 : List Nat} (h : altS rs = some (p, k, r1)) : Sm p := al_all _ rs p k r1 (Nat.le_refl _) h
end Go.Proofs.Ytdmbgjpidlllcaa.RxSmall

namespace Go.Proofs.Ytdmbgjpidlllcaa.RxAwake
open RxSpec RxEq RxAtom

theorem itemS_eq (rs : List Nat) : itemS rs = match atomS rs with
    | none => none
    | some (p, k, r1) => (repS p r1).map fun x => (x.1, k, x.2) := by rw [itemS]; rfl
theorem atomS_nil : atomS [] = none := by rw [atomS]
theorem awake1 : parse [97, 98, 42] = (0, [⟨2, [], 0, 0, [97, 97]⟩, ⟨2, [], 0, 0, [98, 98]⟩, ⟨5, [1], 0, -1, []⟩, ⟨3, [0, 2], 0, 0, []⟩]) := by
  have h : altS [97, 98, 42] = some (.seq [.set [97, 97], .rep (.set [98, 98]) 0 (-1)], 0, []) := by
    simp [altS_eq, altL_eq, rowL_eq, itemS_eq, atomS_cons, hd, inn, bars, repS, mkRow, mkAlt]
  rw [parse, h]
  simp [size, sizes, times, emit, emits, roots]
theorem awake2 : parse [97, 42, 42] = (40, []) := by
  have h : altS [97, 42, 42] = none := by
    simp [altS_eq, rowL_eq, itemS_eq, atomS_cons, hd, inn, bars, repS]
  rw [parse, h]
theorem awake3 : parse [40, 40, 40, 97, 123, 56, 125, 41, 123, 56, 125, 41, 123, 56, 125, 41, 123, 56, 125] = (3, []) := by
  have h : altS [40, 40, 40, 97, 123, 56, 125, 41, 123, 56, 125, 41, 123, 56, 125, 41, 123, 56, 125] = some (.rep (.rep (.rep (.rep (.set [97, 97]) 8 8) 8 8) 8 8) 8 8, 3, []) := by
    simp [altS_eq, altL_eq, rowL_eq, itemS_eq, atomS_cons, hd, inn, bars, repS, digit, mkRow, mkAlt]
  rw [parse, h]
  simp [size, times]
end Go.Proofs.Ytdmbgjpidlllcaa.RxAwake

