/- The contracts of the document's Compare, Same and SameAll of records: memory is only read. Conditions: none but that the records lie in memory. -/
import Derived.Test.YtahbaifbihpppaaRcMem
import Derived.Test.YtahbaifbihpppaaLbCmp
import Derived.Deep.RegionLaw
namespace Go.Proofs.Ytahbaifbihpppaa.RcRef
open Go Go.RowKit Words AppN Less LbSpec LbText LbMem LbRef LbCmp RcSpec RcAll RcMem UtOwn

theorem own_lb {w : World} {base : Nat} {v : Value} {l : List Lab} (h : w.ownsRow base 46 2 v l.length (flat l)) : ∃ A c, v = .slice A l.length c ∧ Lb w A l.length c l := by
  obtain ⟨A, c, rfl, h1, h2, h3, _⟩ := own_lab h
  exact ⟨A, c, rfl, rfl, h1, h2, h3⟩
theorem lb_keep {w w' : World} {A : Option Addr} {n c : Nat} {l : List Lab} (h : Lb w A n c l) (hb : Below w.heap.size w w') : Lb w' A n c l :=
  ⟨h.1, h.2.1, h.2.2.1, (h.2.2.2.below hb).more hb.size⟩

set_option maxHeartbeats 3200000 in
theorem rcmpr_any (w : World) (a b : RM) : Calls Try.prog 16 #[aggR a, aggR b] w fun e w' => e = .returned (.int .i64 (cmpR a.1 b.1)) ∧ Below w.heap.size w w' := by
  obtain ⟨⟨ta, sa, la, na⟩, pa⟩ := a
  obtain ⟨⟨tb, sb, lb, nb⟩, pb⟩ := b
  unfold aggR cmpR slV S8
  simp only
  have HB : ∀ o o', Hid (Below w.heap.size w ((w.alloc o).alloc o')) := fun o o' => Lib.hid (((Below.refl _ w).alloc (Nat.le_refl _) _).alloc (by simp) _)
  by_cases h1 : ta < tb
  · rw [if_pos (.inl h1)]
    have d1 : decide (ta < tb) = true := decide_eq_true h1
    go_enter Try.func16, Try.ntmps16
    go_wp2
    go_ret
    exact ⟨rfl, (HB _ _).out⟩
  · by_cases h2 : ta = tb
    · subst h2
      by_cases h3 : sa < sb
      · rw [if_pos (.inr ⟨rfl, h3⟩)]
        have j3 : (sa : Int) < (sb : Int) := by omega
        go_enter Try.func16, Try.ntmps16
        go_wp2
        go_ret
        exact ⟨rfl, (HB _ _).out⟩
      · rw [if_neg (by omega)]
        have j3 : ¬ (sa : Int) < (sb : Int) := by omega
        by_cases h4 : sa = sb
        · subst h4
          rw [if_pos ⟨rfl, rfl⟩]
          go_enter Try.func16, Try.ntmps16
          go_wp2
          go_ret
          exact ⟨rfl, (HB _ _).out⟩
        · rw [if_neg (by omega)]
          have j4 : ((sa : Int) == (sb : Int)) = false := beq_eq_false_iff_ne.2 (by omega)
          go_enter Try.func16, Try.ntmps16
          go_wp2
          go_ret
          exact ⟨rfl, (HB _ _).out⟩
    · rw [if_neg (by omega), if_neg (by omega)]
      have j2 : (ta == tb) = false := beq_eq_false_iff_ne.2 h2
      go_enter Try.func16, Try.ntmps16
      go_wp2
      go_ret
      exact ⟨rfl, (HB _ _).out⟩

/-! ### Same -/
def eqR (a b : Rec) : Bool := (a.time == b.time) && ((a.seq == b.seq) && ((a.line == b.line) && (a.labels == b.labels)))
theorem eqR_iff {a b : Rec} : eqR a b = true ↔ a = b := by
  obtain ⟨ta, sa, la, na⟩ := a
  obtain ⟨tb, sb, lb, nb⟩ := b
  unfold eqR
  simp only [Bool.and_eq_true, beq_iff_eq, Rec.mk.injEq]
  constructor
  · rintro ⟨h1, h2, h3, h4⟩
    exact ⟨h1, h2, h4, h3⟩
  · rintro ⟨h1, h2, h3, h4⟩
    exact ⟨h1, h2, h4, h3⟩

set_option maxHeartbeats 3200000 in
theorem rsamer_any (w : World) (a b : RM) (ha : Okm w a) (hb : Okm w b) : Calls Try.prog 21 #[aggR a, aggR b] w fun e w' => e = .returned (.bool (eqR a.1 b.1)) ∧ Below w.heap.size w w' := by
  obtain ⟨⟨ta, sa, la, na⟩, Aa, ma, ca⟩ := a
  obtain ⟨⟨tb, sb, lb, nb⟩, Ab, mb, cb⟩ := b
  have HLA := Lib.hid ha.labs
  have HLB := Lib.hid hb.labs
  clear ha hb
  simp only at HLA HLB
  have HB : ∀ o o', Hid (Below w.heap.size w ((w.alloc o).alloc o')) := fun o o' => Lib.hid (((Below.refl _ w).alloc (Nat.le_refl _) _).alloc (by simp) _)
  have HS := fun o o' => Lib.hid (rsame_any ((w.alloc o).alloc o') la lb Aa Ab ma mb ca cb (lb_keep HLA.out (HB o o').out) (lb_keep HLB.out (HB o o').out))
  unfold aggR eqR slV S8
  simp only
  obtain ⟨q1, h1⟩ : ∃ q, (ta == tb) = q := ⟨_, rfl⟩
  obtain ⟨q2, h2⟩ : ∃ q, (sa == sb) = q := ⟨_, rfl⟩
  obtain ⟨q3, h3⟩ : ∃ q, (na == nb) = q := ⟨_, rfl⟩
  obtain ⟨q4, h4⟩ : ∃ q, (la == lb) = q := ⟨_, rfl⟩
  have h2' : ((sa : Int) == (sb : Int)) = q2 := by rw [← h2, Bool.eq_iff_iff, beq_iff_eq, beq_iff_eq]; omega
  rw [h1, h2, h3, h4]
  simp only [h4] at HS
  clear h2 h4 HLA HLB
  cases q1 with
  | false =>
    clear HS
    go_enter Try.func21, Try.ntmps21
    go_wp2
    go_ret
    exact ⟨rfl, (HB _ _).out⟩
  | true =>
    cases q2 with
    | false =>
      clear HS
      go_enter Try.func21, Try.ntmps21
      go_wp2
      go_ret
      exact ⟨rfl, (HB _ _).out⟩
    | true =>
      cases q3 with
      | false =>
        clear HS
        go_enter Try.func21, Try.ntmps21
        go_wp2
        go_ret
        exact ⟨rfl, (HB _ _).out⟩
      | true =>
        go_enter Try.func21, Try.ntmps21
        go_wp2_with fail
        refine (HS _ _).out.mono ?_
        rintro e w1 ⟨rfl, hb1⟩
        have HB1 : Hid (Below w.heap.size w w1) := Lib.hid ((HB _ _).out.trans (hb1.mono (HB _ _).out.size))
        clear hb1 HS
        go_wp2
        go_ret
        exact ⟨rfl, HB1.out⟩

/-! ### SameAll -/
def eqA : List Rec → List Rec → Bool
  | [], [] => true
  | a :: l, b :: m => eqR a b && eqA l m
  | _, _ => false
theorem eqA_iff : ∀ {l m : List Rec}, eqA l m = true ↔ l = m
  | [], [] => by simp [eqA]
  | [], b :: m => by simp [eqA]
  | a :: l, [] => by simp [eqA]
  | a :: l, b :: m => by rw [eqA, Bool.and_eq_true, eqR_iff, eqA_iff]; simp
theorem eqA_len {l m : List Rec} (h : l.length ≠ m.length) : eqA l m = false := by
  cases e : eqA l m with
  | false => rfl
  | true => rw [eqA_iff] at e; exact absurd (congrArg List.length e) h
def ARel (w : World) (a b : List RM) (v : Value) (wr : World) : Prop := ∃ k : Nat, k ≤ a.length ∧ v = .int .i64 (k : Int) ∧ Hid (eqA (recsOf a) (recsOf b) = eqA (recsOf (a.drop k)) (recsOf (b.drop k))) ∧ Hid (Below w.heap.size w wr)
theorem cell_up {w w' : World} {B : Nat} (hb : Below B w w') {p : Addr} (hp : p.block < B) {u : Value} (h : w.cell? p = some u) : w'.cell? p = some u := (hb.cell hp).trans h
theorem below_drew1 {w0 w : World} {B : Nat} (h : Below B w0 w) : Below B w0 w.drew := ⟨h.os, h.tape, h.output, h.size, h.block⟩

set_option maxHeartbeats 3200000 in
set_option maxRecDepth 100000 in
theorem rsamea_any (w : World) (a b : List RM) (A B : Option Addr) (m n c d : Nat) (ha : Rl w A m c a) (hb : Rl w B n d b) :
    Calls Try.prog 22 #[.slice A m c, .slice B n d] w fun e w' => e = .returned (.bool (eqA (recsOf a) (recsOf b))) ∧ Below w.heap.size w w' := by
  have HRA := Lib.hid ha
  have HRB := Lib.hid hb
  obtain ⟨rfl, hc, hm, _, _⟩ := ha
  obtain ⟨rfl, hd, hn, _, _⟩ := hb
  unfold maxLen at hm hn
  obtain ⟨r, hrr⟩ : ∃ r, eqA (recsOf a) (recsOf b) = r := ⟨_, rfl⟩
  have HRR := Lib.hid hrr
  rw [hrr]
  clear hrr
  by_cases hlen : a.length = b.length
  · have j : ((a.length : Int) != (b.length : Int)) = false := by rw [hlen]; simp
    go_enter Try.func22, Try.ntmps22
    go_wp2
    go_loopw [5] (fun v wr => ARel w a b v wr) (fun v _ => a.length - (intOf v).toNat)
    case atStart => exact ⟨0, Nat.zero_le _, rfl, Lib.hid (by simp), Lib.hid (Below.refl _ _)⟩
    case round =>
      obtain ⟨k, hk, rfl, HC, HB⟩ := hrel
      have HL := Lib.hid (show eqA (recsOf a) (recsOf b) = r from HRR.out)
      have HLEN := Lib.hid hlen
      have HRA2 := Lib.hid (HRA.out.below HB.out)
      have HRB2 := Lib.hid (HRB.out.below HB.out)
      clear j hlen
      by_cases hla : k < a.length
      · have hlb : k < b.length := by have := HLEN.out; omega
        obtain ⟨g1, o1, rfl, hg1, hc1⟩ := HRA.out.rd (by rw [flatR_len]; omega)
        obtain ⟨g2, o2, rfl, hg2, hc2⟩ := HRB.out.rd (by rw [flatR_len]; omega)
        obtain ⟨p0, p1, p2, p3⟩ := cellsR hc1 hla
        obtain ⟨q0, q1, q2, q3⟩ := cellsR hc2 hlb
        have k0 := cell_up HB.out (p := ⟨g1, o1 + k * 4, none⟩) hg1 p0
        have k1 := cell_up HB.out (p := ⟨g1, o1 + k * 4 + 1, none⟩) hg1 p1
        have k2 := cell_up HB.out (p := ⟨g1, o1 + k * 4 + 2, none⟩) hg1 p2
        have k3 := cell_up HB.out (p := ⟨g1, o1 + k * 4 + 3, none⟩) hg1 p3
        have l0 := cell_up HB.out (p := ⟨g2, o2 + k * 4, none⟩) hg2 q0
        have l1 := cell_up HB.out (p := ⟨g2, o2 + k * 4 + 1, none⟩) hg2 q1
        have l2 := cell_up HB.out (p := ⟨g2, o2 + k * 4 + 2, none⟩) hg2 q2
        have l3 := cell_up HB.out (p := ⟨g2, o2 + k * 4 + 3, none⟩) hg2 q3
        have HX := Lib.hid (rsamer_any wr.drew a[k] b[k] ((HRA2.out.each _ (List.getElem_mem hla)).below (below_drew1 (Below.refl _ _))) ((HRB2.out.each _ (List.getElem_mem hlb)).below (below_drew1 (Below.refl _ _))))
        have HD : Hid (r = (eqR (a[k]).1 (b[k]).1 && eqA (recsOf (a.drop (k + 1))) (recsOf (b.drop (k + 1))))) := Lib.hid (by
          have h := HC.out
          rw [HRR.out, List.drop_eq_getElem_cons hla, List.drop_eq_getElem_cons hlb] at h
          exact h)
        clear hc1 hc2 p0 p1 p2 p3 q0 q1 q2 q3 HC
        generalize a[k] = x at *
        generalize b[k] = y at *
        obtain ⟨⟨tx, sx, lx, nx⟩, Ax, mx, cx⟩ := x
        obtain ⟨⟨ty, sy, ly, ny⟩, Ay, my, cy⟩ := y
        unfold aggR slV S8 at HX
        unfold slV at k2 l2
        simp only at k0 k1 k2 k3 l0 l1 l2 l3 HX HD
        generalize eqR ⟨tx, sx, lx, nx⟩ ⟨ty, sy, ly, ny⟩ = q at *
        have hi1 : (0 : Int) ≤ (k : Int) := by omega
        have hi2 : (k : Int) < (a.length : Int) := by omega
        have hi3 : (k : Int) < (b.length : Int) := by omega
        cases q with
        | true =>
          go_wp2
          go_region_law (first | (go_simp; go_at_call 21; ((with_reducible refine HX.out.mono ?_); rintro e w1 ⟨rfl, hb1⟩)))
          all_goals
            have HB1 : Hid (Below w.heap.size w w1) := Lib.hid ((below_drew1 HB.out).trans (hb1.mono HB.out.size))
            clear hb1 HX
            go_wp2
            go_roundw
            case rel => exact ⟨k + 1, by omega, by go_num, Lib.hid (by rw [HL.out, HD.out]; rfl), HB1⟩
            case measure => simp [intOf]; omega
        | false =>
          go_wp2
          go_region_law (first | (go_simp; go_at_call 21; ((with_reducible refine HX.out.mono ?_); rintro e w1 ⟨rfl, hb1⟩)))
          all_goals
            have HB1 : Hid (Below w.heap.size w w1) := Lib.hid ((below_drew1 HB.out).trans (hb1.mono HB.out.size))
            clear hb1 HX
            go_wp2
            go_ret
            exact ⟨ret_bool (by rw [HD.out]; rfl), HB1.out⟩
      · have hkl : k = a.length := by omega
        have HD : Hid (r = true) := Lib.hid (by
          have h := HC.out
          have hlen := HLEN.out
          rw [HRR.out, hkl, List.drop_length, List.drop_eq_nil_of_le (by omega)] at h
          exact h)
        clear HC hla
        subst hkl
        go_wp2
        go_ret
        exact ⟨ret_bool HD.out.symm, HB.out⟩
  · have HE : Hid (r = false) := Lib.hid (by rw [← HRR.out]; exact eqA_len (by unfold recsOf; simpa using hlen))
    have j : ((a.length : Int) != (b.length : Int)) = true := by simp; omega
    clear hlen
    go_enter Try.func22, Try.ntmps22
    go_wp2
    go_ret
    exact ⟨ret_bool HE.out.symm, Below.refl _ _⟩
end Go.Proofs.Ytahbaifbihpppaa.RcRef
