/- PostSeeks' own walk, over the contracts of the program's postings. -/
import Derived.Test.YtfojpbbmicmooaaPsKeepsW
namespace Go.Proofs.Ytfojpbbmicmooaa.PsSeeksW
open Go Go.RowKit Words PkSpec PsSpec Km PsLaw PsAwake PsKeepsW

theorem eq_nil (p : Nat) (w : World) : (binOp .eql 28 (.pointer (some ⟨p, 0, none⟩)) (.pointer none)).run Try.prog w = .ok (.bool false) w := by kernel_rfl
section
variable {IterR : World → (Nat → Nat) → Nat → Nat → List UInt64 → Nat → Prop} {w0 w w' : World} {K K' : Nat → Nat} {p a : Nat} {l : List UInt64}
theorem It.other (P : Post IterR) (h : It IterR w0 w K p l a) (hm : Mv K K' (fun x => x = 2) w w') : It IterR w0 w' K' p l a := by
  refine ⟨P.keep h.it hm.size (fun i hi hk => hm.block i hi (by rw [hk]; decide)) hm.kind, ⟨hm.os.trans h.below.os, hm.tape.trans h.below.tape, hm.output.trans h.below.output, Nat.le_trans h.below.size hm.size, fun i hi => ?_⟩, fun i hi => ?_⟩
  · rw [← h.below.block i hi]
    exact hm.block i (Nat.lt_of_lt_of_le hi h.below.size) (fun e => by rw [h.old i hi] at e; cases e)
  · rw [hm.kind i (Nat.lt_of_lt_of_le hi h.below.size)]
    exact h.old i hi
theorem It.newK (P : Post IterR) (h : It IterR w0 w K p l a) (hb : Below w.heap.size w w') (hk : ∀ i, i < w.heap.size → K' i = K i) : It IterR w0 w' K' p l a :=
  ⟨P.keep h.it hb.size (fun i hi _ => hb.block i hi) hk, h.below.trans (hb.mono h.below.size), fun i hi => (hk i (Nat.lt_of_lt_of_le hi h.below.size)).trans (h.old i hi)⟩
end
def AtRel (l : List UInt64) (a n : Nat) (va : Value) : Prop := ∃ a2 : Nat, a ≤ a2 ∧ a2 ≤ max a l.length ∧ va = .int .i64 (a2 : Int) ∧ Hid (∀ (j : Nat) (h : j < l.length), a ≤ j → j < a2 → l[j].toNat < n)
def SkRel (IterR : World → (Nat → Nat) → Nat → Nat → List UInt64 → Nat → Prop) (w0 : World) (p : Nat) (l sk : List UInt64) (va vk : Value) (wr : World) : Prop :=
  ∃ (k a : Nat), k ≤ sk.length ∧ a ≤ l.length + k ∧ vk = .int .i64 (k : Int) ∧ va = .int .i64 (a : Int) ∧ Hid (∃ K, It IterR w0 wr K p l (min a l.length))
def JRel (IterR : World → (Nat → Nat) → Nat → Nat → List UInt64 → Nat → Prop) (w0 : World) (p q e a2 : Nat) (l : List UInt64) (vm : Value) (wr : World) : Prop :=
  ∃ m : Nat, m ≤ a2 ∧ vm = .int .i64 (m : Int) ∧ Hid (∃ K, It IterR w0 wr K p l e ∧ IterR wr K 2 q l (min m l.length))
theorem at_more {l : List UInt64} {a a2 n : Nat} (h : ∀ (j : Nat) (h : j < l.length), a ≤ j → j < a2 → l[j].toNat < n) (hlt : a2 < l.length) (hx : l[a2].toNat < n) : ∀ (j : Nat) (h : j < l.length), a ≤ j → j < a2 + 1 → l[j].toNat < n := fun j hj h1 h2 => by
  by_cases e : j = a2
  · subst e; exact hx
  · exact h j hj h1 (by omega)

set_option maxHeartbeats 12800000 in
set_option maxRecDepth 100000 in
theorem seeks_any {IterR : World → (Nat → Nat) → Nat → Nat → List UInt64 → Nat → Prop} (P : Post IterR) (w : World) (l : List UInt64) (A : Option Addr) (c : Nat) (hc : l.length ≤ c) (hm : c ≤ maxLen) (hr : Rd w w.heap.size A (l.map B64))
    (sk : List UInt64) (As : Option Addr) (cs : Nat) (hcs : sk.length ≤ cs) (hms : cs ≤ maxLen) (hs : Rd w w.heap.size As (sk.map B64)) (hsk : sk.length * 8 ≤ 140737488351232) :
    Calls Try.prog 3 #[.slice A l.length c, .slice As sk.length cs] w fun e w' => e = .returned (.bool true) ∧ Below w.heap.size w w' := by
  have H0 := Lib.hid (awake_any P w)
  have HR := Lib.hid hr
  have HS := Lib.hid hs
  have H1 : Hid (∀ w1, Below w.heap.size w w1 → Calls Try.prog 7 #[.slice A l.length c] w1 (WPost w1 (wr l))) := Lib.hid fun w1 hb => P.write w1 l A c ((hr.below hb).more hb.size) hc hm
  unfold maxLen at hm hms
  clear hr hs
  rcases wr_cases l with ⟨he, hbs⟩ | ⟨hok, hlen, hri⟩
  · obtain ⟨R, hR⟩ : ∃ R, wr l = R := ⟨_, rfl⟩
    rw [hR] at H1 he hbs
    obtain ⟨r, bs⟩ := R
    simp only at he hbs
    subst hbs
    have d1 : ((r : Int) != 0) = true := by simp; omega
    clear hR he
    go_enter Try.func3, Try.ntmps3
    go_wp2_with fail
    refine H0.out.mono ?_
    rintro e w1 ⟨rfl, hb1⟩
    have H2 := Lib.hid (H1.out w1 hb1)
    have HB1 := Lib.hid hb1
    clear hb1 H0 H1
    go_wp2_with fail
    refine H2.out.mono ?_
    rintro e w2 ⟨v2, rfl, hown2, hb2⟩
    obtain ⟨A2, c2, rfl, _, _, _, _⟩ := own_rd hown2
    have HB2 := Lib.hid (HB1.out.trans (hb2.mono HB1.out.size))
    simp only [List.length_nil]
    clear hown2 hb2 H2
    go_wp2
    go_ret
    exact ⟨rfl, HB2.out⟩
  · rw [hok] at H1
    have HRI := Lib.hid hri
    obtain ⟨m, hmm⟩ : ∃ m, (pb l).length = m := ⟨_, rfl⟩
    have hm0 : 0 < m := by rw [← hmm]; exact pb_pos l
    have HMM := Lib.hid hmm
    clear hok hri hmm
    go_enter Try.func3, Try.ntmps3
    go_wp2_with fail
    refine H0.out.mono ?_
    rintro e w1 ⟨rfl, hb1⟩
    have H2 := Lib.hid (H1.out w1 hb1)
    have HB1 := Lib.hid hb1
    unfold WPost at H2
    simp only [HMM.out] at H2
    clear hb1 H0 H1
    go_wp2_with fail
    refine H2.out.mono ?_
    rintro e w2 ⟨v2, rfl, hown2, hb2⟩
    obtain ⟨g, c2, cur, rfl, hg, hc2, hm2, hcur, hsz⟩ := own_block hown2 hm0
    have HB2 := Lib.hid (HB1.out.trans (hb2.mono HB1.out.size))
    have HRB : Hid (Rd w2 w2.heap.size (some ⟨g, 0, none⟩) ((pb l).map B8)) := Lib.hid (by
      obtain ⟨A', c', e, _, _, hrd, _⟩ := own_rd hown2
      cases e
      exact hrd)
    have HOP : Hid (∀ w3 K3 o, Below w2.heap.size w2 w3 → Calls Try.prog 8 #[.slice (some ⟨g, 0, none⟩) m c2] w3 (OPost IterR w3 K3 o l)) := Lib.hid fun w3 K3 o hb => by
      have h := P.opens w3 K3 o l (some ⟨g, 0, none⟩) c2 hlen HRI.out ((HRB.out.below hb).more hb.size) (by rw [HMM.out]; exact hc2) hm2
      rw [HMM.out] at h
      exact h
    have H3 := Lib.hid (HOP.out w2 (fun _ => 0) 1 (Below.refl _ _))
    have HR2 := Lib.hid ((HR.out.below HB2.out).more HB2.out.size)
    have HS2 := Lib.hid ((HS.out.below HB2.out).more HB2.out.size)
    unfold maxLen at hm2
    clear hown2 hb2 H2 hcur hsz hg HRB HR HS HB1
    go_wp2_with fail
    refine H3.out.mono ?_
    rintro e w3 ⟨p, K3, rfl, hi3, hb3, hk3⟩
    have HI3 : Hid (It IterR w2 w3 K3 p l 0) := Lib.hid ⟨hi3, hb3, hk3⟩
    have hne := eq_nil p
    clear hi3 hb3 hk3 H3
    go_wp2
    go_loopw [8, 9] (fun va vk wr => SkRel IterR w2 p l sk va vk wr) (fun _ vk _ => sk.length - (intOf vk).toNat)
    case atStart => exact ⟨0, 0, Nat.zero_le _, Nat.zero_le _, rfl, rfl, Lib.hid ⟨K3, by simpa using HI3.out⟩⟩
    case round =>
      obtain ⟨k, a, hk, ha, rfl, rfl, hst⟩ := hrel
      clear HI3 hne
      obtain ⟨K, hit⟩ := hst.out
      have HIT := Lib.hid hit
      clear hit hst
      by_cases hlt : k < sk.length
      · obtain ⟨bs, ofs, rfl, hbs, hcs2⟩ := HS2.out (by simp; omega)
        have k1 := (HIT.out.below.cell (p := ⟨bs, ofs + k, none⟩) hbs).trans (cell64 hcs2 hlt)
        have hn64 := sk[k].toNat_lt
        obtain ⟨n, hn⟩ : ∃ n, sk[k].toNat = n := ⟨_, rfl⟩
        rw [hn] at k1 hn64
        have j1 : (0 : Int) ≤ (k : Int) := by omega
        have j2 : (k : Int) < (sk.length : Int) := by omega
        obtain ⟨w9, hw9⟩ : ∃ w9, w9 = wr := ⟨_, rfl⟩
        subst hw9
        clear hcs2 hn
        go_wp2
        go_loop [8] (fun va => AtRel l a n va) (fun va => (max a l.length + 1) - (intOf va).toNat)
        case atStart => exact ⟨a, Nat.le_refl _, Nat.le_max_left _ _, rfl, Lib.hid (fun j _ h1 h2 => by omega)⟩
        case round =>
          obtain ⟨a2, ha2, hmx, rfl, HL⟩ := hrel
          by_cases hl2 : a2 < l.length
          · obtain ⟨b, off, rfl, hbl, hcell⟩ := HR2.out (by simp; omega)
            have k2 := (HIT.out.below.cell (p := ⟨b, off + a2, none⟩) hbl).trans (cell64 hcell hl2)
            have q1 : (0 : Int) ≤ (a2 : Int) := by omega
            have q2 : (a2 : Int) < (l.length : Int) := by omega
            have HNU := Lib.hid (num_at hl2)
            have HMO := Lib.hid (at_more HL.out hl2)
            have HSK : Hid (n ≤ l[a2].toNat → SeekTo l (min a l.length) n a2) := Lib.hid fun hy => ⟨by omega, Nat.le_of_lt hl2, fun j hj h1 h2 => HL.out j hj (by omega) h2, fun _ => hy⟩
            have HCE : Hid (∀ w', Below w2.heap.size w2 w' → w'.cell? ⟨b, off + a2, none⟩ = some (.int .u64 ((l[a2].toNat : Nat) : Int))) := Lib.hid fun w' hb => (hb.cell (p := ⟨b, off + a2, none⟩) hbl).trans (cell64 hcell hl2)
            have hy64 := l[a2].toNat_lt
            obtain ⟨y, hy⟩ : ∃ y, l[a2].toNat = y := ⟨_, rfl⟩
            rw [hy] at k2 HNU HMO HSK hy64 HCE
            clear hcell hy
            by_cases hyn : y < n
            · have t1 : decide (y < n) = true := by simpa using hyn
              clear HNU HSK HCE
              go_wp2
              go_round
              case rel => exact ⟨a2 + 1, by omega, by omega, by go_num, Lib.hid (HMO.out hyn)⟩
              case measure => simp [intOf]; omega
            · have t1 : decide (y < n) = false := by simpa using hyn
              have H6 := Lib.hid (P.seek w9 K 1 p l (min a l.length) n a2 HIT.out.it (by omega) (HSK.out (by omega)))
              unfold SPost at H6
              rw [HNU.out, show decide (a2 < l.length) = true by simpa using hl2, show min (a2 + 1) l.length = a2 + 1 by omega] at H6
              have u1 : decide (a2 < l.length) = true := by simpa using hl2
              have u2 : decide (l.length ≤ a2) = false := decide_eq_false (by omega)
              have u3 : ((y : Int) != (y : Int)) = false := by simp
              have HE : Hid (a2 + 1 = min (a2 + 1) l.length) := Lib.hid (by omega)
              have HNQ : Hid (numAt l (min a2 l.length) = y ∧ decide (min a2 l.length < l.length) = true) := Lib.hid (by rw [show min a2 l.length = a2 by omega]; exact ⟨HNU.out, u1⟩)
              clear HMO HSK HNU hyn HL
              go_wp2_with fail
              refine H6.out.mono ?_
              rintro e w7 ⟨rfl, K7, hi7, hm7⟩
              have HI7 := Lib.hid (HIT.out.step hi7 hm7)
              clear hi7 hm7 H6 HIT
              by_cases hn0 : n = 0
              · have z1 : ((n : Int) == 0) = true := by simp [hn0]
                have H8 := Lib.hid (HOP.out w7 K7 2 HI7.out.below)
                clear hn0 HOP
                go_wp2_with fail
                refine H8.out.mono ?_
                rintro e w8 ⟨q, K8, rfl, hi8, hb8, hk8⟩
                have HI8 := Lib.hid (It.newK P HI7.out hb8 hk8)
                have HJ8 : Hid (IterR w8 K8 2 q l (min 0 l.length)) := Lib.hid (by rw [Nat.zero_min]; exact hi8)
                clear hi8 hb8 hk8 H8 HI7
                go_wp2
                go_loopw [15] (fun vm wr => JRel IterR w2 p q (a2 + 1) a2 l vm wr) (fun vm _ => a2 - (intOf vm).toNat)
                case atStart => exact ⟨0, Nat.zero_le _, rfl, Lib.hid ⟨K8, HI8.out, HJ8.out⟩⟩
                case round =>
                  obtain ⟨mj, hmj, rfl, hst⟩ := hrel
                  clear HI8 HJ8
                  obtain ⟨K9, hit9, hj9⟩ := hst.out
                  have HI9' := Lib.hid hit9
                  have H9 := Lib.hid (P.next wr K9 2 q l (min mj l.length) hj9 (by omega))
                  unfold SPost at H9
                  clear hit9 hj9 hst
                  by_cases hmlt : mj < a2
                  · have v1 : decide (mj < a2) = true := by simpa using hmlt
                    obtain ⟨rn, hrn⟩ : ∃ rn, numAt l (min mj l.length) = rn := ⟨_, rfl⟩
                    obtain ⟨rb, hrb⟩ : ∃ rb, decide (min mj l.length < l.length) = rb := ⟨_, rfl⟩
                    rw [hrn, hrb, show min (min mj l.length + 1) l.length = min (mj + 1) l.length by omega] at H9
                    clear hrn hrb
                    go_wp2_with fail
                    refine H9.out.mono ?_
                    rintro e w10 ⟨rfl, K10, hi10, hm10⟩
                    have HN10 : Hid (∃ K, It IterR w2 w10 K p l ((a2 + 1)) ∧ IterR w10 K 2 q l (min (mj + 1) l.length)) := Lib.hid ⟨K10, It.other P HI9'.out hm10, hi10⟩
                    clear hi10 hm10 H9
                    go_wp2
                    go_roundw
                    case rel => exact ⟨mj + 1, by omega, by go_num, HN10⟩
                    case measure => simp [intOf]; omega
                  · have v1 : decide (mj < a2) = false := decide_eq_false hmlt
                    obtain rfl : a2 = mj := by omega
                    rw [HNQ.out.1, HNQ.out.2] at H9
                    clear hmlt hmj
                    go_wp2_with fail
                    refine H9.out.mono ?_
                    rintro e w10 ⟨rfl, K10, hi10, hm10⟩
                    have HI9 := Lib.hid (It.other P HI9'.out hm10)
                    clear hi10 hm10 H9 HI9'
                    have k9 := HCE.out _ HI9.out.below

                    go_wp2
                    go_roundw
                    case rel => exact ⟨k + 1, a2 + 1, by omega, by omega, by go_num, by go_num, Lib.hid ⟨_, by rw [← HE.out]; exact HI9.out⟩⟩
                    case measure => simp [intOf]; omega
              · have z1 : ((n : Int) == 0) = false := beq_eq_false_iff_ne.2 (by omega)
                have HI9 := HI7
                clear hn0 HOP HI7
                have k9 := HCE.out _ HI9.out.below

                go_wp2
                go_roundw
                case rel => exact ⟨k + 1, a2 + 1, by omega, by omega, by go_num, by go_num, Lib.hid ⟨_, by rw [← HE.out]; exact HI9.out⟩⟩
                case measure => simp [intOf]; omega
          · have hg2 : ¬ (a2 : Int) < (l.length : Int) := by omega
            have H6 := Lib.hid (P.seek w9 K 1 p l (min a l.length) n l.length HIT.out.it (by omega) ⟨by omega, Nat.le_refl _, fun j hj h1 h2 => HL.out j hj (by omega) (by omega), fun h => by omega⟩)
            unfold SPost at H6
            rw [num_end (Nat.le_refl l.length), show decide (l.length < l.length) = false by simp, show min (l.length + 1) l.length = l.length by omega] at H6
            have u1 : decide (a2 < l.length) = false := decide_eq_false hl2
            have u2 : decide (l.length ≤ a2) = true := decide_eq_true (by omega)
            have HE : Hid (l.length = min (a2 + 1) l.length) := Lib.hid (by omega)
            have HNQ : Hid (numAt l (min a2 l.length) = 0 ∧ decide (min a2 l.length < l.length) = false) := Lib.hid (by rw [show min a2 l.length = l.length by omega]; exact ⟨num_end (Nat.le_refl _), by simp⟩)
            clear HL
            go_wp2_with fail
            refine H6.out.mono ?_
            rintro e w7 ⟨rfl, K7, hi7, hm7⟩
            have HI7 := Lib.hid (HIT.out.step hi7 hm7)
            clear hi7 hm7 H6 HIT
            by_cases hn0 : n = 0
            · have z1 : ((n : Int) == 0) = true := by simp [hn0]
              have H8 := Lib.hid (HOP.out w7 K7 2 HI7.out.below)
              clear hn0 HOP
              go_wp2_with fail
              refine H8.out.mono ?_
              rintro e w8 ⟨q, K8, rfl, hi8, hb8, hk8⟩
              have HI8 := Lib.hid (It.newK P HI7.out hb8 hk8)
              have HJ8 : Hid (IterR w8 K8 2 q l (min 0 l.length)) := Lib.hid (by rw [Nat.zero_min]; exact hi8)
              clear hi8 hb8 hk8 H8 HI7
              go_wp2
              go_loopw [15] (fun vm wr => JRel IterR w2 p q l.length a2 l vm wr) (fun vm _ => a2 - (intOf vm).toNat)
              case atStart => exact ⟨0, Nat.zero_le _, rfl, Lib.hid ⟨K8, HI8.out, HJ8.out⟩⟩
              case round =>
                obtain ⟨mj, hmj, rfl, hst⟩ := hrel
                clear HI8 HJ8
                obtain ⟨K9, hit9, hj9⟩ := hst.out
                have HI9' := Lib.hid hit9
                have H9 := Lib.hid (P.next wr K9 2 q l (min mj l.length) hj9 (by omega))
                unfold SPost at H9
                clear hit9 hj9 hst
                by_cases hmlt : mj < a2
                · have v1 : decide (mj < a2) = true := by simpa using hmlt
                  obtain ⟨rn, hrn⟩ : ∃ rn, numAt l (min mj l.length) = rn := ⟨_, rfl⟩
                  obtain ⟨rb, hrb⟩ : ∃ rb, decide (min mj l.length < l.length) = rb := ⟨_, rfl⟩
                  rw [hrn, hrb, show min (min mj l.length + 1) l.length = min (mj + 1) l.length by omega] at H9
                  clear hrn hrb
                  go_wp2_with fail
                  refine H9.out.mono ?_
                  rintro e w10 ⟨rfl, K10, hi10, hm10⟩
                  have HN10 : Hid (∃ K, It IterR w2 w10 K p l (l.length) ∧ IterR w10 K 2 q l (min (mj + 1) l.length)) := Lib.hid ⟨K10, It.other P HI9'.out hm10, hi10⟩
                  clear hi10 hm10 H9
                  go_wp2
                  go_roundw
                  case rel => exact ⟨mj + 1, by omega, by go_num, HN10⟩
                  case measure => simp [intOf]; omega
                · have v1 : decide (mj < a2) = false := decide_eq_false hmlt
                  obtain rfl : a2 = mj := by omega
                  rw [HNQ.out.1, HNQ.out.2] at H9
                  clear hmlt hmj
                  go_wp2_with fail
                  refine H9.out.mono ?_
                  rintro e w10 ⟨rfl, K10, hi10, hm10⟩
                  have HI9 := Lib.hid (It.other P HI9'.out hm10)
                  clear hi10 hm10 H9 HI9'
                  go_wp2
                  go_roundw
                  case rel => exact ⟨k + 1, a2 + 1, by omega, by omega, by go_num, by go_num, Lib.hid ⟨_, by rw [← HE.out]; exact HI9.out⟩⟩
                  case measure => simp [intOf]; omega
            · have z1 : ((n : Int) == 0) = false := beq_eq_false_iff_ne.2 (by omega)
              have HI9 := HI7
              clear hn0 HOP HI7
              go_wp2
              go_roundw
              case rel => exact ⟨k + 1, a2 + 1, by omega, by omega, by go_num, by go_num, Lib.hid ⟨_, by rw [← HE.out]; exact HI9.out⟩⟩
              case measure => simp [intOf]; omega
      · have hge : ¬ (k : Int) < (sk.length : Int) := by omega
        have HBB := Lib.hid (HB2.out.trans (HIT.out.below.mono HB2.out.size))
        clear hlt hk
        go_wp2
        go_ret
        exact ⟨rfl, HBB.out⟩
end Go.Proofs.Ytfojpbbmicmooaa.PsSeeksW
