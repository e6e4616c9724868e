/- PostKeeps' own walk, over the contracts of the program's postings. -/
import Derived.Test.YtfojpbbmicmooaaPsAwake
namespace Go.Proofs.Ytfojpbbmicmooaa.PsKeepsW
open Go Go.RowKit Words PkSpec PsSpec Km PsLaw PsAwake

/-- The iterator at place a; what came in is as it was. -/
structure It (IterR : World → (Nat → Nat) → Nat → Nat → List UInt64 → Nat → Prop) (w0 wr : World) (K : Nat → Nat) (p : Nat) (l : List UInt64) (a : Nat) : Prop where
  it : IterR wr K 1 p l a
  below : Below w0.heap.size w0 wr
  old : ∀ i, i < w0.heap.size → K i = 0
section
variable {IterR : World → (Nat → Nat) → Nat → Nat → List UInt64 → Nat → Prop} {w0 w w' : World} {K K' : Nat → Nat} {p a b : Nat} {l : List UInt64}
theorem It.step (h : It IterR w0 w K p l a) (hi : IterR w' K' 1 p l b) (hm : Mv K K' (fun x => x = 1) w w') : It IterR w0 w' K' p l b := by
  refine ⟨hi, ⟨hm.os.trans h.below.os, hm.tape.trans h.below.tape, hm.output.trans h.below.output, Nat.le_trans h.below.size hm.size, fun i hi => ?_⟩, fun i hi => ?_⟩
  · rw [← h.below.block i hi]
    exact hm.block i (Nat.lt_of_lt_of_le hi h.below.size) (fun e => by rw [h.old i hi] at e; cases e)
  · rw [hm.kind i (Nat.lt_of_lt_of_le hi h.below.size)]
    exact h.old i hi
theorem It.new (P : Post IterR) (h : It IterR w0 w K p l a) (hb : Below w.heap.size w w') : It IterR w0 w' K p l a :=
  ⟨P.keep h.it hb.size (fun i hi _ => hb.block i hi) (fun _ _ => rfl), h.below.trans (hb.mono h.below.size), h.old⟩
theorem below_q (w : World) (n : Nat) : Below w.heap.size w (w.drewN n) := ⟨rfl, rfl, rfl, Nat.le_refl _, fun _ _ => rfl⟩
theorem below_d (w : World) : Below w.heap.size w w.drew := ⟨rfl, rfl, rfl, Nat.le_refl _, fun _ _ => rfl⟩
theorem own_block {base n : Nat} {e : TypeId} {v : Value} {xs : List Value} (h : w.ownsRow base e 1 v n xs) (hn : 0 < n) : ∃ g cap cur, v = .slice (some ⟨g, 0, none⟩) n cap ∧ base ≤ g ∧ n ≤ cap ∧ cap ≤ maxLen ∧ w.heap[g]? = some (.cells cur e (0, 0)) ∧ n ≤ cur.size := by
  have hl := h.1
  rcases h.2 with ⟨rfl, rfl⟩ | ⟨g, cap, cur, rfl, hb, hg, h1, h2, h3, h4⟩
  · omega
  · refine ⟨g, cap, cur, rfl, hb, h1, h2, hg, ?_⟩
    first | omega | (simp at h3 h4; omega)
theorem cell_in {g k : Nat} {cur : Array Value} {t : TypeId} (h : w.heap[g]? = some (.cells cur t (0, 0))) (hk : k < cur.size) : w.cell? ⟨g, k, none⟩ = some cur[k] := by
  unfold World.cell?
  rw [h]
  simp [hk]
theorem free_in {g k : Nat} {cur : Array Value} {t : TypeId} (h : w.heap[g]? = some (.cells cur t (0, 0))) : w.frozen? ⟨g, k, none⟩ = false := by
  unfold World.frozen?
  rw [h]
  simp
end
theorem pb_pos (l : List UInt64) : 0 < (pb l).length := by
  unfold pb
  rw [List.length_append, List.length_append]
  have := Lib.uvarint_pos (blocks l).length
  omega
def KRel1 (IterR : World → (Nat → Nat) → Nat → Nat → List UInt64 → Nat → Prop) (w0 : World) (K : Nat → Nat) (p g m : Nat) (l : List UInt64) (vk : Value) (wr : World) : Prop :=
  ∃ k : Nat, k ≤ m ∧ vk = .int .i64 (k : Int) ∧ Hid (It IterR w0 wr K p l 0 ∧ ∃ cur, wr.heap[g]? = some (.cells cur 5 (0, 0)) ∧ m ≤ cur.size)
def KRel2 (IterR : World → (Nat → Nat) → Nat → Nat → List UInt64 → Nat → Prop) (w0 : World) (p : Nat) (l : List UInt64) (vk : Value) (wr : World) : Prop :=
  ∃ k : Nat, k ≤ l.length ∧ vk = .int .i64 (k : Int) ∧ Hid (∃ K, It IterR w0 wr K p l k)

set_option maxHeartbeats 6400000 in
set_option maxRecDepth 100000 in
theorem keeps_any {IterR : World → (Nat → Nat) → Nat → Nat → List UInt64 → Nat → Prop} (P : Post IterR) (w : World) (l : List UInt64) (A : Option Addr) (c : Nat) (hc : l.length ≤ c) (hm : c ≤ maxLen) (hr : Rd w w.heap.size A (l.map B64)) :
    Calls Try.prog 5 #[.slice A l.length c] w fun e w' => e = .returned (.bool true) ∧ Below w.heap.size w w' := by
  have H0 := Lib.hid (awake_any P w)
  have HR := Lib.hid hr
  have H1 : Hid (∀ w1, Below w.heap.size w w1 → Calls Try.prog 7 #[.slice A l.length c] w1 (WPost w1 (wr l))) := Lib.hid fun w1 hb => P.write w1 l A c ((hr.below hb).more hb.size) hc hm
  unfold maxLen at hm
  clear hr
  rcases wr_cases l with ⟨he, hbs⟩ | ⟨hok, hlen, hri⟩
  · obtain ⟨R, hR⟩ : ∃ R, wr l = R := ⟨_, rfl⟩
    rw [hR] at H1 he hbs
    obtain ⟨r, bs⟩ := R
    simp only at he hbs
    subst hbs
    have d1 : ((r : Int) != 0) = true := by simp; omega
    clear hR he
    go_enter Try.func5, Try.ntmps5
    go_wp2_with fail
    refine H0.out.mono ?_
    rintro e w1 ⟨rfl, hb1⟩
    have H2 := Lib.hid (H1.out w1 hb1)
    have HB1 := Lib.hid hb1
    clear hb1 H0 H1
    go_wp2_with fail
    refine H2.out.mono ?_
    rintro e w2 ⟨v2, rfl, hown2, hb2⟩
    obtain ⟨A2, c2, rfl, _, _, _, _⟩ := own_rd hown2
    have HB2 := Lib.hid (HB1.out.trans (hb2.mono HB1.out.size))
    simp only [List.length_nil]
    clear hown2 hb2 H2
    go_wp2
    go_ret
    exact ⟨rfl, HB2.out⟩
  · rw [hok] at H1
    have HRI := Lib.hid hri
    obtain ⟨m, hmm⟩ : ∃ m, (pb l).length = m := ⟨_, rfl⟩
    have hm0 : 0 < m := by rw [← hmm]; exact pb_pos l
    have HMM := Lib.hid hmm
    clear hok hri hmm
    go_enter Try.func5, Try.ntmps5
    go_wp2_with fail
    refine H0.out.mono ?_
    rintro e w1 ⟨rfl, hb1⟩
    have H2 := Lib.hid (H1.out w1 hb1)
    have HB1 := Lib.hid hb1
    unfold WPost at H2
    simp only [HMM.out] at H2
    clear hb1 H0 H1
    go_wp2_with fail
    refine H2.out.mono ?_
    rintro e w2 ⟨v2, rfl, hown2, hb2⟩
    obtain ⟨g, c2, cur, rfl, hg, hc2, hm2, hcur, hsz⟩ := own_block hown2 hm0
    have HB2 := Lib.hid (HB1.out.trans (hb2.mono HB1.out.size))
    have HCUR : Hid (w2.heap[g]? = some (.cells cur 5 (0, 0)) ∧ m ≤ cur.size ∧ w.heap.size ≤ g) := Lib.hid ⟨hcur, hsz, Nat.le_trans HB1.out.size hg⟩
    have H3 : Hid (Calls Try.prog 8 #[.slice (some ⟨g, 0, none⟩) m c2] w2 (OPost IterR w2 (fun _ => 0) 1 l)) := Lib.hid (by
      have h := P.opens w2 (fun _ => 0) 1 l (some ⟨g, 0, none⟩) c2 hlen HRI.out (by
        have := (own_rd hown2)
        obtain ⟨A', c', e, _, _, hrd, _⟩ := this
        cases e
        exact hrd) (by rw [HMM.out]; exact hc2) hm2
      rw [HMM.out] at h
      exact h)
    unfold maxLen at hm2
    clear hown2 hb2 H2 hcur hsz hg
    go_wp2_with fail
    refine H3.out.mono ?_
    rintro e w3 ⟨p, K3, rfl, hi3, hb3, hk3⟩
    have HI3 : Hid (It IterR w w3 K3 p l 0) := Lib.hid ⟨hi3, HB2.out.trans (hb3.mono HB2.out.size), fun i hi => hk3 i (Nat.lt_of_lt_of_le hi HB2.out.size)⟩
    have HC3 : Hid (w3.heap[g]? = some (.cells cur 5 (0, 0)) ∧ m ≤ cur.size ∧ w.heap.size ≤ g ∧ K3 g = 0) := Lib.hid (by
      have hgl : g < w2.heap.size := (Array.getElem?_eq_some_iff.1 HCUR.out.1).1
      exact ⟨(hb3.block g hgl).trans HCUR.out.1, HCUR.out.2.1, HCUR.out.2.2, hk3 g hgl⟩)
    clear hi3 hb3 hk3 H3 HCUR
    go_wp2
    go_loopw [6] (fun vk wr => KRel1 IterR w K3 p g m l vk wr) (fun vk _ => m - (intOf vk).toNat)
    case atStart => exact ⟨0, Nat.zero_le _, rfl, Lib.hid ⟨HI3.out, cur, HC3.out.1, HC3.out.2.1⟩⟩
    case round =>
      obtain ⟨k, hk, rfl, hst⟩ := hrel
      clear HI3
      by_cases hlt : k < m
      · obtain ⟨hit, cu, hcu, hcs⟩ := hst.out
        have HIT := Lib.hid hit
        have HCU : Hid (wr.heap[g]? = some (.cells cu 5 (0, 0)) ∧ m ≤ cu.size) := Lib.hid ⟨hcu, hcs⟩
        have k1 := cell_in hcu (k := k) (by omega)
        have f1 := free_in (k := k) hcu
        have HNX : Hid (It IterR w (wr.setCell ⟨g, k, none⟩ (.int .u8 238)) K3 p l 0 ∧ ∃ cur, (wr.setCell ⟨g, k, none⟩ (.int .u8 238)).heap[g]? = some (.cells cur 5 (0, 0)) ∧ m ≤ cur.size) := Lib.hid (by
          have hoth := fun i (hi : i ≠ g) => heap_setCell_other wr ⟨g, k, none⟩ i (.int .u8 238) hi
          refine ⟨⟨P.keep HIT.out.it (by simp) (fun i _ hK => hoth i (fun e => by rw [e, HC3.out.2.2.2] at hK; cases hK)) (fun _ _ => rfl), ⟨HIT.out.below.os, HIT.out.below.tape, HIT.out.below.output, by simpa using HIT.out.below.size, fun i hi => (hoth i (by have := HC3.out.2.2.1; omega)).trans (HIT.out.below.block i hi)⟩, HIT.out.old⟩, _, heap_setCell_same wr g k _ _ (.int .u8 238) HCU.out.1, by simpa using HCU.out.2⟩)
        generalize cu[k] = ck at k1
        clear hit hcu hcs hst
        have j1 : (0 : Int) ≤ (k : Int) := by omega
        have j2 : (k : Int) < (m : Int) := by omega
        go_wp2
        go_roundw
        case rel => exact ⟨k + 1, by omega, by go_num, HNX⟩
        case measure => simp [intOf]; omega
      · obtain ⟨hit, _⟩ := hst.out
        have HIT := Lib.hid hit
        have H4 := Lib.hid (P.len wr K3 1 p l 0 hit.it)
        have hkm : ¬ (k : Int) < (m : Int) := by omega
        have hll : ((l.length : Int) != (l.length : Int)) = false := by simp
        clear hit hst hlt hk
        go_wp2_with fail
        refine H4.out.mono ?_
        rintro e w5 ⟨rfl, n5, rfl⟩
        have HI5 := Lib.hid (HIT.out.new P (below_q wr n5))
        obtain ⟨w5, hw5⟩ : ∃ w5, wr.drewN n5 = w5 := ⟨_, rfl⟩
        rw [hw5] at HI5
        rw [hw5]
        clear hw5 H4 HIT
        go_wp2
        go_loopw [7] (fun vk wr => KRel2 IterR w p l vk wr) (fun vk _ => l.length - (intOf vk).toNat)
        case atStart => exact ⟨0, Nat.zero_le _, rfl, Lib.hid ⟨K3, HI5.out⟩⟩
        case round =>
          obtain ⟨j, hj, rfl, hst⟩ := hrel
          clear HI5
          obtain ⟨K, hit⟩ := hst.out
          have HIT := Lib.hid hit
          by_cases hlt : j < l.length
          · obtain ⟨b, off, rfl, hbl, hcell⟩ := HR.out (by simp; omega)
            have k1 := cell64 hcell hlt
            have hx := l[j].toNat_lt
            have H6 := Lib.hid (P.seek wr K 1 p l j l[j].toNat j hit.it (by omega) (seek_here hlt (Nat.le_refl _)))
            have HB6 := Lib.hid (hit.below.cell (p := ⟨b, off + j, none⟩) hbl)
            unfold SPost at H6
            rw [num_at hlt, show decide (j < l.length) = true by simpa using hlt, show min (j + 1) l.length = j + 1 by omega] at H6
            have HLT := Lib.hid hlt
            generalize l[j].toNat = x at *
            have k2 := HB6.out.trans k1
            have hxx : ((x : Int) != (x : Int)) = false := by simp
            have j1 : (0 : Int) ≤ (j : Int) := by omega
            have j2 : (j : Int) < (l.length : Int) := by omega
            have HOLD : Hid (∀ K' w', Mv K K' (fun x => x = 1) wr w' → w'.cell? ⟨b, off + j, none⟩ = some (.int .u64 (x : Int))) := Lib.hid fun K' w' hm => (World.cell?_of_block (a := ⟨b, off + j, none⟩) (hm.block b (Nat.lt_of_lt_of_le hbl HIT.out.below.size) (fun e => by rw [HIT.out.old b hbl] at e; cases e))).trans k2
            clear hcell hit hst HB6 k1
            go_wp2_with fail
            refine H6.out.mono ?_
            rintro e w7 ⟨rfl, K7, hi7, hm7⟩
            have k3 := HOLD.out K7 w7 hm7
            have HI7 := Lib.hid (HIT.out.step hi7 hm7)
            clear hi7 hm7 H6 HOLD k2
            go_wp2
            go_roundw
            case rel => exact ⟨j + 1, by omega, by go_num, Lib.hid ⟨K7, HI7.out⟩⟩
            case measure => simp [intOf]; omega
          · have H7 := Lib.hid (P.seekNil wr 0)
            have H8 := Lib.hid (P.lenNil wr)
            have hjl : ¬ (j : Int) < (l.length : Int) := by omega
            clear hit hst hlt hj
            go_wp2_with fail
            refine H7.out.mono ?_
            rintro e w8 ⟨rfl, rfl⟩
            go_wp2_with fail
            refine H8.out.mono ?_
            rintro e w8 ⟨rfl, n8, rfl⟩
            have HBB := Lib.hid (HIT.out.below.trans ((below_q wr n8).mono HIT.out.below.size))
            go_wp2
            go_ret
            exact ⟨rfl, HBB.out⟩
end Go.Proofs.Ytfojpbbmicmooaa.PsKeepsW
