/- label.Canon. Conditions: none but that the list lies in memory. -/
import Derived.Test.YtngkhcbnndkdeaaLpSort
import Derived.Test.YtngkhcbnndkdeaaLbCanon
namespace Go.Proofs.Ytngkhcbnndkdeaa.LpCanon
open Go Go.RowKit Words AppN Less LbSpec LbText LbMem LbRef LbCmp LbCanon UtOwn LpOrd LpBoth LpCmp LpCan1 LpCopy LpSort

theorem lerr_len {x : Lab} (h : lerr x = 0) : x.1.length ≤ 32 ∧ x.2.length ≤ 256 := by
  have hn := lerr_name h
  refine ⟨((name_iff x.1).1 hn).2.1, ?_⟩
  unfold lerr at h
  rw [if_pos hn] at h
  split at h
  · cases h
  · omega
theorem firstErr_cons (x : Lab) (l : List Lab) : firstErr (x :: l) = if lerr x = 0 then firstErr l else lerr x := rfl
theorem own_row {w : World} {base M n : Nat} {l : List Lab} (h : Row w M l) (hb : base ≤ M) (hn : n = l.length) (hm : n ≤ 65536) : w.ownsRow base 37 2 (.slice (some ⟨M, 0, none⟩) n n) n (flat l) := by
  subst hn
  refine ⟨flat_len l, .inr ⟨M, l.length, _, rfl, hb, h, Nat.le_refl _, by unfold maxLen; omega, by simp [flat_len], ?_⟩⟩
  rw [← flat_len]
  simp
def CRl (w : World) (l : List Lab) (v : Value) (wr : World) : Prop := ∃ k : Nat, k ≤ l.length ∧ v = .int .i64 (k : Int) ∧ Hid (firstErr l = firstErr (l.drop k)) ∧ Hid (Below w.heap.size w wr)

set_option maxHeartbeats 6400000 in
set_option maxRecDepth 100000 in
theorem pcanon_any (w : World) (l : List Lab) (A : Option Addr) (c m : Nat) (h : Lb w A m c l) :
    Calls Try.prog 8 #[.slice A m c] w (CPost (canon l) w) := by
  have hLB := h
  obtain ⟨rfl, hc, hm, hr⟩ := h
  unfold maxLen at hm
  have HR := Lib.hid hr
  have HLB := Lib.hid hLB
  clear hr hLB
  by_cases hbig : 16 < l.length
  · have HE : Hid (canon l = (3, [])) := Lib.hid (by unfold canon; rw [if_pos hbig])
    have j : (16 : Int) < (l.length : Int) := by omega
    clear hbig
    go_enter Try.func8, Try.ntmps8
    go_wp2
    go_ret2
    exact cpost_err HE.out rfl (Below.refl _ _)
  · have j : ¬ (16 : Int) < (l.length : Int) := by omega
    have h16 : l.length ≤ 16 := by omega
    clear hbig
    go_enter Try.func8, Try.ntmps8
    go_wp2
    go_loopw [13] (fun v wr => CRl w l v wr) (fun v _ => l.length - (intOf v).toNat)
    case atStart => exact ⟨0, Nat.zero_le _, rfl, Lib.hid (by simp), Lib.hid (Below.refl _ _)⟩
    case round =>
      obtain ⟨k, hk, rfl, HC, HB⟩ := hrel
      by_cases hlt : k < l.length
      · obtain ⟨g1, o1, rfl, hg1, hc1⟩ := HR.out (by rw [flat_len]; omega)
        obtain ⟨p0, p1⟩ := cellsL hc1 hlt
        have hz1 : g1 < wr.heap.size := Nat.lt_of_lt_of_le hg1 HB.out.size
        have k0 := cell_up HB.out (p := ⟨g1, o1 + k * 2, none⟩) hg1 p0
        have k1 := cell_up HB.out (p := ⟨g1, o1 + k * 2 + 1, none⟩) hg1 p1
        obtain ⟨x, hx⟩ : ∃ x, l[k] = x := ⟨_, rfl⟩
        rw [hx] at k0 k1
        have HD : Hid (firstErr l = if lerr x = 0 then firstErr (l.drop (k + 1)) else lerr x) := Lib.hid (by rw [HC.out, List.drop_eq_getElem_cons hlt, hx, firstErr_cons])
        have HCK := fun w => Lib.hid (check_any x w)
        obtain ⟨q, hq⟩ : ∃ q, lerr x = q := ⟨_, rfl⟩
        rw [hq] at HD
        simp only [hq] at HCK
        clear hc1 p0 p1 hx HC hq
        unfold aggL S8 at HCK
        obtain ⟨x1, x2⟩ := x
        simp only at k0 k1 HCK
        have HBX : ∀ o, Hid (Below w.heap.size w (wr.alloc o)) := fun o => Lib.hid (HB.out.alloc HB.out.size o)
        by_cases hq0 : q = 0
        · rw [if_pos hq0] at HD
          have hj : ((q : Int) != 0) = false := by simp [hq0]
          clear hq0
          go_wp2_with fail
          refine (HCK _).out.mono ?_
          rintro e w1 ⟨rfl, hb1⟩
          have HB1 : Hid (Below w.heap.size w w1) := Lib.hid ((HBX _).out.trans (hb1.mono (HBX _).out.size))
          clear hb1 HCK
          go_wp2
          go_roundw
          case rel => exact ⟨k + 1, by omega, by go_num, Lib.hid HD.out, HB1⟩
          case measure => simp [intOf]; omega
        · rw [if_neg hq0] at HD
          have hj : ((q : Int) != 0) = true := by simp [hq0]
          have HE : Hid (canon l = (q, [])) := Lib.hid (by unfold canon; rw [if_neg (by omega), if_pos (by rw [HD.out]; exact hq0), HD.out])
          clear hq0
          go_wp2_with fail
          refine (HCK _).out.mono ?_
          rintro e w1 ⟨rfl, hb1⟩
          have HB1 : Hid (Below w.heap.size w w1) := Lib.hid ((HBX _).out.trans (hb1.mono (HBX _).out.size))
          clear hb1 HCK
          go_wp2
          go_ret2
          exact cpost_err HE.out rfl HB1.out
      · have hkl : k = l.length := by omega
        have HZ : Hid (firstErr l = 0) := Lib.hid (by rw [HC.out, hkl, List.drop_length]; rfl)
        have HLB2 : Hid (Lb wr A l.length c l) := Lib.hid ⟨rfl, hc, HLB.out.2.2.1, (HR.out.below HB.out).more HB.out.size⟩
        have HCP := Lib.hid (copies_any wr l A l.length c HLB2.out (by omega) (fun x hx => by have := lerr_len (firstErr_zero.1 HZ.out x hx); omega))
        clear HC hlt
        subst hkl
        go_wp2_with fail
        refine HCP.out.mono ?_
        rintro e w1 ⟨rfl, hrow, hb1⟩
        have HB1 : Hid (Below w.heap.size w w1) := Lib.hid (HB.out.trans (hb1.mono HB.out.size))
        have HS := Lib.hid (sort_any w1 wr.heap.size l hrow (by omega))
        have hge : w.heap.size ≤ wr.heap.size := HB.out.size
        clear hrow hb1 HCP HB
        go_wp2_with fail
        refine HS.out.mono ?_
        rintro e w2 ⟨rfl, L, hp, hs, hrow, hb2⟩
        have hlen : L.length = l.length := hp.length_eq
        have HB2 : Hid (Below w.heap.size w w2) := Lib.hid (HB1.out.trans (hb2.mono hge))
        have HT := Lib.hid (twins_any w2 L (some ⟨wr.heap.size, 0, none⟩) l.length l.length (hrow.lb hlen.symm (Nat.le_refl _) (by unfold maxLen; omega)))
        have HROW := Lib.hid hrow
        have HCS := Lib.hid (canon_sorted hp hs h16 HZ.out)
        have HLEN := Lib.hid hlen
        obtain ⟨b, hb⟩ : ∃ b, twins L = b := ⟨_, rfl⟩
        rw [hb] at HT HCS
        clear hp hs hrow hb2 hlen hb HS HB1
        cases b with
        | true =>
          go_wp2_with fail
          refine HT.out.mono ?_
          rintro e w3 ⟨rfl, hb3⟩
          have HB3 : Hid (Below w.heap.size w w3) := Lib.hid (HB2.out.trans (hb3.mono HB2.out.size))
          clear hb3 HT
          go_wp2
          go_ret2
          exact cpost_err (by rw [HCS.out]; rfl) rfl HB3.out
        | false =>
          go_wp2_with fail
          refine HT.out.mono ?_
          rintro e w3 ⟨rfl, hb3⟩
          have HB3 : Hid (Below w.heap.size w w3) := Lib.hid (HB2.out.trans (hb3.mono HB2.out.size))
          have HR3 := Lib.hid (HROW.out.below hb3 HROW.out.lt)
          clear hb3 HT HROW
          go_wp2
          go_ret2
          have hcs : canon l = (0, L) := by rw [HCS.out]; rfl
          rw [hcs]
          refine ⟨_, rfl, ?_, HB3.out⟩
          show World.ownsRow _ _ _ _ _ L.length (flat L)
          rw [HLEN.out]
          exact own_row HR3.out hge HLEN.out.symm (by omega)
end Go.Proofs.Ytngkhcbnndkdeaa.LpCanon
