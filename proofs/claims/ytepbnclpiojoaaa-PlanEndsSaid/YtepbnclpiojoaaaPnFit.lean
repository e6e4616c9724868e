/- The contract of the program's fit: whether the records of the segments at the places are at most 65536 together. Conditions: the segments and the places lie in memory, each place is one of the segments', each count an int. -/
import Derived.Test.YtepbnclpiojoaaaPnTier
namespace Go.Proofs.Ytepbnclpiojoaaa.PnFit
open Go Go.RowKit Words AppN PnSpec SgMem PnRef PnGone PnMerge PnSame PnLaw

theorem sum_more (cs : List Int) (L M : List Nat) : sumOf cs L ≤ sumOf cs (L ++ M) := by
  have h := sumOf_low cs M
  unfold sumOf at *
  rw [List.map_append, List.sum_append]
  omega
theorem sum_take (cs : List Int) (L : List Nat) (k : Nat) : sumOf cs (L.take k) ≤ sumOf cs L := by
  have := sum_more cs (L.take k) (L.drop k)
  rwa [List.take_append_drop] at this
theorem sum_next (cs : List Int) {L : List Nat} {k : Nat} (h : k < L.length) : sumOf cs (L.take (k + 1)) = sumOf cs (L.take k) + max (cs.getD L[k] 0) 0 := by
  rw [List.take_succ_eq_append_getElem h, sumOf_snoc]
def FiRel (W : World) (cs : List Int) (L : List Nat) (v u : Value) (wr : World) : Prop :=
  ∃ (k : Nat) (r : Int), k ≤ L.length ∧ v = .int .i64 r ∧ u = .int .i64 (k : Int) ∧ 0 ≤ r ∧ r ≤ 65536 ∧ Hid (65536 - r = sumOf cs (L.take k)) ∧ Hid (Below W.heap.size W wr)

set_option maxHeartbeats 3200000 in
set_option maxRecDepth 100000 in
theorem fit_any (w : World) (s sp : Sl) (l : List Sg) (L : List Nat) (hs : Sgs w s l) (hL : Ls w sp L) (hlt : ∀ i ∈ L, i < l.length) (hok : ∀ x ∈ l, In64 x.count) (hl : l.length * 32 ≤ 140737488355328) :
    Calls Try.prog 20 #[slV s, slV sp] w fun e w' => e = .returned (.bool (decide (sumOf (l.map Sg.count) L ≤ 65536))) ∧ Below w.heap.size w w' := by
  obtain ⟨A, n, c⟩ := s
  obtain ⟨A2, n2, c2⟩ := sp
  have HRD := Lib.hid hs.rd
  have hn := hs.len
  have hc := hs.le
  have hm := hs.cap
  have HRL := Lib.hid hL.rd
  have hn2 := hL.len
  have hc2 := hL.le
  have hm2 := hL.cap
  simp only at hn hc hm hn2 hc2 hm2
  unfold slV
  unfold maxLen at hm hm2
  subst hn hn2
  have HOK := Lib.hid hok
  have HLT := Lib.hid hlt
  obtain ⟨b, hb⟩ : ∃ b, decide (sumOf (l.map Sg.count) L ≤ 65536) = b := ⟨_, rfl⟩
  rw [hb]
  have HB := Lib.hid hb
  clear hs hL hok hlt hb
  go_enter Try.func20, Try.ntmps20
  go_wp2
  go_loopw [5, 11] (fun v u wr => FiRel w (l.map Sg.count) L v u wr) (fun _ u _ => L.length - (intOf u).toNat)
  case atStart => exact ⟨0, 65536, Nat.zero_le _, rfl, rfl, by omega, by omega, Lib.hid (by simp [sumOf]), Lib.hid (Below.refl _ _)⟩
  case round =>
    obtain ⟨k, r, hk, rfl, rfl, hr0, hr1, HS, HBr⟩ := hrel
    by_cases hlt : k < L.length
    · have hi := HLT.out _ (List.getElem_mem hlt)
      have HNX := Lib.hid (sum_next (l.map Sg.count) hlt)
      have HTK := Lib.hid (sum_take (l.map Sg.count) L (k + 1))
      obtain ⟨g2, o2, rfl, hg2, hcl⟩ := HRL.out (by simp; omega)
      have l0 := cell_up HBr.out (p := ⟨g2, o2 + k, none⟩) hg2 (cellIV hcl hlt)
      clear hcl HRL
      generalize L[k] = i at *
      obtain ⟨g, off, rfl, hg, hcs⟩ := HRD.out (by rw [flatS_len]; omega)
      obtain ⟨p0, p1, p2, p3⟩ := cellsS hcs hi
      have k1 := cell_up HBr.out (p := ⟨g, off + i * 4 + 1, none⟩) hg p1
      have hx64 := HOK.out _ (List.getElem_mem hi)
      have hD : (l.map Sg.count).getD i 0 = (l[i]).count := by simp [List.getD_eq_getElem?_getD, hi]
      rw [hD] at HNX
      clear hcs p0 p1 p2 p3 hD HRD
      generalize (l[i]).count = x at *
      have hx1 := hx64.1
      have hx2 := hx64.2
      have d1 : decide ((k : Int) < (L.length : Int)) = true := decide_eq_true (by omega)
      by_cases e : r < max x 0
      · have hd : decide (r < max x 0) = true := decide_eq_true e
        have HX : Hid (b = false) := Lib.hid (by
          rw [← HB.out, decide_eq_false_iff_not]
          have h1 := HNX.out
          have h2 := HTK.out
          have h3 := HS.out
          omega)
        clear HNX HTK HS hx64
        go_wp2
        go_ret
        rw [HX.out]
        exact ⟨rfl, HBr.out⟩
      · have hd : decide (r < max x 0) = false := decide_eq_false e
        have HX : Hid (65536 - (r - max x 0) = sumOf (l.map Sg.count) (L.take (k + 1))) := Lib.hid (by
          have h1 := HNX.out
          have h3 := HS.out
          omega)
        have hw : IntKind.i64.wrap (r - max x 0) = r - max x 0 := IntWalk.i64_in _ (by omega)
        have hy1 : 0 ≤ r - max x 0 := by omega
        have hy2 : r - max x 0 ≤ 65536 := by omega
        clear HNX HTK HS hx64
        go_wp2
        exact ⟨⟨k + 1, r - max x 0, hlt, rfl, by go_num, hy1, hy2, HX, HBr⟩, by simp [intOf]; omega⟩
    · have hd : decide ((k : Int) < (L.length : Int)) = false := decide_eq_false (by omega)
      have HX : Hid (b = true) := Lib.hid (by
        rw [← HB.out, decide_eq_true_eq]
        have h3 := HS.out
        rw [List.take_of_length_le (by omega)] at h3
        omega)
      go_wp2
      go_ret
      rw [HX.out]
      exact ⟨rfl, HBr.out⟩
end Go.Proofs.Ytepbnclpiojoaaa.PnFit
