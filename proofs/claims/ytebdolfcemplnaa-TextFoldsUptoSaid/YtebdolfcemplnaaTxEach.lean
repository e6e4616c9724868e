/- The contracts of the program's eachRun, with either of the two functions that it is handed: the words of the runs, or of the inner ones, are appended in order. Condition: the text has at most 2^30 bytes. -/
import Derived.Test.YtebdolfcemplnaaTxClo
import Derived.WalkSmall
namespace Go.Proofs.Ytebdolfcemplnaa.TxEach
open Go Go.RowKit Words App UtSpec UtOwn UtSmall UtRange TxSpec TxAll Less TxOnce TxWord TxStep TxClo

theorem Box.iter {s : ByteArray} {w0 wr : World} {L : List (List UInt8)} (h : Box s w0 L wr) (p : Nat) : Box s w0 L (wr.iterAt (w0.heap.size + 2) s p) := by
  obtain ⟨A, c, h1, h2⟩ := h.list
  exact ⟨Lib.below_iterAt h.below (by omega) s p, by rw [Lib.iterAt_size]; exact h.size, (Lib.iterAt_other _ _ _ _ _ (by omega)).trans h.text, A, c, (Lib.iterAt_other _ _ _ _ _ (by omega)).trans h1, ownsRow_iterAt h2 (by omega) s p⟩
def ERel (b : Bool) (s : ByteArray) (T : List (List UInt8)) (w0 : World) (v : Value) (wr : World) : Prop :=
  ∃ (p : Nat) (L : List (List UInt8)), Hid (Box s w0 L wr) ∧ wr.heap[w0.heap.size + 2]? = some (.stringIter s p) ∧ p ≤ s.size ∧ L.length ≤ p ∧
    ((v = .int .i64 (-1) ∧ Hid (Out b s.data.toList T L p)) ∨ ∃ f cur, v = .int .i64 ((f : Nat) : Int) ∧ f < p ∧ Hid (In b s.data.toList T L f p cur))
/-- What the maker lays ahead of the way. -/
structure Made (s : ByteArray) (w0 w1 : World) : Prop where
  size : w1.heap.size = w0.heap.size + 2
  below : Below w0.heap.size w0 w1
  text : w1.heap[w0.heap.size]? = some (.cells #[.string s] 9 (0, 0))
  list : w1.heap[w0.heap.size + 1]? = some (.cells #[.slice none 0 0] 23 (0, 0))
theorem Made.box {s : ByteArray} {w0 w1 : World} (h : Made s w0 w1) : Box s w0 [] (w1.alloc (.stringIter s 0)) := by
  have hs := h.size
  exact ⟨h.below.alloc (by omega) _, by simp; omega, (Below.heap_alloc w1 _ _ (by omega)).trans h.text, none, 0, (Below.heap_alloc w1 _ _ (by omega)).trans h.list, World.ownsRow_nil ..⟩
theorem pword_at (r : Nat) (b : Bool) (hb : wd r = b) (w : World) : Calls Try.prog 39 #[.int .i32 (r : Int)] w fun e w' => e = .returned (.bool b) ∧ w = w' := by
  subst hb
  exact word_any (r : Int) w

set_option maxHeartbeats 6400000 in
set_option maxRecDepth 100000 in
theorem eachW (s : ByteArray) (w0 w1 : World) (hm : Made s w0 w1) (hs : s.size ≤ 1073741824) :
    Calls Try.prog 26 #[.string s, .func (.func 27) #[] #[.pointer (some ⟨w0.heap.size + 1, 0, none⟩), .pointer (some ⟨w0.heap.size, 0, none⟩)]] w1 fun e w' => e = .returned (.tuple #[]) ∧ Box s w0 (sel false (runsA [] false (rs s.data.toList))) w' := by
  obtain ⟨T, hT⟩ : ∃ T, sel false (runsA [] false (rs s.data.toList)) = T := ⟨_, rfl⟩
  rw [hT]
  have HT := Lib.hid hT
  have HM := Lib.hid hm
  have hsz := hm.size
  have e2 : s.data.toList.length = s.size := by simp
  have E2 := Lib.hid e2
  have HCL := fun wr L f p cur hr hb hL => Lib.hid (cloW s w0 wr L f p cur hr hb hs hL)
  unfold CPost at HCL
  obtain ⟨q, hq⟩ : ∃ q, w0.heap.size = q := ⟨_, rfl⟩
  have HQ := Lib.hid hq
  rw [hq] at HCL hsz ⊢
  clear hT hm e2 hq
  go_enter Try.func26, Try.ntmps26
  go_wp2
  go_loopw [4] (fun v wr => ERel false s T w0 v wr) (fun _ wr => s.size - wr.iterPos (q + 2))
  case atStart =>
    refine ⟨0, [], Lib.hid HM.out.box, ?_, Nat.zero_le _, Nat.le_refl _, .inl ⟨rfl, Lib.hid ?_⟩⟩
    · rw [HQ.out, ← hsz]
      exact World.iter_heap w1 s 0
    · unfold Out
      rw [List.nil_append, List.drop_zero]
      exact HT.out
  case round =>
    obtain ⟨p, L, HB, hit, hps, hL, hway⟩ := hrel
    rw [HQ.out] at hit
    by_cases hp : p < s.size
    · obtain ⟨r, n, hd⟩ : ∃ r n, Utf8.decode s p = (r, n) := ⟨_, _, rfl⟩
      have hnx : ∀ ty, (Instr.next (.pointer (some ⟨q + 2, 0, none⟩)) true ty).run Try.prog wr = _ := fun ty => Lib.run_next_any_at wr (q + 2) s p ty hit hp
      rw [hd] at hnx
      obtain ⟨hdd, hr, hn1, hn2, _, _⟩ := rune_step hp hd
      have HD := Lib.hid hdd
      have HR := Lib.hid hr
      have hit2 := Lib.iterAt_heap wr (q + 2) s p (p + n) hit
      have HB2 : Hid (Box s w0 L (wr.iterAt (q + 2) s (p + n))) := Lib.hid (by rw [← HQ.out]; exact Box.iter HB.out (p + n))
      obtain ⟨bw, hbw⟩ : ∃ bw, wd r = bw := ⟨_, rfl⟩
      have HW := fun wx => Lib.hid (pword_at r bw hbw wx)
      have HBW := Lib.hid hbw
      have hms : s.size - (wr.iterAt (q + 2) s (p + n)).iterPos (q + 2) < s.size - wr.iterPos (q + 2) := by
        simp only [World.iterPos, hit2, hit]
        omega
      have HMS := Lib.hid hms
      clear hd hdd hr hbw hms HB
      rcases hway with ⟨rfl, HO⟩ | ⟨f, cur, rfl, hfp, HI⟩
      · cases bw with
        | true =>
          have HI2 : Hid (In false s.data.toList T L p (p + n) [r]) := Lib.hid (out_in HO.out HR.out HD.out (by rw [E2.out]; exact hp) (by rw [E2.out]; exact hn2) HBW.out)
          clear HO
          go_wp2_with fail
          refine (HW _).out.mono ?_
          rintro e w' ⟨rfl, rfl⟩
          go_wp2
          go_roundw
          case rel => exact ⟨p + n, L, HB2, by rw [HQ.out]; exact hit2, hn2, by omega, .inr ⟨p, [r], rfl, by omega, HI2⟩⟩
          case measure => exact HMS.out
        | false =>
          have HO2 : Hid (Out false s.data.toList T L (p + n)) := Lib.hid (out_out HO.out HR.out hn1 HBW.out)
          clear HO
          go_wp2_with fail
          refine (HW _).out.mono ?_
          rintro e w' ⟨rfl, rfl⟩
          go_wp2
          go_roundw
          case rel => exact ⟨p + n, L, HB2, by rw [HQ.out]; exact hit2, hn2, by omega, .inl ⟨rfl, HO2⟩⟩
          case measure => exact HMS.out
      · have hf0 : ¬ ((f : Int) < 0) := by omega
        have hf1 : (0 : Int) ≤ (f : Int) := by omega
        cases bw with
        | true =>
          have HI2 : Hid (In false s.data.toList T L f (p + n) (cur ++ [r])) := Lib.hid (in_in HI.out HR.out HD.out (by rw [E2.out]; exact hp) (by rw [E2.out]; exact hn2) HBW.out)
          clear HI
          go_wp2_with fail
          refine (HW _).out.mono ?_
          rintro e w' ⟨rfl, rfl⟩
          go_wp2
          go_roundw
          case rel => exact ⟨p + n, L, HB2, by rw [HQ.out]; exact hit2, hn2, by omega, .inr ⟨f, cur ++ [r], rfl, by omega, HI2⟩⟩
          case measure => exact HMS.out
        | false =>
          have HO2 : Hid (Out false s.data.toList T (L ++ adds false f p s.size cur) (p + n)) := Lib.hid (by
            have h := in_out HI.out HR.out (by rw [E2.out]; exact hp) hn1 HBW.out
            rw [E2.out] at h
            exact h)
          have HC := HCL (wr.iterAt (q + 2) s (p + n)) L f p cur HI.out.1 HB2.out (by omega)
          have hal := adds_len false f p s.size cur
          clear HI
          generalize adds false f p s.size cur = D at *
          go_wp2_with fail
          refine (HW _).out.mono ?_
          rintro e w' ⟨rfl, rfl⟩
          go_wp2_with fail
          refine HC.out.mono ?_
          rintro e w3 ⟨rfl, hb3, hi3⟩
          have HB3 := Lib.hid hb3
          have hi4 := hi3.trans hit2
          have HMS2 : Hid (s.size - w3.iterPos (q + 2) < s.size - wr.iterPos (q + 2)) := Lib.hid (by
            have h := HMS.out
            simp only [World.iterPos, hit2, hi4] at h ⊢
            exact h)
          clear hb3 hi3
          go_wp2
          go_roundw
          case rel => exact ⟨p + n, L ++ D, HB3, by rw [HQ.out]; exact hi4, hn2, by rw [List.length_append]; omega, .inl ⟨rfl, HO2⟩⟩
          case measure => exact HMS2.out
    · have hnx : ∀ ty, (Instr.next (.pointer (some ⟨q + 2, 0, none⟩)) true ty).run Try.prog wr = _ := fun ty => Lib.run_next_end_at wr (q + 2) s p ty hit hp
      obtain rfl : p = s.size := by omega
      rcases hway with ⟨rfl, HO⟩ | ⟨f, cur, rfl, hfp, HI⟩
      · have HE : Hid (L = T) := Lib.hid (out_end HO.out (by rw [E2.out]; exact Nat.le_refl _))
        clear HO hp
        go_wp2
        go_end0
        exact ⟨rfl, by rw [← HE.out]; exact HB.out⟩
      · have hf1 : (0 : Int) ≤ (f : Int) := by omega
        have HE : Hid (L ++ adds false f s.size s.size cur = T) := Lib.hid (by
          have h := in_end HI.out (by rw [E2.out])
          rw [E2.out] at h
          exact h)
        have HC := HCL wr L f s.size cur HI.out.1 HB.out (by omega)
        clear HI hp
        generalize adds false f s.size s.size cur = D at *
        go_wp2_with fail
        refine HC.out.mono ?_
        rintro e w3 ⟨rfl, hb3, _⟩
        have HB3 := Lib.hid hb3
        clear hb3
        go_wp2
        go_end0
        exact ⟨rfl, by rw [← HE.out]; exact HB3.out⟩

set_option maxHeartbeats 6400000 in
set_option maxRecDepth 100000 in
theorem eachI (s : ByteArray) (w0 w1 : World) (hm : Made s w0 w1) (hs : s.size ≤ 1073741824) :
    Calls Try.prog 26 #[.string s, .func (.func 30) #[] #[.pointer (some ⟨w0.heap.size, 0, none⟩), .pointer (some ⟨w0.heap.size + 1, 0, none⟩)]] w1 fun e w' => e = .returned (.tuple #[]) ∧ Box s w0 (sel true (runsA [] false (rs s.data.toList))) w' := by
  obtain ⟨T, hT⟩ : ∃ T, sel true (runsA [] false (rs s.data.toList)) = T := ⟨_, rfl⟩
  rw [hT]
  have HT := Lib.hid hT
  have HM := Lib.hid hm
  have hsz := hm.size
  have e2 : s.data.toList.length = s.size := by simp
  have E2 := Lib.hid e2
  have HCL := fun wr L f p cur hr hb hL => Lib.hid (cloI s w0 wr L f p cur hr hb hs hL)
  unfold CPost at HCL
  obtain ⟨q, hq⟩ : ∃ q, w0.heap.size = q := ⟨_, rfl⟩
  have HQ := Lib.hid hq
  rw [hq] at HCL hsz ⊢
  clear hT hm e2 hq
  go_enter Try.func26, Try.ntmps26
  go_wp2
  go_loopw [4] (fun v wr => ERel true s T w0 v wr) (fun _ wr => s.size - wr.iterPos (q + 2))
  case atStart =>
    refine ⟨0, [], Lib.hid HM.out.box, ?_, Nat.zero_le _, Nat.le_refl _, .inl ⟨rfl, Lib.hid ?_⟩⟩
    · rw [HQ.out, ← hsz]
      exact World.iter_heap w1 s 0
    · unfold Out
      rw [List.nil_append, List.drop_zero]
      exact HT.out
  case round =>
    obtain ⟨p, L, HB, hit, hps, hL, hway⟩ := hrel
    rw [HQ.out] at hit
    by_cases hp : p < s.size
    · obtain ⟨r, n, hd⟩ : ∃ r n, Utf8.decode s p = (r, n) := ⟨_, _, rfl⟩
      have hnx : ∀ ty, (Instr.next (.pointer (some ⟨q + 2, 0, none⟩)) true ty).run Try.prog wr = _ := fun ty => Lib.run_next_any_at wr (q + 2) s p ty hit hp
      rw [hd] at hnx
      obtain ⟨hdd, hr, hn1, hn2, _, _⟩ := rune_step hp hd
      have HD := Lib.hid hdd
      have HR := Lib.hid hr
      have hit2 := Lib.iterAt_heap wr (q + 2) s p (p + n) hit
      have HB2 : Hid (Box s w0 L (wr.iterAt (q + 2) s (p + n))) := Lib.hid (by rw [← HQ.out]; exact Box.iter HB.out (p + n))
      obtain ⟨bw, hbw⟩ : ∃ bw, wd r = bw := ⟨_, rfl⟩
      have HW := fun wx => Lib.hid (pword_at r bw hbw wx)
      have HBW := Lib.hid hbw
      have hms : s.size - (wr.iterAt (q + 2) s (p + n)).iterPos (q + 2) < s.size - wr.iterPos (q + 2) := by
        simp only [World.iterPos, hit2, hit]
        omega
      have HMS := Lib.hid hms
      clear hd hdd hr hbw hms HB
      rcases hway with ⟨rfl, HO⟩ | ⟨f, cur, rfl, hfp, HI⟩
      · cases bw with
        | true =>
          have HI2 : Hid (In true s.data.toList T L p (p + n) [r]) := Lib.hid (out_in HO.out HR.out HD.out (by rw [E2.out]; exact hp) (by rw [E2.out]; exact hn2) HBW.out)
          clear HO
          go_wp2_with fail
          refine (HW _).out.mono ?_
          rintro e w' ⟨rfl, rfl⟩
          go_wp2
          go_roundw
          case rel => exact ⟨p + n, L, HB2, by rw [HQ.out]; exact hit2, hn2, by omega, .inr ⟨p, [r], rfl, by omega, HI2⟩⟩
          case measure => exact HMS.out
        | false =>
          have HO2 : Hid (Out true s.data.toList T L (p + n)) := Lib.hid (out_out HO.out HR.out hn1 HBW.out)
          clear HO
          go_wp2_with fail
          refine (HW _).out.mono ?_
          rintro e w' ⟨rfl, rfl⟩
          go_wp2
          go_roundw
          case rel => exact ⟨p + n, L, HB2, by rw [HQ.out]; exact hit2, hn2, by omega, .inl ⟨rfl, HO2⟩⟩
          case measure => exact HMS.out
      · have hf0 : ¬ ((f : Int) < 0) := by omega
        have hf1 : (0 : Int) ≤ (f : Int) := by omega
        cases bw with
        | true =>
          have HI2 : Hid (In true s.data.toList T L f (p + n) (cur ++ [r])) := Lib.hid (in_in HI.out HR.out HD.out (by rw [E2.out]; exact hp) (by rw [E2.out]; exact hn2) HBW.out)
          clear HI
          go_wp2_with fail
          refine (HW _).out.mono ?_
          rintro e w' ⟨rfl, rfl⟩
          go_wp2
          go_roundw
          case rel => exact ⟨p + n, L, HB2, by rw [HQ.out]; exact hit2, hn2, by omega, .inr ⟨f, cur ++ [r], rfl, by omega, HI2⟩⟩
          case measure => exact HMS.out
        | false =>
          have HO2 : Hid (Out true s.data.toList T (L ++ adds true f p s.size cur) (p + n)) := Lib.hid (by
            have h := in_out HI.out HR.out (by rw [E2.out]; exact hp) hn1 HBW.out
            rw [E2.out] at h
            exact h)
          have HC := HCL (wr.iterAt (q + 2) s (p + n)) L f p cur HI.out.1 HB2.out (by omega)
          have hal := adds_len true f p s.size cur
          clear HI
          generalize adds true f p s.size cur = D at *
          go_wp2_with fail
          refine (HW _).out.mono ?_
          rintro e w' ⟨rfl, rfl⟩
          go_wp2_with fail
          refine HC.out.mono ?_
          rintro e w3 ⟨rfl, hb3, hi3⟩
          have HB3 := Lib.hid hb3
          have hi4 := hi3.trans hit2
          have HMS2 : Hid (s.size - w3.iterPos (q + 2) < s.size - wr.iterPos (q + 2)) := Lib.hid (by
            have h := HMS.out
            simp only [World.iterPos, hit2, hi4] at h ⊢
            exact h)
          clear hb3 hi3
          go_wp2
          go_roundw
          case rel => exact ⟨p + n, L ++ D, HB3, by rw [HQ.out]; exact hi4, hn2, by rw [List.length_append]; omega, .inl ⟨rfl, HO2⟩⟩
          case measure => exact HMS2.out
    · have hnx : ∀ ty, (Instr.next (.pointer (some ⟨q + 2, 0, none⟩)) true ty).run Try.prog wr = _ := fun ty => Lib.run_next_end_at wr (q + 2) s p ty hit hp
      obtain rfl : p = s.size := by omega
      rcases hway with ⟨rfl, HO⟩ | ⟨f, cur, rfl, hfp, HI⟩
      · have HE : Hid (L = T) := Lib.hid (out_end HO.out (by rw [E2.out]; exact Nat.le_refl _))
        clear HO hp
        go_wp2
        go_end0
        exact ⟨rfl, by rw [← HE.out]; exact HB.out⟩
      · have hf1 : (0 : Int) ≤ (f : Int) := by omega
        have HE : Hid (L ++ adds true f s.size s.size cur = T) := Lib.hid (by
          have h := in_end HI.out (by rw [E2.out])
          rw [E2.out] at h
          exact h)
        have HC := HCL wr L f s.size cur HI.out.1 HB.out (by omega)
        clear HI hp
        generalize adds true f s.size s.size cur = D at *
        go_wp2_with fail
        refine HC.out.mono ?_
        rintro e w3 ⟨rfl, hb3, _⟩
        have HB3 := Lib.hid hb3
        clear hb3
        go_wp2
        go_end0
        exact ⟨rfl, by rw [← HE.out]; exact HB3.out⟩
end Go.Proofs.Ytebdolfcemplnaa.TxEach
