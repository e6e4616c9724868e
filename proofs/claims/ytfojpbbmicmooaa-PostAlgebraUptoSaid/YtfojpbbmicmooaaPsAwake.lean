/- The statements' own 'awake' of stage 11, over the contracts of the program's postings. -/
import Derived.Test.YtfojpbbmicmooaaPsLaw
import Derived.Test.YtfojpbbmicmooaaNeed
import Derived.Test.YtfojpbbmicmooaaAppend
import Derived.WalkLawsBesides
namespace Go.Proofs.Ytfojpbbmicmooaa.PsAwake
open Go Go.RowKit Words PkSpec PsSpec Km PsLaw

theorem own_rd {w : World} {base n : Nat} {e : TypeId} {v : Value} {xs : List Value} (h : w.ownsRow base e 1 v n xs) : ∃ A c, v = .slice A n c ∧ n ≤ c ∧ c ≤ maxLen ∧ Rd w w.heap.size A xs ∧ ∀ b off, A = some ⟨b, off, none⟩ → base ≤ b ∧ b < w.heap.size := by
  have hl := h.1
  rcases h.2 with ⟨rfl, rfl⟩ | ⟨g, cap, cur, rfl, hb, hg, h1, h2, h3, h4⟩
  · exact ⟨none, 0, rfl, by omega, by unfold maxLen; omega, fun hp => by omega, fun b off e => by cases e⟩
  · have hgl : g < w.heap.size := (Array.getElem?_eq_some_iff.1 hg).1
    refine ⟨some ⟨g, 0, none⟩, cap, rfl, h1, h2, fun _ => ⟨g, 0, rfl, hgl, fun j u hu => ?_⟩, fun b off e => ?_⟩
    · have hc := h.cells (g := g) rfl j u hu
      rwa [add_off] at hc
    · injection e with e
      injection e with e
      subst e
      exact ⟨hb, hgl⟩
theorem ns_of (w w1 w2 w3 : World) (x y : List UInt64) (hx : x.length ≤ 1000) (hy : y.length ≤ 1000) (h1 : w1 = w.alloc (.cells (x.map B64).toArray 31)) (h2 : w2 = w1.alloc (.cells (y.map B64).toArray 31))
    (h3 : w3 = w2.alloc (.cells #[.slice (some ⟨w.heap.size, 0, none⟩) x.length x.length, .slice (some ⟨w1.heap.size, 0, none⟩) y.length y.length] 22)) :
    Ns w3 (some ⟨w2.heap.size, 0, none⟩) 2 2 [⟨some ⟨w.heap.size, 0, none⟩, x.length, x⟩, ⟨some ⟨w1.heap.size, 0, none⟩, y.length, y⟩] := by
  have r1 := Rd.made' w (x.map B64).toArray 31
  have r2 := Rd.made' w1 (y.map B64).toArray 31
  have r3 := Rd.made' w2 #[.slice (some ⟨w.heap.size, 0, none⟩) x.length x.length, .slice (some ⟨w1.heap.size, 0, none⟩) y.length y.length] 22
  have b2 : Below w1.heap.size w1 w2 := by rw [h2]; exact (Below.refl _ w1).alloc (Nat.le_refl _) _
  have b3 : Below w2.heap.size w2 w3 := by rw [h3]; exact (Below.refl _ w2).alloc (Nat.le_refl _) _
  rw [← h1] at r1
  rw [← h2] at r2
  rw [← h3] at r3
  have b13 := b2.trans (b3.mono b2.size)
  refine ⟨rfl, Nat.le_refl _, by unfold maxLen; omega, r3, fun q hq => ?_⟩
  rcases List.mem_cons.1 hq with rfl | hq
  · exact ⟨(r1.below b13).more b13.size, Nat.le_refl _, by show x.length ≤ maxLen; unfold maxLen; omega⟩
  · rw [List.mem_singleton.1 hq]
    exact ⟨(r2.below b3).more b3.size, Nat.le_refl _, by show y.length ≤ maxLen; unfold maxLen; omega⟩
/-- Two lists that have just been laid, and their list. -/
theorem ns_two (w : World) (x y : List UInt64) (hx : x.length ≤ 1000) (hy : y.length ≤ 1000) :
    Ns (((w.alloc (.cells (x.map B64).toArray 31)).alloc (.cells (y.map B64).toArray 31)).alloc (.cells #[.slice (some ⟨w.heap.size, 0, none⟩) x.length x.length, .slice (some ⟨w.heap.size + 1, 0, none⟩) y.length y.length] 22))
      (some ⟨w.heap.size + 1 + 1, 0, none⟩) 2 2 [⟨some ⟨w.heap.size, 0, none⟩, x.length, x⟩, ⟨some ⟨w.heap.size + 1, 0, none⟩, y.length, y⟩] := by
  have e1 : (w.alloc (.cells (x.map B64).toArray 31)).heap.size = w.heap.size + 1 := by simp
  have e2 : ((w.alloc (.cells (x.map B64).toArray 31)).alloc (.cells (y.map B64).toArray 31)).heap.size = w.heap.size + 1 + 1 := by simp
  have h := ns_of w _ _ _ x y hx hy rfl rfl rfl
  rw [e1, e2] at h
  exact h
theorem and_two {IterR : World → (Nat → Nat) → Nat → Nat → List UInt64 → Nat → Prop} (P : Post IterR) (w : World) (x y : List UInt64) (hx : x.length ≤ 1000) (hy : y.length ≤ 1000) :
    Calls Try.prog 11 #[.slice (some ⟨w.heap.size + 1 + 1, 0, none⟩) 2 2] (((w.alloc (.cells (x.map B64).toArray 31)).alloc (.cells (y.map B64).toArray 31)).alloc (.cells #[.slice (some ⟨w.heap.size, 0, none⟩) x.length x.length, .slice (some ⟨w.heap.size + 1, 0, none⟩) y.length y.length] 22)) (LPost (((w.alloc (.cells (x.map B64).toArray 31)).alloc (.cells (y.map B64).toArray 31)).alloc (.cells #[.slice (some ⟨w.heap.size, 0, none⟩) x.length x.length, .slice (some ⟨w.heap.size + 1, 0, none⟩) y.length y.length] 22)) (andL [x, y])) :=
  P.and_ _ _ _ _ _ (ns_two w x y hx hy) (by simp [nums]; omega) (by omega)
theorem or_two {IterR : World → (Nat → Nat) → Nat → Nat → List UInt64 → Nat → Prop} (P : Post IterR) (w : World) (x y : List UInt64) (hx : x.length ≤ 1000) (hy : y.length ≤ 1000) :
    Calls Try.prog 12 #[.slice (some ⟨w.heap.size + 1 + 1, 0, none⟩) 2 2] (((w.alloc (.cells (x.map B64).toArray 31)).alloc (.cells (y.map B64).toArray 31)).alloc (.cells #[.slice (some ⟨w.heap.size, 0, none⟩) x.length x.length, .slice (some ⟨w.heap.size + 1, 0, none⟩) y.length y.length] 22)) (LPost (((w.alloc (.cells (x.map B64).toArray 31)).alloc (.cells (y.map B64).toArray 31)).alloc (.cells #[.slice (some ⟨w.heap.size, 0, none⟩) x.length x.length, .slice (some ⟨w.heap.size + 1, 0, none⟩) y.length y.length] 22)) (orL [x, y])) :=
  P.or_ _ _ _ _ _ (ns_two w x y hx hy) (by simp [nums]; omega) (by omega)
theorem rising_56 : Rising [5, 6] := by
  intro i h _
  have : i = 0 := by simp at h; omega
  subst this
  show (5 : UInt64).toNat < (6 : UInt64).toNat
  decide
theorem wr_56 : wr [5, 6] = (0, [1, 6, 3, 2, 5, 0]) := by rw [wr_ok (by decide) rising_56, pb_56]
theorem n56 : ((numAt [5, 6] 0 : Nat) : Int) = 5 := rfl
theorem d56 : decide (0 < ([5, 6] : List UInt64).length) = true := rfl
theorem l56 : ((([5, 6] : List UInt64).length : Nat) : Int) = 2 := rfl

set_option maxHeartbeats 6400000 in
set_option maxRecDepth 100000 in
theorem awake_any {IterR : World → (Nat → Nat) → Nat → Nat → List UInt64 → Nat → Prop} (P : Post IterR) (w : World) :
    Calls Try.prog 6 #[] w fun e w' => e = .returned (.bool true) ∧ Below w.heap.size w w' := by
  have H1 : Hid (Calls Try.prog 7 #[.slice (some ⟨w.heap.size, 0, none⟩) 2 2] (w.alloc (.cells #[.int .u64 5, .int .u64 6] 31)) (WPost (w.alloc (.cells #[.int .u64 5, .int .u64 6] 31)) (0, [1, 6, 3, 2, 5, 0]))) := Lib.hid (by
    have h := P.write (w.alloc (.cells #[.int .u64 5, .int .u64 6] 31)) [5, 6] (some ⟨w.heap.size, 0, none⟩) 2 (Rd.made' w #[.int .u64 5, .int .u64 6] 31) (by decide) (by unfold maxLen; omega)
    rw [wr_56] at h
    exact h)
  have HB1 := Lib.hid ((Below.refl w.heap.size w).alloc (Nat.le_refl _) (.cells #[.int .u64 5, .int .u64 6] 31))
  have H2 : Hid (∀ w2 : World, Calls Try.prog 8 #[.slice (some ⟨w2.heap.size, 0, none⟩) 6 6] (w2.alloc (.cells #[.int .u8 1, .int .u8 6, .int .u8 3, .int .u8 2, .int .u8 5, .int .u8 0] 5)) (OPost IterR (w2.alloc (.cells #[.int .u8 1, .int .u8 6, .int .u8 3, .int .u8 2, .int .u8 5, .int .u8 0] 5)) (fun _ => 0) 1 [5, 6])) := Lib.hid fun w2 => by
    have h := P.opens (w2.alloc (.cells #[.int .u8 1, .int .u8 6, .int .u8 3, .int .u8 2, .int .u8 5, .int .u8 0] 5)) (fun _ => 0) 1 [5, 6] (some ⟨w2.heap.size, 0, none⟩) 6 (by decide) rising_56 (by rw [pb_56]; exact Rd.made' w2 #[.int .u8 1, .int .u8 6, .int .u8 3, .int .u8 2, .int .u8 5, .int .u8 0] 5) (by rw [pb_56]; decide) (by unfold maxLen; omega)
    rw [pb_56] at h
    exact h
  have HAND : Hid (∀ wz : World, Calls Try.prog 11 #[.slice (some ⟨wz.heap.size + 1 + 1, 0, none⟩) 2 2] (((wz.alloc (.cells #[.int .u64 1, .int .u64 2, .int .u64 3] 31)).alloc (.cells #[.int .u64 3, .int .u64 2] 31)).alloc (.cells #[.slice (some ⟨wz.heap.size, 0, none⟩) 3 3, .slice (some ⟨wz.heap.size + 1, 0, none⟩) 2 2] 22)) (LPost (((wz.alloc (.cells #[.int .u64 1, .int .u64 2, .int .u64 3] 31)).alloc (.cells #[.int .u64 3, .int .u64 2] 31)).alloc (.cells #[.slice (some ⟨wz.heap.size, 0, none⟩) 3 3, .slice (some ⟨wz.heap.size + 1, 0, none⟩) 2 2] 22)) [2, 3])) := Lib.hid fun wz => by
    have h := and_two P wz [1, 2, 3] [3, 2] (by decide) (by decide)
    rw [awake_and] at h
    exact h
  have HOR : Hid (∀ wz : World, Calls Try.prog 12 #[.slice (some ⟨wz.heap.size + 1 + 1, 0, none⟩) 2 2] (((wz.alloc (.cells #[.int .u64 3] 31)).alloc (.cells #[.int .u64 1, .int .u64 3] 31)).alloc (.cells #[.slice (some ⟨wz.heap.size, 0, none⟩) 1 1, .slice (some ⟨wz.heap.size + 1, 0, none⟩) 2 2] 22)) (LPost (((wz.alloc (.cells #[.int .u64 3] 31)).alloc (.cells #[.int .u64 1, .int .u64 3] 31)).alloc (.cells #[.slice (some ⟨wz.heap.size, 0, none⟩) 1 1, .slice (some ⟨wz.heap.size + 1, 0, none⟩) 2 2] 22)) [1, 3])) := Lib.hid fun wz => by
    have h := or_two P wz [3] [1, 3] (by decide) (by decide)
    rw [awake_or] at h
    exact h
  go_enter Try.func6, Try.ntmps6
  go_wp2_with fail
  refine H1.out.mono ?_
  rintro e w2 ⟨v2, rfl, hown2, hb2⟩
  obtain ⟨A2, c2, rfl, hc2, hm2, hrd2, _⟩ := own_rd hown2
  have HB2 := Lib.hid (HB1.out.trans (hb2.mono HB1.out.size))
  have HRD2 := Lib.hid hrd2
  have H2w := Lib.hid (H2.out w2)
  have hal := (Below.refl w2.heap.size w2).alloc (Nat.le_refl _) (.cells #[.int .u8 1, .int .u8 6, .int .u8 3, .int .u8 2, .int .u8 5, .int .u8 0] 5)
  have HAL := Lib.hid hal
  clear hown2 hb2 hrd2 H1 HB1 H2 hal
  go_wp2_with fail
  refine H2w.out.mono ?_
  rintro e w3 ⟨p, K3, rfl, hi3, hb3, hk3⟩
  have HK3 := Lib.hid hk3
  have HB23 := Lib.hid (HAL.out.trans (hb3.mono HAL.out.size))
  have H3 := Lib.hid (P.next w3 K3 1 p [5, 6] 0 hi3 (by decide))
  unfold SPost at H3
  rw [n56, d56] at H3
  clear hi3 hb3 hk3 H2w HAL
  go_wp2_with fail
  refine H3.out.mono ?_
  rintro e w4 ⟨rfl, K4, hi4, hm4⟩
  have H4 := Lib.hid (P.len w4 K4 1 p [5, 6] _ hi4)
  rw [l56] at H4
  have HB4 : Hid (Below w.heap.size w w4) := Lib.hid (by
    have hz := HB2.out.size
    have h23 : Below w.heap.size w w3 := HB2.out.trans (HB23.out.mono hz)
    refine ⟨hm4.os.trans h23.os, hm4.tape.trans h23.tape, hm4.output.trans h23.output, Nat.le_trans h23.size hm4.size, fun i hi => ?_⟩
    rw [← h23.block i hi]
    refine hm4.block i (Nat.lt_of_lt_of_le hi h23.size) fun e => ?_
    rw [HK3.out i (by simp; omega)] at e
    cases e)
  have HR4 : Hid (Rd w4 w4.heap.size A2 ([1, 6, 3, 2, 5, 0].map B8)) := Lib.hid (by
    intro hn
    obtain ⟨b, off, e, hlt, hc⟩ := (HRD2.out.below HB23.out) hn
    have hl3 : b < w3.heap.size := Nat.lt_of_lt_of_le hlt HB23.out.size
    refine ⟨b, off, e, Nat.lt_of_lt_of_le hl3 hm4.size, fun j u hu => ?_⟩
    rw [World.cell?_of_block (a := ⟨b, off + j, none⟩) (hm4.block b hl3 (fun e2 => by rw [HK3.out b (by simp; omega)] at e2; cases e2))]
    exact hc j u hu)
  have s1 : (convert 24 9 (.slice A2 6 c2)).run Try.prog w4 = .ok (.string ⟨[1, 6, 3, 2, 5, 0].toArray⟩) w4 := run_bytes (P := Try.prog) w4 24 9 5 Try.underlying24 Try.underlying5 Try.underlying9 A2 [1, 6, 3, 2, 5, 0] c2 w4.heap.size HR4.out
  simp only [List.length_cons, List.length_nil]
  clear hi4 H3 hm4 HR4
  go_wp2_with fail
  refine H4.out.mono ?_
  rintro e w5 ⟨rfl, n5, rfl⟩
  obtain ⟨w5, hw5⟩ : ∃ w5, w4.drewN n5 = w5 := ⟨_, rfl⟩
  have HB5 : Hid (Below w.heap.size w w5) := Lib.hid (by rw [← hw5]; exact HB4.out.trans ⟨rfl, rfl, rfl, Nat.le_refl _, fun _ _ => rfl⟩)
  rw [hw5]
  have H6 := Lib.hid (HAND.out w5)
  clear hw5 H4 HB4 s1
  go_wp2_with fail
  refine H6.out.mono ?_
  rintro e w6 ⟨v6, rfl, hown6, hb6⟩
  obtain ⟨A6, c6, rfl, _, _, hrd6, _⟩ := own_rd hown6
  have HB6 : Hid (Below w.heap.size w w6) := Lib.hid (by
    have ha := ((((Below.refl w5.heap.size w5).alloc (Nat.le_refl _) (.cells #[.int .u64 1, .int .u64 2, .int .u64 3] 31)).alloc (by simp) (.cells #[.int .u64 3, .int .u64 2] 31)).alloc (by simp; omega) (.cells #[.slice (some ⟨w5.heap.size, 0, none⟩) 3 3, .slice (some ⟨w5.heap.size + 1, 0, none⟩) 2 2] 22))
    exact HB5.out.trans ((ha.trans (hb6.mono ha.size)).mono HB5.out.size))
  have HS : Hid (Calls Try.prog 13 #[.slice A6 2 c6, .slice (some ⟨w6.heap.size, 0, none⟩) 2 2] (w6.alloc (.cells #[.int .u64 2, .int .u64 3] 31)) fun e w' => e = .returned (.bool true) ∧ ∃ nq, w' = (w6.alloc (.cells #[.int .u64 2, .int .u64 3] 31)).drewN nq) := Lib.hid (Need.same_eq [2, 3] A6 (some ⟨w6.heap.size, 0, none⟩) 2 2 c6 2 _ _ _ rfl rfl (hrd6.alloc (Nat.le_refl _) _) (Rd.made w6 #[.int .u64 2, .int .u64 3] 31) (by unfold maxLen; decide))
  simp only [List.length_cons, List.length_nil]
  clear hown6 hb6 hrd6 H6 HAND
  go_wp2_with fail
  refine HS.out.mono ?_
  rintro e w7 ⟨rfl, n7, rfl⟩
  obtain ⟨w7, hw7⟩ : ∃ w7, (w6.alloc (.cells #[.int .u64 2, .int .u64 3] 31)).drewN n7 = w7 := ⟨_, rfl⟩
  have HB7 : Hid (Below w.heap.size w w7) := Lib.hid (by
    rw [← hw7]
    have ha := (Below.refl w6.heap.size w6).alloc (Nat.le_refl _) (.cells #[.int .u64 2, .int .u64 3] 31)
    have h2 : Below w6.heap.size w6 ((w6.alloc (.cells #[.int .u64 2, .int .u64 3] 31)).drewN n7) := ⟨ha.os, ha.tape, ha.output, ha.size, ha.block⟩
    exact HB6.out.trans (h2.mono HB6.out.size))
  rw [hw7]
  have H8 := Lib.hid (HOR.out w7)
  clear hw7 HS HB6
  go_wp2_with fail
  refine H8.out.mono ?_
  rintro e w8 ⟨v8, rfl, hown8, hb8⟩
  obtain ⟨A8, c8, rfl, _, _, hrd8, _⟩ := own_rd hown8
  have HB8 : Hid (Below w.heap.size w w8) := Lib.hid (by
    have ha := ((((Below.refl w7.heap.size w7).alloc (Nat.le_refl _) (.cells #[.int .u64 3] 31)).alloc (by simp) (.cells #[.int .u64 1, .int .u64 3] 31)).alloc (by simp; omega) (.cells #[.slice (some ⟨w7.heap.size, 0, none⟩) 1 1, .slice (some ⟨w7.heap.size + 1, 0, none⟩) 2 2] 22))
    exact HB7.out.trans ((ha.trans (hb8.mono ha.size)).mono HB7.out.size))
  have HS : Hid (Calls Try.prog 13 #[.slice A8 2 c8, .slice (some ⟨w8.heap.size, 0, none⟩) 2 2] (w8.alloc (.cells #[.int .u64 1, .int .u64 3] 31)) fun e w' => e = .returned (.bool true) ∧ ∃ nq, w' = (w8.alloc (.cells #[.int .u64 1, .int .u64 3] 31)).drewN nq) := Lib.hid (Need.same_eq [1, 3] A8 (some ⟨w8.heap.size, 0, none⟩) 2 2 c8 2 _ _ _ rfl rfl (hrd8.alloc (Nat.le_refl _) _) (Rd.made w8 #[.int .u64 1, .int .u64 3] 31) (by unfold maxLen; decide))
  simp only [List.length_cons, List.length_nil]
  clear hown8 hb8 hrd8 H8 HOR
  go_wp2_with fail
  refine HS.out.mono ?_
  rintro e w9 ⟨rfl, n9, rfl⟩
  have HB9 : Hid (Below w.heap.size w ((w8.alloc (.cells #[.int .u64 1, .int .u64 3] 31)).drewN n9)) := Lib.hid (by
    have ha := (Below.refl w8.heap.size w8).alloc (Nat.le_refl _) (.cells #[.int .u64 1, .int .u64 3] 31)
    have h2 : Below w8.heap.size w8 ((w8.alloc (.cells #[.int .u64 1, .int .u64 3] 31)).drewN n9) := ⟨ha.os, ha.tape, ha.output, ha.size, ha.block⟩
    exact HB8.out.trans (h2.mono HB8.out.size))
  clear HS
  go_wp2
  go_ret
  exact ⟨rfl, HB9.out⟩
end Go.Proofs.Ytfojpbbmicmooaa.PsAwake
