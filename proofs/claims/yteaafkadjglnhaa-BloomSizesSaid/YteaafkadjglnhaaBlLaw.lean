/- What the statements of stage 12 ask of the program's filters, and the statements' own 'awake' over it. N: up to how many texts Make is asked. -/
import Derived.Test.YteaafkadjglnhaaBlMake
import Derived.WalkLawsBesides
namespace Go.Proofs.Yteaafkadjglnhaa.BlLaw
open Go Go.RowKit Words Less BlSpec BlRef UtOwn BlMake

structure Bloom (N : Nat) : Prop where
  big : 8388608 ≤ N
  hash_ : ∀ (w : World) (s : List UInt8), s.length ≤ maxLen → Calls Try.prog 12 #[.string ⟨s.toArray⟩] w fun e w' => e = .returned (.int .u64 ((fnv s : Nat) : Int)) ∧ Below w.heap.size w w'
  has_ : ∀ (w : World) (f s : List UInt8) (A : Option Addr) (c : Nat), Rd w w.heap.size A (f.map B8) → f.length ≤ c → c ≤ maxLen → f.length ≤ 140737488355328 → s.length ≤ maxLen →
    Calls Try.prog 10 #[.slice A f.length c, .string ⟨s.toArray⟩] w fun e w' => e = .returned (.bool (has f s)) ∧ Below w.heap.size w w'
  make_ : ∀ (w : World) (l : List (List UInt8)) (A : Option Addr) (c : Nat), Rd w w.heap.size A (l.map S8) → l.length ≤ c → c ≤ maxLen → l.length ≤ N → (∀ s ∈ l, s.length ≤ maxLen) →
    Calls Try.prog 8 #[.slice A l.length c] w (MPost l w)

theorem own_rd {w : World} {base n : Nat} {e : TypeId} {v : Value} {xs : List Value} (h : w.ownsRow base e 1 v n xs) : ∃ A c, v = .slice A n c ∧ n ≤ c ∧ c ≤ maxLen ∧ Rd w w.heap.size A xs ∧ ∀ b off, A = some ⟨b, off, none⟩ → base ≤ b ∧ b < w.heap.size := by
  have hl := h.1
  rcases h.2 with ⟨rfl, rfl⟩ | ⟨g, cap, cur, rfl, hb, hg, h1, h2, h3, h4⟩
  · exact ⟨none, 0, rfl, by omega, by unfold maxLen; omega, fun hp => by omega, fun b off e => by cases e⟩
  · have hgl : g < w.heap.size := (Array.getElem?_eq_some_iff.1 hg).1
    refine ⟨some ⟨g, 0, none⟩, cap, rfl, h1, h2, fun _ => ⟨g, 0, rfl, hgl, fun j u hu => ?_⟩, fun b off e => ?_⟩
    · have hc := h.cells (g := g) rfl j u hu
      rwa [add_off] at hc
    · injection e with e
      injection e with e
      subst e
      exact ⟨hb, hgl⟩
theorem fnv_a : fnv [97] = 12638187200555641996 := by decide +kernel
theorem aa_len : (make [[97], [97]]).length = 8 := by decide +kernel
theorem a_len : (make [[97]]).length = 8 := by decide +kernel
theorem has_a : has (make [[97]]) [97] = true := has_make (List.mem_singleton.2 rfl)

set_option maxHeartbeats 6400000 in
set_option maxRecDepth 100000 in
theorem awake_any {N : Nat} (P : Bloom N) (w : World) : Calls Try.prog 7 #[] w fun e w' => e = .returned (.bool true) ∧ Below w.heap.size w w' := by
  have H1 := Lib.hid (P.hash_ w [97] (by decide))
  rw [fnv_a] at H1
  go_enter Try.func7, Try.ntmps7
  go_wp2_with fail
  refine H1.out.mono ?_
  rintro e w1 ⟨rfl, hb1⟩
  have HB1 := Lib.hid hb1
  have H2 : Hid (Calls Try.prog 8 #[.slice (some ⟨w1.heap.size, 0, none⟩) 2 2] (w1.alloc (.cells #[.string ⟨#[97]⟩, .string ⟨#[97]⟩] 9)) fun e w' => ∃ A c, e = .returned (.slice A 8 c) ∧ Below w.heap.size w w') :=
    (P.make_ (w1.alloc (.cells #[S8 [97], S8 [97]] 9)) [[97], [97]] (some ⟨w1.heap.size, 0, none⟩) 2 (Rd.made' w1 #[S8 [97], S8 [97]] 9) (by decide) (by decide) (by have := P.big; simp; omega) (fun s hs => by simp at hs; subst hs; decide)).mono fun e w' ⟨v, he, ho, hb⟩ => by
      obtain ⟨A, c, rfl, _⟩ := own_rd ho
      have ha := (Below.refl w1.heap.size w1).alloc (Nat.le_refl _) (.cells #[S8 [97], S8 [97]] 9)
      exact ⟨A, c, by rw [he, aa_len], hb1.trans ((ha.trans (hb.mono ha.size)).mono hb1.size)⟩
  have H4 : Hid (∀ wz : World, Calls Try.prog 8 #[.slice (some ⟨wz.heap.size, 0, none⟩) 1 1] (wz.alloc (.cells #[.string ⟨#[97]⟩] 9)) fun e w' => ∃ A c, e = .returned (.slice A 8 c) ∧ Hid (8 ≤ c ∧ c ≤ maxLen ∧ Rd w' w'.heap.size A ((make [[97]]).map B8)) ∧ Hid (Below wz.heap.size wz w')) := fun wz =>
    (P.make_ (wz.alloc (.cells #[S8 [97]] 9)) [[97]] (some ⟨wz.heap.size, 0, none⟩) 1 (Rd.made' wz #[S8 [97]] 9) (by decide) (by decide) (by have := P.big; simp; omega) (fun s hs => by simp at hs; subst hs; decide)).mono fun e w' ⟨v, he, ho, hb⟩ => by
      obtain ⟨A, c, rfl, h1, h2, h3, _⟩ := own_rd ho
      have ha := (Below.refl wz.heap.size wz).alloc (Nat.le_refl _) (.cells #[S8 [97]] 9)
      rw [a_len] at he h1
      exact ⟨A, c, he, Lib.hid ⟨h1, h2, h3⟩, Lib.hid (ha.trans (hb.mono ha.size))⟩
  clear H1 hb1
  go_wp2_with fail
  refine H2.out.mono ?_
  rintro e w2 ⟨A2, c2, rfl, hb2⟩
  have HB2 := Lib.hid hb2
  clear H2 hb2
  go_wp2_with fail
  refine (H4.out w2).mono ?_
  rintro e w3 ⟨A3, c3, rfl, hr3, hb3⟩
  have HB3 : Hid (Below w.heap.size w w3) := HB2.out.trans (hb3.out.mono HB2.out.size)
  have H5 : Hid (Calls Try.prog 10 #[.slice A3 8 c3, .string ⟨#[97]⟩] w3 fun e w' => e = .returned (.bool true) ∧ Below w3.heap.size w3 w') := by
    obtain ⟨h1, h2, h3⟩ := hr3.out
    have h := P.has_ w3 (make [[97]]) [97] A3 c3 h3 (by rw [a_len]; exact h1) h2 (by rw [a_len]; omega) (by decide)
    rw [a_len, has_a] at h
    exact h
  clear H4 hb3 hr3 HB1 HB2
  go_wp2_with fail
  refine H5.out.mono ?_
  rintro e w4 ⟨rfl, hb4⟩
  have HB4 : Hid (Below w.heap.size w w4) := HB3.out.trans (hb4.mono HB3.out.size)
  have H6 : Hid (Calls Try.prog 10 #[.slice none 0 0, .string ⟨#[97]⟩] w4 fun e w' => e = .returned (.bool false) ∧ Below w4.heap.size w4 w') :=
    P.has_ w4 [] [97] none 0 Rd.nil_ (Nat.le_refl _) (by decide) (by simp) (by decide)
  clear H5 hb4 HB3
  go_wp2_with fail
  refine H6.out.mono ?_
  rintro e w5 ⟨rfl, hb5⟩
  have HB5 : Hid (Below w.heap.size w w5) := HB4.out.trans (hb5.mono HB4.out.size)
  clear H6 hb5 HB4
  go_wp2_with fail
  go_ret
  exact ⟨rfl, HB5.out⟩
end Go.Proofs.Yteaafkadjglnhaa.BlLaw
