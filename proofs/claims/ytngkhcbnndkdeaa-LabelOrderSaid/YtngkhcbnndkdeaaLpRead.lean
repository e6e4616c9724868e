/- label.Read. Conditions: a text of at most 2^24 bytes; that the library's variable that its search reads holds some number. -/
import Derived.Test.YtngkhcbnndkdeaaLpRead3
import Derived.Test.YtngkhcbnndkdeaaLpCanon
import Derived.Test.YtngkhcbnndkdeaaLpFind
namespace Go.Proofs.Ytngkhcbnndkdeaa.LpRead
open Go Go.RowKit Words AppN Less LbSpec LbText LbMem LbRef LbCmp LbCanon UtOwn LpOrd LpBoth LpCmp LpCan1 LpCopy LpSort LpCanon LpFind LpText LpRead1 LpRead2 LpRead3 Ml

theorem own_lb2 {w : World} {base : Nat} {v : Value} {l : List Lab} (h : w.ownsRow base 37 2 v l.length (flat l)) : ∃ A c, v = .slice A l.length c ∧ Lb w A l.length c l := by
  obtain ⟨A, c, rfl, h1, h2, h3, _⟩ := own_lab h
  exact ⟨A, c, rfl, rfl, h1, h2, h3⟩

theorem lb_keep {w w' : World} {A : Option Addr} {n c : Nat} {l : List Lab} (h : Lb w A n c l) (hb : Below w.heap.size w w') : Lb w' A n c l :=
  ⟨h.1, h.2.1, h.2.2.1, (h.2.2.2.below hb).more hb.size⟩

set_option maxHeartbeats 3200000 in
set_option maxRecDepth 100000 in
theorem pread_any (s : List UInt8) (w : World) (hM : ML w) (hs : s.length ≤ 16777216) : Calls Try.prog 17 #[S8 s] w (CPost (read s) w) := by
  have HPS := Lib.hid (parse_any s w hM hs)
  obtain ⟨R, hR⟩ : ∃ R, read s = R := ⟨_, rfl⟩
  rw [hR]
  rw [read_of] at hR
  cases hp : parse s with
  | none =>
    rw [hp] at hR HPS
    simp only at hR
    subst hR
    unfold PsPost at HPS
    unfold S8 at *
    clear hp hs
    go_enter Try.func17, Try.ntmps17
    go_wp2_with fail
    refine HPS.out.mono ?_
    rintro e w1 ⟨v, rfl, _, hb1⟩
    have HB1 := Lib.hid hb1
    clear hb1
    simp only [Option.isSome_none]
    go_wp2
    go_ret2
    exact ⟨_, rfl, World.ownsRow_nil .., HB1.out⟩
  | some l =>
    rw [hp] at hR HPS
    simp only at hR
    unfold PsPost at HPS
    unfold S8 at *
    clear hp hs
    have HR := Lib.hid hR
    clear hR
    go_enter Try.func17, Try.ntmps17
    go_wp2_with fail
    refine HPS.out.mono ?_
    rintro e w1 ⟨v, rfl, hown, hb1⟩
    simp only [Option.getD_some, Option.isSome_some] at hown ⊢
    obtain ⟨A, c, rfl, hlb⟩ := own_lb2 hown
    have HB1 := Lib.hid hb1
    have HLB := Lib.hid hlb
    have HCN := Lib.hid (pcanon_any w1 l A c l.length hlb)
    unfold CPost at HCN
    obtain ⟨K, hK⟩ : ∃ K, canon l = K := ⟨_, rfl⟩
    have HK := Lib.hid hK
    rw [hK] at HCN
    clear hown hb1 hlb hK HPS
    obtain ⟨k1, k2⟩ := K
    simp only at HCN
    go_wp2_with fail
    refine HCN.out.mono ?_
    rintro e w2 ⟨v2, rfl, hown2, hb2⟩
    have HB2 : Hid (Below w.heap.size w w2) := Lib.hid (HB1.out.trans (hb2.mono HB1.out.size))
    have HO2 := Lib.hid (own_monoN hown2 HB1.out.size)
    have HLB2 := Lib.hid (lb_keep HLB.out hb2)
    clear hown2 hb2 HCN
    by_cases h1 : k1 = 0
    · obtain ⟨b, hb⟩ : ∃ b, decide (cmp k2 l = 0) = b := ⟨_, rfl⟩
      have hiff : b = true ↔ falls l 0 := by
        rw [← hb, decide_eq_true_eq]
        have h2 := order_iff (l := l) (by rw [HK.out]; exact h1)
        rw [HK.out] at h2
        simp only at h2
        rw [← h2]
        exact ⟨fun h j hj _ => h j hj, fun h j hj => h j hj (Nat.zero_le _)⟩
      have HSF := Lib.hid (issorted_any w2 l A l.length c HLB2.out b hiff)
      have HR2 : Hid (R = if b = true then (0, k2) else (6, [])) := Lib.hid (by
        rw [← HR.out, HK.out]
        simp only
        rw [if_neg (by simpa using h1), ← hb]
        by_cases h3 : cmp k2 l = 0
        · simp [h3]
        · simp [h3])
      have j1 : ((k1 : Int) != 0) = false := by simp [h1]
      clear h1 hb hiff
      cases b with
      | true =>
        go_wp2_with fail
        refine HSF.out.mono ?_
        rintro e w3 ⟨rfl, hb3⟩
        have HB3 : Hid (Below w.heap.size w w3) := Lib.hid (HB2.out.trans (hb3.mono HB2.out.size))
        have HO3 := Lib.hid (HO2.out.kept (only_of_below hb3 none) (by cases v2.ownBlock <;> simp))
        clear hb3 HSF HO2
        go_wp2
        go_ret2
        rw [HR2.out]
        exact ⟨_, rfl, HO3.out, HB3.out⟩
      | false =>
        go_wp2_with fail
        refine HSF.out.mono ?_
        rintro e w3 ⟨rfl, hb3⟩
        have HB3 : Hid (Below w.heap.size w w3) := Lib.hid (HB2.out.trans (hb3.mono HB2.out.size))
        clear hb3 HSF HO2
        go_wp2
        go_ret2
        rw [HR2.out]
        exact ⟨_, rfl, World.ownsRow_nil .., HB3.out⟩
    · have HR2 : Hid (R = (k1, [])) := Lib.hid (by
        rw [← HR.out, HK.out]
        simp only
        rw [if_pos (by simpa using h1)])
      have j1 : ((k1 : Int) != 0) = true := by simp [h1]
      clear h1
      go_wp2
      go_ret2
      rw [HR2.out]
      exact ⟨_, rfl, World.ownsRow_nil .., HB2.out⟩
end Go.Proofs.Ytngkhcbnndkdeaa.LpRead
