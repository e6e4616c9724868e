/- The walk of BloomAll over what stage 12 asks of the program. -/
import Derived.Test.YteaafkadjglnhaaBlLaw
import Derived.Deep.RegionLaw
namespace Go.Proofs.Yteaafkadjglnhaa.BlAllW
open Go Go.RowKit Words Less BlSpec BlRef UtOwn BlMake BlLaw

theorem make_le (l : List (List UInt8)) : (make l).length ≤ 8 * l.length := by
  have h := once_length l
  rw [make_len, size]
  omega

set_option maxHeartbeats 6400000 in
set_option maxRecDepth 100000 in
theorem all_any {N : Nat} (P : Bloom N) (w : World) (l : List (List UInt8)) (A : Option Addr) (c : Nat) (h1 : Rd w w.heap.size A (l.map S8)) (hm : l.length ≤ c) (hc : c ≤ maxLen) (hN : l.length ≤ N) (hl : l.length ≤ 8796093022208) (hs : ∀ s ∈ l, s.length ≤ maxLen)
    (f : List UInt8) (A1 : Option Addr) (c1 : Nat) (h2 : Rd w w.heap.size A1 (f.map B8)) (hm1 : f.length ≤ c1) (hc1 : c1 ≤ maxLen) (hf : f.length ≤ 140737488355328) (s : List UInt8) (hs1 : s.length ≤ maxLen) :
    Calls Try.prog 3 #[.slice A l.length c, .slice A1 f.length c1, .string ⟨s.toArray⟩] w fun e w' => e = .returned (.bool true) ∧ Below w.heap.size w w' := by
  have HA := Lib.hid (awake_any P w)
  have H1 := Lib.hid h1
  have H2 := Lib.hid h2
  have HS := Lib.hid hs
  clear h1 h2 hs
  go_enter Try.func3, Try.ntmps3
  go_wp2_with fail
  refine HA.out.mono ?_
  rintro e w1 ⟨rfl, hb1⟩
  have HB1 := Lib.hid hb1
  have HM := Lib.hid (P.make_ w1 l A c ((H1.out.below hb1).more hb1.size) hm hc hN HS.out)
  clear hb1 HA
  go_wp2_with fail
  refine HM.out.mono ?_
  rintro e w2 ⟨v2, rfl, ho2, hb2⟩
  obtain ⟨A2, c2, rfl, g1, g2, g3, g4⟩ := own_rd ho2
  have HB2 : Hid (Below w.heap.size w w2) := HB1.out.trans (hb2.mono HB1.out.size)
  have HR := Lib.hid g3
  have hfl := make_le l
  have HRM := Lib.hid (refMake_any w2 l A c ((H1.out.below HB2.out).more HB2.out.size) hm hc hl HS.out)
  clear hb2 HM HB1 ho2 g3 g4
  have hfb : (make l).length ≤ 140737488355328 := by omega
  obtain ⟨F, hF⟩ : ∃ F, make l = F := ⟨_, rfl⟩
  have HZ : Hid (Below w2.heap.size w2 w2.drew) := ⟨rfl, rfl, rfl, Nat.le_refl _, fun _ _ => rfl⟩
  rw [hF] at g1 HR hfb ⊢
  have HSTEP : Hid (∀ w', Below w2.heap.size w2 w' → (convert 23 9 (.slice A2 F.length c2)).run Try.prog w' = .ok (.string ⟨F.toArray⟩) w') := fun w' hb =>
    run_bytes w' 23 9 5 Try.underlying23 Try.underlying5 Try.underlying9 A2 F c2 _ (HR.out.below hb)
  have GM : Hid (∀ w', Below w2.heap.size w2 w' → Calls Try.prog 9 #[.slice A l.length c] w' fun e w'' => ∃ A3 c3, e = .returned (.slice A3 F.length c3) ∧ (convert 23 9 (.slice A3 F.length c3)).run Try.prog w'' = .ok (.string ⟨F.toArray⟩) w'' ∧ Hid (Below w2.heap.size w2 w'') ∧ (convert 23 9 (.slice A2 F.length c2)).run Try.prog w'' = .ok (.string ⟨F.toArray⟩) w'') := fun w' hb =>
    (refMake_any w' l A c ((H1.out.below (HB2.out.trans (hb.mono HB2.out.size))).more (Nat.le_trans HB2.out.size hb.size)) hm hc hl HS.out).mono fun e w'' ⟨v, he, ho, hb3⟩ => by
      obtain ⟨A3, c3, rfl, _, _, q3, _⟩ := own_rd ho
      rw [hF] at he q3
      exact ⟨A3, c3, he, run_bytes w'' 23 9 5 Try.underlying23 Try.underlying5 Try.underlying9 A3 F c3 _ q3, below_step hb hb3, HSTEP.out _ (below_step hb hb3)⟩
  have GH : Hid (∀ w', Below w2.heap.size w2 w' → Calls Try.prog 10 #[.slice A1 f.length c1, .string ⟨s.toArray⟩] w' fun e w'' => e = .returned (.bool (has f s)) ∧ Hid (Below w2.heap.size w2 w'') ∧ (convert 23 9 (.slice A2 F.length c2)).run Try.prog w'' = .ok (.string ⟨F.toArray⟩) w'') := fun w' hb =>
    (P.has_ w' f s A1 c1 ((H2.out.below (HB2.out.trans (hb.mono HB2.out.size))).more (Nat.le_trans HB2.out.size hb.size)) hm1 hc1 hf hs1).mono fun e w'' ⟨he, hb3⟩ => ⟨he, below_step hb hb3, HSTEP.out _ (below_step hb hb3)⟩
  have GHR : Hid (∀ w', Below w2.heap.size w2 w' → Calls Try.prog 11 #[.slice A1 f.length c1, .string ⟨s.toArray⟩] w' fun e w'' => e = .returned (.bool (has f s)) ∧ Hid (Below w2.heap.size w2 w'') ∧ (convert 23 9 (.slice A2 F.length c2)).run Try.prog w'' = .ok (.string ⟨F.toArray⟩) w'') := fun w' hb =>
    (refHas_any f s w' A1 c1 _ (H2.out.below (HB2.out.trans (hb.mono HB2.out.size))) hm1 hc1 (by omega) hs1).mono fun e w'' ⟨he, hw⟩ => by
      subst hw
      exact ⟨he, hb, HSTEP.out _ hb⟩
  have GF : Hid (∀ w', Below w2.heap.size w2 w' → Calls Try.prog 10 #[.slice A2 F.length c2, .string ⟨s.toArray⟩] w' fun e w'' => e = .returned (.bool (has F s)) ∧ Hid (Below w2.heap.size w2 w'') ∧ (convert 23 9 (.slice A2 F.length c2)).run Try.prog w'' = .ok (.string ⟨F.toArray⟩) w'') := fun w' hb =>
    (P.has_ w' F s A2 c2 ((HR.out.below hb).more hb.size) g1 g2 hfb hs1).mono fun e w'' ⟨he, hb3⟩ => ⟨he, below_step hb hb3, HSTEP.out _ (below_step hb hb3)⟩
  have GFR : Hid (∀ w', Below w2.heap.size w2 w' → Calls Try.prog 11 #[.slice A2 F.length c2, .string ⟨s.toArray⟩] w' fun e w'' => e = .returned (.bool (has F s)) ∧ Hid (Below w2.heap.size w2 w'') ∧ (convert 23 9 (.slice A2 F.length c2)).run Try.prog w'' = .ok (.string ⟨F.toArray⟩) w'') := fun w' hb =>
    (refHas_any F s w' A2 c2 _ (HR.out.below hb) g1 g2 (by omega) hs1).mono fun e w'' ⟨he, hw⟩ => by
      subst hw
      exact ⟨he, hb, HSTEP.out _ hb⟩
  have GN : Hid (∀ w', Below w2.heap.size w2 w' → Calls Try.prog 12 #[.string ⟨s.toArray⟩] w' fun e w'' => e = .returned (.int .u64 ((fnv s : Nat) : Int)) ∧ Hid (Below w2.heap.size w2 w'') ∧ (convert 23 9 (.slice A2 F.length c2)).run Try.prog w'' = .ok (.string ⟨F.toArray⟩) w'') := fun w' hb =>
    (P.hash_ w' s hs1).mono fun e w'' ⟨he, hb3⟩ => ⟨he, below_step hb hb3, HSTEP.out _ (below_step hb hb3)⟩
  have GNR : Hid (∀ w', Below w2.heap.size w2 w' → Calls Try.prog 13 #[.string ⟨s.toArray⟩] w' fun e w'' => e = .returned (.int .u64 ((fnv s : Nat) : Int)) ∧ Hid (Below w2.heap.size w2 w'') ∧ (convert 23 9 (.slice A2 F.length c2)).run Try.prog w'' = .ok (.string ⟨F.toArray⟩) w'') := fun w' hb =>
    (refHash_any s w' hs1).mono fun e w'' ⟨he, hw⟩ => by
      subst hw
      exact ⟨he, hb, HSTEP.out _ hb⟩
  have c0 := HSTEP.out _ HZ.out
  have e1 : (F == F) = true := by simp
  generalize has f s = q1 at *
  generalize has F s = q2 at *
  generalize fnv s = q3 at *
  have KGM := fun w' (g : Hid (Below w2.heap.size w2 w')) => Lib.hid (GM.out w' g.out)
  have KGH := fun w' (g : Hid (Below w2.heap.size w2 w')) => Lib.hid (GH.out w' g.out)
  have KGHR := fun w' (g : Hid (Below w2.heap.size w2 w')) => Lib.hid (GHR.out w' g.out)
  have KGF := fun w' (g : Hid (Below w2.heap.size w2 w')) => Lib.hid (GF.out w' g.out)
  have KGFR := fun w' (g : Hid (Below w2.heap.size w2 w')) => Lib.hid (GFR.out w' g.out)
  have KGN := fun w' (g : Hid (Below w2.heap.size w2 w')) => Lib.hid (GN.out w' g.out)
  have KGNR := fun w' (g : Hid (Below w2.heap.size w2 w')) => Lib.hid (GNR.out w' g.out)
  clear HR H1 H2 HS HRM hF HSTEP P hs1 GM GH GHR GF GFR GN GNR
  go_wp2
  go_region_law (first
    | (go_simp; go_at_call 9; ((with_reducible refine (KGM _ (by assumption)).out.mono ?_); rintro e w' ⟨A3, c3, rfl, c4, g', x1⟩))
    | (go_simp; go_at_call 10; ((with_reducible refine (KGH _ (by assumption)).out.mono ?_); rintro e w' ⟨rfl, g', x1⟩))
    | (go_simp; go_at_call 10; ((with_reducible refine (KGF _ (by assumption)).out.mono ?_); rintro e w' ⟨rfl, g', x1⟩))
    | (go_simp; go_at_call 11; ((with_reducible refine (KGHR _ (by assumption)).out.mono ?_); rintro e w' ⟨rfl, g', x1⟩))
    | (go_simp; go_at_call 11; ((with_reducible refine (KGFR _ (by assumption)).out.mono ?_); rintro e w' ⟨rfl, g', x1⟩))
    | (go_simp; go_at_call 12; ((with_reducible refine (KGN _ (by assumption)).out.mono ?_); rintro e w' ⟨rfl, g', x1⟩))
    | (go_simp; go_at_call 13; ((with_reducible refine (KGNR _ (by assumption)).out.mono ?_); rintro e w' ⟨rfl, g', x1⟩)))
  all_goals
    go_wp2
    go_ret
    exact ⟨rfl, HB2.out.trans ((‹Hid (Below w2.heap.size w2 _)›).out.mono HB2.out.size)⟩
end Go.Proofs.Yteaafkadjglnhaa.BlAllW
