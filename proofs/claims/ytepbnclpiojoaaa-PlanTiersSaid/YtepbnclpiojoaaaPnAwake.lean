/- The statements' own awake, over the contracts of the program's plan. No conditions. -/
import Derived.Test.YtepbnclpiojoaaaPnLaw
import Derived.Deep.RegionHeld3
namespace Go.Proofs.Ytepbnclpiojoaaa.PnAwake
open Go Go.RowKit Words AppN PnSpec SgMem PnRef PnGone PnMerge PnSame PnCnt PnLaw

theorem tier16 : tierI 16 = 2 := by unfold tierI; rw [show ((16 : Int)).toNat = 16 from rfl, tier_ge (by omega), tier_ge (by omega), tier_lt (by omega)]
theorem bound100 : bound 100 = 12 := by
  have : tierI 100 = 3 := by unfold tierI; rw [show ((100 : Int)).toNat = 100 from rfl, tier_ge (by omega), tier_ge (by omega), tier_ge (by omega), tier_lt (by omega)]
  unfold bound; rw [this]; rfl
theorem tiers_small {n : Int} (h : n < 4) : tierI n = 0 := tierI_low h
theorem tier20 : tierI 20 = 2 := by unfold tierI; rw [show ((20 : Int)).toNat = 20 from rfl, tier_ge (by omega), tier_ge (by omega), tier_lt (by omega)]
def n6 : List Nat := [1, 16, 2, 3, 1, 20]
def n3 : List Nat := [5, 9, 3]
theorem merge6 : merge ((mkTo n6 n6.length).map Sg.count) = [0, 2, 3, 4] := by
  have e : (mkTo n6 n6.length).map Sg.count = [1, 16, 2, 3, 1, 20] := rfl
  rw [e]
  have t1 : tierI 1 = 0 := tiers_small (by omega)
  have t2 : tierI 2 = 0 := tiers_small (by omega)
  have t3 : tierI 3 = 0 := tiers_small (by omega)
  have hp : picks [1, 16, 2, 3, 1, 20] 0 = [0, 2, 3, 4] := by
    simp [picks, picksTo, List.range, List.range.loop, List.filter, t1, t2, t3, tier16, tier20]
  have h64 : ∀ c ∈ ([1, 16, 2, 3, 1, 20] : List Int), In64 c := by intro c hc; simp at hc; unfold In64; omega
  have hf : fits [1, 16, 2, 3, 1, 20] 0 = true := by unfold fits; rw [hp]; rfl
  rw [merge_some h64 (fun u hu => by omega) hf, hp]
theorem gone3 : gone ((mkTo n3 n3.length).map Sg.most) 6 = [0, 2] := by
  have e : (mkTo n3 n3.length).map Sg.most = [5, 9, 3] := rfl
  rw [e]; rfl
theorem mk_in {ns : List Nat} (h : ∀ n ∈ ns, n ≤ 1000) {k : Nat} : ∀ x ∈ mkTo ns k, In64 x.count ∧ In64 x.most := by
  intro x hx
  unfold mkTo at hx
  obtain ⟨i, _, rfl⟩ := List.mem_map.1 hx
  have : ns.getD i 0 ≤ 1000 := by
    by_cases hi : i < ns.length
    · rw [List.getD_eq_getElem?_getD, List.getElem?_eq_getElem hi]; exact h _ (List.getElem_mem hi)
    · rw [List.getD_eq_getElem?_getD, List.getElem?_eq_none (by omega)]; simp
  unfold In64
  simp only
  omega
/-- A literal of places. -/
theorem lit_ls (w : World) (l : List Nat) (cs : Array Value) (hc : cs.toList = l.map IV) (hn : 1 ≤ l.length) (hl : l.length ≤ 1000) : Ls (w.alloc (.cells cs 3)) (some ⟨w.heap.size, 0, none⟩, l.length, l.length) l := by
  refine ⟨rfl, Nat.le_refl _, by unfold maxLen; simp only; omega, ?_⟩
  rw [← hc]
  exact (Rd.made w cs 3).more (by simp)
set_option maxHeartbeats 1600000 in
set_option maxRecDepth 100000 in
theorem awake_any (pn : Pns) (w : World) : Calls Try.prog 7 #[] w fun e w' => e = .returned (.bool true) ∧ Below w.heap.size w w' := by
  go_enter Try.func7, Try.ntmps7
  go_wp2_with fail
  refine (pn.tier _ 16 (by unfold In64; omega)).mono ?_
  rintro _ w1 ⟨rfl, hb1⟩
  rw [tier16]
  have HB1 := Lib.hid hb1
  clear hb1
  go_wp2_with fail
  refine (pn.bound _ 100 (by unfold In64; omega)).mono ?_
  rintro _ w2 ⟨rfl, hb2⟩
  rw [bound100]
  have HB2 : Hid (Below w.heap.size w w2) := Lib.hid (HB1.out.trans (hb2.mono HB1.out.size))
  clear hb2 HB1
  go_wp2_with fail
  have HL := Lib.hid (lit_ls w2 n6 #[.int .i64 1, .int .i64 16, .int .i64 2, .int .i64 3, .int .i64 1, .int .i64 20] rfl (by decide) (by decide))
  refine (counts_any _ (some ⟨w2.heap.size, 0, none⟩, 6, 6) n6 HL.out (by decide) (by decide)).mono ?_
  rintro _ w3 ⟨hb3, v3, rfl, ho3⟩
  rw [show n6.length = (mkTo n6 n6.length).length by rw [mkTo_len]] at ho3
  obtain ⟨A3, c3, rfl, hs3, _⟩ := own_sgs ho3
  have HS3 := Lib.hid hs3
  have HB3 : Hid (Below w.heap.size w w3) := Lib.hid ((HB2.out.alloc HB2.out.size _).trans (hb3.mono (by have := HB2.out.size; simp; omega)))
  clear hb3 ho3 hs3 HB2 HL
  go_wp2_with fail
  refine (pn.merge _ (A3, _, c3) _ HS3.out (fun x hx => (mk_in (by decide) x hx).1) (by rw [mkTo_len]; decide)).mono ?_
  rintro _ w4 ⟨⟨A4, n4, c4⟩, rfl, hs4, hb4⟩
  rw [merge6] at hs4
  have HS4 := Lib.hid hs4
  have HB4 : Hid (Below w.heap.size w w4) := Lib.hid (HB3.out.trans (hb4.mono HB3.out.size))
  clear hb4 hs4 HB3 HS3
  unfold slV
  go_wp2_with fail
  have HL4 := Lib.hid (lit_ls w4 [0, 2, 3, 4] #[.int .i64 0, .int .i64 2, .int .i64 3, .int .i64 4] rfl (by decide) (by decide))
  refine (rsame_any _ (A4, n4, c4) (some ⟨w4.heap.size, 0, none⟩, 4, 4) [0, 2, 3, 4] [0, 2, 3, 4] (HS4.out.below ((Below.refl _ w4).alloc (Nat.le_refl _) _)) HL4.out).mono ?_
  rintro _ w5 ⟨rfl, hb5⟩
  rw [decide_eq_true (show ([0, 2, 3, 4] : List Nat) = [0, 2, 3, 4] from rfl)]
  have HB5 : Hid (Below w.heap.size w w5) := Lib.hid ((HB4.out.alloc HB4.out.size _).trans (hb5.mono (by have := HB4.out.size; simp; omega)))
  clear hb5 HB4 HL4 HS4
  go_wp2_with fail
  have HL5 := Lib.hid (lit_ls w5 n3 #[.int .i64 5, .int .i64 9, .int .i64 3] rfl (by decide) (by decide))
  refine (counts_any _ (some ⟨w5.heap.size, 0, none⟩, 3, 3) n3 HL5.out (by decide) (by decide)).mono ?_
  rintro _ w6 ⟨hb6, v6, rfl, ho6⟩
  rw [show n3.length = (mkTo n3 n3.length).length by rw [mkTo_len]] at ho6
  obtain ⟨A6, c6, rfl, hs6, _⟩ := own_sgs ho6
  have HS6 := Lib.hid hs6
  have HB6 : Hid (Below w.heap.size w w6) := Lib.hid ((HB5.out.alloc HB5.out.size _).trans (hb6.mono (by have := HB5.out.size; simp; omega)))
  clear hb6 ho6 hs6 HB5 HL5
  go_wp2_with fail
  refine (pn.gone _ (A6, _, c6) _ 6 HS6.out (fun x hx => (mk_in (by decide) x hx).2) (by unfold In64; omega) (by rw [mkTo_len]; decide)).mono ?_
  rintro _ w7 ⟨⟨A7, n7, c7⟩, rfl, hs7, hb7⟩
  rw [gone3] at hs7
  have HS7 := Lib.hid hs7
  have HB7 : Hid (Below w.heap.size w w7) := Lib.hid (HB6.out.trans (hb7.mono HB6.out.size))
  clear hb7 hs7 HB6 HS6
  unfold slV
  go_wp2_with fail
  have HL7 := Lib.hid (lit_ls w7 [0, 2] #[.int .i64 0, .int .i64 2] rfl (by decide) (by decide))
  refine (rsame_any _ (A7, n7, c7) (some ⟨w7.heap.size, 0, none⟩, 2, 2) [0, 2] [0, 2] (HS7.out.below ((Below.refl _ w7).alloc (Nat.le_refl _) _)) HL7.out).mono ?_
  rintro _ w8 ⟨rfl, hb8⟩
  rw [decide_eq_true (show ([0, 2] : List Nat) = [0, 2] from rfl)]
  have HB8 : Hid (Below w.heap.size w w8) := Lib.hid ((HB7.out.alloc HB7.out.size _).trans (hb8.mono (by have := HB7.out.size; simp; omega)))
  clear hb8 HB7 HL7 HS7
  go_wp2
  go_ret
  exact ⟨rfl, HB8.out⟩
