/- LabelOrder, walked over the contracts of label's calls. -/
import Derived.Test.YtngkhcbnndkdeaaLbLaw
import Derived.Test.YtngkhcbnndkdeaaLbOpen
import Derived.Deep.DeepCutAuto
namespace Go.Proofs.Ytngkhcbnndkdeaa.LbOrderW
open Go Go.RowKit Words AppN UtSpec Less LbSpec LbText LbMem LbRef LbCmp LbCanon LbWrite LbLaw LbOpen UtOwn

theorem canon_asc (l : List Lab) : Asc (canon l).2 := by
  by_cases h : May l
  · rw [canon_may h]
    exact (may_sort h).2
  · rw [(canon_not h).2]
    unfold Asc
    simp
theorem canon_few (l : List Lab) : (canon l).2.length ≤ 16 := by
  by_cases h : May l
  · rw [canon_may h]
    simp only [sort_length]
    exact h.few
  · rw [(canon_not h).2]
    simp
/-- 'y <= x' of two texts of which x comes ahead. -/
theorem leq_no {y x : List UInt8} (h : less x y = true) : Op.bytesLess y x = false ∧ (y == x) = false := by
  rw [less_is]
  refine ⟨?_, beq_eq_false_iff_ne.2 (fun e => by subst e; rw [less_irrefl] at h; cases h)⟩
  cases e : less y x with
  | false => rfl
  | true => have := less_trans h e; rw [less_irrefl] at this; cases this
/-- The answers of Compare. -/
theorem one_of3 (a b : List Lab) : cmp a b = -1 ∨ cmp a b = 0 ∨ cmp a b = 1 := cmp_range a b

/-- A slice literal without elements. -/
theorem own_empty (w : World) (e : TypeId) (s : Nat) : (w.alloc (.cells #[] e)).ownsRow w.heap.size e s (.slice (some ⟨w.heap.size, 0, none⟩) 0 0) 0 [] := by
  refine ⟨by simp, .inr ⟨w.heap.size, 0, #[], rfl, Nat.le_refl _, heap_alloc_new w _, Nat.le_refl _, by unfold maxLen; omega, by simp, by simp⟩⟩
def LRel (n : Nat) (B : Nat) (w0 : World) (v : Value) (vi : Value) (wr : World) : Prop :=
  ∃ (i : Nat) (xs : List Value), vi = .int .i64 (i : Int) ∧ i ≤ n ∧ wr.ownsRow B 37 2 v n xs ∧ (∀ u ∈ xs, u.oneCell' = true) ∧ Hid (Below B w0 wr)

set_option maxHeartbeats 12800000 in
set_option maxRecDepth 100000 in
theorem walk0 (P : Lbl) (w : World) (a b c : List Lab) (A B C : Option Addr) (ca cb cc m n k : Nat) (ha : Lb w A m ca a) (hb : Lb w B n cb b) (hc : Lb w C k cc c) (hlen : a.length * 32 ≤ 140737488351232) (hM : Ml.ML w) :
    Calls Try.prog 5 #[.slice A m ca, .slice B n cb, .slice C k cc] w fun e w' => e = .returned (.bool true) ∧ Below w.heap.size w w' := by
  obtain ⟨i1, gi, gz0, gz1, gz2⟩ := info_parts info_label
  have A0 := Lib.hid (awake_any P w hM)
  have A1 := fun w x y X Y p q e f h1 h2 => Lib.hid (P.compare w x y X Y p q e f h1 h2)
  have A2 := fun w l A c m h => Lib.hid ((P.canon w l A c m h))
  have A3 := fun w x y X Y p q e f h1 h2 => Lib.hid (rsame_any w x y X Y p q e f h1 h2)
  have HXR := Lib.hid (one_of3 a b)
  have HYR := Lib.hid (one_of3 b c)
  have HT1 := Lib.hid (cmp_turn a b)
  have HT2 := Lib.hid (fun h1 h2 => cmp_le (a := a) (b := b) (c := c) h1 h2)
  have HT3 := Lib.hid (fun h1 h2 => cmp_ge (a := a) (b := b) (c := c) h1 h2)
  have HSE := Lib.hid (cmp_self a)
  have HA := Lib.hid ha
  have HB := Lib.hid hb
  have HC := Lib.hid hc
  clear ha hb hc
  have AAB := fun w h1 h2 => A1 w a b A B m n ca cb h1 h2
  have ABC := fun w h1 h2 => A1 w b c B C n k cb cc h1 h2
  have ABA := fun w h1 h2 => A1 w b a B A n m cb ca h1 h2
  have AAA := fun w h1 h2 => A1 w a a A A m m ca ca h1 h2
  have AAC := fun w h1 h2 => A1 w a c A C m k ca cc h1 h2
  rw [HT1.out] at ABA
  rw [HSE.out] at AAA
  clear HT1 HSE A1
  generalize cmp a b = x at *
  generalize cmp b c = y at *
  generalize cmp a c = z at *
  go_enter Try.func5, Try.ntmps5
  go_wp2_with fail
  refine A0.out.mono ?_
  rintro e w1 ⟨rfl, hb1⟩
  have HB1 := Lib.hid hb1
  have HA1 := Lib.hid (lb_below HA.out hb1)
  have HC1 := Lib.hid (lb_below HC.out hb1)
  have HD1 := Lib.hid (lb_below HB.out hb1)
  clear hb1 A0 HA HB HC
  go_wp2_with fail
  refine (AAB w1 HA1.out HD1.out).out.mono ?_
  rintro e w2 ⟨rfl, hb2⟩
  have HB2 := Lib.hid (below_step HB1.out hb2)
  have HA2 := Lib.hid (lb_below HA1.out hb2)
  have HC2 := Lib.hid (lb_below HC1.out hb2)
  have HD2 := Lib.hid (lb_below HD1.out hb2)
  clear hb2 AAB HA1 HD1 HC1
  go_wp2_with fail
  refine (ABC w2 HD2.out HC2.out).out.mono ?_
  rintro e w3 ⟨rfl, hb3⟩
  have HB3 := Lib.hid (below_step HB2.out hb3)
  have HA3 := Lib.hid (lb_below HA2.out hb3)
  have HC3 := Lib.hid (lb_below HC2.out hb3)
  have HD3 := Lib.hid (lb_below HD2.out hb3)
  clear hb3 ABC HA2 HD2 HC2
  go_upto_region 5 with fail
  go_cut [63] (fun s63 wx => s63 = .bool false ∧ Hid (Below w3.heap.size w3 wx))
  case first =>
    go_wp2_with fail
    refine (ABA w3 HD3.out HA3.out).out.mono ?_
    rintro e w4 ⟨rfl, hb4⟩
    have HB4 := Lib.hid hb4
    have HA4 := Lib.hid (lb_below HA3.out hb4)
    have HC4 := Lib.hid (lb_below HC3.out hb4)
    clear hb4 ABA
    have hxr := HXR.out
    have hyr := HYR.out
    rcases hxr with rfl | rfl | rfl <;> rcases hyr with rfl | rfl | rfl
    all_goals
      go_wp2_with fail
      refine (AAA w4 HA4.out HA4.out).out.mono ?_
      rintro e w5 ⟨rfl, hb5⟩
      have HB5 := Lib.hid (below_step HB4.out hb5)
      have HA5 := Lib.hid (lb_below HA4.out hb5)
      have HC5 := Lib.hid (lb_below HC4.out hb5)
      clear hb5 AAA HA4 HC4
    all_goals
      first
        | (have hz := HT2.out (by decide) (by decide)
           have hz2 := HT3.out (by decide) (by decide)
           have hz3 : z = 0 := by omega
           subst hz3
           clear hz hz2
           go_wp2_with fail
           refine (AAC w5 HA5.out HC5.out).out.mono ?_
           rintro e w6 ⟨rfl, hb6⟩
           have HB6 := Lib.hid (below_step HB5.out hb6)
           have HA6 := Lib.hid (lb_below HA5.out hb6)
           have HC6 := Lib.hid (lb_below HC5.out hb6)
           clear hb6 HA5 HC5
           go_wp2_with fail
           refine (AAC w6 HA6.out HC6.out).out.mono ?_
           rintro e w7 ⟨rfl, hb7⟩
           have HB7 := Lib.hid (below_step HB6.out hb7)
           clear hb7
           go_wp2
           go_meet
           exact ⟨rfl, HB7⟩)
        | (have hz : z ≤ 0 := HT2.out (by decide) (by decide)
           go_wp2_with fail
           refine (AAC w5 HA5.out HC5.out).out.mono ?_
           rintro e w6 ⟨rfl, hb6⟩
           have HB6 := Lib.hid (below_step HB5.out hb6)
           clear hb6
           go_wp2
           go_meet
           exact ⟨congrArg Value.bool (decide_eq_false (Int.not_lt.2 hz)), HB6⟩)
        | (have hz : 0 ≤ z := HT3.out (by decide) (by decide)
           go_wp2_with fail
           refine (AAC w5 HA5.out HC5.out).out.mono ?_
           rintro e w6 ⟨rfl, hb6⟩
           have HB6 := Lib.hid (below_step HB5.out hb6)
           clear hb6
           go_wp2
           go_meet
           exact ⟨congrArg Value.bool (decide_eq_false (Int.not_lt.2 hz)), HB6⟩)
        | (go_wp2
           go_meet
           exact ⟨rfl, HB5⟩)
  case rest =>
    obtain ⟨rfl, hbc⟩ := hcut
    have HBc := Lib.hid (below_step HB3.out hbc.out)
    have HAc := Lib.hid (lb_below HA3.out hbc.out)
    clear hbc HA3 HC3 HB3 HXR HYR HT2 HT3 ABA AAA AAC HD3
    obtain ⟨rfl, hac, ham, hrd⟩ := HAc.out
    obtain ⟨en, L, hcan⟩ : ∃ en L, canon a = (en, L) := ⟨_, _, rfl⟩
    have A2a := fun w A c m h => Lib.hid (by have h9 := (A2 w a A c m h).out; rw [hcan] at h9; exact h9)
    have HASC : Hid (Asc L) := Lib.hid (by have h9 := canon_asc a; rw [hcan] at h9; exact h9)
    have hfew : L.length ≤ 16 := by have h9 := canon_few a; rw [hcan] at h9; exact h9
    have HEN : Hid (((en : Int) != 0) = true ∨ (L.length = a.length ∧ ((en : Int) != 0) = false)) := Lib.hid (by
      by_cases hm : May a
      · rw [canon_may hm] at hcan
        obtain ⟨rfl, rfl⟩ := Prod.mk.inj hcan
        exact .inr ⟨sort_length a, rfl⟩
      · have h9 := (canon_not hm).1
        rw [hcan] at h9
        refine .inl ?_
        simp
        simpa using h9)
    have HRD := Lib.hid hrd
    unfold CPost at A2a
    simp only at A2a
    unfold maxLen at ham
    clear hcan hrd A2
    obtain ⟨wq, hwq⟩ : ∃ wq : World, wq = wc := ⟨_, rfl⟩
    go_wp2_with fail
    refine (A2a _ _ _ _ HAc.out).out.mono ?_
    rintro e w4 ⟨v4, rfl, hown4, hb4⟩
    obtain ⟨X, cx, rfl, hcx, hmx, hrx, _⟩ := own_lab hown4
    have HX4 := Lib.hid hrx
    have HB4 := Lib.hid (below_step HBc.out hb4)
    have HA4 := Lib.hid (lb_below HAc.out hb4)
    have HRD4 := Lib.hid ((HRD.out.below hb4).more hb4.size)
    have hLc : L.length ≤ cx := hcx
    clear hown4 hb4 hrx HBc HAc HRD hcx
    go_wp2
    go_loopw [11] (fun v wr => ∃ j : Nat, (j + 1 ≤ L.length ∨ j = 0) ∧ v = .int .i64 ((j : Int) + 1) ∧ Hid (Below w4.heap.size w4 wr)) (fun v _ => L.length - (intOf v).toNat)
    case atStart => exact ⟨0, .inr rfl, rfl, Lib.hid (Below.refl _ _)⟩
    case round =>
      obtain ⟨j, hj, rfl, HBr⟩ := hrel
      by_cases hlt : j + 1 < L.length
      · obtain ⟨g, o, rfl, hg, hcell⟩ := HX4.out (by rw [flat_len]; omega)
        obtain ⟨p0, _⟩ := cellsL hcell hlt
        obtain ⟨q0, _⟩ := cellsL hcell (show j < L.length by omega)
        have hls := List.pairwise_iff_getElem.1 HASC.out j (j + 1) (by omega) hlt (by omega)
        have k0 := (HBr.out.cell (p := ⟨g, o + (j + 1) * 2, none⟩) hg).trans p0
        have k1 := (HBr.out.cell (p := ⟨g, o + j * 2, none⟩) hg).trans q0
        generalize (L[j + 1]).1 = y1 at *
        generalize (L[j]'(by omega)).1 = y0 at *
        have hle := leq_no hls
        obtain ⟨e1, e2⟩ := hle
        have hi1 : (0 : Int) ≤ (j : Int) + 1 := by omega
        have hi2 : (j : Int) + 1 < (L.length : Int) := by omega
        have hi3 : (j : Int) < (L.length : Int) := by omega
        have hi4 : ((j : Int) + 1).toNat = j + 1 := by omega
        have hi5 : IntKind.i64.wrap ((j : Int) + 1 - 1) = (j : Int) := by rw [IntKind.wrap_i64]; omega
        clear hcell p0 q0 hls hj HX4
        go_wp2
        go_quiet (fail)
        go_wp2
        go_roundw
        case rel => exact ⟨j + 1, .inl (by omega), by go_num, Lib.hid (below_drewN HBr.out _)⟩
        case measure => simp [intOf]; omega
      · have HB5 := Lib.hid (HB4.out.trans (HBr.out.mono HB4.out.size))
        have HA5 := Lib.hid (lb_below HA4.out HBr.out)
        have HRD5 := Lib.hid ((HRD4.out.below HBr.out).more HBr.out.size)
        have F1 : Hid ((flat a).length = a.length * 2) := Lib.hid (flat_len a)
        have F2 : 0 + a.length ≤ maxLen := by unfold maxLen; omega
        have F3 : (0 + a.length) * 32 ≤ 140737488355328 := by omega
        have F5 : a.length + 1 ≤ maxLen := by unfold maxLen; omega
        have F6 : (a.length + 1) * 32 ≤ 140737488355328 := by omega
        clear HBr HB4 HA4 HRD4 HX4 HASC
        obtain ⟨w5, hw5⟩ : ∃ w5 : World, w5 = wr := ⟨_, rfl⟩
        rw [← hw5] at HB5 HA5 HRD5 ⊢
        have hni : ¬ ((j : Int) + 1 < (L.length : Int)) := by omega
        clear hw5 hlt hj
        have F0 : Hid ((w5.alloc (.cells #[] 37)).ownsRow w5.heap.size 37 2 (.slice (some ⟨w5.heap.size, 0, none⟩) 0 0) 0 []) := Lib.hid (own_empty w5 37 2)
        have HRa := Lib.hid ((HA5.out.2.2.2).alloc (Nat.le_refl _) (.cells #[] 37))
        have hsz0 : w5.heap.size ≤ (w5.alloc (.cells #[] 37)).heap.size := by simp
        go_wp2_with (at_builtin; refine wpList_append_rd _ rfl (.tmp 87) (.tmp 88) 22 rfl w5.heap.size 2 37 i1 (.agg #[.string ByteArray.empty, .string ByteArray.empty]) 32 Try.underlying22 gi gz0 gz1 gz2 rfl (by omega) _ _ _ rfl F0.out w5.heap.size A a.length ca (flat a) rfl F1.out HRa.out (flat_ones _) F2 F3 hsz0 ?_)
        intro v6 w6 hown6 hg6 _
        have HO6 := Lib.hid hown6
        have hs6 : w5.heap.size ≤ w6.heap.size := by have := hg6.size; simp at this; omega
        have HB6r : Hid (Below w5.heap.size w5 w6) := Lib.hid (((Below.refl _ w5).alloc (Nat.le_refl _) _).grown hg6 (by simp) (fun g h => by cases h; exact Nat.le_refl _))
        have HM := Lib.hid (Rd.made w6 #[.string ⟨#[122]⟩, .string ByteArray.empty] 37)
        have hsz1 : w5.heap.size ≤ (w6.alloc (.cells #[.string ⟨#[122]⟩, .string ByteArray.empty] 37)).heap.size := by simp; omega
        have FX1 : Hid (∀ u ∈ [Value.string ⟨#[122]⟩, Value.string ByteArray.empty], u.oneCell' = true) := Lib.hid (by intro u hu; simp at hu; rcases hu with rfl | rfl <;> rfl)
        clear hown6 hg6 F0 HRa
        go_wp2_with (at_builtin; refine wpList_append_rd _ rfl (.tmp 89) (.tmp 91) 22 rfl w5.heap.size 2 37 i1 (.agg #[.string ByteArray.empty, .string ByteArray.empty]) 32 Try.underlying22 gi gz0 gz1 gz2 rfl (by omega) _ _ _ rfl (HO6.out.alloc _) (w6.heap.size + 1) (some ⟨w6.heap.size, 0, none⟩) 1 1 [.string ⟨#[122]⟩, .string ByteArray.empty] rfl rfl HM.out FX1.out (by simpa using F5) (by simpa using F6) hsz1 ?_)
        intro v7 w7 hown7 hg7 _
        have HO7 : Hid (w7.ownsRow w5.heap.size 37 2 v7 (a.length + 1) (flat (a ++ [([122], [])]))) := Lib.hid (by
          rw [flat_append, flat_one]
          have h := hown7
          exact h)
        have HB7r := Lib.hid ((HB6r.out.alloc hs6 _).grown hg7 hsz1 (fun g h => own_ltN HO6.out g h))
        have hs7 : w5.heap.size ≤ w7.heap.size := HB7r.out.size
        have HB7 := Lib.hid (HB5.out.trans (HB7r.out.mono HB5.out.size))
        have HA7 := Lib.hid (lb_below HA5.out HB7r.out)
        clear hown7 hg7 HO6 HB6r HM HB5 HA5 HRD5 hs6
        obtain ⟨F, cf, rfl, hcf, hmf, hrf, hgf⟩ := own_lab HO7.out
        obtain ⟨gf, rfl, hgf2⟩ : ∃ g, F = some ⟨g, 0, none⟩ ∧ w5.heap.size ≤ g := by
          rcases hgf with h | ⟨g, h1, h2⟩
          · omega
          · exact ⟨g, h1, h2⟩
        have HRF := Lib.hid hrf
        have HFB : Hid (Lb w7 (some ⟨gf, 0, none⟩) a.length cf a) := Lib.hid (by
          refine ⟨rfl, by omega, hmf, ?_⟩
          have h := rd_take2 hrf a.length
          rwa [List.take_left] at h)
        obtain ⟨kb, ko, hke, hgl, hkc⟩ := hrf (by rw [flat_len]; simp)
        have hke1 : kb = gf ∧ ko = 0 := by injection hke with h; injection h with h1 h2; exact ⟨h1.symm, h2.symm⟩
        obtain ⟨rfl, rfl⟩ := hke1
        have HZC : Hid (w7.cell? ⟨kb, a.length * 2, none⟩ = some (.string ⟨#[122]⟩)) := Lib.hid (by
          have h := hkc (a.length * 2) (S8 [122]) (by
            have h := (flat_at (l := a ++ [([122], [])]) (k := a.length) (by simp)).1
            simpa using h)
          simpa [S8] using h)
        unfold maxLen at hmf
        clear hrf hgf hke hkc
        have hcf2 : a.length ≤ cf := by omega
        go_wp2_with fail
        refine (A2a w7 _ _ _ HFB.out).out.mono ?_
        rintro e w8 ⟨v8, rfl, hown8, hb8⟩
        have HO8 := Lib.hid hown8
        have HB8 := Lib.hid (below_step HB7.out hb8)
        have HA8 := Lib.hid (lb_below HA7.out hb8)
        have HF8 := Lib.hid (lb_below HFB.out hb8)
        have HZ8 := Lib.hid ((hb8.cell (p := ⟨kb, a.length * 2, none⟩) hgl).trans HZC.out)
        have hb8s := hb8.size
        have HBB : Hid (Below w7.heap.size w7 w8) := Lib.hid hb8
        obtain ⟨X8, c8, rfl, hc8, hm8, _, hx8⟩ := own_lab hown8
        unfold maxLen at hm8
        have hww7 := HB7.out.size
        clear hown8 hb8 HB7 A2a HA8 HF8 HZ8
        go_wp2
        go_loopw [14] (fun vi wr => LRel L.length w7.heap.size w8 (.slice X8 L.length c8) vi wr) (fun vi _ => L.length - (intOf vi).toNat)
        case atStart => exact ⟨0, flat L, rfl, Nat.zero_le _, HO8.out, flat_ones _, Lib.hid (Below.refl _ _)⟩
        case round =>
          obtain ⟨i, xs, rfl, hi, hown, hones, HBr⟩ := hrel
          by_cases hlt : i < L.length
          · have hxl : xs.length = L.length * 2 := hown.1
            obtain ⟨g8, rfl, hg8⟩ : ∃ g, X8 = some ⟨g, 0, none⟩ ∧ w7.heap.size ≤ g := by
              rcases hx8 with h | ⟨g, h1, h2⟩
              · omega
              · exact ⟨g, h1, h2⟩
            have k0 : ∃ u, wr.cell? ⟨g8, i * 2, none⟩ = some u := by
              have h := hown.cells (g := g8) rfl (i * 2) (xs[i * 2]'(by omega)) (List.getElem?_eq_getElem _)
              rw [add_off, Nat.zero_add] at h
              exact ⟨_, h⟩
            obtain ⟨u0, k0⟩ := k0
            have kz := hown.frozenAt (i * 2)
            have HST := Lib.hid (hown.stored (i * 2) (.string ⟨#[99, 104, 97, 110, 103, 101, 100]⟩)).1
            have HON : Hid (∀ u ∈ xs.set (i * 2) (.string ⟨#[99, 104, 97, 110, 103, 101, 100]⟩), u.oneCell' = true) := Lib.hid (fun u hu => by
              rcases List.mem_or_eq_of_mem_set hu with h | h
              · exact hones u h
              · subst h; rfl)
            have HBn := Lib.hid (HBr.out.setCell (p := ⟨g8, i * 2, none⟩) hg8 (.string ⟨#[99, 104, 97, 110, 103, 101, 100]⟩))
            clear hxl hown hones hx8 HO8
            go_wp2
            go_roundw
            case rel => exact ⟨i + 1, _, by go_num, by omega, HST.out, HON.out, HBn⟩
            case measure => simp [intOf]; omega
          · have HOr := Lib.hid hown
            have HM := Lib.hid (Rd.made wr #[.string ⟨#[109, 111, 114, 101]⟩, .string ByteArray.empty] 37)
            have hsw : w7.heap.size ≤ wr.heap.size := by have := HBr.out.size; omega
            have hsz2 : w7.heap.size ≤ (wr.alloc (.cells #[.string ⟨#[109, 111, 114, 101]⟩, .string ByteArray.empty] 37)).heap.size := by simp; omega
            have FX2 : Hid (∀ u ∈ [Value.string ⟨#[109, 111, 114, 101]⟩, Value.string ByteArray.empty], u.oneCell' = true) := Lib.hid (by intro u hu; simp at hu; rcases hu with rfl | rfl <;> rfl)
            have G1 : L.length + 1 ≤ maxLen := by unfold maxLen; omega
            have G2 : (L.length + 1) * 32 ≤ 140737488355328 := by omega
            have hil : i = L.length := by omega
            have hni2 : ¬ ((i : Int) < (L.length : Int)) := by omega
            clear hown hx8 HO8 hlt
            go_wp2_with (at_builtin; refine wpList_append_rd _ rfl (.tmp 111) (.tmp 113) 22 rfl w7.heap.size 2 37 i1 (.agg #[.string ByteArray.empty, .string ByteArray.empty]) 32 Try.underlying22 gi gz0 gz1 gz2 rfl (by omega) _ _ _ rfl (HOr.out.alloc _) (wr.heap.size + 1) (some ⟨wr.heap.size, 0, none⟩) 1 1 [.string ⟨#[109, 111, 114, 101]⟩, .string ByteArray.empty] rfl rfl HM.out FX2.out G1 G2 hsz2 ?_)
            intro v9 w9 hown9 hg9 _
            obtain ⟨X9, c9, rfl, _, _, _, _⟩ := own_lab hown9
            have HB9r : Hid (Below w7.heap.size w8 w9) := Lib.hid ((HBr.out.alloc hsw _).grown hg9 hsz2 (fun g h => own_ltN HOr.out g h))
            have HB79 := Lib.hid (HBB.out.trans HB9r.out)
            have HB9 := Lib.hid (HB8.out.trans (HB9r.out.mono (by omega)))
            have HF9 := Lib.hid (lb_below HFB.out HB79.out)
            have HA9 := Lib.hid (lb_below HA7.out HB79.out)
            have HZ9 := Lib.hid ((HB79.out.cell (p := ⟨kb, a.length * 2, none⟩) hgl).trans HZC.out)
            have hg9 : kb < w9.heap.size := by have := HB79.out.size; omega
            have A3' := A3 w9 a a _ _ _ _ _ _ HF9.out HA9.out
            rw [show (a == a) = true by simp] at A3'
            clear hown9 HFB HA7 HZC HB79 HOr HM A3 HBr hones
            go_wp2_with fail
            refine A3'.out.mono ?_
            rintro e w10 ⟨rfl, hb10⟩
            have HB10 := Lib.hid (below_step HB9.out hb10)
            have k10 : w10.cell? ⟨kb, a.length * 2, none⟩ = some (.string ⟨#[122]⟩) := (hb10.cell (p := ⟨kb, a.length * 2, none⟩) hg9).trans HZ9.out
            clear hb10 HF9 HA9 HZ9 A3'
            rcases HEN.out with he | ⟨he1, he2⟩
            · go_wp2
              go_ret
              exact ⟨rfl, HB10.out⟩
            · have he3 : ((L.length : Int) == (a.length : Int)) = true := by simp; omega
              go_wp2
              go_ret
              exact ⟨rfl, HB10.out⟩
end Go.Proofs.Ytngkhcbnndkdeaa.LbOrderW
