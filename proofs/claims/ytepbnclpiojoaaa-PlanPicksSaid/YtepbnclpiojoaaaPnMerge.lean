/- The contract of the document's Merge. Conditions: the segments lie in memory, each count an int, at most 2^47 bytes of them. -/
import Derived.Test.YtepbnclpiojoaaaPnGone
namespace Go.Proofs.Ytepbnclpiojoaaa.PnMerge
open Go Go.RowKit Words AppN PnSpec SgMem PnRef PnGone

/-- What the inner loop has found out of the picked ones. -/
structure Fit (cs : List Int) (l : List Nat) (b : Bool) (z : Int) : Prop where
  low : 0 ≤ z
  most : z ≤ 65536 * l.length
  yes : b = true → z = sumOf cs l
  no : b = false → 65536 < sumOf cs l
theorem sumOf_snoc (cs : List Int) (l : List Nat) (k : Nat) : sumOf cs (l ++ [k]) = sumOf cs l + max (cs.getD k 0) 0 := by simp [sumOf, List.sum_append]
theorem sumOf_low (cs : List Int) : ∀ l : List Nat, 0 ≤ sumOf cs l
  | [] => by simp [sumOf]
  | a :: l => by have := sumOf_low cs l; unfold sumOf at *; simp only [List.map_cons, List.sum_cons]; omega
theorem Fit.start (cs : List Int) : Fit cs [] true 0 := ⟨by omega, by simp, fun _ => by simp [sumOf], by simp⟩
theorem Fit.big {cs : List Int} {l : List Nat} {b : Bool} {z : Int} (h : Fit cs l b z) (k : Nat) (hc : 65536 < cs.getD k 0) : Fit cs (l ++ [k]) false z := by
  have := sumOf_low cs l
  refine ⟨h.low, ?_, by simp, fun _ => ?_⟩
  · have := h.most; simp only [List.length_append, List.length_cons, List.length_nil]; omega
  · rw [sumOf_snoc]; omega
theorem Fit.off {cs : List Int} {l : List Nat} {z : Int} (h : Fit cs l false z) (k : Nat) : Fit cs (l ++ [k]) false z := by
  refine ⟨h.low, ?_, by simp, fun _ => ?_⟩
  · have := h.most; simp only [List.length_append, List.length_cons, List.length_nil]; omega
  · have := h.no rfl; rw [sumOf_snoc]; omega
theorem Fit.zero {cs : List Int} {l : List Nat} {z : Int} (h : Fit cs l true z) (k : Nat) (hc : cs.getD k 0 ≤ 0) : Fit cs (l ++ [k]) true z := by
  refine ⟨h.low, ?_, fun _ => ?_, by simp⟩
  · have := h.most; simp only [List.length_append, List.length_cons, List.length_nil]; omega
  · have := h.yes rfl; rw [sumOf_snoc]; omega
theorem Fit.add {cs : List Int} {l : List Nat} {z : Int} (h : Fit cs l true z) (k : Nat) (h0 : 0 < cs.getD k 0) (hc : cs.getD k 0 ≤ 65536) : Fit cs (l ++ [k]) true (z + cs.getD k 0) := by
  refine ⟨by have := h.low; omega, ?_, fun _ => ?_, by simp⟩
  · have := h.most; simp only [List.length_append, List.length_cons, List.length_nil]; omega
  · have := h.yes rfl; rw [sumOf_snoc]; omega
theorem Fit.done {cs : List Int} {t : Nat} {b : Bool} {z : Int} (h : Fit cs (picks cs t) b z) : fits cs t = ((picks cs t).length == 4 && (b && decide (z ≤ 65536))) := by
  unfold fits
  cases b with
  | true => rw [h.yes rfl]; simp
  | false => have := h.no rfl; rw [decide_eq_false (by omega)]; simp
/-- Nothing of a tier past the last. -/
theorem no_tier {cs : List Int} (h : ∀ c ∈ cs, In64 c) {t : Nat} (ht : 32 ≤ t) : picks cs t = [] := by
  unfold picks picksTo
  rw [List.filter_eq_nil_iff.2, List.take_nil]
  intro i hi
  have hi := List.mem_range.1 hi
  have := tierI_le (h _ (show cs.getD i 0 ∈ cs by rw [List.getD_eq_getElem?_getD, List.getElem?_eq_getElem hi]; exact List.getElem_mem hi))
  have hne : tierI (cs.getD i 0) ≠ t := by omega
  simpa using hne
theorem fits_past {cs : List Int} (h : ∀ c ∈ cs, In64 c) {t : Nat} (ht : 32 ≤ t) : fits cs t = false := by
  unfold fits; rw [no_tier h ht]; rfl
theorem merge_some {cs : List Int} (h : ∀ c ∈ cs, In64 c) {t : Nat} (hl : ∀ u, u < t → fits cs u = false) (hf : fits cs t = true) : merge cs = picks cs t := by
  have ht : t < 32 := by
    by_cases hx : t < 32
    · exact hx
    · rw [fits_past h (by omega)] at hf; simp at hf
  have : (List.range 32).find? (fits cs) = some t := by
    rw [List.find?_range_eq_some]
    exact ⟨hf, List.mem_range.2 ht, fun j hj => by rw [hl j hj]; rfl⟩
  unfold merge; rw [this]
theorem merge_none {cs : List Int} (hl : ∀ u, u < 32 → fits cs u = false) : merge cs = [] := by
  have : (List.range 32).find? (fits cs) = none := by
    rw [List.find?_eq_none]
    intro x hx
    rw [hl x (List.mem_range.1 hx)]; simp
  unfold merge; rw [this]

theorem own_slice {w : World} {base n : Nat} {e : TypeId} {v : Value} {xs : List Value} (h : w.ownsRow base e 1 v n xs) : ∃ A c, v = .slice A n c := by
  rcases h.2 with ⟨rfl, h2⟩ | ⟨g, cap, cur, rfl, hb, hg, h1, h2, h3, h4⟩
  · exact ⟨none, 0, by rw [h2]⟩
  · exact ⟨_, _, rfl⟩
theorem own_keepT {w w' : World} {B n : Nat} {e : TypeId} {v : Value} {xs : List Value} (h : w.ownsRow B e 1 v n xs) (hb : Below w.heap.size w w') : w'.ownsRow B e 1 v n xs :=
  h.kept (row := none) ⟨hb.os, hb.tape, hb.output, hb.size, fun i hi _ => hb.block i hi⟩ (by cases v.ownBlock <;> simp)
def ORel (W : World) (cs : List Int) (v : Value) (wr : World) : Prop :=
  ∃ t : Nat, t ≤ 40 ∧ v = .int .i64 (t : Int) ∧ Hid (∀ u, u < t → fits cs u = false) ∧ Hid (Below W.heap.size W wr)
def IRel (W : World) (cs : List Int) (t : Nat) (v4 v5 v6 v7 : Value) (wr : World) : Prop :=
  ∃ (k : Nat) (b : Bool) (z : Int), k ≤ cs.length ∧ v5 = .bool b ∧ v6 = .int .i64 z ∧ v7 = .int .i64 (k : Int) ∧ Hid (Fit cs (picksTo cs t k) b z) ∧
    Hid (wr.ownsRow W.heap.size 3 1 v4 (picksTo cs t k).length ((picksTo cs t k).map IV)) ∧ Hid (Below W.heap.size W wr)

set_option maxHeartbeats 3200000 in
set_option maxRecDepth 100000 in
theorem rmerge_any (w : World) (s : Sl) (l : List Sg) (hs : Sgs w s l) (hok : ∀ x ∈ l, In64 x.count) (hl : l.length * 32 ≤ 140737488355328) :
    Calls Try.prog 14 #[slV s] w fun e w' => Below w.heap.size w w' ∧ ∃ v, e = .returned v ∧ w'.ownsRow w.heap.size 3 1 v (merge (l.map Sg.count)).length ((merge (l.map Sg.count)).map IV) := by
  obtain ⟨A, n, c⟩ := s
  have HRD := Lib.hid hs.rd
  have hn := hs.len
  have hc := hs.le
  have hm := hs.cap
  simp only at hn hc hm
  unfold slV
  unfold maxLen at hm
  subst hn
  clear hs
  go_enter Try.func14, Try.ntmps14
  go_wp2
  obtain ⟨i0, hi, hz0, hz1, hz2⟩ := info_int
  have HML : Hid ((l.map Sg.count).length = l.length) := Lib.hid (by simp)
  have HCS : Hid (∀ c ∈ l.map Sg.count, In64 c) := Lib.hid (by simpa using hok)
  have HPL := Lib.hid (picksTo_len (l.map Sg.count))
  have HPS := Lib.hid (picksTo_succ (l.map Sg.count))
  have HOK := Lib.hid hok
  clear hok
  go_loopw [3] (fun v wr => ORel w (l.map Sg.count) v wr) (fun v _ => 40 - (intOf v).toNat)
  case atStart => exact ⟨0, by omega, rfl, Lib.hid (by simp), Lib.hid (Below.refl _ _)⟩
  case round =>
    obtain ⟨t, ht, rfl, HLOW, HBr⟩ := hrel
    by_cases h40 : t < 40
    case neg =>
      have hd : decide ((t : Int) < 40) = false := decide_eq_false (by omega)
      have HE : Hid (merge (l.map Sg.count) = []) := Lib.hid (merge_none fun u hu => HLOW.out u (by omega))
      go_wp2
      go_ret
      rw [HE.out]
      exact ⟨HBr.out, _, rfl, World.ownsRow_nil _ _ _ _⟩
    have hd : decide ((t : Int) < 40) = true := decide_eq_true (by omega)
    go_wp2
    go_loopw [4, 5, 6, 7] (fun v4 v5 v6 v7 wr2 => IRel w (l.map Sg.count) t v4 v5 v6 v7 wr2) (fun _ _ _ v _ => l.length - (intOf v).toNat)
    case atStart => exact ⟨0, true, 0, Nat.zero_le _, rfl, rfl, rfl, Lib.hid (Fit.start _), Lib.hid (World.ownsRow_nil _ _ _ _), HBr⟩
    case round =>
      obtain ⟨k, b, z, hk, rfl, rfl, rfl, HF, HOW, HB2⟩ := hrel
      obtain ⟨A5, c5, rfl⟩ := own_slice HOW.out
      rw [HML.out] at hk
      have hpl := HPL.out t k
      have HT : Hid (∀ u : Value, u = u) := Lib.hid fun _ => rfl
      by_cases hx : k < l.length ∧ (picksTo (l.map Sg.count) t k).length < 4
      case neg =>
        have hfin : picks (l.map Sg.count) t = picksTo (l.map Sg.count) t k := by
          unfold picks
          by_cases hkn : k < l.length
          · exact picks_full (by omega) _ (by rw [HML.out]; omega)
          · rw [show (l.map Sg.count).length = k by have := HML.out; omega]
        have hfd := HF.out
        rw [← hfin] at hfd
        have HD := Lib.hid hfd.done
        have HMS : Hid (fits (l.map Sg.count) t = true → merge (l.map Sg.count) = picks (l.map Sg.count) t) := Lib.hid fun h => merge_some HCS.out HLOW.out h
        have HNX : Hid (fits (l.map Sg.count) t = false → ∀ u, u < t + 1 → fits (l.map Sg.count) u = false) := Lib.hid fun h u hu => by
          by_cases hut : u = t
          · rw [hut]; exact h
          · exact HLOW.out u (by omega)
        rw [hfin] at HD HMS
        clear hfin hfd
        generalize picksTo (l.map Sg.count) t k = L at *
        have HEND : Hid (fits (l.map Sg.count) t = false → ORel w (l.map Sg.count) (.int .i64 ((t : Int) + 1)) wr ∧
            40 - (intOf (.int .i64 ((t : Int) + 1))).toNat < 40 - (intOf (.int .i64 (t : Int))).toNat) := Lib.hid fun h =>
          ⟨⟨t + 1, by omega, by go_num, Lib.hid (HNX.out h), HB2⟩, by simp [intOf]; omega⟩
        clear HNX HF HPS HRD
        by_cases hkn : k < l.length
        case' pos =>
          have d1 : decide ((k : Int) < (l.length : Int)) = true := decide_eq_true (by omega)
          have d2 : decide ((L.length : Int) < 4) = false := decide_eq_false (by omega)
          have hL4 : L.length = 4 := by omega
        case' neg =>
          have d1 : decide ((k : Int) < (l.length : Int)) = false := decide_eq_false (by omega)
        all_goals
          clear hx
          by_cases h4 : L.length = 4
          case neg =>
            first
              | (exfalso; omega)
              | (have hf : Hid (fits (l.map Sg.count) t = false) := Lib.hid (by rw [HD.out]; simp [h4])
                 have j4 : ((L.length : Int) == 4) = false := by simp; omega
                 go_wp2
                 exact HEND.out hf.out)
          cases b with
          | false =>
            have hf : Hid (fits (l.map Sg.count) t = false) := Lib.hid (by rw [HD.out]; simp)
            go_wp2
            exact HEND.out hf.out
          | true =>
            by_cases hz : z ≤ 65536
            · have hf : Hid (merge (l.map Sg.count) = L) := Lib.hid (HMS.out (by rw [HD.out]; simp [h4, hz]))
              have j5 : decide (z ≤ 65536) = true := decide_eq_true hz
              go_wp2
              go_ret
              rw [hf.out]
              rw [h4] at HOW
              rw [h4]
              exact ⟨HB2.out, _, rfl, HOW.out⟩
            · have hf : Hid (fits (l.map Sg.count) t = false) := Lib.hid (by rw [HD.out]; simp [hz])
              have j5 : decide (z ≤ 65536) = false := decide_eq_false hz
              go_wp2
              exact HEND.out hf.out
      obtain ⟨hlt, hl4⟩ := hx
      have d1 : decide ((k : Int) < (l.length : Int)) = true := decide_eq_true (by omega)
      have d2 : decide (((picksTo (l.map Sg.count) t k).length : Int) < 4) = true := decide_eq_true (by omega)
      obtain ⟨g, off, rfl, hg, hcs⟩ := HRD.out (by rw [flatS_len]; omega)
      obtain ⟨p0, p1, p2, p3⟩ := cellsS hcs hlt
      have k1 := cell_up HB2.out (p := ⟨g, off + k * 4 + 1, none⟩) hg p1
      have hx64 := HOK.out _ (List.getElem_mem hlt)
      have hD : (l.map Sg.count).getD k 0 = (l[k]).count := by simp [List.getD_eq_getElem?_getD, hlt]
      have HS := Lib.hid (HPS.out t k)
      rw [hD] at HS
      have HP := Lib.hid p1
      clear hcs p0 p1 p2 p3
      generalize (l[k]).count = x at *
      have HFB : Hid (65536 < x → Fit (l.map Sg.count) (picksTo (l.map Sg.count) t k ++ [k]) false z) := Lib.hid fun h => HF.out.big k (by rw [hD]; exact h)
      have HFO : Hid (b = false → Fit (l.map Sg.count) (picksTo (l.map Sg.count) t k ++ [k]) false z) := Lib.hid fun h => by
        have h2 := HF.out; rw [h] at h2; exact h2.off k
      have HFZ : Hid (b = true → x ≤ 0 → Fit (l.map Sg.count) (picksTo (l.map Sg.count) t k ++ [k]) true z) := Lib.hid fun h h3 => by
        have h2 := HF.out; rw [h] at h2; exact h2.zero k (by rw [hD]; exact h3)
      have HFA : Hid (b = true → 0 < x → x ≤ 65536 → Fit (l.map Sg.count) (picksTo (l.map Sg.count) t k ++ [k]) true (z + x)) := Lib.hid fun h h3 h4 => by
        have h2 := HF.out; rw [h] at h2; have h5 := h2.add k (by rw [hD]; exact h3) (by rw [hD]; exact h4); rwa [hD] at h5
      have hz1b := HF.out.low
      have hz2b := HF.out.most
      clear HPS HRD hD
      generalize hG : picksTo (l.map Sg.count) t k = G at *
      have HC := fun w => rtier_any w x hx64
      generalize hTx : tierI x = T at *
      by_cases e : T = t
      case neg =>
        have HX : Hid (picksTo (l.map Sg.count) t (k + 1) = G) := Lib.hid (by rw [HS.out, if_neg (by omega)])
        have j : ((T : Int) == (t : Int)) = false := by simp; omega
        clear HFB HFO HFZ HFA HS hTx hx64
        go_wp2_with fail
        refine (HC _).mono ?_
        rintro _ w2 ⟨rfl, hb⟩
        have HOW2 := Lib.hid (own_keepT HOW.out hb)
        have HB3 : Hid (Below w.heap.size w w2) := Lib.hid (HB2.out.trans (hb.mono HB2.out.size))
        have k1' := cell_up hb (p := ⟨g, off + k * 4 + 1, none⟩) (by have := HB2.out.size; simp only; omega) k1
        clear hb HOW HB2 k1 HC
        go_wp2
        refine ⟨⟨k + 1, b, z, by rw [HML.out]; exact hlt, rfl, rfl, by go_num, by rw [HX.out]; exact HF, by rw [HX.out]; exact HOW2, HB3⟩, by simp [intOf]; omega⟩
      have HX : Hid (picksTo (l.map Sg.count) t (k + 1) = G ++ [k]) := Lib.hid (by rw [HS.out, if_pos ⟨hl4, e⟩])
      have j : ((T : Int) == (t : Int)) = true := by simp; omega
      clear HS hTx HF HLOW
      have HNEW : ∀ b' z' wr', Hid (Fit (l.map Sg.count) (G ++ [k]) b' z' → ∀ v' : Value, Hid (wr'.ownsRow w.heap.size 3 1 v' (G ++ [k]).length ((G ++ [k]).map IV)) → Hid (Below w.heap.size w wr') →
          IRel w (l.map Sg.count) t v' (.bool b') (.int .i64 z') (.int .i64 ((k : Int) + 1)) wr' ∧ l.length - (intOf (.int .i64 ((k : Int) + 1))).toNat < l.length - (intOf (.int .i64 (k : Int))).toNat) := fun b' z' wr' => Lib.hid fun hf v' ho hb' =>
        ⟨⟨k + 1, b', z', by rw [HML.out]; exact hlt, rfl, rfl, by go_num, by rw [HX.out]; exact Lib.hid hf, by rw [HX.out]; exact ho, hb'⟩, by simp [intOf]; omega⟩
      go_wp2_with fail
      refine (HC _).mono ?_
      rintro _ w2 ⟨rfl, hb⟩
      have HOW2 := Lib.hid (own_keepT HOW.out hb)
      have HB3 : Hid (Below w.heap.size w w2) := Lib.hid (HB2.out.trans (hb.mono HB2.out.size))
      have k1' := cell_up hb (p := ⟨g, off + k * 4 + 1, none⟩) (by have := HB2.out.size; simp only; omega) k1
      clear hb HOW HB2 k1 HC
      have HOA : Hid ((w2.alloc (.cells #[.int .i64 (k : Int)] 3)).ownsRow w.heap.size 3 1 (.slice A5 G.length c5) G.length (G.map IV)) := Lib.hid (HOW2.out.alloc _)
      have HBA : Hid (Below w.heap.size w (w2.alloc (.cells #[.int .i64 (k : Int)] 3))) := Lib.hid (HB3.out.trans (((Below.refl _ w2).alloc (Nat.le_refl _) _).mono HB3.out.size))
      clear HOW2 HB3
      go_wp2_with (at_builtin; refine wpList_append_own _ rfl (.tmp 31) (.tmp 33) 26 rfl w.heap.size 3 i0 (.int .i64 0) 1 8 Try.underlying26 hi hz0 hz1 hz2 rfl (by decide) _ _ _ rfl HOA.out ⟨w2.heap.size, 0, none⟩ 1 1 ([k].map IV) rfl (by simp) (cellNew _ _ _) (iv_ones _) ?c3 ?c4 HBA.out.size ?_)
      case c3 => unfold maxLen; omega
      case c4 => omega
      intro v2 w3 hown2 hg2 _
      have hb2 : Below w.heap.size w w3 := HBA.out.grown hg2 HBA.out.size (own_lt1 HOA.out)
      have HO2 : Hid (w3.ownsRow w.heap.size 3 1 v2 (G ++ [k]).length ((G ++ [k]).map IV)) := Lib.hid (by
        rw [List.map_append, List.length_append]
        exact hown2)
      have k3 := cell_up hb2 (p := ⟨g, off + k * 4 + 1, none⟩) hg HP.out
      have HB4 := Lib.hid hb2
      clear hown2 hg2 hb2 HOA HBA k1' HP
      have h1 := hx64.1
      have h2 := hx64.2
      cases b with
      | false =>
        have HX2 := Lib.hid ((HNEW false z w3).out (HFO.out rfl) v2 HO2 HB4)
        clear HFB HFO HFZ HFA HNEW
        go_wp2
        exact HX2.out
      | true =>
        by_cases hb1 : x ≤ 65536
        case neg =>
          have HX2 := Lib.hid ((HNEW false z w3).out (HFB.out (by omega)) v2 HO2 HB4)
          have j1 : decide (x ≤ 65536) = false := decide_eq_false hb1
          clear HFB HFO HFZ HFA HNEW
          go_wp2
          exact HX2.out
        have j1 : decide (x ≤ 65536) = true := decide_eq_true hb1
        by_cases hb0 : 0 < x
        · have HX2 := Lib.hid ((HNEW true (z + x) w3).out (HFA.out rfl hb0 hb1) v2 HO2 HB4)
          have j2 : decide (0 < x) = true := decide_eq_true hb0
          have hz9 : z + x ≤ 9223372036854775807 := by omega
          clear HFB HFO HFZ HFA HNEW
          go_wp2
          exact HX2.out
        · have HX2 := Lib.hid ((HNEW true z w3).out (HFZ.out rfl (by omega)) v2 HO2 HB4)
          have j2 : decide (0 < x) = false := decide_eq_false hb0
          clear HFB HFO HFZ HFA HNEW
          go_wp2
          exact HX2.out
