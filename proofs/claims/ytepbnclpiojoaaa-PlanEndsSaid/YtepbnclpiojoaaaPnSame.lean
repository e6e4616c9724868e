/- The contract of the document's Same: two lists of places, only read. Conditions: they lie in memory. -/
import Derived.Test.YtepbnclpiojoaaaPnMerge
namespace Go.Proofs.Ytepbnclpiojoaaa.PnSame
open Go Go.RowKit Words AppN PnSpec SgMem PnRef PnGone PnMerge

/-- A list of places in memory. -/
structure Ls (w : World) (s : Sl) (l : List Nat) : Prop where
  len : s.2.1 = l.length
  le : s.2.1 ≤ s.2.2
  cap : s.2.2 ≤ maxLen
  rd : Rd w w.heap.size s.1 (l.map IV)
theorem Ls.below {w w' : World} {s : Sl} {l : List Nat} (h : Ls w s l) (hb : Below w.heap.size w w') : Ls w' s l := ⟨h.len, h.le, h.cap, (h.rd.below hb).more hb.size⟩
theorem own_ls {w : World} {base : Nat} {v : Value} {l : List Nat} (h : w.ownsRow base 3 1 v l.length (l.map IV)) : ∃ A c, v = .slice A l.length c ∧ Ls w (A, l.length, c) l := by
  rcases h.2 with ⟨rfl, h2⟩ | ⟨g, cap, cur, rfl, hb, hg, h1, h2, h3, h4⟩
  · have hx : l = [] := List.eq_nil_of_length_eq_zero h2
    subst hx
    exact ⟨none, 0, rfl, rfl, Nat.le_refl _, Nat.zero_le _, Rd.nil_⟩
  · refine ⟨_, _, rfl, ⟨rfl, h1, h2, fun hn => ?_⟩⟩
    refine ⟨g, 0, rfl, (Array.getElem?_eq_some_iff.1 hg).1, fun j u hu => ?_⟩
    have := h.cells (g := g) rfl j u hu
    rwa [add_off] at this
theorem take_nextN {a b : List Nat} {k : Nat} (h : a.take k = b.take k) (ha : k < a.length) (hb : k < b.length) (e : a[k] = b[k]) : a.take (k + 1) = b.take (k + 1) := by
  rw [List.take_succ_eq_append_getElem ha, List.take_succ_eq_append_getElem hb, h, e]
theorem cellIV {w : World} {b off : Nat} {l : List Nat} (hc : ∀ j u, (l.map IV)[j]? = some u → w.cell? ⟨b, off + j, none⟩ = some u) {k : Nat} (hk : k < l.length) : w.cell? ⟨b, off + k, none⟩ = some (.int .i64 ((l[k] : Nat) : Int)) := hc k _ (by simp [hk, IV])
def SRel (W : World) (a b : List Nat) (v : Value) (wr : World) : Prop := ∃ k : Nat, k ≤ a.length ∧ v = .int .i64 (k : Int) ∧ Hid (a.take k = b.take k) ∧ Hid (Below W.heap.size W wr)

set_option maxHeartbeats 3200000 in
set_option maxRecDepth 100000 in
theorem rsame_any (w : World) (sa sb : Sl) (la lb : List Nat) (ha : Ls w sa la) (hb : Ls w sb lb) :
    Calls Try.prog 12 #[slV sa, slV sb] w fun e w' => e = .returned (.bool (decide (la = lb))) ∧ Below w.heap.size w w' := by
  obtain ⟨A, n, c⟩ := sa
  obtain ⟨A2, n2, c2⟩ := sb
  obtain ⟨r, hr⟩ : ∃ r, decide (la = lb) = r := ⟨_, rfl⟩
  rw [hr]
  have HR := Lib.hid hr
  have HRA := Lib.hid ha.rd
  have HRB := Lib.hid hb.rd
  have hna := ha.len
  have hca := ha.le
  have hma := ha.cap
  have hnb := hb.len
  have hcb := hb.le
  have hmb := hb.cap
  simp only at hna hca hma hnb hcb hmb
  unfold slV
  unfold maxLen at hma hmb
  subst hna hnb
  clear ha hb hr
  by_cases hlen : la.length = lb.length
  case neg =>
    have HF : Hid (r = false) := Lib.hid (by rw [← HR.out, decide_eq_false_iff_not]; intro h; exact hlen (by rw [h]))
    have j5 : ((la.length : Int) != (lb.length : Int)) = true := by simp; omega
    clear hlen HR
    go_enter Try.func12, Try.ntmps12
    go_wp2
    go_ret
    rw [HF.out]
    exact ⟨rfl, Below.refl _ _⟩
  have j5 : ((la.length : Int) != (lb.length : Int)) = false := by simp; omega
  have HLE := Lib.hid hlen
  clear hlen
  go_enter Try.func12, Try.ntmps12
  go_wp2
  go_loopw [5] (fun v wr => SRel w la lb v wr) (fun v _ => la.length - (intOf v).toNat)
  case atStart => exact ⟨0, Nat.zero_le _, rfl, Lib.hid (by simp), Lib.hid (Below.refl _ _)⟩
  case round =>
    obtain ⟨k, hk, rfl, HT, HBr⟩ := hrel
    by_cases hlt : k < la.length
    · have hb1 : k < lb.length := by have := HLE.out; omega
      obtain ⟨g1, o1, rfl, hg1, hc1⟩ := HRA.out (by simp; omega)
      obtain ⟨g2, o2, rfl, hg2, hc2⟩ := HRB.out (by simp; omega)
      have k0 := cell_up HBr.out (p := ⟨g1, o1 + k, none⟩) hg1 (cellIV hc1 hlt)
      have l0 := cell_up HBr.out (p := ⟨g2, o2 + k, none⟩) hg2 (cellIV hc2 hb1)
      have HNX : Hid (la[k] = lb[k] → la.take (k + 1) = lb.take (k + 1)) := Lib.hid (take_nextN HT.out hlt hb1)
      have HNE : Hid (la[k] ≠ lb[k] → r = false) := Lib.hid fun e => by
        rw [← HR.out, decide_eq_false_iff_not]
        intro h
        subst h
        exact e rfl
      clear hc1 hc2 HRA HRB
      generalize la[k] = x at *
      generalize lb[k] = y at *
      by_cases e : x = y
      · have HX := Lib.hid (HNX.out e)
        have j1 : ((x : Int) != (y : Int)) = false := by simp; omega
        clear e HNX HNE
        go_wp2
        go_quiet (fail)
        go_wp2
        exact ⟨⟨k + 1, by omega, by go_num, HX, Lib.hid (below_drewN HBr.out _)⟩, by simp [intOf]; omega⟩
      · have HX := Lib.hid (HNE.out e)
        have j1 : ((x : Int) != (y : Int)) = true := by simp; omega
        clear e HNX HNE
        go_wp2
        go_quiet (fail)
        go_wp2
        go_ret
        rw [HX.out]
        exact ⟨rfl, below_drewN HBr.out _⟩
    · have HX : Hid (r = true) := Lib.hid (by
        rw [← HR.out, decide_eq_true_eq]
        have h := HT.out
        have h1 := HLE.out
        rwa [List.take_of_length_le (by omega), List.take_of_length_le (by omega)] at h)
      have hd : decide ((k : Int) < (la.length : Int)) = false := decide_eq_false (by omega)
      go_wp2
      go_ret
      rw [HX.out]
      exact ⟨rfl, HBr.out⟩
