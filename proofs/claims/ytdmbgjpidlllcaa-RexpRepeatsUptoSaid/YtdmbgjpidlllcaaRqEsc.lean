/- The contracts of the program's escape, part, isRune and member. Conditions: the reader lies in memory; its runes are ones that UTF-8 has bytes for. -/
import Derived.Test.YtdmbgjpidlllcaaRqMems
import Derived.Test.YtdmbgjpidlllcaaRqTimess
namespace Go.Proofs.Ytdmbgjpidlllcaa.RqEsc
open Go Go.RowKit Words AppN Km Mo_ RxSpec RxEq RxMem RxEsc RqPlain RqMem RqNeed RqTimes RqCont

theorem made_sq {B : Nat} (w : World) (K : Nat → Nat) (o : Nat) (m : List Nat) (hm : m.length ≤ 8) (hB : B ≤ w.heap.size) : Sq B (w.alloc (.cells (m.map R32).toArray 21)) (kmark K w.heap.size (o + 2)) o (some ⟨w.heap.size, 0, none⟩, m.length, m.length) (m.map R32) := by
  have h := Rd.made' w (m.map R32).toArray 21
  refine ⟨⟨by simp, Nat.le_refl _, show m.length ≤ maxLen by unfold maxLen; omega, by simpa using h, fun b off e _ => ?_⟩, fun b off e _ => ?_⟩
  · injection e with e
    injection e with e _
    rw [← e, kmark_new (Nat.le_refl _)]
    exact ⟨by omega, by omega⟩
  · injection e with e
    injection e with e _
    subst e
    exact ⟨hB, fun j _ => frozen_of_row _ _ _ _ _ (heap_alloc_new w _)⟩
theorem made_own {b : Nat} (w : World) (hb : b ≤ w.heap.size) (m : List Nat) (hm : m.length ≤ 8) : (w.alloc (.cells (m.map R32).toArray 21)).ownsRow b 21 1 (.slice (some ⟨w.heap.size, 0, none⟩) m.length m.length) m.length (m.map R32) :=
  ⟨by simp, .inr ⟨w.heap.size, m.length, (m.map R32).toArray, rfl, hb, heap_alloc_new w _, Nat.le_refl _, by unfold maxLen; omega, by simp, by rw [Nat.mul_one]; exact List.take_of_length_le (by simp)⟩⟩
theorem new_mo (w : World) (K : Nat → Nat) (ob : Obj) (n : Nat) : Mo K (kmark K w.heap.size n) (fun _ => False) w (w.alloc ob) := Mo.new ((Below.refl _ _).alloc (Nat.le_refl _) _) n
/-- A row of one's own, of the number κ. -/
structure OwR (w : World) (K : Nat → Nat) (κ base : Nat) (A : Option Addr) (n c : Nat) (cs : List Value) : Prop where
  own : w.ownsRow base 21 1 (.slice A n c) n cs
  kind : ∀ b, (Value.slice A n c).ownBlock = some b → K b = κ
theorem OwR.mo {w w' : World} {K K' : Nat → Nat} {κ base n c o : Nat} {A : Option Addr} {cs : List Value} (h : OwR w K κ base A n c cs) (hm : Mo K K' (fun x => x = o) w w') (hk : κ ≠ o) : OwR w' K' κ base A n c cs := by
  obtain ⟨h1, h2⟩ := own_mo (m := κ) h.own h.kind hm hk
  exact ⟨h1, h2⟩
theorem OwR.rd {w : World} {K : Nat → Nat} {κ base n c : Nat} {A : Option Addr} {m : List Nat} (h : OwR w K κ base A n c (m.map R32)) : Rd w w.heap.size A (m.map R32) ∧ n ≤ c ∧ c ≤ maxLen := by
  rcases h.own.2 with ⟨e1, h2⟩ | ⟨g, cap, cur, e1, hb, hg, h1, h2, h3, h4⟩
  · injection e1 with e1 e2 e3
    subst e1 e2 e3
    have := h.own.1
    have h9 : m.map R32 = [] := List.eq_nil_of_length_eq_zero (by omega)
    rw [h9]
    exact ⟨Rd.nil_, Nat.le_refl _, Nat.zero_le _⟩
  · injection e1 with e1 e2 e3
    subst e1 e3
    refine ⟨fun _ => ⟨g, 0, rfl, (Array.getElem?_eq_some_iff.1 hg).1, fun j u hu => ?_⟩, h1, h2⟩
    have := h.own.cells (g := g) rfl j u hu
    rwa [add_off] at this
/-- Such a row is new memory for a node. -/
theorem OwR.sq {B : Nat} {w : World} {K : Nat → Nat} {o base c : Nat} {A : Option Addr} {m : List Nat} (h : OwR w K (o + 2) base A m.length c (m.map R32)) (hB : B ≤ base) : Sq B w K o (A, m.length, c) (m.map R32) := by
  obtain ⟨h1, h2, h3⟩ := h.rd
  refine ⟨⟨by simp, h2, h3, h1, fun b off e hl => ?_⟩, fun b off e hl => ?_⟩
  · simp only at e
    subst e
    have := h.kind b rfl
    exact ⟨by omega, by omega⟩
  · simp only at e
    subst e
    rcases h.own.2 with ⟨e1, _⟩ | ⟨g, cap, cur, e1, hb9, hg, _⟩
    · cases e1
    · injection e1 with e1 _ _
      injection e1 with e1
      injection e1 with e1 _
      subst e1
      exact ⟨Nat.le_trans hB hb9, fun j _ => frozen_of_row _ _ _ _ _ hg⟩
/-- Pairs of runes in new memory, of the number κ. -/
def CP (κ B : Nat) (K : Nat → Nat) (o p : Nat) (op dp : Nat) (ms : List NM) (v : Value) (w : World) (ans : Option (List Nat × List Nat)) (e : Ending) (w' : World) : Prop :=
  match ans with
  | none => FP K o w e w'
  | some (m, r1) => ∃ A c s' K', e = .returned (.slice A m.length c) ∧ RQ B w' K' o p s' r1 op dp ms v ∧ Mo K K' (fun x => x = o) w w' ∧ OwR w' K' κ w.heap.size A m.length c (m.map R32)
section
variable {κ B : Nat} {w w' : World} {K K' : Nat → Nat} {o p : Nat} {s s' : Sl} {rs rs' : List Nat} {op dp op' dp' : Nat} {ms : List NM} {v : Value}
theorem lit_end (m : List Nat) (hm : m.length ≤ 8) (h : RQ B w' K o p s rs op dp ms v) (hmo : Mo K K (fun x => x = o) w w') (n : Nat) (hn : w'.heap.size = n) : CP κ B K o p op dp ms v w (some (m, rs)) (.returned (.slice (some ⟨n, 0, none⟩) m.length m.length)) (w'.alloc (.cells (m.map R32).toArray 21)) := by
  subst hn
  exact ⟨_, _, s, kmark K w'.heap.size κ, rfl, h.mo (new_mo _ _ _ _), hmo.trans ((new_mo _ _ _ _).widen fun _ h => h.elim), made_own w' hmo.size m hm, fun b hb => by
    injection hb with hb
    exact kmark_new (by have hb : w'.heap.size = b := hb; omega)⟩
def specB : List UInt8 := [92, 40, 41, 91, 93, 123, 125, 42, 43, 63, 124, 46, 94, 36]
def plainB : List UInt8 := [92, 91, 93, 94, 45]
theorem spec_has (wz : World) (r : Nat) (hv : UtSpec.sc r) : Calls Try.prog 47 #[.string ⟨specB.toArray⟩, .int .i32 (r : Int)] wz fun e w' => e = .returned (.bool (inn r (specB.map UInt8.toNat))) ∧ Below wz.heap.size wz w' := contains_any specB (by decide) r hv wz
theorem plain_has (wz : World) (r : Nat) (hv : UtSpec.sc r) : Calls Try.prog 47 #[.string ⟨plainB.toArray⟩, .int .i32 (r : Int)] wz fun e w' => e = .returned (.bool (inn r (plainB.map UInt8.toNat))) ∧ Below wz.heap.size wz w' := contains_any plainB (by decide) r hv wz
theorem escs_inn (r : Nat) : inn r escs = (inn r (specB.map UInt8.toNat) || r == 45) := by
  have e : escs = specB.map UInt8.toNat ++ [45] := rfl
  rw [e]
  unfold inn
  rw [Bool.eq_iff_iff]
  simp
theorem sc_le {rs : List Nat} (h : ∀ r ∈ rs, UtSpec.sc r) : ∀ r ∈ rs, r ≤ 1114111 := fun r hr => by have := h r hr; unfold UtSpec.sc at this; omega
set_option maxHeartbeats 6400000 in
set_option maxRecDepth 100000 in
theorem escape_any (h : RQ B w K o p s rs op dp ms v) (hr : ∀ r ∈ rs, UtSpec.sc r) : Calls Try.prog 46 #[.pointer (some ⟨p, 0, none⟩)] w (CP κ B K o p op dp ms v w (esc rs)) := by
  cases rs with
  | nil =>
    have HC := next_no h
    show Calls _ _ _ _ (CP κ B K o p op dp ms v w none)
    unfold CP
    simp only
    clear h hr
    go_enter Try.func46, Try.ntmps46
    go_wp2_with fail
    refine HC.mono ?_
    rintro _ w1 ⟨rfl, h1⟩
    exact ⟨rfl, rfl, h1⟩
  | cons r t =>
    have HC := next_ok h
    have hv := hr r (by simp)
    rw [esc_cons]
    clear h hr
    by_cases e110 : r = 110
    case' pos =>
      subst e110
      rw [if_pos rfl]
      go_enter Try.func46, Try.ntmps46
      go_wp2_with fail
      refine HC.mono ?_
      rintro _ w1 ⟨rfl, s1, hq1, hm1⟩
      have HQ := Lib.hid hq1
      have HM := Lib.hid hm1
      clear HC hq1 hm1
      go_wp2
      go_ret
      exact lit_end [10, 10] (by decide) HQ.out HM.out _ rfl
    have d110 : ((r : Int) == 110) = false := by simp; omega
    rw [if_neg e110]
    by_cases e116 : r = 116
    case' pos =>
      subst e116
      rw [if_pos rfl]
      go_enter Try.func46, Try.ntmps46
      go_wp2_with fail
      refine HC.mono ?_
      rintro _ w1 ⟨rfl, s1, hq1, hm1⟩
      have HQ := Lib.hid hq1
      have HM := Lib.hid hm1
      clear HC hq1 hm1
      go_wp2
      go_ret
      exact lit_end [9, 9] (by decide) HQ.out HM.out _ rfl
    have d116 : ((r : Int) == 116) = false := by simp; omega
    rw [if_neg e116]
    by_cases e100 : r = 100
    case' pos =>
      subst e100
      rw [if_pos rfl]
      go_enter Try.func46, Try.ntmps46
      go_wp2_with fail
      refine HC.mono ?_
      rintro _ w1 ⟨rfl, s1, hq1, hm1⟩
      have HQ := Lib.hid hq1
      have HM := Lib.hid hm1
      clear HC hq1 hm1
      go_wp2
      go_ret
      exact lit_end [48, 57] (by decide) HQ.out HM.out _ rfl
    have d100 : ((r : Int) == 100) = false := by simp; omega
    rw [if_neg e100]
    by_cases e119 : r = 119
    case' pos =>
      subst e119
      rw [if_pos rfl]
      go_enter Try.func46, Try.ntmps46
      go_wp2_with fail
      refine HC.mono ?_
      rintro _ w1 ⟨rfl, s1, hq1, hm1⟩
      have HQ := Lib.hid hq1
      have HM := Lib.hid hm1
      clear HC hq1 hm1
      go_wp2
      go_ret
      exact lit_end [48, 57, 65, 90, 95, 95, 97, 122] (by decide) HQ.out HM.out _ rfl
    have d119 : ((r : Int) == 119) = false := by simp; omega
    rw [if_neg e119]
    by_cases e115 : r = 115
    case' pos =>
      subst e115
      rw [if_pos rfl]
      go_enter Try.func46, Try.ntmps46
      go_wp2_with fail
      refine HC.mono ?_
      rintro _ w1 ⟨rfl, s1, hq1, hm1⟩
      have HQ := Lib.hid hq1
      have HM := Lib.hid hm1
      clear HC hq1 hm1
      go_wp2
      go_ret
      exact lit_end [9, 10, 13, 13, 32, 32] (by decide) HQ.out HM.out _ rfl
    have d115 : ((r : Int) == 115) = false := by simp; omega
    rw [if_neg e115]
    rw [escs_inn]
    clear e110 e116 e100 e119 e115
    have HI := fun wz => spec_has wz r hv
    by_cases h45 : r = 45
    · subst h45
      rw [show (inn 45 (specB.map UInt8.toNat) || (45 : Nat) == 45) = true by decide, if_pos rfl]
      clear HI hv
      go_enter Try.func46, Try.ntmps46
      go_wp2_with fail
      refine HC.mono ?_
      rintro _ w1 ⟨rfl, s1, hq1, hm1⟩
      have HQ := Lib.hid hq1
      have HM := Lib.hid hm1
      clear HC hq1 hm1
      go_wp2_with (go_at_call 18; refine (need_ok _).mono ?_; rintro e w' ⟨rfl, rfl⟩)
      go_ret
      exact lit_end [45, 45] (by decide) HQ.out HM.out _ rfl
    · have d45 : ((r : Int) == 45) = false := by simp; omega
      have d45n : (r == 45) = false := by simpa using h45
      rw [d45n, Bool.or_false]
      clear h45 d45n hv
      cases hi : inn r (specB.map UInt8.toNat) with
      | true =>
        simp only [hi] at HI
        rw [if_pos rfl]
        clear hi
        go_enter Try.func46, Try.ntmps46
        go_wp2_with fail
        refine HC.mono ?_
        rintro _ w1 ⟨rfl, s1, hq1, hm1⟩
        have HQ := Lib.hid hq1
        have HM := Lib.hid hm1
        clear HC hq1 hm1
        go_wp2_with fail
        refine (HI _).mono ?_
        rintro _ w2 ⟨rfl, hb2⟩
        have HQ2 := Lib.hid (HQ.out.below hb2)
        have HM2 := Lib.hid (HM.out.trans (Mo.same hb2))
        clear HI HQ HM hb2
        go_wp2_with (go_at_call 18; refine (need_ok _).mono ?_; rintro e w' ⟨rfl, rfl⟩)
        go_ret
        exact lit_end [r, r] (by simp) HQ2.out HM2.out _ rfl
      | false =>
        simp only [hi] at HI
        rw [if_neg (by simp)]
        unfold CP
        simp only
        clear hi
        go_enter Try.func46, Try.ntmps46
        go_wp2_with fail
        refine HC.mono ?_
        rintro _ w1 ⟨rfl, s1, hq1, hm1⟩
        have HM := Lib.hid hm1
        clear HC hq1 hm1
        go_wp2_with fail
        refine (HI _).mono ?_
        rintro _ w2 ⟨rfl, hb2⟩
        have HM2 := Lib.hid (HM.out.trans (Mo.same hb2))
        clear HI HM hb2
        go_wp2_with (go_at_call 18; refine (need_no _).mono ?_; rintro e w' ⟨rfl, rfl⟩)
        exact ⟨rfl, rfl, K, HM2.out⟩
theorem plain_inn (r : Nat) (h : r ≠ 92) : inn r [91, 93, 94, 45] = inn r (plainB.map UInt8.toNat) := by
  unfold inn plainB
  rw [Bool.eq_iff_iff]
  simp
  omega
set_option maxHeartbeats 6400000 in
set_option maxRecDepth 100000 in
theorem part_any (h : RQ B w K o p s rs op dp ms v) (hr : ∀ r ∈ rs, UtSpec.sc r) : Calls Try.prog 59 #[.pointer (some ⟨p, 0, none⟩)] w (CP κ B K o p op dp ms v w (RxSpec.member rs)) := by
  cases rs with
  | nil =>
    have HC := next_no h
    show Calls _ _ _ _ (CP κ B K o p op dp ms v w none)
    unfold CP
    simp only
    clear h hr
    go_enter Try.func59, Try.ntmps59
    go_wp2_with fail
    refine HC.mono ?_
    rintro _ w1 ⟨rfl, h1⟩
    exact ⟨rfl, rfl, h1⟩
  | cons r t =>
    have HC := next_ok h
    have hv := hr r (by simp)
    have HT := Lib.hid (fun x (hx : x ∈ t) => hr x (List.mem_cons_of_mem _ hx))
    rw [member_cons]
    clear h hr
    by_cases e92 : r = 92
    · subst e92
      rw [if_pos rfl]
      obtain ⟨ans, hes⟩ : ∃ ans, esc t = ans := ⟨_, rfl⟩
      rw [hes]
      have HES := Lib.hid hes
      clear hes
      have HFIN : Hid (∀ w1 e w2, Mo K K (fun x => x = o) w w1 → CP κ B K o p op dp ms v w1 ans e w2 → CP κ B K o p op dp ms v w ans e w2) := Lib.hid fun w1 e w2 hm h => by
        revert h
        cases ans with
        | none => exact fun h => FP.of hm h
        | some x =>
          obtain ⟨m, r1⟩ := x
          rintro ⟨A, c, s', K', h1, h2, h3, h4⟩
          exact ⟨A, c, s', K', h1, h2, hm.trans h3, RxClean.own_monoA h4.own hm.size, h4.kind⟩
      go_enter Try.func59, Try.ntmps59
      go_wp2_with fail
      refine HC.mono ?_
      rintro _ w1 ⟨rfl, s1, hq1, hm1⟩
      have HE := escape_any (κ := κ) hq1 HT.out
      rw [HES.out] at HE
      have HM := Lib.hid hm1
      clear HC hq1 hm1 HES
      cases ans with
      | none =>
        go_wp2_with fail
        refine HE.mono ?_
        rintro e w2 h2
        have h3 := HFIN.out _ _ _ HM.out h2
        obtain ⟨rfl, h4⟩ := h2
        exact ⟨rfl, h3⟩
      | some x =>
        obtain ⟨m, r1⟩ := x
        go_wp2_with fail
        refine HE.mono ?_
        rintro e w2 h2
        have h3 := Lib.hid (HFIN.out _ _ _ HM.out h2)
        obtain ⟨A, c, s', K', rfl, _⟩ := h2
        clear HE HM HFIN HT
        go_wp2
        go_ret
        exact h3.out
    · have d92 : ((r : Int) == 92) = false := by simp; omega
      rw [if_neg e92, plain_inn r e92]
      have HI := fun wz => plain_has wz r hv
      clear e92 hv HT
      cases hi : inn r (plainB.map UInt8.toNat) with
      | true =>
        simp only [hi] at HI
        rw [if_pos rfl]
        unfold CP
        simp only
        clear hi
        go_enter Try.func59, Try.ntmps59
        go_wp2_with fail
        refine HC.mono ?_
        rintro _ w1 ⟨rfl, s1, hq1, hm1⟩
        have HM := Lib.hid hm1
        clear HC hq1 hm1
        go_wp2_with fail
        refine (HI _).mono ?_
        rintro _ w2 ⟨rfl, hb2⟩
        have HM2 := Lib.hid (HM.out.trans (Mo.same hb2))
        clear HI HM hb2
        go_wp2_with (go_at_call 18; refine (need_no _).mono ?_; rintro e w' ⟨rfl, rfl⟩)
        exact ⟨rfl, rfl, K, HM2.out⟩
      | false =>
        simp only [hi] at HI
        rw [if_neg (by simp)]
        clear hi
        go_enter Try.func59, Try.ntmps59
        go_wp2_with fail
        refine HC.mono ?_
        rintro _ w1 ⟨rfl, s1, hq1, hm1⟩
        have HQ := Lib.hid hq1
        have HM := Lib.hid hm1
        clear HC hq1 hm1
        go_wp2_with fail
        refine (HI _).mono ?_
        rintro _ w2 ⟨rfl, hb2⟩
        have HQ2 := Lib.hid (HQ.out.below hb2)
        have HM2 := Lib.hid (HM.out.trans (Mo.same hb2))
        clear HI HQ HM hb2
        go_wp2_with (go_at_call 18; refine (need_ok _).mono ?_; rintro e w' ⟨rfl, rfl⟩)
        go_ret
        exact lit_end [r, r] (by simp) HQ2.out HM2.out _ rfl
/-- Two runes that are one. -/
def one (m : List Nat) : Bool := decide (m.length = 2) && m.getD 0 0 == m.getD 1 0
set_option maxHeartbeats 1600000 in
set_option maxRecDepth 100000 in
theorem isRune_any (w : World) (A : Option Addr) (c : Nat) (m : List Nat) (hR : Rd w w.heap.size A (m.map R32)) : Calls Try.prog 60 #[.slice A m.length c] w fun e w' => e = .returned (.bool (one m)) ∧ ∃ n, w' = w.drewN n := by
  by_cases h2 : m.length = 2
  · match m, h2 with
    | [a, b], _ =>
      obtain ⟨g, off, rfl, hg, hc⟩ := hR (by simp)
      have c0 : w.cell? ⟨g, off, none⟩ = some (.int .i32 (a : Int)) := hc 0 _ rfl
      have c1 : w.cell? ⟨g, off + 1, none⟩ = some (.int .i32 (b : Int)) := hc 1 _ rfl
      have ho : one [a, b] = (a == b) := rfl
      rw [ho]
      have hz : ((a : Int) == (b : Int)) = (a == b) := by
        rw [Bool.eq_iff_iff]; simp; omega
      rw [← hz]
      clear hc hR ho hz
      simp only [List.length_cons, List.length_nil]
      go_enter Try.func60, Try.ntmps60
      go_wp2
      go_quiet (fail)
      go_wp2
      go_ret
      exact ⟨rfl, _, rfl⟩
  · have ho : one m = false := by unfold one; rw [decide_eq_false h2]; rfl
    have d2 : ((m.length : Int) == 2) = false := by simp; omega
    rw [ho]
    clear hR h2 ho
    generalize m.length = n at *
    go_enter Try.func60, Try.ntmps60
    go_wp2
    go_quiet (fail)
    go_wp2
    go_ret
    exact ⟨rfl, _, rfl⟩
end
end Go.Proofs.Ytdmbgjpidlllcaa.RqEsc
