/- The program's Add over its head in memory. Conditions: the head and the batch lie in memory, apart; at most 65536 records of the head's, each of the size that one may be of. · What the program's Add does when the batch is copied: index, sort, lay, as calls over the head in memory. Conditions: as Add's. · The program's Add, walked. Conditions: the head and the batch lie in memory, apart; at most 65536 records of the head's, each of the size that one may be of; the batch below 2^21. -/
import Derived.Test.YtkgmcabamhpjhaaGreatHpAlls
import Derived.Test.YtkgmcabamhpjhaaGreatHpIndex
import Derived.Test.YtkgmcabamhpjhaaGreatHpBoxs
import Derived.Test.YtkgmcabamhpjhaaGreatHpLays
import Derived.Test.YtkgmcabamhpjhaaGreatHdTermsF
namespace Go.Proofs.YtkgmcabamhpjhaaGreat.HpAdd
open Go Go.RowKit Words AppN Less LbSpec LbText LbMem LbRef LbCmp UtOwn LpOrd LpCopy RcAll RcMem RcRef RcOpen HdMem HdKm HdSpec HpSpec HpBox HpMem HpCopied HpAll HpCheck HpIndex HpLay
open RcSpec hiding none

/-- New blocks become the head's. -/
def span (J : Nat → Nat) (a b : Nat) : Nat → Nat := fun i => if a ≤ i ∧ i < b then 4 else J i
/-- What stands when the first k records have been copied. -/
structure ASt (w : World) (J : Nat → Nat) (p n : Nat) (last : Option Nat) (V : List UInt8 → List Pin) (ss : List Pin) (sv : Value) (mv : Option Nat) (R : List UInt8 → Value) (L : List Rec) (vo : Value) (J' : Nat → Nat) (ps : List Pin) (wr : World) : Prop where
  recs : ps.map rcp = L
  own : wr.ownsRow w.heap.size 64 1 vo ps.length (ptrs ps)
  jo : ∀ q, vo.ownBlock = some q → J' q = 0
  hm : HM wr J' p (lastOf last L) V ss sv mv R n
  pins : ∀ x ∈ ps, PinAt wr J' x
  mo : Mo J J' (fun k => k ≠ 0) w wr
section
variable {w wr w1 w2 : World} {J J' : Nat → Nat} {p n : Nat} {last : Option Nat} {V : List UInt8 → List Pin} {ss : List Pin} {sv : Value} {mv : Option Nat} {R : List UInt8 → Value} {L : List Rec} {vo vo' : Value} {ps : List Pin}
/-- One record more. -/
theorem ASt.next (h : ASt w J p n last V ss sv mv R L vo J' ps wr) {m : RM} {g1 : Nat} {wb : World} (hft : Fits m.1)
    (_hb1 : Below wr.heap.size wr w1) (hs1 : wr.heap.size < w1.heap.size)
    (hbox : wb.heap[wr.heap.size]? = some (.cells #[.int .i64 m.1.time, .int .u64 (m.1.seq : Int), .slice (some ⟨g1, 0, none⟩) m.1.labels.length m.1.labels.length, S8 m.1.line] 47 (0, 0)))
    (hbb : Below wr.heap.size wr wb) (hsb : w1.heap.size ≤ wb.heap.size) (hrow : Row wb g1 m.1.labels) (hg1 : wr.heap.size < g1 ∧ g1 < w1.heap.size) (hll : m.1.labels.length ≤ maxLen)
    (hown : w2.ownsRow w.heap.size 64 1 vo' (ps.length + 1) (ptrs ps ++ [ptr wr.heap.size])) (hg : wb.grownBy w2 vo.ownBlock) (hv : vo'.ownBlock = vo.ownBlock ∨ ∃ q, vo'.ownBlock = some q ∧ wb.heap.size ≤ q) :
    ASt w J p n last V ss sv mv R (L ++ [m.1]) vo' (span J' wr.heap.size w1.heap.size) (ps ++ [(wr.heap.size, m.1, some ⟨g1, 0, none⟩, m.1.labels.length, m.1.labels.length)]) ((w2.setCell ⟨p, 2, none⟩ (.int .u64 (m.1.seq : Int))).setCell ⟨p, 3, none⟩ (.bool true)) := by
  obtain ⟨h1, h2, h3, h4, h5, h6⟩ := h
  have hj0 : ∀ i, wr.heap.size ≤ i → J' i = 0 := fun i hi => Decidable.byContradiction fun e => by have := h4.in_ i e; omega
  have hvlt := h2.lt
  have hplt := h4.lt
  -- what the head holds has not changed up to w2
  have hk2 : ∀ i, i < wr.heap.size → vo.ownBlock ≠ some i → w2.heap[i]? = wr.heap[i]? := fun i hi hne => (hg.block i (by have := hbb.size; omega) (fun e => hne e.symm)).trans (hbb.block i hi)
  have hpv : vo.ownBlock ≠ some p := fun e => by
    have := h3 p e
    rw [h4.jp] at this
    omega
  have hm2 : HM w2 J' p (lastOf last L) V ss sv mv R n := h4.keep (Nat.le_trans hbb.size hg.size) fun i hi => hk2 i (h4.in_ i hi) (fun e => hi (h3 i e))
  obtain ⟨W, hW⟩ : ∃ W, W = (w2.setCell ⟨p, 2, none⟩ (.int .u64 (m.1.seq : Int))).setCell ⟨p, 3, none⟩ (.bool true) := ⟨_, rfl⟩
  rw [← hW]
  have hWs : W.heap.size = w2.heap.size := by rw [hW]; simp
  have hWo : ∀ i, i ≠ p → W.heap[i]? = w2.heap[i]? := fun i hi => by rw [hW, heap_setCell_other _ _ _ _ hi, heap_setCell_other _ _ _ _ hi]
  have hlast : lastOf last (L ++ [m.1]) = some m.1.seq := lastOf_snoc last L m.1
  have hWp : W.heap[p]? = some (.cells #[sv, .map mv, .int .u64 (((lastOf last (L ++ [m.1])).getD 0 : Nat) : Int), .bool (lastOf last (L ++ [m.1])).isSome] 60 (0, 0)) := by
    rw [hW, hlast, heap_setCell_same _ _ _ _ _ _ (heap_setCell_same _ _ _ _ _ _ hm2.box)]
    simp
  have hm3 : HM W J' p (lastOf last (L ++ [m.1])) V ss sv mv R n := hm2.reset hWp (by omega) fun i _ hi => hWo i hi
  have hsz2 : w1.heap.size ≤ W.heap.size := by have := hg.size; omega
  have hre : ∀ i, span J' wr.heap.size w1.heap.size i ≠ J' i → J' i = 0 ∧ span J' wr.heap.size w1.heap.size i = 4 ∧ i < W.heap.size := fun i hi => by
    unfold span at hi ⊢
    by_cases e : wr.heap.size ≤ i ∧ i < w1.heap.size
    · rw [if_pos e]
      exact ⟨hj0 i e.1, rfl, by omega⟩
    · rw [if_neg e] at hi
      exact absurd rfl hi
  have h44 : ∀ i, J' i = 4 → span J' wr.heap.size w1.heap.size i = 4 := fun i hi => by
    unfold span
    split
    · rfl
    · exact hi
  have hnb : ∀ i, wr.heap.size ≤ i → i < w1.heap.size → W.heap[i]? = wb.heap[i]? := fun i hi hlt => (hWo i (by omega)).trans (hg.block i (by omega) (fun e => by have := (hvlt i e.symm).2; omega))
  refine ⟨by rw [List.map_append, h1]; rfl, ?_, fun q hq => ?_, hm3.renum hre, fun x hx => ?_, ?_⟩
  · have e2 : ptrs (ps ++ [((wr.heap.size, m.1, some ⟨g1, 0, none⟩, m.1.labels.length, m.1.labels.length) : Pin)]) = ptrs ps ++ [ptr wr.heap.size] := by simp [ptrs]
    rw [e2, List.length_append]
    refine own_same hown fun q hq => hWo q (fun e => ?_)
    rcases hv with hv | ⟨q', hv, hge⟩
    · rw [hv, e] at hq
      exact hpv hq
    · rw [hv] at hq
      have := Option.some.inj hq
      have := hbb.size
      omega
  · unfold span
    rcases hv with hv | ⟨q', hv, hge⟩
    · rw [hv] at hq
      rw [if_neg (by have := (hvlt q hq).2; omega)]
      exact h3 q hq
    · rw [hv] at hq
      have := Option.some.inj hq
      rw [if_neg (by omega)]
      exact hj0 q (by omega)
  · rcases List.mem_append.1 hx with hx | hx
    · have hp := h5 x hx
      refine (hp.keep fun i hi => ?_).renum h44
      have hip : i ≠ p := fun e => by rw [e, h4.jp] at hi; omega
      exact (hWo i hip).trans (hk2 i (h4.in_ i (by omega)) (fun e => by have := h3 i e; omega))
    · rw [List.mem_singleton.1 hx]
      refine ⟨(hnb _ (Nat.le_refl _) hs1).trans hbox, ?_, hft, ?_, fun q hq => ?_⟩
      · unfold span
        exact if_pos ⟨Nat.le_refl _, hs1⟩
      · exact row_own ((hnb g1 (by omega) hg1.2).trans hrow) (Nat.zero_le _) hll
      · have : g1 = q := by unfold slV at hq; simpa [Value.ownBlock] using hq
        subst this
        unfold span
        exact if_pos ⟨by omega, hg1.2⟩
  · have hws := h6.size
    refine ⟨?_, ?_, ?_, by have := hbb.size; omega, fun i hi hJ => ?_⟩
    · rw [hW]; exact (hg.os.trans hbb.os).trans h6.os
    · rw [hW]; exact (hg.tape.trans hbb.tape).trans h6.tape
    · rw [hW]; exact (hg.output.trans hbb.output).trans h6.output
    · obtain ⟨k1, k2⟩ := h6.keep i hi hJ
      have hJ0 : J i = 0 := Decidable.not_not.1 hJ
      have hip : i ≠ p := fun e => by rw [e, h4.jp] at k2; rw [e] at hJ0; omega
      refine ⟨((hWo i hip).trans (hk2 i (by omega) (fun e => by have := (hvlt i e).1; omega))).trans k1, ?_⟩
      unfold span
      rw [if_neg (by omega)]
      exact k2
end
end Go.Proofs.YtkgmcabamhpjhaaGreat.HpAdd

namespace Go.Proofs.YtkgmcabamhpjhaaGreat.HpFin
open Go Go.RowKit Words AppN Less LbSpec LbText LbMem LbRef LbCmp UtOwn LpOrd LpCopy RcAll RcMem RcRef RcOpen HdMem HdKm HdSpec HpSpec HpBox HpMem HpCopied HpAll HpCheck HpIndex HpLay HpAdd
open RcSpec hiding none

/-- What stands from index on. -/
structure BSt (w : World) (J : Nat → Nat) (p n : Nat) (last : Option Nat) (V : List UInt8 → List Pin) (ss : List Pin) (sv : Value) (vo : Value) (P : List Pin) (wr : World) : Prop where
  hm : ∃ J' R' mv' n', HM wr J' p last V ss sv mv' R' n' ∧ n' ≤ n ∧ (∀ x ∈ P, PinAt wr J' x) ∧ Mo J J' (fun k => k ≠ 0) w wr ∧ ∀ q, vo.ownBlock = some q → J' q = 0
  own : wr.ownsRow w.heap.size 64 1 vo P.length (ptrs P)
section
variable {w wr : World} {J J' : Nat → Nat} {p n : Nat} {last : Option Nat} {V : List UInt8 → List Pin} {ss : List Pin} {sv : Value} {mv : Option Nat} {R : List UInt8 → Value} {L : List Rec} {vo : Value} {ps P : List Pin}
theorem index_call (h : ASt w J p n last V ss sv mv R L vo J' ps wr) (hT : ∀ x ∈ ps, (terms (rcp x)).length ≤ 2000 ∧ sizeR (rcp x) ≤ 2097152) (hV : ∀ t, (V t).length ≤ 65536) (hn : n ≤ 1099511627776) (hll : ps.length ≤ 65536) :
    Calls Tryz.prog 30 #[(.pointer (some ⟨p, 0, none⟩)), vo] wr fun e w' => e = .returned (.tuple #[]) ∧ Hid (BSt w J p (n + 2000 * ps.length) (lastOf last L) (fun t => V t ++ having ps t) ss sv vo ps w') := by
  obtain ⟨A, c, rfl, hc1, hc2, hrd⟩ := own_row h.own (by rw [ptrs_len]; omega)
  have e0 : Vk V ps ps.length = fun t => V t ++ having ps t := by
    funext t
    unfold Vk
    rw [List.take_length]
  have hcall := index_any wr J' p n (lastOf last L) V ss sv mv R h.hm ps A c h.pins hrd hc1 hc2 (fun b off e _ => h.jo b (by rw [e]; rfl)) hT hV hn hll
  refine Calls.mono hcall fun e w' ⟨he, M, hx⟩ => ⟨he, Lib.hid ?_⟩
  obtain ⟨J1, R1, n1, h1, h2, h3, h4⟩ := hx.hm
  rw [e0] at h1
  obtain ⟨o1, o2⟩ := own_mo h.own h.jo h4 (fun e => e rfl)
  exact ⟨⟨J1, R1, some M, n1, h1, h2, h3, h.mo.trans h4, o2⟩, o1⟩
theorem sort_call (h : BSt w J p n last V ss sv vo P wr) (hn : P.length ≤ 65536) :
    Calls Tryz.prog 31 #[vo, .func (.func 32) #[] #[]] wr fun e w' => e = .returned (.tuple #[]) ∧ ∃ P', Hid (P'.Perm P ∧ HpSpec.Asc cfP P' ∧ BSt w J p n last V ss sv vo P' w') := by
  obtain ⟨J1, R1, mv1, n1, h1, h2, h3, h4, h5⟩ := h.hm
  have hcall := HpSort.sort_any wr w.heap.size vo P h.own (fun x hx => ⟨(h3 x hx).box, fun e => by have := h5 _ e; have := (h3 x hx).kind; omega⟩) (by omega)
  refine Calls.mono hcall fun e w' ⟨he, P', hp, hasc, ho, hg⟩ => ⟨he, P', Lib.hid ⟨hp, hasc, ⟨J1, R1, mv1, n1, ?_, h2, ?_, ?_, h5⟩, ho⟩⟩
  · exact h1.keep hg.size fun i hi => hg.block i (h1.in_ i hi) (fun e => hi (h5 i e.symm))
  · intro x hx
    exact (h3 x (hp.subset hx)).keep fun i hi => hg.block i (h1.in_ i (by omega)) (fun e => by have := h5 i e.symm; omega)
  · refine ⟨hg.os.trans h4.os, hg.tape.trans h4.tape, hg.output.trans h4.output, Nat.le_trans h4.size hg.size, fun i hi hk => ?_⟩
    obtain ⟨k1, k2⟩ := h4.keep i hi hk
    exact ⟨(hg.block i (Nat.lt_of_lt_of_le hi h4.size) (fun e => by have := (h.own.lt i e.symm).1; omega)).trans k1, k2⟩
theorem lay_call (h : BSt w J p n last V ss sv vo P wr) (hasc : HpSpec.Asc cfP ss) (hn : ss.length ≤ 65536) (hll : P.length ≤ 65536) (h0 : P = [] → vo = .slice none 0 0) :
    Calls Tryz.prog 33 #[(.pointer (some ⟨p, 0, none⟩)), vo] wr fun e w' => e = .returned (.tuple #[]) ∧ ∃ (J' : Nat → Nat) (sv' : Value) (mv' : Option Nat) (R' : List UInt8 → Value) (n' : Nat),
      Hid (HM w' J' p last V (merged cfP ss P) sv' mv' R' n' ∧ n' ≤ n ∧ Mo J J' (fun k => k ≠ 0) w w') := by
  obtain ⟨J1, R1, mv1, n1, h1, h2, h3, h4, h5⟩ := h.hm
  by_cases hP : P = []
  · have hv := h0 hP
    subst hP hv
    refine Calls.mono (HpLay0.lay_none wr J1 p n1 last V ss sv mv1 R1 h1 hn) fun e w' ⟨he, J', sv', a, b⟩ => ⟨he, J', sv', mv1, R1, n1, Lib.hid ⟨?_, h2, h4.trans b⟩⟩
    have : merged cfP ss [] = ss := by simp [merged, laid]
    rw [this]
    exact a
  · obtain ⟨A, c, rfl, hc1, hc2, hrd⟩ := own_row h.own (by rw [ptrs_len]; omega)
    exact Calls.mono (lay_any wr J1 p n1 last V ss sv mv1 R1 h1 P A c h3 hrd hc1 hc2 (fun b off e _ => h5 b (by rw [e]; rfl)) hasc hn hll (List.length_pos_iff.2 hP)) fun e w' ⟨he, J', sv', a, b⟩ => ⟨he, J', sv', mv1, R1, n1, Lib.hid ⟨a, h2, h4.trans b⟩⟩
end
end Go.Proofs.YtkgmcabamhpjhaaGreat.HpFin

namespace Go.Proofs.YtkgmcabamhpjhaaGreat.HpAddW
open Go Go.RowKit Words AppN Less LbSpec LbText LbMem LbRef LbCmp UtOwn LpOrd LpCopy RcAll RcMem RcRef RcOpen HdMem HdKm HdSpec HpSpec HpBox HpMem HpCopied HpAll HpCheck HpIndex HpLay HpAdd HpFin
open RcSpec hiding none

def ARel (w : World) (J : Nat → Nat) (p n : Nat) (last : Option Nat) (V : List UInt8 → List Pin) (ss : List Pin) (sv : Value) (mv : Option Nat) (R : List UInt8 → Value) (L : List Rec) (vo vi : Value) (wr : World) : Prop :=
  ∃ (k : Nat) (J' : Nat → Nat) (ps : List Pin), k ≤ L.length ∧ vi = .int .i64 (k : Int) ∧ (k = 0 → vo = .slice none 0 0) ∧ Hid (ASt w J p n last V ss sv mv R (L.take k) vo J' ps wr)
/-- What Add leaves: the error and nothing changed, or all of the records. -/
def APost (w : World) (J : Nat → Nat) (p n : Nat) (last : Option Nat) (V : List UInt8 → List Pin) (ss : List Pin) (E : Nat) (L : List Rec) (e : Ending) (w' : World) : Prop :=
  e = .returned (.int .i64 (E : Int)) ∧ ((E ≠ 0 ∧ Below w.heap.size w w') ∨ (E = 0 ∧ ∃ (J' : Nat → Nat) (ps P : List Pin) (sv' : Value) (mv' : Option Nat) (R' : List UInt8 → Value) (n' : Nat),
    HM w' J' p (lastOf last L) (fun t => V t ++ having ps t) (merged cfP ss P) sv' mv' R' n' ∧ n' ≤ n + 2000 * L.length ∧ Mo J J' (fun k => k ≠ 0) w w' ∧ ps.map rcp = L ∧ P.Perm ps ∧ HpSpec.Asc cfP P))

set_option maxHeartbeats 6400000 in
set_option maxRecDepth 100000 in
theorem add_any (w : World) (J : Nat → Nat) (p n : Nat) (last : Option Nat) (V : List UInt8 → List Pin) (ss : List Pin) (sv : Value) (mv : Option Nat) (R : List UInt8 → Value) (h : HM w J p last V ss sv mv R n)
    (ms : List RM) (A : Option Addr) (c : Nat) (hl : Rl w A ms.length c ms) (hlies : Lies J (fun k => k = 0) A ms) (hn : ss.length ≤ 65536) (hm : totalR ms ≤ 2097152) (hV : ∀ t, (V t).length ≤ 65536) (hn2 : n ≤ 1099511627776) (hasc : HpSpec.Asc cfP ss) (E : Nat)
    (hE : E = if firstBad (recsOf ms) ≠ 0 then firstBad (recsOf ms) else if bad last (recsOf ms) = true then 6 else if 65536 < ss.length + ms.length then 3 else 0) :
    Calls Tryz.prog 11 #[(.pointer (some ⟨p, 0, none⟩)), .slice A ms.length c] w (APost w J p n last V ss E (recsOf ms)) := by
  have hmany : ms.length ≤ 2097152 := by
    have key : ∀ l : List RM, l.length ≤ totalR l := by
      intro l
      induction l with
      | nil => simp [totalR]
      | cons x l ih =>
        have : 1 ≤ sizeR x.1 := by unfold sizeR; omega
        simp only [totalR, List.map_cons, List.sum_cons, List.length_cons] at *
        omega
    have := key ms
    omega
  have HC := Lib.hid (check_any w J p n last V ss sv mv R h ms A c hl hn (by omega) E hE)
  have heq := eq_some p 0
  by_cases h0 : E = 0
  · have hrl : (recsOf ms).length = ms.length := by simp [recsOf]
    have hall : firstBad (recsOf ms) = 0 ∧ ss.length + ms.length ≤ 65536 := by
      rw [h0] at hE
      split at hE
      · rename_i h1; omega
      · rename_i h1
        split at hE
        · cases hE
        · split at hE
          · cases hE
          · omega
    obtain ⟨hfb, hfew⟩ := hall
    have hokR := firstBad_zero.1 hfb
    have HOK : Hid (∀ m ∈ ms, Ok m.1) := Lib.hid fun m hm => hokR m.1 (List.mem_map_of_mem hm)
    subst h0
    obtain ⟨i1, gi, gz0, gz1, gz2⟩ := info_parts HpIndex.info_ptr
    have HL := Lib.hid hl
    have HLI := Lib.hid hlies
    have HST0 : Hid (∀ w1, Below w.heap.size w w1 → ASt w J p n last V ss sv mv R ((recsOf ms).take 0) (.slice none 0 0) J [] w1) := Lib.hid fun w1 hb => ⟨rfl, World.ownsRow_nil _ _ _ _, fun q hq => (by cases hq), h.below hb, fun x hx => (by cases hx), Mo.same hb⟩
    have HZ : Hid (∀ m ∈ ms, sizeR m.1 ≤ 2097152) := Lib.hid fun m hm2 => by
      have key : ∀ l : List RM, m ∈ l → sizeR m.1 ≤ totalR l := by
        intro l
        induction l with
        | nil => intro h; cases h
        | cons x l ih =>
          intro h
          simp only [totalR, List.map_cons, List.sum_cons]
          rcases List.mem_cons.1 h with rfl | h
          · omega
          · have := ih h
            simp only [totalR] at this
            omega
      have := key ms hm2
      omega
    have hV' := Lib.hid hV
    have HASC := Lib.hid hasc
    have hlt := h.lt
    clear hE hl hlies hfb hokR h hV hasc
    go_enter Tryz.func11, Tryz.ntmps11
    go_wp2_with fail
    refine HC.out.mono ?_
    rintro e w1 ⟨rfl, hb1⟩
    have HST1 := Lib.hid (HST0.out w1 hb1)
    clear hb1 HC HST0
    go_wp2
    go_loopw [6, 19] (fun vo vi wr => ARel w J p n last V ss sv mv R (recsOf ms) vo vi wr) (fun _ vi _ => ms.length - (intOf vi).toNat)
    case atStart => exact ⟨0, J, [], Nat.zero_le _, rfl, fun _ => rfl, HST1⟩
    case round =>
      obtain ⟨k, J', ps, hk, rfl, hz, HA⟩ := hrel
      rw [hrl] at hk
      clear HST1 heq
      by_cases hlt2 : k < ms.length
      · clear hz
        obtain ⟨hrlw, _⟩ := rl_mo HL.out HLI.out HA.out.mo (fun o h => fun e => e h)
        obtain ⟨b1, o1, rfl, hbb, hc⟩ := hrlw.rd (by rw [flatR_len]; omega)
        obtain ⟨k0, k1, k2, k3⟩ := cellsR hc hlt2
        have hok := hrlw.each ms[k] (List.getElem_mem hlt2)
        have hO := HOK.out ms[k] (List.getElem_mem hlt2)
        have HTK : Hid ((recsOf ms).take (k + 1) = (recsOf ms).take k ++ [ms[k].1]) := Lib.hid (by
          rw [List.take_succ_eq_append_getElem (by rw [hrl]; exact hlt2)]
          simp [recsOf])
        obtain ⟨x, hx⟩ : ∃ x, ms[k] = x := ⟨_, rfl⟩
        rw [hx] at k0 k1 k2 k3 hok hO HTK
        have hi1 : (0 : Int) ≤ (k : Int) := by omega
        have hi2 : (k : Int) < (ms.length : Int) := by omega
        obtain ⟨⟨tm, sq, ls, ln⟩, Am, lm, cm⟩ := x
        have hwa : Below wr.heap.size wr (wr.alloc (.cells #[.int .i64 tm, .int .u64 (sq : Int), .slice Am lm cm, .string ⟨ln.toArray⟩] 47)) := (Below.refl _ wr).alloc (Nat.le_refl _) _
        have HC := Lib.hid (copied_any _ _ (hok.below hwa) (lim_ok hO))
        have hfew : ls.length ≤ 16 := hO.may.few
        have HFT := Lib.hid hok.fits
        have hnew : (wr.alloc (.cells #[.int .i64 tm, .int .u64 (sq : Int), .slice Am lm cm, .string ⟨ln.toArray⟩] 47)).heap[wr.heap.size]? = some (.cells #[.int .i64 tm, .int .u64 (sq : Int), .slice Am lm cm, .string ⟨ln.toArray⟩] 47 (0, 0)) := Go.heap_alloc_new wr _
        have HWA := Lib.hid (And.intro hwa hnew)
        obtain ⟨Av, cv, rfl, hcv1, hcv2, _⟩ := own_row HA.out.own (by rw [ptrs_len]; omega)
        have hpsl : ps.length ≤ 2097152 := by
          have := congrArg List.length HA.out.recs
          rw [List.length_map, List.length_take, hrl] at this
          omega
        clear hrlw hc hx hok hO hwa hnew
        unfold aggR slV S8 at *
        simp only at k0 k1 k2 k3 HC HTK HFT
        go_wp2_with fail
        refine HC.out.mono ?_
        rintro e w1 ⟨g1, rfl, hg1, hrow, hb1⟩
        have hrow : Row w1 g1 ls := hrow
        have hszA : (wr.alloc (.cells #[.int .i64 tm, .int .u64 (sq : Int), .slice Am lm cm, .string ⟨ln.toArray⟩] 47)).heap.size = wr.heap.size + 1 := by simp
        rw [hszA] at hg1
        have hs1 := hb1.size
        rw [hszA] at hs1
        have hb1w : Below wr.heap.size wr w1 := HWA.out.1.trans (hb1.mono (by omega))
        have hbx1 := (hb1.block wr.heap.size (by omega)).trans HWA.out.2
        have a0 := HpBox.cell_of_heap (j := 0) hbx1 rfl
        have a1 := HpBox.cell_of_heap (j := 1) hbx1 rfl
        have a2 := HpBox.cell_of_heap (j := 2) hbx1 rfl
        have a3 := HpBox.cell_of_heap (j := 3) hbx1 rfl
        have af := fun j => HpBox.frozen_of_heap (j := j) hbx1
        have hg1lt := hrow.lt
        have hnvo : ∀ q, (Value.slice Av ps.length cv).ownBlock = some q → w.heap.size ≤ q ∧ q < wr.heap.size := HA.out.own.lt
        obtain ⟨wc, hwc⟩ : ∃ wc, wc = ((((w1.setCell ⟨wr.heap.size, 0, none⟩ (.int .i64 tm)).setCell ⟨wr.heap.size, 1, none⟩ (.int .u64 (sq : Int))).setCell ⟨wr.heap.size, 2, none⟩ (.slice (some ⟨g1, 0, none⟩) ls.length ls.length)).setCell ⟨wr.heap.size, 3, none⟩ (.string ⟨ln.toArray⟩)).alloc (.cells #[.pointer (some ⟨wr.heap.size, 0, none⟩)] 64) := ⟨_, rfl⟩
        have hwcs : wc.heap.size = w1.heap.size + 1 := by rw [hwc]; simp
        have hwco : ∀ i, i ≠ wr.heap.size → i < w1.heap.size → wc.heap[i]? = w1.heap[i]? := fun i hi hlt3 => by
          rw [hwc, Below.heap_alloc _ _ _ (by simpa using hlt3), heap_setCell_other _ _ _ _ hi, heap_setCell_other _ _ _ _ hi, heap_setCell_other _ _ _ _ hi, heap_setCell_other _ _ _ _ hi]
        have hwcb : wc.heap[wr.heap.size]? = some (.cells #[.int .i64 tm, .int .u64 (sq : Int), .slice (some ⟨g1, 0, none⟩) ls.length ls.length, .string ⟨ln.toArray⟩] 47 (0, 0)) := by
          rw [hwc, Below.heap_alloc _ _ _ (by simp; omega), heap_setCell_same _ _ 3 _ _ (.string ⟨ln.toArray⟩) (heap_setCell_same _ _ 2 _ _ (.slice (some ⟨g1, 0, none⟩) ls.length ls.length) (heap_setCell_same _ _ 1 _ _ (.int .u64 (sq : Int)) (heap_setCell_same _ _ 0 _ _ (.int .i64 tm) hbx1)))]
          simp
        have hwcB : Below wr.heap.size wr wc := ⟨by rw [hwc]; exact hb1w.os, by rw [hwc]; exact hb1w.tape, by rw [hwc]; exact hb1w.output, by omega, fun i hi => (hwco i (by omega) (by omega)).trans (hb1w.block i hi)⟩
        have hownc : wc.ownsRow w.heap.size 64 1 (.slice Av ps.length cv) ps.length (ptrs ps) := own_same HA.out.own fun q hq => hwcB.block q (hnvo q hq).2
        have hrdc : Rd wc (w1.heap.size + 1) (some ⟨w1.heap.size, 0, none⟩) [ptr wr.heap.size] := by
          have := Rd.made ((((w1.setCell ⟨wr.heap.size, 0, none⟩ (.int .i64 tm)).setCell ⟨wr.heap.size, 1, none⟩ (.int .u64 (sq : Int))).setCell ⟨wr.heap.size, 2, none⟩ (.slice (some ⟨g1, 0, none⟩) ls.length ls.length)).setCell ⟨wr.heap.size, 3, none⟩ (.string ⟨ln.toArray⟩)) #[.pointer (some ⟨wr.heap.size, 0, none⟩)] 64
          rw [hwc]
          unfold ptr
          simpa using this
        have hrowc : Row wc g1 ls := (hwco g1 (by omega) (by omega)).trans hrow
        have HWC : Hid (((((w1.setCell ⟨wr.heap.size, 0, none⟩ (.int .i64 tm)).setCell ⟨wr.heap.size, 1, none⟩ (.int .u64 (sq : Int))).setCell ⟨wr.heap.size, 2, none⟩ (.slice (some ⟨g1, 0, none⟩) ls.length ls.length)).setCell ⟨wr.heap.size, 3, none⟩ (.string ⟨ln.toArray⟩)).alloc (.cells #[.pointer (some ⟨wr.heap.size, 0, none⟩)] 64) = wc) := Lib.hid hwc.symm
        have HOWN : Hid ((((((w1.setCell ⟨wr.heap.size, 0, none⟩ (.int .i64 tm)).setCell ⟨wr.heap.size, 1, none⟩ (.int .u64 (sq : Int))).setCell ⟨wr.heap.size, 2, none⟩ (.slice (some ⟨g1, 0, none⟩) ls.length ls.length)).setCell ⟨wr.heap.size, 3, none⟩ (.string ⟨ln.toArray⟩)).alloc (.cells #[.pointer (some ⟨wr.heap.size, 0, none⟩)] 64)).ownsRow w.heap.size 64 1 (.slice Av ps.length cv) ps.length (ptrs ps)) := Lib.hid (by rw [HWC.out]; exact hownc)
        have HRDC : Hid (Rd (((((w1.setCell ⟨wr.heap.size, 0, none⟩ (.int .i64 tm)).setCell ⟨wr.heap.size, 1, none⟩ (.int .u64 (sq : Int))).setCell ⟨wr.heap.size, 2, none⟩ (.slice (some ⟨g1, 0, none⟩) ls.length ls.length)).setCell ⟨wr.heap.size, 3, none⟩ (.string ⟨ln.toArray⟩)).alloc (.cells #[.pointer (some ⟨wr.heap.size, 0, none⟩)] 64)) (w1.heap.size + 1) (some ⟨w1.heap.size, 0, none⟩) [ptr wr.heap.size]) := Lib.hid (by rw [HWC.out]; exact hrdc)
        have HWS : Hid (w.heap.size ≤ (((((w1.setCell ⟨wr.heap.size, 0, none⟩ (.int .i64 tm)).setCell ⟨wr.heap.size, 1, none⟩ (.int .u64 (sq : Int))).setCell ⟨wr.heap.size, 2, none⟩ (.slice (some ⟨g1, 0, none⟩) ls.length ls.length)).setCell ⟨wr.heap.size, 3, none⟩ (.string ⟨ln.toArray⟩)).alloc (.cells #[.pointer (some ⟨wr.heap.size, 0, none⟩)] 64)).heap.size) := Lib.hid (by rw [HWC.out]; have := HA.out.mo.size; omega)
        have HFACT := Lib.hid (And.intro hb1w (And.intro hwcb (And.intro hwcB (And.intro hrowc hnvo))))
        have hws := HA.out.mo.size
        have hszs : wr.heap.size < w1.heap.size ∧ wc.heap.size = w1.heap.size + 1 ∧ wr.heap.size < g1 ∧ g1 < w1.heap.size := ⟨by omega, hwcs, by omega, by omega⟩
        have hbox := HA.out.hm.box
        have hplt := HA.out.hm.lt
        have hpvo : (Value.slice Av ps.length cv).ownBlock ≠ some p := fun e => by
          have h1 := HA.out.jo p e
          rw [HA.out.hm.jp] at h1
          omega
        have HBOX := Lib.hid ((hwcB.block p hplt).trans hbox)
        have HPVO := Lib.hid hpvo
        clear hrow hb1 hb1w hbx1 hwco hwcb hwcB hownc hrdc hrowc HC k0 k1 k2 k3 hbox hwcs hwc hnvo hpvo
        unfold aggR slV S8
        go_wp2_with (at_builtin; refine wpList_append_rd _ rfl (.tmp 25) (.tmp 26) 57 rfl w.heap.size 1 64 i1 (.pointer none) 8 Tryz.underlying57 gi gz0 gz1 gz2 rfl (by omega) _ _ _ rfl HOWN.out (w1.heap.size + 1) (some ⟨w1.heap.size, 0, none⟩) 1 1 [ptr wr.heap.size] rfl rfl ?f0 ?f1 ?f2 ?f3 ?f4 ?_)
        case f0 => exact HRDC.out
        case f1 => intro u hu; simp at hu; subst hu; rfl
        case f2 => unfold maxLen; omega
        case f3 => omega
        case f4 => exact HWS.out
        intro v' w2 hown' hg' hv'
        rw [HWC.out] at hg'
        have hg2 := (hg'.block wr.heap.size (by omega) (fun e => by have := (HFACT.out.2.2.2.2 _ e.symm).2; omega)).trans HFACT.out.2.1
        have d1 := HpBox.cell_of_heap (j := 1) hg2 rfl
        have hp2 := (hg'.block p (by omega) (fun e => HPVO.out e.symm)).trans HBOX.out
        have p2 := HpBox.cell_of_heap (j := 2) hp2 rfl
        have p3 := HpBox.cell_of_heap (j := 3) hp2 rfl
        have pf := fun j => HpBox.frozen_of_heap (j := j) hp2
        have HNX := Lib.hid (HA.out.next (m := (⟨tm, sq, ls, ln⟩, Am, lm, cm)) (g1 := g1) (wb := wc) HFT.out HFACT.out.1 hszs.1 HFACT.out.2.1 HFACT.out.2.2.1 (by omega) HFACT.out.2.2.2.1 ⟨hszs.2.2.1, hszs.2.2.2⟩ (by unfold maxLen; show ls.length ≤ _; omega) hown' hg' (hv'.imp id fun h => ⟨_, h, by omega⟩))
        simp only at HNX
        rw [← HTK.out] at HNX
        clear hown' hg' hv' hg2 hp2 HOWN HRDC HFACT HBOX HA
        go_wp2
        exact ⟨⟨k + 1, _, _, by rw [hrl]; omega, by go_num, fun h => absurd h (Nat.succ_ne_zero _), HNX⟩, by simp [intOf]; omega⟩
      · obtain rfl : k = ms.length := by omega
        have e1 : (recsOf ms).take ms.length = recsOf ms := List.take_of_length_le (by rw [hrl]; exact Nat.le_refl _)
        have hi3 : ((ms.length : Int) < (ms.length : Int)) = False := by simp
        rw [e1] at HA
        have hps : ps.length = ms.length := by
          have := congrArg List.length HA.out.recs
          rw [List.length_map, hrl] at this
          exact this
        have hTx : ∀ x ∈ ps, (terms (rcp x)).length ≤ 2000 ∧ sizeR (rcp x) ≤ 2097152 := fun x hx => by
          have hm1 : rcp x ∈ recsOf ms := by rw [← HA.out.recs]; exact List.mem_map_of_mem hx
          unfold recsOf at hm1
          obtain ⟨m, hm2, hm3⟩ := List.mem_map.1 hm1
          have hk2 := HOK.out m hm2
          have hz2 := HZ.out m hm2
          rw [hm3] at hk2 hz2
          have hln := hk2.line
          have hlb : (rcp x).labels.length ≤ 16 := hk2.may.few
          have := HdTerms.words_len (rcp x).line
          exact ⟨terms_len _ (by omega) hlb, hz2⟩
        have hsl : ps.length ≤ 65536 := by omega
        have hss : ss.length ≤ 65536 := hn
        have HI := Lib.hid (index_call HA.out hTx hV'.out hn2 hsl)
        have HPS := Lib.hid hps
        have HRC := Lib.hid HA.out.recs
        obtain ⟨As, cs, rfl, _, _, _⟩ := own_row HA.out.own (by rw [ptrs_len]; omega)
        have HV0 : Hid (ps = [] → (Value.slice As ps.length cs) = .slice none 0 0) := Lib.hid fun h => hz (by rw [← hps, h]; rfl)
        clear HA hTx hz hi3 hlt2 hps
        go_wp2_with fail
        refine HI.out.mono ?_
        rintro e w2 ⟨rfl, HB1⟩
        have HS := Lib.hid (sort_call HB1.out hsl)
        clear HI HB1
        go_wp2_with fail
        refine HS.out.mono ?_
        rintro e w3 ⟨rfl, P, HP⟩
        have hpl : P.length = ps.length := HP.out.1.length_eq
        have HL2 := Lib.hid (lay_call HP.out.2.2 HASC.out hss (by omega) (fun h => HV0.out (List.eq_nil_of_length_eq_zero (by rw [← hpl, h]; rfl))))
        have HPP := Lib.hid (And.intro HP.out.1 HP.out.2.1)
        have hpl' := Lib.hid hpl
        clear HS HP hpl
        go_wp2_with fail
        refine HL2.out.mono ?_
        rintro e w4 ⟨rfl, J4, sv4, mv4, R4, n4, HF⟩
        clear HL2
        go_wp2
        go_ret
        exact ⟨rfl, .inr ⟨rfl, J4, ps, P, sv4, mv4, R4, n4, HF.out.1, by rw [hrl, ← HPS.out]; exact HF.out.2.1, HF.out.2.2, HRC.out, HPP.out.1, HPP.out.2⟩⟩
  · have j1 : ((E : Int) != 0) = true := by simp; omega
    clear hl hlies hn hV hasc hE h
    go_enter Tryz.func11, Tryz.ntmps11
    go_wp2_with fail
    refine HC.out.mono ?_
    rintro e w1 ⟨rfl, hb1⟩
    have HB := Lib.hid hb1
    clear hb1 HC
    go_wp2
    go_ret
    exact ⟨rfl, .inl ⟨h0, HB.out⟩⟩
end Go.Proofs.YtkgmcabamhpjhaaGreat.HpAddW

