/- The program's Find over its head in memory: the places of a term's records. Conditions: the head lies in memory, its records in order, at most 65536; the term as long as a string may be. · The program's heads: what they are in memory, and that their calls keep the contracts ('Hed') that the statements are walked over. Conditions: Hed's own. -/
import Derived.Test.YtkgmcabamhpjhaaGreatHpAlls
import Derived.Test.YtkgmcabamhpjhaaGreatHpIndex
import Derived.Test.YtkgmcabamhpjhaaGreatHpBoxs
import Derived.Test.YtkgmcabamhpjhaaGreatSoSort
import Derived.Test.YtkgmcabamhpjhaaGreatHpAdds
import Derived.Test.YtkgmcabamhpjhaaGreatHpTerms
import Derived.Test.YtkgmcabamhpjhaaGreatHdMems
namespace Go.Proofs.YtkgmcabamhpjhaaGreat.HpFind
open Go Go.RowKit Words AppN Less LbSpec LbText LbMem LbRef LbCmp UtOwn LpOrd LpCopy RcAll RcMem RcRef RcOpen HdMem HdKm HdSpec HpSpec HpBox HpMem HpCopied HpAll HpIndex HpSearch
open RcSpec hiding none

theorem info_word : (Tryz.prog.info? 44).map (fun i => (i.zero, i.size, i.bytes)) = some (some (.int .u64 0), 1, 8) := by kernel_rfl
/-- slices.BinarySearchFunc among the head's records. -/
theorem search_hm {w : World} {J : Nat → Nat} {p n : Nat} {last : Option Nat} {V : List UInt8 → List Pin} {ss : List Pin} {sv : Value} {mv : Option Nat} {R : List UInt8 → Value} (h : HM w J p last V ss sv mv R n) {x : Pin} (hx : PinAt w J x) (hasc : HpSpec.Asc cfP ss) (hn : ss.length ≤ 65536) :
    Calls Tryz.prog 37 #[sv, ptr x.1, .func (.func 32) #[] #[]] w fun e w' => e = .returned (.tuple #[.int .i64 (cnt cfP ss x : Int), .bool (there ss x)]) ∧ Below w.heap.size w w' := by
  rcases h.srt.2 with ⟨hv, h0⟩ | ⟨g, cap, cur, hv, hbase, hb, h1, h2, h3, h4⟩
  · have hs : ss = [] := List.eq_nil_of_length_eq_zero h0
    subst hs hv
    exact (search_nil w none 0 (ptr x.1) (.func (.func 32) #[] #[])).mono fun e w' ⟨he, hw⟩ => ⟨he, by subst hw; exact Below.refl _ _⟩
  · have hg := h.js g (by rw [hv]; rfl)
    rw [hv]
    refine search_any w g ss x cap (fun j hj => ?_) (Array.getElem?_eq_some_iff.1 hb).1 (fun y hy => ⟨(h.spin y hy).box, fun e => by have := (h.spin y hy).kind; rw [e] at this; omega⟩) ⟨hx.box, fun e => by have := hx.kind; rw [e] at this; omega⟩ hasc (by omega)
    refine ⟨HpBox.cell_of_heap hb ?_, HpBox.frozen_of_heap hb⟩
    have h5 : (cur.toList.take (ss.length * 1))[j]? = (ptrs ss)[j]? := by rw [h4]
    rw [List.getElem?_take_of_lt (by omega), ptrs_at hj] at h5
    simpa using h5

def placesOf (ss : List Pin) (T : List Pin) : List UInt64 := List.map (fun x => UInt64.ofNat (cnt cfP ss x)) T
def FRel (w : World) (ss T : List Pin) (vo vi : Value) (wr : World) : Prop :=
  ∃ k : Nat, k ≤ T.length ∧ vi = .int .i64 (k : Int) ∧ Hid (wr.ownsRow w.heap.size 44 1 vo (placesOf ss (T.take k)).length ((placesOf ss (T.take k)).map B64)) ∧ Hid (Below w.heap.size w wr)
/-- What Find answers. -/
def FRes (w : World) (ss T : List Pin) (e : Ending) (w' : World) : Prop :=
  ∃ (v : Value) (l : List UInt64), e = .returned v ∧ l.Perm (placesOf ss T) ∧ l.Pairwise (fun a b => a.toNat ≤ b.toNat) ∧ w'.ownsRow w.heap.size 44 1 v l.length (l.map B64) ∧ Below w.heap.size w w'

set_option maxHeartbeats 6400000 in
set_option maxRecDepth 100000 in
theorem find_any (w : World) (J : Nat → Nat) (p n : Nat) (last : Option Nat) (V : List UInt8 → List Pin) (ss : List Pin) (sv : Value) (mv : Option Nat) (R : List UInt8 → Value) (h : HM w J p last V ss sv mv R n)
    (t : List UInt8) (ht : t.length ≤ maxLen) (hasc : HpSpec.Asc cfP ss) (hn : ss.length ≤ 65536) (hV : (V t).length ≤ 65536) :
    Calls Tryz.prog 18 #[(.pointer (some ⟨p, 0, none⟩)), .string ⟨t.toArray⟩] w (FRes w ss (V t)) := by
  obtain ⟨i1, gi, gz0, gz1, gz2⟩ := info_parts info_word
  have heq := eq_some p 0
  have hlk := h.map.look (w' := w) (own_rowV (h.row t)) ht (fun _ _ => rfl)
  obtain ⟨At, ct, hRt, hct1, hct2, hrd⟩ := own_row (h.row t) (by rw [ptrs_len]; omega)
  rw [hRt] at hlk
  obtain ⟨As, cs, rfl, hcs1, hcs2, _⟩ := own_row h.srt (by rw [ptrs_len]; omega)
  have k0 : w.cell? ⟨p, 0, none⟩ = some (.slice As ss.length cs) := HpBox.cell_of_heap h.box rfl
  have k1 : w.cell? ⟨p, 1, none⟩ = some (.map mv) := HpBox.cell_of_heap h.box rfl
  have hplt := h.lt
  have HRD := Lib.hid hrd
  have HSC : Hid (∀ wr, Below w.heap.size w wr → ∀ x ∈ V t, Calls Tryz.prog 37 #[.slice As ss.length cs, ptr x.1, .func (.func 32) #[] #[]] wr fun e w' => e = .returned (.tuple #[.int .i64 (cnt cfP ss x : Int), .bool (there ss x)]) ∧ Below wr.heap.size wr w') :=
    Lib.hid fun wr hb x hx => search_hm (h.below hb) ((h.vpin t x hx).keep fun i hi => hb.block i (h.in_ i (by omega))) hasc hn
  unfold S8 at hlk
  clear hrd hasc h hRt
  generalize V t = T at *
  go_enter Tryz.func18, Tryz.ntmps18
  go_wp2
  clear hlk
  go_loopw [5, 19] (fun vo vi wr => FRel w ss T vo vi wr) (fun _ vi _ => T.length - (intOf vi).toNat)
  case atStart => exact ⟨0, Nat.zero_le _, rfl, Lib.hid (World.ownsRow_nil _ _ _ _), Lib.hid (Below.refl _ _)⟩
  case round =>
    obtain ⟨k, hk, rfl, HO, HB⟩ := hrel
    have hpl : (placesOf ss (T.take k)).length = k := by unfold placesOf; rw [List.length_map, List.length_take]; omega
    rw [hpl] at HO
    by_cases hlt : k < T.length
    · obtain ⟨gs, os, rfl, hgs, hcell⟩ := HRD.out (by rw [ptrs_len]; omega)
      have q := (HB.out.cell (p := ⟨gs, os + k, none⟩) hgs).trans (hcell k _ (ptrs_at hlt))
      have b0 := (HB.out.cell (p := ⟨p, 0, none⟩) hplt).trans k0
      have HC := Lib.hid (HSC.out wr HB.out T[k] (List.getElem_mem hlt))
      have HTK : Hid (placesOf ss (T.take (k + 1)) = placesOf ss (T.take k) ++ [UInt64.ofNat (cnt cfP ss T[k])]) := Lib.hid (by
        unfold placesOf
        rw [List.take_succ_eq_append_getElem hlt, List.map_append]
        rfl)
      have hcl : cnt cfP ss T[k] ≤ 65536 := Nat.le_trans (cnt_le _ _) hn
      obtain ⟨Av, cv, rfl, hcv1, hcv2, _⟩ := own_row HO.out (by rw [List.length_map, hpl]; omega)
      have hi1 : (0 : Int) ≤ (k : Int) := by omega
      have hi2 : (k : Int) < (T.length : Int) := by omega
      generalize T[k] = x at *
      generalize cnt cfP ss x = cc at *
      generalize there ss x = tb at *
      obtain ⟨g, m⟩ := x
      unfold ptr at q HC
      simp only at q HC
      clear hcell
      go_wp2_with fail
      refine HC.out.mono ?_
      rintro e w5 ⟨rfl, hb5⟩
      have HO5 := Lib.hid (own_same HO.out fun q hq => hb5.block q (HO.out.lt q hq).2)
      have HB5 : Hid (Below w.heap.size w w5) := Lib.hid (HB.out.trans (hb5.mono HB.out.size))
      clear HC hb5 HO HB q b0
      have hwk : IntKind.u64.wrap (cc : Int) = (cc : Int) := by rw [IntKind.wrap_u64]; omega
      have hM := Lib.hid (Rd.made w5 #[.int .u64 (cc : Int)] 44)
      have hs5 := HB5.out.size
      go_wp2_with (at_builtin; refine wpList_append_rd _ rfl (.tmp 32) (.tmp 35) 39 rfl w.heap.size 1 44 i1 (.int .u64 0) 8 Tryz.underlying39 gi gz0 gz1 gz2 rfl (by omega) _ _ _ rfl (HO5.out.alloc _) (w5.heap.size + 1) (some ⟨w5.heap.size, 0, .none⟩) 1 1 [.int .u64 (cc : Int)] rfl rfl hM.out (by intro u hu; simp at hu; subst hu; rfl) (by unfold maxLen; omega) (by omega) (by simp; omega) ?_)
      intro v' w6 hown6 hg6 _
      have HO6 : Hid (w6.ownsRow w.heap.size 44 1 v' (placesOf ss (T.take (k + 1))).length ((placesOf ss (T.take (k + 1))).map B64)) := Lib.hid (by
        rw [HTK.out, List.length_append, List.map_append, hpl]
        have e : B64 (UInt64.ofNat cc) = .int .u64 (cc : Int) := by unfold B64; rw [UInt64.toNat_ofNat_of_lt' (by show cc < 2 ^ 64; omega)]
        rw [show [UInt64.ofNat cc].map B64 = [.int .u64 (cc : Int)] by rw [List.map_cons, e]; rfl]
        exact hown6)
      have HB6 : Hid (Below w.heap.size w w6) := Lib.hid ((HB5.out.alloc HB5.out.size _).grown hg6 (by simp; omega) (fun g h => (HO5.out.lt g h).1))
      clear hown6 hg6 HO5 HB5
      go_wp2
      exact ⟨⟨k + 1, by omega, by go_num, HO6, HB6⟩, by simp [intOf]; omega⟩
    · obtain rfl : k = T.length := by omega
      rw [List.take_length] at HO hpl
      rw [← hpl] at HO
      have HS := Lib.hid (SoSort.sort_own HO.out (by omega))
      have HO9 := HO
      obtain ⟨Av, cv, rfl, hcv1, hcv2, _⟩ := own_row HO.out (by rw [List.length_map]; omega)
      rw [hpl] at HS HO9
      clear HO HSC
      go_wp2_with fail
      refine HS.out.mono ?_
      rintro e w7 ⟨rfl, l, hp, hs, ho, hg⟩
      have HL : Hid (FRes w ss T (.returned (.slice Av T.length cv)) w7) := Lib.hid ⟨_, l, rfl, hp, hs, ho, HB.out.grown hg (by have := HB.out.size; omega) (fun g h => (HO9.out.lt g h).1)⟩
      clear HS hp hs ho hg
      go_wp2
      go_ret
      exact HL.out
end Go.Proofs.YtkgmcabamhpjhaaGreat.HpFind

namespace Go.Proofs.YtkgmcabamhpjhaaGreat.HdProg
open Go Go.RowKit Words AppN Less LbSpec LbText LbMem LbRef LbCmp UtOwn LpOrd LpCopy RcAll RcMem RcRef RcOpen HdMem HdKm HdSpec HpSpec HpBox HpMem HpCopied HpAll Km HdLaw HpIndex HpLay HpAdd HpAddW HpFind
open RcSpec hiding none

/-- A head in memory: its box, its sorted row, its map, its records and their labels, the terms' rows, all of the number o. -/
def HeadR (w : World) (K : Nat → Nat) (o p : Nat) (h : HSt) : Prop :=
  HdSpec.Good h ∧ ∃ (J : Nat → Nat) (bs ss : List Pin) (sv : Value) (mv : Option Nat) (R : List UInt8 → Value) (n : Nat),
    HM w J p h.last (having bs) ss sv mv R n ∧ bs.map rcp = h.recs ∧ ss.Perm bs ∧ ss.map rcp = HdSpec.all h ∧ n ≤ 2000 * bs.length ∧ ∀ i, J i ≠ 0 → K i = o

section
variable {w w' : World} {K K' : Nat → Nat} {o p m : Nat} {h : HSt}
theorem keep (hr : HeadR w K o p h) (hs : w.heap.size ≤ w'.heap.size) (hk : ∀ i, i < w.heap.size → K i = o → w'.heap[i]? = w.heap[i]? ∧ K' i = o) : HeadR w' K' o p h := by
  obtain ⟨hg, J, bs, ss, sv, mv, R, n, h1, h2, h3, h4, h5, h6⟩ := hr
  exact ⟨hg, J, bs, ss, sv, mv, R, n, h1.keep hs fun i hi => (hk i (h1.in_ i hi) (h6 i hi)).1, h2, h3, h4, h5, fun i hi => (hk i (h1.in_ i hi) (h6 i hi)).2⟩
theorem keepNew (hr : HeadR w K o p h) (hb : Below w.heap.size w w') : HeadR w' (kmark K w.heap.size m) o p h :=
  keep hr hb.size fun i hi hk => ⟨hb.block i hi, (kmark_old hi).trans hk⟩
theorem few {bs ss : List Pin} (hg : HdSpec.Good h) (h2 : bs.map rcp = h.recs) (h3 : ss.Perm bs) : bs.length = h.recs.length ∧ ss.length = h.recs.length ∧ h.recs.length ≤ 65536 := by
  have e := congrArg List.length h2
  rw [List.length_map] at e
  exact ⟨e, h3.length_eq.trans e, hg.few⟩
theorem asc_of {ss : List Pin} (h4 : ss.map rcp = HdSpec.all h) : HpSpec.Asc cfP ss := ascR_iff.1 (by rw [h4]; exact sortR_asc _)
theorem lims {bs ss : List Pin} (hg : HdSpec.Good h) (h2 : bs.map rcp = h.recs) (h3 : ss.Perm bs) : ∀ x ∈ ss, Lim (rcp x) := fun x hx => lim_ok (hg.ok _ (by rw [← h2]; exact List.mem_map_of_mem (h3.subset hx)))
theorem box_of {J : Nat → Nat} (hw : w'.heap[p]? = some (.cells #[.slice none 0 0, .map none, .int .u64 ((h.last.getD 0 : Nat) : Int), .bool h.last.isSome] 60 (0, 0))) (hJ : J = fun i => if i = p then 1 else 0) :
    HM w' J p h.last (having []) [] (.slice none 0 0) none (fun _ => .slice none 0 0) 0 := by
  subst hJ
  refine ⟨hw, if_pos rfl, World.ownsRow_nil _ _ _ _, fun q hq => (by cases hq), fun x hx => (by cases hx), fun t x hx => (by cases hx), .inl ⟨rfl, fun _ => rfl⟩, fun t => World.ownsRow_nil _ _ _ _, fun t q hq => (by cases hq), fun i hi => ?_⟩
  by_cases e : i = p
  · subst e; exact (Array.getElem?_eq_some_iff.1 hw).1
  · exact absurd (if_neg e) hi
theorem res_of {ms : List RM} {v : Value} (ha : ArN w ms v w') : Res (kmark K w.heap.size m) m ms v w' := by
  refine ⟨⟨HdSort.own_monoN ha.own (Nat.zero_le _), ha.fits, fun x hx => HdSort.own_monoN (ha.each x hx) (Nat.zero_le _), ha.away, ha.apart⟩, fun q hq => kmark_new (ha.own.lt q hq).1, fun q ⟨x, hx, hq⟩ => kmark_new ((ha.each x hx).lt q hq).1⟩
end

theorem new (w : World) (K : Nat → Nat) (o : Nat) : Calls Tryz.prog 8 #[] w fun e w' => ∃ p K', e = .returned (.pointer (some ⟨p, 0, none⟩)) ∧ HeadR w' K' o p HdSpec.new ∧ Mo K K' (fun _ => False) w w' := by
  refine (new_any w).mono ?_
  rintro e w' ⟨he, rfl⟩
  have hb : Below w.heap.size w (w.alloc (.cells #[.slice none 0 0, .map none, .int .u64 0, .bool false] 60)) := (Below.refl _ w).alloc (Nat.le_refl _) _
  refine ⟨w.heap.size, kmark K w.heap.size o, he, ⟨good_new, _, [], [], .slice none 0 0, none, _, 0, box_of (h := HdSpec.new) (Go.heap_alloc_new w _) rfl, rfl, List.Perm.refl _, rfl, by omega, fun i hi => ?_⟩, Mo.new hb o⟩
  by_cases e : i = w.heap.size
  · subst e; exact kmark_new (Nat.le_refl _)
  · exact absurd (if_neg e) hi

theorem add (w : World) (K : Nat → Nat) (o p : Nat) (h : HSt) (ms : List RM) (A : Option Addr) (n c : Nat) (hr : HeadR w K o p h) (hl : Rl w A n c ms) (hlies : Lies K (fun x => x ≠ o) A ms) (hm : totalR ms ≤ 2097152) :
    Calls Tryz.prog 11 #[(.pointer (some ⟨p, 0, none⟩)), .slice A n c] w fun e w' => e = .returned (.int .i64 (addE h (recsOf ms) : Int)) ∧ HPost HeadR w K o p (HdSpec.add h (recsOf ms)) w' := by
  obtain rfl := hl.len
  obtain ⟨hg, J, bs, ss, sv, mv, R, k, h1, h2, h3, h4, h5, h6⟩ := hr
  obtain ⟨l1, l2, l3⟩ := few hg h2 h3
  have hlJ : Lies J (fun x => x = 0) A ms := ⟨fun b off e hn => Decidable.byContradiction fun hne => hlies.row b off e hn (h6 b hne), fun x hx b off e hn => Decidable.byContradiction fun hne => hlies.labs x hx b off e hn (h6 b hne)⟩
  have hfit : Fit (recsOf ms) := fun r hr => by
    unfold recsOf at hr
    obtain ⟨x, hx, rfl⟩ := List.mem_map.1 hr
    exact (hl.each x hx).fits
  refine (add_any w J p k h.last (having bs) ss sv mv R h1 ms A c hl hlJ (by omega) hm (fun t => Nat.le_trans (having_len bs t) (by omega)) (by omega) (asc_of h4) (addE h (recsOf ms)) (by
    unfold addE
    rw [l2, show (recsOf ms).length = ms.length by simp [recsOf]])).mono ?_
  rintro e w' ⟨he, hpost⟩
  refine ⟨he, ?_⟩
  rcases hpost with ⟨h0, hb⟩ | ⟨h0, J', ps, P, sv', mv', R', n', g1, g2, g3, g4, g5, g6⟩
  · refine ⟨K, ?_, Mo.same hb⟩
    unfold HdSpec.add
    rw [if_neg h0]
    exact ⟨hg, J, bs, ss, sv, mv, R, k, h1.below hb, h2, h3, h4, h5, h6⟩
  · have hadd : HdSpec.add h (recsOf ms) = ⟨h.recs ++ recsOf ms, lastOf h.last (recsOf ms)⟩ := by unfold HdSpec.add; rw [if_pos h0]
    have hgood := good_add hg hfit
    have hperm : (merged cfP ss P).Perm (bs ++ ps) := (merged_perm ss P).trans (h3.append g5)
    have hrec : (bs ++ ps).map rcp = (HdSpec.add h (recsOf ms)).recs := by rw [hadd, List.map_append, h2, g4]
    refine ⟨fun i => if J' i ≠ 0 then o else if i < w.heap.size then K i else 0, ⟨hgood, J', bs ++ ps, merged cfP ss P, sv', mv', R', n', ?_, hrec, hperm, ?_, ?_, fun i hi => if_pos hi⟩, ⟨g3.os, g3.tape, g3.output, g3.size, fun i hi hk => ?_⟩⟩
    · have e1 : having (bs ++ ps) = fun t => having bs t ++ having ps t := funext fun t => having_append bs ps t
      rw [e1, hadd]
      exact g1
    · refine order_one ?_ ?_ (sortR_asc _) ?_
      · refine (hperm.map rcp).trans ?_
        rw [hrec]
        exact (sortR_perm _).symm
      · exact ascR_iff.2 (merged_asc cfP_le cfP_turn (asc_of h4) g6)
      · exact apart_perm (sortR_perm _) hgood.apart
    · have e2 := congrArg List.length g4
      rw [List.length_map] at e2
      rw [List.length_append, e2]
      omega
    · have hJ : J i = 0 := Decidable.byContradiction fun hne => hk (h6 i hne)
      obtain ⟨k1, k2⟩ := g3.keep i hi (fun e => e hJ)
      refine ⟨k1, ?_⟩
      have hJ' : J' i = 0 := k2.trans hJ
      rw [if_neg (fun e => e hJ'), if_pos hi]

theorem len (w : World) (K : Nat → Nat) (o p : Nat) (h : HSt) (hr : HeadR w K o p h) : Calls Tryz.prog 22 #[(.pointer (some ⟨p, 0, none⟩))] w fun e w' => e = .returned (.int .i64 (h.recs.length : Int)) ∧ HPost HeadR w K o p h w' := by
  have hr2 := hr
  obtain ⟨hg, J, bs, ss, sv, mv, R, k, h1, h2, h3, h4, h5, h6⟩ := hr
  obtain ⟨l1, l2, l3⟩ := few hg h2 h3
  refine (len_any w J p k h.last (having bs) ss sv mv R h1).mono ?_
  rintro e w' ⟨he, rfl⟩
  exact ⟨by rw [he, l2], K, hr2, Mo.refl _ _ _⟩

theorem all (w : World) (K : Nat → Nat) (o p m : Nat) (h : HSt) (hr : HeadR w K o p h) (_hm : m ≠ o) : Calls Tryz.prog 15 #[(.pointer (some ⟨p, 0, none⟩))] w (RPost HeadR w K o p m (HdSpec.all h) h) := by
  have hr2 := hr
  obtain ⟨hg, J, bs, ss, sv, mv, R, k, h1, h2, h3, h4, h5, h6⟩ := hr
  obtain ⟨l1, l2, l3⟩ := few hg h2 h3
  refine (all_any w J p k h.last (having bs) ss sv mv R h1 (lims hg h2 h3) (by omega)).mono ?_
  rintro e w' ⟨v, ms, he, hrec, ha⟩
  exact ⟨v, ms, kmark K w.heap.size m, he, hrec.trans h4, res_of ha, keepNew hr2 ha.below, Mo.new ha.below m⟩

theorem take (w : World) (K : Nat → Nat) (o p m : Nat) (h : HSt) (hr : HeadR w K o p h) (hm : m ≠ o) : Calls Tryz.prog 20 #[(.pointer (some ⟨p, 0, none⟩))] w (RPost HeadR w K o p m (HdSpec.all h) (HdSpec.taken h)) := by
  obtain ⟨hg, J, bs, ss, sv, mv, R, k, h1, h2, h3, h4, h5, h6⟩ := hr
  obtain ⟨l1, l2, l3⟩ := few hg h2 h3
  refine (take_any w J p k h.last (having bs) ss sv mv R h1 (lims hg h2 h3) (by omega)).mono ?_
  rintro e w' ⟨v, ms, w1, he, hrec, ha, rfl⟩
  have hpo : K p = o := h6 p (by rw [h1.jp]; omega)
  have hp1 : kmark K w.heap.size m p = o := (kmark_old h1.lt).trans hpo
  have hmo : Mo (kmark K w.heap.size m) (kmark K w.heap.size m) (fun x => x = o) w1 ((w1.setCell ⟨p, 0, none⟩ (.slice none 0 0)).setCell ⟨p, 1, none⟩ (.map none)) := (Mo.poke (a := ⟨p, 0, none⟩) _ hp1).trans (Mo.poke (a := ⟨p, 1, none⟩) _ hp1)
  refine ⟨v, ms, kmark K w.heap.size m, he, hrec.trans h4, (res_of ha).mo hmo hm, ⟨good_taken hg, fun i => if i = p then 1 else 0, [], [], .slice none 0 0, none, _, 0, box_of (h := HdSpec.taken h) ?_ rfl, rfl, List.Perm.refl _, rfl, by omega, fun i hi => ?_⟩, (Mo.new ha.below m).trans hmo⟩
  · rw [heap_setCell_same _ _ 1 _ _ (.map none) (heap_setCell_same _ _ 0 _ _ (.slice none 0 0) ((ha.below.block p h1.lt).trans h1.box))]
    simp [HdSpec.taken]
  · by_cases e : i = p
    · subst e; exact hp1
    · exact absurd (if_neg e) hi

theorem find (w : World) (K : Nat → Nat) (o p m : Nat) (h : HSt) (t : List UInt8) (hr : HeadR w K o p h) (_hm : m ≠ o) (ht : t.length ≤ maxLen) : Calls Tryz.prog 18 #[(.pointer (some ⟨p, 0, none⟩)), .string ⟨t.toArray⟩] w (FPost HeadR w K o p m (HdSpec.find (HdSpec.all h) t) h) := by
  have hr2 := hr
  obtain ⟨hg, J, bs, ss, sv, mv, R, k, h1, h2, h3, h4, h5, h6⟩ := hr
  obtain ⟨l1, l2, l3⟩ := few hg h2 h3
  refine (find_any w J p k h.last (having bs) ss sv mv R h1 t ht (asc_of h4) (by omega) (Nat.le_trans (having_len bs t) (by omega))).mono ?_
  rintro e w' ⟨v, l, he, hp, hs, ho, hb⟩
  have hap : HdSpec.Apart (ss.map rcp) := by
    rw [h4]
    exact apart_perm (sortR_perm _) hg.apart
  have hl : l = HdSpec.find (HdSpec.all h) t := by
    rw [← h4]
    exact places h3 (strict (by rw [h4]; exact sortR_asc _) hap) (by omega) t hp hs
  obtain ⟨A, c, rfl, hc1, hc2, hrd⟩ := own_row ho (by rw [List.length_map]; omega)
  subst hl
  exact ⟨A, c, kmark K w.heap.size m, he, hc1, hc2, hrd, fun b off e _ => kmark_new (ho.lt b (by rw [e]; rfl)).1, keepNew hr2 hb, Mo.new hb m⟩

theorem hed : Hed HeadR where
  keep := keep
  good h := h.1
  termsO w m h hz := HpTerms.terms_any w m h hz
  new := new
  add := add
  len := len
  all := all
  take := take
  find := find
  addNil w ms A n c _ _ := (addNil_any w A n c).mono fun e w' ⟨he, hw⟩ => ⟨he, by subst hw; exact Below.refl _ _⟩
  lenNil w := (lenNil_any w).mono fun e w' ⟨he, hw⟩ => ⟨he, by subst hw; exact Below.refl _ _⟩
  allNil w := (allNil_any w).mono fun e w' ⟨he, hw⟩ => ⟨he, by subst hw; exact Below.refl _ _⟩
  takeNil w := (takeNil_any w).mono fun e w' ⟨he, hw⟩ => ⟨he, by subst hw; exact Below.refl _ _⟩
  findNil w t _ := (findNil_any w _).mono fun e w' ⟨he, hw⟩ => ⟨he, by subst hw; exact Below.refl _ _⟩
  check w m h := RpCheck.check_any w m h
  compare w a b _ _ := RpCmp.compare_any w a b
end Go.Proofs.YtkgmcabamhpjhaaGreat.HdProg

