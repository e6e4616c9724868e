/- The contract of the document's Parse: a text's tree, in new memory, or an error. Conditions: the contract of garnerref06.Runes; a text is shorter than 2^62. · The contract of the document's Same at equal trees: it says true. Conditions: both lie in memory. · The contract that the laws of layer 18 take of the program, and their awake. Conditions: the program's Parse answers parseT, in memory. -/
import Derived.Test.YtdmbgjpidlllcaaRxSpecs
import Derived.Test.YtdmbgjpidlllcaaRxAllB
import Derived.Test.YtdmbgjpidlllcaaRxTrees
import Derived.Test.YtdmbgjpidlllcaaRxAtoms
import Derived.Laws.Cover4
namespace Go.Proofs.Ytdmbgjpidlllcaa.RxParse
open Go Go.RowKit Words AppN Km Mo_ RxSpec RxTree RxEq RxMem RxPeek RxNode RxClean RxPost RxAll RxSize RxSmall RxText

theorem size_all {P : Option Addr} {c : Nat} {ms : List NM} : ∀ N, SizeC P c ms N
  | 0 => fun _ _ _ _ _ h _ => absurd h (Nat.not_lt_zero _)
  | N + 1 => size_of (size_all N)
theorem size_any {w : World} {P : Option Addr} {c : Nat} {ms : List NM} {p : Pat} (h : Tr w P c ms) (hn : nds ms = emit p 0) :
    Calls Try.prog 22 #[.slice P ms.length c, .int .i64 ((ms.length - 1 : Nat) : Int)] w fun e w' => e = .returned (.int .i64 ((min 2000 (size p) : Nat) : Int)) ∧ Below w.heap.size w w' := by
  have := size_all (P := P) (c := c) (ms := ms) _ w p [] [] h (Nat.lt_succ_self _) (by simp [hn])
  rw [show ([] : List Nd).length + (emit p ([] : List Nd).length).length - 1 = ms.length - 1 by rw [List.length_nil, Nat.zero_add, ← hn, nds_len]] at this
  exact this
def RunesC : Prop := ∀ (s : ByteArray) (w : World), s.size ≤ 128 → Calls Try.prog 20 #[.string s] w fun e w' =>
  ∃ v, e = .returned (.tuple #[v, .bool (UtSpec.vals s.data.toList)]) ∧ w'.ownsRow w.heap.size 21 1 v (runesOf s.data.toList).length ((runesOf s.data.toList).map R32) ∧ Below w.heap.size w w'
/-- A new parser. -/
def K0 (w : World) : Nat → Nat := fun b => if b = w.heap.size then 0 else 2
theorem own_at {w : World} {base : Nat} {A : Option Addr} {n c size : Nat} {e : TypeId} {xs : List Value} (h : w.ownsRow base e size (.slice A n c) n xs) (hl : xs.length = n * size) : Rd w w.heap.size A xs ∧ n ≤ c ∧ c ≤ maxLen := by
  rcases h.2 with ⟨e1, h2⟩ | ⟨g, cap, cur, e1, hb, hg, h1, h2, h3, h4⟩
  · injection e1 with e1 e2 e3
    subst e1 e2 e3
    have : xs = [] := List.eq_nil_of_length_eq_zero (by rw [hl]; omega)
    subst this
    exact ⟨Rd.nil_, Nat.le_refl _, Nat.zero_le _⟩
  · injection e1 with e1 e2 e3
    subst e1 e3
    refine ⟨fun _ => ⟨g, 0, rfl, (Array.getElem?_eq_some_iff.1 hg).1, fun j u hu => ?_⟩, h1, h2⟩
    have := h.cells (g := g) rfl j u hu
    rwa [add_off] at this
theorem rp_new {w : World} {B : Nat} {A : Option Addr} {c : Nat} {rs : List Nat} (h : w.ownsRow B 21 1 (.slice A rs.length c) rs.length (rs.map R32)) :
    RP (w.alloc (.cells #[.slice A rs.length c, .int .i64 0, .slice none 0 0, .int .i64 0, .int .i64 0, .bool false] 53)) (K0 w) 0 w.heap.size (A, rs.length, c) rs ⟨0, 0, 0, false⟩ [] (.slice none 0 0) := by
  obtain ⟨h1, h2, h3⟩ := own_at h (by simp)
  refine ⟨if_pos rfl, heap_alloc_new w _, ⟨by simp, h2, h3, rd_up h1 ((Below.refl _ w).alloc (Nat.le_refl _) _), fun b off e _ => ?_⟩, World.ownsRow_nil _ _ _ _, (fun b e => by cases e), (fun m hm => by cases hm)⟩
  have : b < w.heap.size := by
    rcases h.2 with ⟨e1, _⟩ | ⟨g, cap, cur, e1, hb, hg, _⟩
    · simp only at e
      subst e
      injection e1 with e1; cases e1
    · injection e1 with e1
      simp only at e
      subst e
      injection e1 with e1
      injection e1 with e1 _
      rw [e1]
      exact (Array.getElem?_eq_some_iff.1 hg).1
  unfold K0
  rw [if_neg (by omega)]
  exact ⟨by omega, by omega⟩
theorem tr_of {w : World} {K : Nat → Nat} {o p : Nat} {S : Sl} {rs : List Nat} {q : PSt} {ms : List NM} {v : Value} (h : RP w K o p S rs q ms v) (hs : ∀ nd ∈ nds ms, SmN nd) : ∃ A c, v = .slice A ms.length c ∧ Tr w A c ms := by
  obtain ⟨A, c, rfl⟩ := own_sl h.own
  obtain ⟨h1, h2, h3⟩ := own_at h.own (flatN_len ms)
  refine ⟨A, c, rfl, h1, h2, h3, fun m hm => ?_, fun m hm => ?_, fun m hm => hs _ (List.mem_map_of_mem hm)⟩
  all_goals have hk := (h.each m hm).ks
  all_goals have hz := (h.each m hm).ss
  · exact ⟨m.ks.1, m.ks.2.2, by have := hk.len; rw [List.length_map] at this; rw [← this], hk.rd, by have := hk.len; have := hk.le; rw [List.length_map] at *; omega, hk.cap⟩
  · exact ⟨m.ss.1, m.ss.2.2, by have := hz.len; rw [List.length_map] at this; rw [← this], hz.rd, by have := hz.len; have := hz.le; rw [List.length_map] at *; omega, hz.cap⟩
theorem below_of_mo {w w' : World} {K K' : Nat → Nat} {T : Nat → Prop} {B : Nat} (h : Mo K K' T w w') (hB : B ≤ w.heap.size) (hK : ∀ i, i < B → ¬ T (K i)) : Below B w w' := ⟨h.os, h.tape, h.output, h.size, fun i hi => (h.keep i (by omega) (hK i hi)).1⟩
def PRes (s : ByteArray) (w : World) (e : Ending) (w' : World) : Prop :=
  ∃ (A : Option Addr) (c : Nat) (ms : List NM) (x : Nat), e = .returned (.tuple #[.slice A ms.length c, .int .i64 (x : Int)]) ∧ parseT s.data.toList = (x, nds ms) ∧ Tr w' A c ms ∧ Below w.heap.size w w'
theorem tr_nil (w : World) : Tr w none 0 [] := ⟨Rd.nil_, Nat.le_refl _, Nat.zero_le _, (fun _ h => by cases h), (fun _ h => by cases h), fun _ h => by cases h⟩
set_option maxHeartbeats 3200000 in
set_option maxRecDepth 100000 in
theorem parse_any (HR : RunesC) (s : ByteArray) (w : World) (hs : s.size ≤ 9223372036854775807) : Calls Try.prog 10 #[.string s] w (PRes s w) := by
  have hsz : s.size = s.data.toList.length := by simp
  by_cases h128 : 128 < s.size
  · have HE : Hid (parseT s.data.toList = (4, [])) := Lib.hid (by unfold parseT; rw [if_pos (by omega)])
    have d1 : decide ((128 : Int) < (s.size : Int)) = true := decide_eq_true (by omega)
    clear hsz
    go_enter Try.func10, Try.ntmps10
    go_wp2
    go_ret2
    exact ⟨none, 0, [], 4, rfl, HE.out, tr_nil _, Below.refl _ _⟩
  have d1 : decide ((128 : Int) < (s.size : Int)) = false := decide_eq_false (by omega)
  have HC := Lib.hid (HR s w (by omega))
  have HL : Hid ((runesOf s.data.toList).length ≤ 128) := Lib.hid (by have := runesOf_len s.data.toList; omega)
  have HLE := Lib.hid (runesOf_le s.data.toList)
  have HP : Hid (parseT s.data.toList = if UtSpec.vals s.data.toList = true then parse (runesOf s.data.toList) else (8, [])) := Lib.hid (by unfold parseT; rw [if_neg (by omega)])
  clear hsz
  unfold PRes
  generalize parseT s.data.toList = R at *
  generalize runesOf s.data.toList = rs at *
  generalize UtSpec.vals s.data.toList = ok at *
  go_enter Try.func10, Try.ntmps10
  go_wp2_with fail
  refine HC.out.mono ?_
  rintro _ w1 ⟨v, rfl, hown, hb⟩
  have HO := Lib.hid hown
  have HB := Lib.hid hb
  obtain ⟨A, c, rfl⟩ := own_sl hown
  clear hown hb HC
  cases ok with
  | false =>
    have HE : Hid (R = (8, [])) := Lib.hid (by rw [HP.out]; rfl)
    go_wp2
    go_ret2
    exact ⟨none, 0, [], 8, rfl, HE.out, tr_nil _, HB.out⟩
  | true =>
    have HE : Hid (R = parse rs) := Lib.hid (by rw [HP.out]; rfl)
    clear HP
    have hl := HL.out
    have HRP := Lib.hid (rp_new HO.out)
    have HPre : Hid (Pre rs ⟨0, 0, 0, false⟩ []) := Lib.hid ⟨rfl, Nat.zero_le _, by omega, by simp only; omega, by simp only [List.length_nil]; omega, HLE.out, Nat.le_refl _⟩
    have HC := alt_any HRP.out HPre.out
    go_wp2_with fail
    refine HC.mono ?_
    rintro _ w5 ⟨x, K', q', ms, v', rfl, hr, hm, hok⟩
    rw [List.drop_zero] at hok
    have hb5 : Below w.heap.size w w5 := (HB.out.alloc HB.out.size _).trans (below_of_mo hm (by have := HB.out.size; simp; omega) (fun i hi => by have := HB.out.size; unfold K0; rw [if_neg (by omega)]; omega))
    have HB5 := Lib.hid hb5
    clear HC hb5 hm HRP HPre HB HLE
    obtain ⟨c0, c1, c2, c3, c4, c5⟩ := hr.cells
    obtain ⟨A', c', rfl⟩ := own_sl hr.own
    obtain ⟨at_, deep, most, bad⟩ := q'
    simp only at c1 c3 c4 c5
    cases ha : altS rs with
    | none =>
      obtain rfl : bad = true := by have := hok.no ha; simpa using this
      have HE2 : Hid (R = (40, [])) := Lib.hid (by rw [HE.out]; unfold parse; rw [ha])
      clear hok hr HE ha
      go_wp2
      go_ret2
      exact ⟨none, 0, [], 40, rfl, HE2.out, tr_nil _, HB5.out⟩
    | some y =>
      obtain ⟨t, k, r1⟩ := y
      have hsm := altS_sm ha
      obtain ⟨y1, y2, y3, y4, y5, y6, y7⟩ := hok.yes t k r1 ha
      simp only at y3 y4 y5 y6
      subst y3
      have hmost : most = k := by simpa using y6
      subst hmost
      rw [show nds ([] : List NM) = [] from rfl, List.nil_append] at y2
      by_cases hr1 : r1 = []
      case neg =>
        have HE2 : Hid (R = (40, [])) := Lib.hid (by
          rw [HE.out]; unfold parse; rw [ha]
          cases r1 with
          | nil => exact absurd rfl hr1
          | cons a l => rfl)
        have hne : at_ ≠ rs.length := fun e => hr1 (by rw [← y5, e, List.drop_length])
        have d2 : ((at_ : Int) != (rs.length : Int)) = true := by simp; omega
        clear hok hr HE ha y1 y2 y4 y5 y6 y7 hne hr1
        go_wp2
        go_ret2
        exact ⟨none, 0, [], 40, rfl, HE2.out, tr_nil _, HB5.out⟩
      case pos =>
        subst hr1
        obtain rfl : at_ = rs.length := by
          have := congrArg List.length y5
          rw [List.length_drop] at this
          simp at this
          omega
        have HE2 : Hid (R = if 16 < most then (9, []) else if 1000 < size t then (3, []) else (0, emit t 0)) := Lib.hid (by rw [HE.out]; unfold parse; rw [ha])
        obtain ⟨A2, c3', e2, htr⟩ := tr_of hr (fun nd h => by rw [y2] at h; exact hsm _ nd h)
        injection e2 with e2 e3 e4
        subst e2 e4
        have HTR := Lib.hid htr
        have HN := Lib.hid y2
        have hx : x = ms.length - 1 := by omega
        subst hx
        have hlen : ms.length ≤ 600 := by simp only [List.length_nil] at y7; omega
        have HRR := Lib.hid hr
        clear hok hr HE ha y1 y2 y4 y5 y6 y7 htr e3
        by_cases h16 : 16 < most
        · have HE3 : Hid (R = (9, [])) := Lib.hid (by rw [HE2.out, if_pos h16])
          have d3 : decide ((16 : Int) < (most : Int)) = true := decide_eq_true (by omega)
          clear HE2 h16
          go_wp2
          go_ret2
          exact ⟨none, 0, [], 9, rfl, HE3.out, tr_nil _, HB5.out⟩
        · have d3 : decide ((16 : Int) < (most : Int)) = false := decide_eq_false (by omega)
          have HE3 : Hid (R = if 1000 < size t then (3, []) else (0, emit t 0)) := Lib.hid (by rw [HE2.out, if_neg h16])
          clear HE2 h16
          have HSZ := size_any HTR.out HN.out
          go_wp2_with fail
          refine HSZ.mono ?_
          rintro _ w6 ⟨rfl, hb6⟩
          have HRR6 := Lib.hid (HRR.out.below hb6)
          have HTR6 := Lib.hid (HTR.out.up hb6)
          have HB6 : Hid (Below w.heap.size w w6) := Lib.hid (HB5.out.trans (hb6.mono HB5.out.size))
          obtain ⟨e0, e1, e2, e3, e4, e5⟩ := HRR6.out.cells
          clear HSZ hb6 HRR HTR HB5 c0 c1 c2 c3 c4 c5 e0 e1 e3 e4 e5
          obtain ⟨z, hz⟩ : ∃ z, min 2000 (size t) = z := ⟨_, rfl⟩
          rw [hz]
          by_cases hbig : 1000 < size t
          · have HE4 : Hid (R = (3, [])) := Lib.hid (by rw [HE3.out, if_pos hbig])
            have d4 : decide ((1000 : Int) < (z : Int)) = true := decide_eq_true (by omega)
            clear HE3 hbig hz
            go_wp2
            go_ret2
            exact ⟨none, 0, [], 3, rfl, HE4.out, tr_nil _, HB6.out⟩
          · have HE4 : Hid (R = (0, emit t 0)) := Lib.hid (by rw [HE3.out, if_neg hbig])
            have d4 : decide ((1000 : Int) < (z : Int)) = false := decide_eq_false (by omega)
            clear HE3 hbig hz
            go_wp2
            go_ret2
            exact ⟨A', c', ms, 0, rfl, by rw [HE4.out, HN.out]; rfl, HTR6.out, HB6.out⟩
end Go.Proofs.Ytdmbgjpidlllcaa.RxParse

namespace Go.Proofs.Ytdmbgjpidlllcaa.RxSame
open Go Go.RowKit Words AppN Km Mo_ RxSpec RxTree RxEq RxMem RxPeek RxNode RxClean RxPost RxAll RxSize RxSmall RxText RxParse

theorem run_set (w : World) (A : Option Addr) (l : List Int) (c B : Nat) (hr : Rd w B A (l.map I32)) : (convert 31 9 (.slice A l.length c)).run Try.prog w = .ok (.string (runesBytes l)) w := by
  have hs : Try.prog.underlying 31 = some (.slice 21) := Try.underlying31
  have he : Try.prog.underlying 21 = some (.int .i32) := Try.underlying21
  have hd : Try.prog.underlying 9 = some .string := Try.underlying9
  by_cases h0 : l = []
  · subst h0
    cases A with
    | none => exact run_convert_runes_nil w _ _ _ _ _ hs he hd
    | some a => exact run_convert_runes w _ _ _ a 0 c [] (Nat.le_refl _) hs he hd (fun j h => absurd h (Nat.not_lt_zero _))
  · obtain ⟨b, off, rfl, _, hc⟩ := hr (by simp; exact List.length_pos_iff.2 h0)
    have := run_convert_runes (P := Try.prog) w _ _ _ ⟨b, off, none⟩ l.length c l (Nat.le_refl _) hs he hd (fun j hj => by
      rw [add_off]
      exact hc j _ (by simp [hj, I32]))
    rwa [List.take_length] at this
/-- A node of a tree in memory, and what it reads as. -/
theorem node_at {w wz : World} {A : Option Addr} {c : Nat} {ms : List NM} (h : Tr w A c ms) (hb : Below w.heap.size w wz) {k : Nat} (hk : k < ms.length) {nd : Nd} (hn : (ms[k]).nd = nd) :
    ∃ g off A1 c1 A2 c2, A = some ⟨g, off, none⟩ ∧ wz.cell? ⟨g, off + k * 5, none⟩ = some (.int .i64 (nd.kind : Int)) ∧ wz.cell? ⟨g, off + k * 5 + 1, none⟩ = some (.slice A1 nd.kids.length c1) ∧ wz.cell? ⟨g, off + k * 5 + 2, none⟩ = some (.int .i64 nd.lo) ∧ wz.cell? ⟨g, off + k * 5 + 3, none⟩ = some (.int .i64 nd.hi) ∧ wz.cell? ⟨g, off + k * 5 + 4, none⟩ = some (.slice A2 nd.set.length c2) ∧
      nd.kids.length ≤ c1 ∧ c1 ≤ maxLen ∧ nd.set.length ≤ c2 ∧ c2 ≤ maxLen ∧ Rd wz wz.heap.size A1 (nd.kids.map IV) ∧ ∀ m, (convert 31 9 (.slice A2 nd.set.length c2)).run Try.prog (wz.drewN m) = .ok (.string (runesBytes nd.set)) (wz.drewN m) := by
  obtain ⟨g, off, rfl, hg, hc⟩ := h.rd (by rw [flatN_len]; omega)
  obtain ⟨A1, c1, e1, r1, h1, h2⟩ := h.each _ (List.getElem_mem hk)
  obtain ⟨A2, c2, e2, r2, h3, h4⟩ := h.sets _ (List.getElem_mem hk)
  have hrd := flatN_at hk
  rw [e1, e2, hn] at hrd
  rw [hn] at r1 r2 h1 h3
  have key : ∀ j u, (flatN ms)[j]? = some u → wz.cell? ⟨g, off + j, none⟩ = some u := fun j u hu => (hb.cell (p := ⟨g, off + j, none⟩) hg).trans (hc j u hu)
  exact ⟨g, off, A1, c1, A2, c2, rfl, key _ _ hrd.1, key _ _ hrd.2.1, key _ _ hrd.2.2.1, key _ _ hrd.2.2.2.1, key _ _ hrd.2.2.2.2, h1, h2, h3, h4, rd_up r1 hb, fun m => run_set _ _ _ _ (wz.drewN m).heap.size (rd_up r2 (below_drewN hb m))⟩
def SRel (w : World) (n : Nat) (vi : Value) (wr : World) : Prop := ∃ i : Nat, i ≤ n ∧ vi = .int .i64 (i : Int) ∧ Hid (Below w.heap.size w wr)
set_option maxHeartbeats 6400000 in
set_option maxRecDepth 100000 in
theorem same_any {w : World} {A B : Option Addr} {c d : Nat} {ms ns : List NM} (ha : Tr w A c ms) (hb : Tr w B d ns) (he : nds ms = nds ns) :
    Calls Try.prog 11 #[.slice A ms.length c, .slice B ns.length d] w fun e w' => e = .returned (.bool true) ∧ Below w.heap.size w w' := by
  have hn : ns.length = ms.length := by have := congrArg List.length he; rw [nds_len, nds_len] at this; omega
  have HND : Hid (∀ k (h : k < ms.length) (h2 : k < ns.length), (ms[k]).nd = (ns[k]).nd) := Lib.hid fun k h h2 => by
    have := congrArg (fun l => l[k]?) he
    simp only [nds, List.getElem?_map, List.getElem?_eq_getElem h, List.getElem?_eq_getElem h2, Option.map_some, Option.some.injEq] at this
    exact this
  have hl : ms.length ≤ 9223372036854775807 := by have h1 := ha.le; have h2 := ha.cap; unfold maxLen at h2; omega
  have HA := Lib.hid ha
  have HB := Lib.hid hb
  have hn' := Lib.hid hn
  rw [hn]
  clear ha hb he hn
  go_enter Try.func11, Try.ntmps11
  go_wp2
  go_loopw [5] (fun vi wr => SRel w ms.length vi wr) (fun vi _ => ms.length - (intOf vi).toNat)
  case atStart => exact ⟨0, Nat.zero_le _, rfl, Lib.hid (Below.refl _ _)⟩
  case round =>
    obtain ⟨i, hi, rfl, HBr⟩ := hrel
    by_cases hlt : i < ms.length
    case neg =>
      have d1 : decide ((i : Int) < (ms.length : Int)) = false := decide_eq_false (by omega)
      go_wp2
      go_ret
      exact ⟨rfl, HBr.out⟩
    case pos =>
      have d1 : decide ((i : Int) < (ms.length : Int)) = true := decide_eq_true (by omega)
      have i0 : (0 : Int) ≤ (i : Int) := by omega
      have i1 : (i : Int) < (ms.length : Int) := by omega
      have h2 : i < ns.length := by have := hn'.out; omega
      have hnd := HND.out i hlt h2
      obtain ⟨g1, o1, A1, c1, A2, c2, rfl, x0, x1, x2, x3, x4, x5, x6, x7, x8, x9, x10⟩ := node_at HA.out HBr.out hlt hnd
      obtain ⟨g2, o2, B1, e1, B2, e2, rfl, y0, y1, y2, y3, y4, y5, y6, y7, y8, y9, y10⟩ := node_at HB.out HBr.out h2 rfl
      have X9 := Lib.hid x9
      have Y9 := Lib.hid y9
      clear x9 y9 HND hnd
      generalize (ns[i]).nd = nd at *
      clear h2
      obtain ⟨kind, kids, lo, hh, set⟩ := nd
      simp only at x0 x1 x2 x3 x4 x5 x7 x10 y0 y1 y2 y3 y4 y5 y7 y10 X9 Y9
      unfold maxLen at x6 x8 y6 y8
      go_wp2
      go_quiet (fail)
      obtain ⟨wx, hwx⟩ : ∃ wx, wr.drewN nq = wx := ⟨_, rfl⟩
      have X1 : Hid (wx.cell? ⟨g1, o1 + i * 5 + 1, none⟩ = some (.slice A1 kids.length c1)) := Lib.hid (hwx ▸ x1)
      have Y1 : Hid (wx.cell? ⟨g2, o2 + i * 5 + 1, none⟩ = some (.slice B1 kids.length e1)) := Lib.hid (hwx ▸ y1)
      have HBx : Hid (Below w.heap.size w wx) := Lib.hid (hwx ▸ below_drewN HBr.out nq)
      have X9x : Hid (Rd wx wx.heap.size A1 (kids.map IV)) := Lib.hid (hwx ▸ X9.out)
      have Y9x : Hid (Rd wx wx.heap.size B1 (kids.map IV)) := Lib.hid (hwx ▸ Y9.out)
      rw [hwx]
      clear hwx X9 Y9 x0 x1 x2 x3 x4 x7 x8 x10 y0 y1 y2 y3 y4 y7 y8 y10 d1 HBr
      go_wp2
      go_loopw [6] (fun vk wk => SRel wx kids.length vk wk) (fun vk _ => kids.length - (intOf vk).toNat)
      case atStart => exact ⟨0, Nat.zero_le _, rfl, Lib.hid (Below.refl _ _)⟩
      case round =>
        obtain ⟨k, hk, rfl, HBk⟩ := hrel
        have z1 := (HBk.out.cell (p := ⟨g1, o1 + i * 5 + 1, none⟩) (World.block_lt_of_cell? wx ⟨g1, o1 + i * 5 + 1, none⟩ X1.out)).trans X1.out
        have z2 := (HBk.out.cell (p := ⟨g2, o2 + i * 5 + 1, none⟩) (World.block_lt_of_cell? wx ⟨g2, o2 + i * 5 + 1, none⟩ Y1.out)).trans Y1.out
        by_cases hkl : k < kids.length
        case neg =>
          have d1 : decide ((k : Int) < (kids.length : Int)) = false := decide_eq_false (by omega)
          have HBe : Hid (Below w.heap.size w _) := Lib.hid (HBx.out.trans (HBk.out.mono HBx.out.size))
          go_wp2
          exact ⟨⟨i + 1, hlt, by go_num, HBe⟩, by simp [intOf]; omega⟩
        case pos =>
          have d1 : decide ((k : Int) < (kids.length : Int)) = true := decide_eq_true (by omega)
          have k0 : (0 : Int) ≤ (k : Int) := by omega
          have k1 : (k : Int) < (kids.length : Int) := by omega
          obtain ⟨h1, p1, rfl, hh1, hc1⟩ := X9x.out (by simp; omega)
          obtain ⟨h2, p2, rfl, hh2, hc2⟩ := Y9x.out (by simp; omega)
          have q1 := (HBk.out.cell (p := ⟨h1, p1 + k, none⟩) hh1).trans (hc1 k (.int .i64 (kids[k] : Int)) (by simp [hkl, IV]))
          have q2 := (HBk.out.cell (p := ⟨h2, p2 + k, none⟩) hh2).trans (hc2 k (.int .i64 (kids[k] : Int)) (by simp [hkl, IV]))
          clear hc1 hc2
          generalize kids[k] = y at *
          go_wp2
          go_quiet (fail)
          go_wp2
          exact ⟨⟨k + 1, hkl, by go_num, Lib.hid (below_drewN HBk.out _)⟩, by simp [intOf]; omega⟩
end Go.Proofs.Ytdmbgjpidlllcaa.RxSame

namespace Go.Proofs.Ytdmbgjpidlllcaa.RxLaw
open Go Go.RowKit Words AppN Km Mo_ RxSpec RxTree RxEq RxMem RxPeek RxNode RxClean RxPost RxAll RxSize RxSmall RxText RxParse RxSame RxAwake

theorem bt {w w1 w2 : World} (h : Below w.heap.size w w1) (h2 : Below w1.heap.size w1 w2) : Below w.heap.size w w2 := h.trans (h2.mono h.size)
def RexpC : Prop := ∀ (s : ByteArray) (w : World), s.size ≤ 9223372036854775807 → Calls Try.prog 9 #[.string s] w (PRes s w)
theorem text1 : parseT [97, 98, 42] = (0, [⟨2, [], 0, 0, [97, 97]⟩, ⟨2, [], 0, 0, [98, 98]⟩, ⟨5, [1], 0, -1, []⟩, ⟨3, [0, 2], 0, 0, []⟩]) := by
  unfold parseT
  rw [if_neg (by decide), if_pos (by decide), show runesOf [97, 98, 42] = [97, 98, 42] by decide, awake1]
theorem text2 : parseT [97, 42, 42] = (40, []) := by
  unfold parseT
  rw [if_neg (by decide), if_pos (by decide), show runesOf [97, 42, 42] = [97, 42, 42] by decide, awake2]
theorem text3 : parseT [40, 40, 40, 97, 123, 56, 125, 41, 123, 56, 125, 41, 123, 56, 125, 41, 123, 56, 125] = (3, []) := by
  unfold parseT
  rw [if_neg (by decide), if_pos (by decide), show runesOf [40, 40, 40, 97, 123, 56, 125, 41, 123, 56, 125, 41, 123, 56, 125, 41, 123, 56, 125] = [40, 40, 40, 97, 123, 56, 125, 41, 123, 56, 125, 41, 123, 56, 125, 41, 123, 56, 125] by decide, awake3]
theorem pres_at {s : ByteArray} {w w' : World} {e : Ending} {x : Nat} {l : List Nd} (h : PRes s w e w') (hp : parseT s.data.toList = (x, l)) : ∃ A c ms, e = .returned (.tuple #[.slice A ms.length c, .int .i64 (x : Int)]) ∧ nds ms = l ∧ Tr w' A c ms ∧ Below w.heap.size w w' := by
  obtain ⟨A, c, ms, x', e', h1, h2, h3⟩ := h
  rw [hp] at h1
  injection h1 with h1 h4
  subst h1
  exact ⟨A, c, ms, e', h4.symm, h2, h3⟩
theorem nd_at {ms : List NM} {l : List Nd} (h : nds ms = l) {k : Nat} {nd : Nd} (hk : l[k]? = some nd) : ∃ h : k < ms.length, (ms[k]).nd = nd := by
  subst h
  unfold nds at hk
  rw [List.getElem?_map] at hk
  by_cases hlt : k < ms.length
  · rw [List.getElem?_eq_getElem hlt] at hk
    exact ⟨hlt, by simpa using hk⟩
  · rw [List.getElem?_eq_none (by omega)] at hk
    cases hk
set_option maxHeartbeats 3200000 in
set_option maxRecDepth 100000 in
theorem awake_any (P : RexpC) (w : World) : Calls Try.prog 8 #[] w fun e w' => e = .returned (.bool true) ∧ Below w.heap.size w w' := by
  go_enter Try.func8, Try.ntmps8
  go_wp2_with fail
  refine (P _ _ (by decide)).mono ?_
  intro e1 w1 h1
  obtain ⟨A, c, ms, rfl, hn, ht, hb⟩ := pres_at h1 text1
  obtain ⟨k3, n3⟩ := nd_at hn (k := 3) (nd := ⟨3, [0, 2], 0, 0, []⟩) rfl
  obtain ⟨k2, n2⟩ := nd_at hn (k := 2) (nd := ⟨5, [1], 0, -1, []⟩) rfl
  have hl : ms.length = 4 := by rw [← nds_len, hn]; rfl
  have HB := Lib.hid hb
  have T3 := Lib.hid (fun wz (hz : Below w1.heap.size w1 wz) => node_at ht hz k3 n3)
  have T2 := Lib.hid (fun wz (hz : Below w1.heap.size w1 wz) => node_at ht hz k2 n2)
  rw [hl]
  clear hl k3 n3 k2 n2 ht hn hb h1
  go_wp2_with fail
  refine (P _ _ (by decide)).mono ?_
  intro e2 w2 h2
  obtain ⟨A2, c2, ms2, rfl, _, _, hb2⟩ := pres_at h2 text2
  have HB2 := Lib.hid hb2
  clear h2 hb2
  go_wp2_with fail
  refine (P _ _ (by decide)).mono ?_
  intro e3 w3 h3
  obtain ⟨A3, c3, ms3, rfl, _, _, hb3⟩ := pres_at h3 text3
  have HB3 := Lib.hid hb3
  have HZ : Hid (Below w1.heap.size w1 w3) := Lib.hid (HB2.out.trans (hb3.mono HB2.out.size))
  have HW : Hid (Below w.heap.size w w3) := Lib.hid (HB.out.trans (HZ.out.mono HB.out.size))
  clear h3 hb3 HB HB2 HB3
  obtain ⟨g1, o1, A1, c1, A4, c4, rfl, x0, x1, x2, x3, x4, _⟩ := T3.out w3 HZ.out
  obtain ⟨g2, o2, A5, c5, A6, c6, e, y0, y1, y2, y3, y4, _⟩ := T2.out w3 HZ.out
  injection e with e
  injection e with e1 e2
  subst e1 e2
  try simp only at x0
  try simp only at y3
  clear T3 T2 x1 x2 x3 x4 y0 y1 y2 y4
  go_wp2
  go_ret
  exact ⟨rfl, HW.out⟩
set_option maxHeartbeats 3200000 in
set_option maxRecDepth 100000 in
theorem parses_any (P : RexpC) (HR : RunesC) (w : World) (s : ByteArray) (hs : s.size ≤ 9223372036854775807) : Calls Try.prog 3 #[.string s] w fun e w' => e = .returned (.bool true) ∧ Below w.heap.size w w' := by
  have HAW := awake_any P
  go_enter Try.func3, Try.ntmps3
  go_wp2_with fail
  refine (HAW _).mono ?_
  rintro _ w1 ⟨rfl, hb1⟩
  have HB1 := Lib.hid hb1
  clear HAW hb1
  go_wp2_with fail
  refine (P s _ hs).mono ?_
  rintro _ w2 ⟨A, c, ms, x, rfl, hp, ht, hb2⟩
  have HT := Lib.hid ht
  have HP := Lib.hid hp
  have HB2 := Lib.hid (bt HB1.out hb2)
  clear ht hp hb2 HB1
  go_wp2_with fail
  refine (parse_any HR s _ hs).mono ?_
  rintro _ w3 ⟨B, d, ns, y, rfl, hq, hu, hb3⟩
  have HTB : Hid (Tr w3 A c ms) := Lib.hid (HT.out.up hb3)
  have HU := Lib.hid hu
  have hpq := HP.out.symm.trans hq
  injection hpq with hxy hnd
  subst hxy
  have HSM := same_any HTB.out HU.out hnd
  have HB3 := Lib.hid (bt HB2.out hb3)
  clear hq hu hb3 hnd HP HT HB2
  go_wp2_with fail
  refine HSM.mono ?_
  rintro _ w4 ⟨rfl, hb4⟩
  have HB4 := Lib.hid (bt HB3.out hb4)
  clear HSM hb4 HB3
  go_wp2
  go_ret
  exact ⟨rfl, HB4.out⟩
end Go.Proofs.Ytdmbgjpidlllcaa.RxLaw

