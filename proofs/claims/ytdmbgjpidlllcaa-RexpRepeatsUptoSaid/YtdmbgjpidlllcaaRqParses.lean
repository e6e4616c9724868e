/- The contract of the program's Parse. Conditions: a text is shorter than 2^63. · The landed program's Parse and the document's runes, as the laws of layer 18 take them. Conditions: those of RexpN. -/
import Derived.Test.YtdmbgjpidlllcaaRqTrees
import Derived.Test.YtdmbgjpidlllcaaRqInits
import Derived.Test.YtdmbgjpidlllcaaUts
import Derived.Test.YtdmbgjpidlllcaaRxWants
import Derived.Test.YtdmbgjpidlllcaaUtRuness
namespace Go.Proofs.Ytdmbgjpidlllcaa.RqParse
open Go Go.RowKit Words AppN Km Mo_ RxSpec RxTree RxEq RxMem RxClean RxNode RxPost RxAll RxSize RxSmall RxText RxParse RxNewC RqSize RqMem RqNeed RqSt RqRow RqAll RqTree RqInit RqCatch

/-- The two named results, in the first two blocks behind w0. -/
structure BX (w0 w : World) (t u : Value) : Prop where
  a : w.heap[w0.heap.size]? = some (.cells #[t] 23 (0, 0))
  b : w.heap[w0.heap.size + 1]? = some (.cells #[u] 24 (0, 0))
  below : Below w0.heap.size w0 w
section
variable {w0 w w' : World} {t u : Value}
theorem BX.at (h : BX w0 w t u) : w.cell? ⟨w0.heap.size, 0, none⟩ = some t ∧ w.cell? ⟨w0.heap.size + 1, 0, none⟩ = some u ∧ w.frozen? ⟨w0.heap.size, 0, none⟩ = false ∧ w.frozen? ⟨w0.heap.size + 1, 0, none⟩ = false :=
  ⟨RxMem.cell_of_row h.a rfl, RxMem.cell_of_row h.b rfl, frozen_of_row _ _ _ _ _ h.a, frozen_of_row _ _ _ _ _ h.b⟩
theorem BX.lt (h : BX w0 w t u) : w0.heap.size + 1 < w.heap.size := (Array.getElem?_eq_some_iff.1 h.b).1
theorem BX.up (h : BX w0 w t u) (hb : Below w.heap.size w w') : BX w0 w' t u := by
  have := h.lt
  exact ⟨(hb.block _ (by omega)).trans h.a, (hb.block _ (by omega)).trans h.b, h.below.trans (hb.mono (by omega))⟩
theorem BX.mo {K K' : Nat → Nat} (h : BX w0 w t u) (hm : Mo K K' (fun x => x = 0) w w') (hK : ∀ i, i ≤ w0.heap.size + 1 → K i ≠ 0) : BX w0 w' t u := by
  have := h.lt
  exact ⟨(hm.keep _ (by omega) (hK _ (by omega))).1.trans h.a, (hm.keep _ (by omega) (hK _ (by omega))).1.trans h.b, h.below.trans (below_of_mo hm (by omega) fun i hi => hK i (by omega))⟩
theorem BX.set (h : BX w0 w t u) (t' u' : Value) : BX w0 ((w.setCell ⟨w0.heap.size, 0, none⟩ t').setCell ⟨w0.heap.size + 1, 0, none⟩ u') t' u' := by
  refine ⟨?_, ?_, (h.below.setCell (Nat.le_refl _) _).setCell (Nat.le_succ _) _⟩
  · rw [heap_setCell_other _ _ _ _ (by simp)]
    exact heap_setCell_same _ _ _ _ _ _ h.a
  · refine heap_setCell_same _ _ _ _ _ _ ((heap_setCell_other _ _ _ _ (by simp)).trans h.b)
end
theorem bx_new (w : World) (t u : Value) : BX w ((w.alloc (.cells #[t] 23)).alloc (.cells #[u] 24)) t u := by
  have h1 : (w.alloc (.cells #[t] 23)).heap.size = w.heap.size + 1 := Array.size_push _
  refine ⟨?_, ?_, ((Below.refl _ w).alloc (Nat.le_refl _) _).alloc (by rw [h1]; omega) _⟩
  · exact (((Below.refl _ (w.alloc (.cells #[t] 23))).alloc (Nat.le_refl _) _).block _ (by rw [h1]; omega)).trans (heap_alloc_new w _)
  · have h2 := heap_alloc_new (w.alloc (.cells #[t] 23)) (.cells #[u] 24)
    rwa [h1] at h2
theorem newtr_nil (B : Nat) (w : World) : NewTr B w none [] := ⟨fun _ _ e => (by cases e), fun _ h => (by cases h), fun _ h => by cases h⟩

theorem run_out (T : Array Value) (w0 w : World) (t u : Value) (h2 : T[2]? = some (.pointer (some ⟨w0.heap.size, 0, none⟩))) (h3 : T[3]? = some (.pointer (some ⟨w0.heap.size + 1, 0, none⟩))) (h : BX w0 w t u) :
    (results Try.f9 T).run Try.prog w = .ok (.tuple #[t, u]) w := by
  obtain ⟨c1, c2, _, _⟩ := h.at
  simp [results, Try.results9, go_sem, h2, h3, c1, c2]
def PE (w0 : World) : Value := .func (.func 16) #[] #[.pointer (some ⟨w0.heap.size, 0, none⟩), .pointer (some ⟨w0.heap.size + 1, 0, none⟩)]
def DF (w0 : World) : List Deferred := [{ target := .fn (.func 16) #[.pointer (some ⟨w0.heap.size, 0, none⟩), .pointer (some ⟨w0.heap.size + 1, 0, none⟩)], args := #[] }]
section
variable {T : Array Value} {w0 w : World} {t u : Value} {R : Ending → World → Prop}
theorem leave_now (h2 : T[2]? = some (.pointer (some ⟨w0.heap.size, 0, none⟩))) (h3 : T[3]? = some (.pointer (some ⟨w0.heap.size + 1, 0, none⟩))) (h : BX w0 w t u) (hR : R (.returned (.tuple #[t, u])) w) :
    Leaves Try.prog Try.f9 T R [] .returning w := ⟨_, run_out T w0 w t u h2 h3 h, hR⟩
theorem leave_idle (h2 : T[2]? = some (.pointer (some ⟨w0.heap.size, 0, none⟩))) (h3 : T[3]? = some (.pointer (some ⟨w0.heap.size + 1, 0, none⟩))) (h : BX w0 w t u) (hR : ∀ w', BX w0 w' t u → Below w.heap.size w w' → R (.returned (.tuple #[t, u])) w') :
    Leaves Try.prog Try.f9 T R (DF w0) .returning w := by
  unfold DF
  refine leaves_cons (f := 16) (args := #[.pointer (some ⟨w0.heap.size, 0, none⟩), .pointer (some ⟨w0.heap.size + 1, 0, none⟩)]) (by simp) (by simp [go_sem]) ?_
  refine (catch_idle w0.heap.size (w0.heap.size + 1) w).mono ?_
  rintro e u' w'' ⟨rfl, rfl, hb⟩
  exact leave_now h2 h3 (h.up hb) (hR _ (h.up hb) hb)
theorem leave_panic (h2 : T[2]? = some (.pointer (some ⟨w0.heap.size, 0, none⟩))) (h3 : T[3]? = some (.pointer (some ⟨w0.heap.size + 1, 0, none⟩))) (h : BX w0 w t u) (hR : ∀ w', BX w0 w' (.slice none 0 0) (.int .i64 40) → R (.returned (.tuple #[.slice none 0 0, .int .i64 40])) w') :
    Leaves Try.prog Try.f9 T R (DF w0) (.panicking FCH) w := by
  unfold DF
  obtain ⟨c1, c2, c3, c4⟩ := h.at
  have hlt := h.lt
  refine leaves_cons (f := 16) (args := #[.pointer (some ⟨w0.heap.size, 0, none⟩), .pointer (some ⟨w0.heap.size + 1, 0, none⟩)]) (by simp) (by simp [go_sem]) ?_
  refine (catch_panicking w0.heap.size (w0.heap.size + 1) t u w c1 c3 c2 c4 (by omega) (by omega) (by omega)).mono ?_
  rintro e u' w'' ⟨rfl, rfl, hb⟩
  have h5 : BX w0 w'' (.slice none 0 0) (.int .i64 40) := (h.set _ _).up (by rw [World.size_setCell, World.size_setCell]; exact hb)
  exact leave_now h2 h3 h5 (hR _ h5)
end

theorem below_dr (w : World) : Below w.heap.size w w.drew := let h := Below.refl w.heap.size w; ⟨h.os, h.tape, h.output, h.size, h.block⟩
/-- What the reader's nodes are, once it is done. -/
theorem trq_of {B : Nat} {w : World} {K : Nat → Nat} {o p : Nat} {s : Sl} {rs : List Nat} {op dp : Nat} {ms : List NM} {v : Value} (h : RQ B w K o p s rs op dp ms v) (hs : ∀ nd ∈ nds ms, SmN nd) : ∃ A c, v = .slice A ms.length c ∧ Tr w A c ms ∧ NewTr B w A ms := by
  obtain ⟨A, c, rfl⟩ := own_sl h.own
  obtain ⟨h1, h2, h3⟩ := RxParse.own_at h.own (flatN_len ms)
  have hlen : ∀ m ∈ ms, m.ks.2.1 = m.nd.kids.length ∧ m.ss.2.1 = m.nd.set.length := fun m hm => by
    have a1 := (h.each m hm).ks.sd.len
    have a2 := (h.each m hm).ss.sd.len
    rw [List.length_map] at a1 a2
    exact ⟨by omega, by omega⟩
  have hA : ∀ b off, A = some ⟨b, off, none⟩ → K b = o := fun b off e => (h.vk b (by rw [e]; rfl)).1
  have hne : ∀ (S : Sl) (vs : List Value), Sq B w K o S vs → ∀ b off, S.1 = some ⟨b, off, none⟩ → 0 < vs.length → B ≤ b ∧ (∀ a, A = some a → a.block ≠ b) ∧ ∀ j, j < vs.length → w.frozen? ⟨b, off + j, none⟩ = false := fun S vs hq b off e hl => by
    obtain ⟨q1, q2⟩ := hq.new b off e hl
    refine ⟨q1, fun a ha hab => ?_, q2⟩
    have q3 := hq.sd.kind b off e hl
    have q4 : K a.block = o := (h.vk a.block (by rw [ha]; rfl)).1
    rw [hab] at q4
    exact q3.1 q4
  refine ⟨A, c, rfl, ⟨h1, h2, h3, fun m hm => ?_, fun m hm => ?_, fun m hm => hs _ (List.mem_map_of_mem hm)⟩, fun b off e hl => ?_, fun m hm b off e hl => ?_, fun m hm b off e hl => ?_⟩
  · have hk := (h.each m hm).ks.sd
    exact ⟨m.ks.1, m.ks.2.2, by rw [← (hlen m hm).1], hk.rd, by have := hk.le; have := (hlen m hm).1; omega, hk.cap⟩
  · have hk := (h.each m hm).ss.sd
    exact ⟨m.ss.1, m.ss.2.2, by rw [← (hlen m hm).2], hk.rd, by have := hk.le; have := (hlen m hm).2; omega, hk.cap⟩
  · exact (h.own.lt b (by rw [e]; rfl)).1
  · have := hne _ _ (h.each m hm).ks b off e (by rw [List.length_map]; exact hl)
    rwa [List.length_map] at this
  · have := hne _ _ (h.each m hm).ss b off e (by rw [List.length_map]; exact hl)
    rwa [List.length_map] at this
theorem newtr_of {B : Nat} {w w' : World} {A : Option Addr} {c : Nat} {ms : List NM} (h : NewTr B w A ms) (ht : Tr w A c ms) (hk : ∀ b, B ≤ b → b < w.heap.size → w'.heap[b]? = w.heap[b]?) : NewTr B w' A ms := by
  refine ⟨h.row, fun m hm b off e hl => ?_, fun m hm b off e hl => ?_⟩
  · obtain ⟨q1, q2, q3⟩ := h.kids m hm b off e hl
    obtain ⟨A2, c2, e2, hr, _⟩ := ht.each m hm
    obtain ⟨b3, o3, e3, hb3, _⟩ := hr (by rw [List.length_map]; exact hl)
    rw [e2] at e
    simp only at e
    rw [e3] at e
    injection e with e
    injection e with e _
    exact ⟨q1, q2, fun j hj => by rw [frozen_up (hk b q1 (by omega))]; exact q3 j hj⟩
  · obtain ⟨q1, q2, q3⟩ := h.sets m hm b off e hl
    obtain ⟨A2, c2, e2, hr, _⟩ := ht.sets m hm
    obtain ⟨b3, o3, e3, hb3, _⟩ := hr (by rw [List.length_map]; exact hl)
    rw [e2] at e
    simp only at e
    rw [e3] at e
    injection e with e
    injection e with e _
    exact ⟨q1, q2, fun j hj => by rw [frozen_up (hk b q1 (by omega))]; exact q3 j hj⟩
theorem newtr_mono {B B' : Nat} {w : World} {A : Option Addr} {ms : List NM} (h : NewTr B w A ms) (hb : B' ≤ B) : NewTr B' w A ms :=
  ⟨fun b off e hl => by have := h.row b off e hl; omega, fun m hm b off e hl => by obtain ⟨q1, q2⟩ := h.kids m hm b off e hl; exact ⟨by omega, q2⟩, fun m hm b off e hl => by obtain ⟨q1, q2⟩ := h.sets m hm b off e hl; exact ⟨by omega, q2⟩⟩
/-- The tree stays where the named results are set. -/
theorem tr_set {w0 w : World} {B : Nat} {A : Option Addr} {c : Nat} {ms : List NM} (t u : Value) (hB : w0.heap.size + 1 < B) (h : Tr w A c ms) (hN : NewTr B w A ms) : Tr ((w.setCell ⟨w0.heap.size, 0, none⟩ t).setCell ⟨w0.heap.size + 1, 0, none⟩ u) A c ms ∧ NewTr B ((w.setCell ⟨w0.heap.size, 0, none⟩ t).setCell ⟨w0.heap.size + 1, 0, none⟩ u) A ms := by
  have h1 : Tr (w.setCell ⟨w0.heap.size, 0, none⟩ t) A c ms := tr_other h hN (by show w0.heap.size < B; omega)
  have n1 : NewTr B (w.setCell ⟨w0.heap.size, 0, none⟩ t) A ms := newtr_of hN h fun b hb _ => heap_setCell_other _ _ _ _ (by show b ≠ w0.heap.size; omega)
  exact ⟨tr_other h1 n1 (by show w0.heap.size + 1 < B; omega), newtr_of n1 h1 fun b hb _ => heap_setCell_other _ _ _ _ (by show b ≠ w0.heap.size + 1; omega)⟩

set_option maxHeartbeats 6400000 in
set_option maxRecDepth 100000 in
theorem parse_any : RexpN := by
  intro s w hs
  have hmf : ∀ (fn : Fn) (first cap : Array Value) (w : World), (Instr.makeFunc fn first cap).run Try.prog w = .ok (.func fn first cap) w := fun _ _ _ _ => rfl
  have hsz : s.size = s.data.toList.length := by simp
  by_cases h128 : 128 < s.size
  · have HE : Hid (parseT s.data.toList = (4, [])) := Lib.hid (by unfold parseT; rw [if_pos (by omega)])
    have d1 : decide ((128 : Int) < (s.size : Int)) = true := decide_eq_true (by omega)
    clear hsz
    go_enter_defers Try.func9, Try.ntmps9
    go_wp2
    simp only [bodyPostD]
    refine leave_now (w0 := w) (by rfl) (by rfl) (bx_new w (.slice none 0 0) (.int .i64 4)) ?_
    exact ⟨none, 0, [], 4, rfl, HE.out, tr_nil _, (bx_new w (.slice none 0 0) (.int .i64 4)).below, newtr_nil _ _⟩
  have d1 : decide ((128 : Int) < (s.size : Int)) = false := decide_eq_false (by omega)
  have HV := Lib.hid fun w => UtRange.valid_any s w (by unfold maxLen; omega)
  have HP : Hid (parseT s.data.toList = if UtSpec.vals s.data.toList = true then parse (runesOf s.data.toList) else (8, [])) := Lib.hid (by unfold parseT; rw [if_neg (by omega)])
  have HR := Lib.hid (fun w => run_runes s (by omega) w)
  have HL : Hid ((runesOf s.data.toList).length ≤ 128) := Lib.hid (by have := runesOf_len s.data.toList; omega)
  have HSC : Hid (∀ r ∈ runesOf s.data.toList, UtSpec.sc r) := Lib.hid (fun r h => by
    obtain ⟨x, hx, rfl⟩ := List.mem_map.1 h
    exact UtSpec.runes_sc _ x hx)
  clear hsz
  generalize parseT s.data.toList = R at *
  generalize runesOf s.data.toList = rs at *
  generalize UtSpec.vals s.data.toList = ok at *
  go_enter_defers Try.func9, Try.ntmps9
  go_wp2_with fail
  refine (HV.out _).mono ?_
  rintro _ w1 ⟨rfl, hb1⟩
  have hx1 : BX w w1 (.slice none 0 0) (.int .i64 0) := (bx_new w (.slice none 0 0) (.int .i64 0)).up hb1
  have HX1 := Lib.hid hx1
  obtain ⟨c1, c2, c3, c4⟩ := hx1.at
  clear hb1 hx1
  cases ok with
  | false =>
    have HE : Hid (R = (8, [])) := Lib.hid (by rw [HP.out]; rfl)
    clear HR
    go_wp2
    simp only [bodyPostD]
    refine leave_now (w0 := w) (by rfl) (by rfl) (HX1.out.set (.slice none 0 0) (.int .i64 8)) ?_
    exact ⟨none, 0, [], 8, rfl, HE.out, tr_nil _, (HX1.out.set (.slice none 0 0) (.int .i64 8)).below, newtr_nil _ _⟩
  | true =>
    have HE : Hid (R = parse rs) := Lib.hid (by rw [HP.out]; rfl)
    obtain ⟨c, hc1, hc2, hrun⟩ := HR.out w1
    clear HR HP
    go_wp2_with fail
    have hz : (w1.alloc (.cells ((rs.map R32).toArray ++ Array.replicate (c - rs.length) (.int .i32 0)) 21)).heap.size = w1.heap.size + 1 := Array.size_push _
    have hr0 := rq_new (B := w1.heap.size + 1) (c := c) (rs := rs) (w := w1.alloc (.cells ((rs.map R32).toArray ++ Array.replicate (c - rs.length) (.int .i32 0)) 21)) (by omega) (heap_alloc_new w1 _) hc1 hc2
    have hx2 := ((HX1.out.up ((Below.refl _ w1).alloc (Nat.le_refl _) (.cells ((rs.map R32).toArray ++ Array.replicate (c - rs.length) (.int .i32 0)) 21))).up ((Below.refl _ _).alloc (Nat.le_refl _) (.cells (qcells (some ⟨w1.heap.size, 0, none⟩, rs.length, c) (.slice none 0 0) 0 0) 45)))
    rw [hz] at hr0
    unfold qcells slV at hr0 hx2
    simp only at hr0 hx2
    obtain ⟨W2, hW2⟩ : ∃ W2, ((w1.alloc (.cells ((rs.map R32).toArray ++ Array.replicate (c - rs.length) (.int .i32 0)) 21)).alloc (.cells #[.slice (some ⟨w1.heap.size, 0, none⟩) rs.length c, .slice none 0 0, .int .i64 0, .int .i64 0] 45)).drew = W2 := ⟨_, rfl⟩
    have hK : ∀ i, i ≤ w.heap.size + 1 → K0 (w1.alloc (.cells ((rs.map R32).toArray ++ Array.replicate (c - rs.length) (.int .i32 0)) 21)) i ≠ 0 := fun i hi => by
      have := HX1.out.lt
      unfold K0
      rw [if_neg (by rw [hz]; omega)]
      omega
    generalize K0 (w1.alloc (.cells ((rs.map R32).toArray ++ Array.replicate (c - rs.length) (.int .i32 0)) 21)) = K at *
    have HR2 : Hid (RQ (w1.heap.size + 1) W2 K 0 (w1.heap.size + 1) (some ⟨w1.heap.size, 0, none⟩, rs.length, c) rs 0 0 [] (.slice none 0 0)) := Lib.hid (by rw [← hW2]; exact hr0.below (below_dr _))
    have HX2 : Hid (BX w W2 (.slice none 0 0) (.int .i64 0)) := Lib.hid (by rw [← hW2]; exact hx2.up (below_dr _))
    have HPB : Hid (w.heap.size + 1 < w1.heap.size + 1) := Lib.hid (by have := HX1.out.lt; omega)
    have HK := Lib.hid hK
    have HC := Lib.hid (alt_all 128 (w1.heap.size + 1) W2 K 0 (w1.heap.size + 1) _ rs 0 0 [] _ HR2.out ⟨by have := HL.out; omega, by have := HL.out; omega, by have := HL.out; simp only [List.length_nil]; omega, HSC.out, Nat.le_refl _⟩ HL.out)
    rw [hW2]
    clear hr0 hx2 hK hz hrun HX1 c1 c2 c3 c4 HV hW2
    generalize w1.heap.size + 1 = q at *
    refine HC.out.mono ?_
    intro e w3 hans
    clear HC HR2
    cases ha : altS rs with
    | none =>
      simp only [TP, ha] at hans
      obtain ⟨rfl, K', hm⟩ := hans
      have HE2 : Hid (R = (40, [])) := Lib.hid (by rw [HE.out]; unfold parse; rw [ha])
      have HX3 := Lib.hid (HX2.out.mo hm HK.out)
      clear hm HE ha
      go_wp2
      simp only [bodyPostD]
      refine leave_panic (w0 := w) (by rfl) (by rfl) HX3.out fun w' h => ?_
      exact ⟨none, 0, [], 40, rfl, HE2.out, tr_nil _, h.below, newtr_nil _ _⟩
    | some y =>
      obtain ⟨t, k, r1⟩ := y
      simp only [TP, ha] at hans
      obtain ⟨K', s', ms, v', rfl, hr, hm, hn, hfew, -⟩ := hans
      have HX3 := Lib.hid (HX2.out.mo hm HK.out)
      have hsm := altS_sm ha
      rw [show max 0 (0 + k) = k by omega] at hr
      obtain ⟨b0, b1, b2, b3⟩ := hr.cells
      have hlen : s'.2.1 = r1.length := by simpa using hr.runes.len
      have HRR := Lib.hid hr
      obtain ⟨sA, sn, sc⟩ := s'
      simp only at hlen
      subst hlen
      unfold slV at b0
      clear hm hr
      by_cases hr1 : r1 = []
      case neg =>
        have HE2 : Hid (R = (40, [])) := Lib.hid (by
          rw [HE.out]; unfold parse; rw [ha]
          cases r1 with
          | nil => exact absurd rfl hr1
          | cons a l => rfl)
        have h1 : 0 < r1.length := List.length_pos_iff.2 hr1
        have d2 : ((r1.length : Int) == 0) = false := by simp; omega
        clear HE ha hn hfew hsm h1 hr1
        go_wp2_with fail
        refine (need_no _).mono ?_
        rintro _ _ ⟨rfl, rfl⟩
        go_wp2
        simp only [bodyPostD]
        refine leave_panic (w0 := w) (by rfl) (by rfl) HX3.out fun w' h => ?_
        exact ⟨none, 0, [], 40, rfl, HE2.out, tr_nil _, h.below, newtr_nil _ _⟩
      case pos =>
        subst hr1
        rw [show nds ([] : List NM) = [] from rfl, List.nil_append, List.length_nil] at hn
        simp only [List.length_nil] at hfew b0
        have HE2 : Hid (R = if 16 < k then (9, []) else if 1000 < size t then (3, []) else (0, emit t 0)) := Lib.hid (by rw [HE.out]; unfold parse; rw [ha])
        obtain ⟨A, c', e2, htr, hnt⟩ := trq_of HRR.out (fun nd h => by rw [hn] at h; exact hsm _ nd h)
        subst e2
        have HTR := Lib.hid htr
        have HNT := Lib.hid hnt
        have HN := Lib.hid hn
        have HLM : Hid (ms.length ≤ 600) := Lib.hid (by have := HL.out; omega)
        have HSM : Hid (k ≤ 16 → size t ≤ 2305843009213693952) := Lib.hid fun h => size_small ha HL.out h
        obtain ⟨c1, c2, c3, c4⟩ := HX3.out.at
        clear HE ha hn hfew hsm htr hnt
        go_wp2_with fail
        refine (need_ok _).mono ?_
        rintro _ _ ⟨rfl, rfl⟩
        by_cases h16 : 16 < k
        · have HE3 : Hid (R = (9, [])) := Lib.hid (by rw [HE2.out, if_pos h16])
          have d3 : decide ((16 : Int) < (k : Int)) = true := decide_eq_true (by omega)
          clear HE2 h16
          go_wp2
          simp only [bodyPostD]
          refine leave_idle (w0 := w) (by rfl) (by rfl) (HX3.out.set (.slice none 0 0) (.int .i64 9)) fun w' h _ => ?_
          exact ⟨none, 0, [], 9, rfl, HE3.out, tr_nil _, h.below, newtr_nil _ _⟩
        · have d3 : decide ((16 : Int) < (k : Int)) = false := decide_eq_false (by omega)
          have HE3 : Hid (R = if 1000 < size t then (3, []) else (0, emit t 0)) := Lib.hid (by rw [HE2.out, if_neg h16])
          have HSZ := Lib.hid (RqTree.size_any _ t ms A c' HTR.out HN.out (HSM.out (by omega)) (by have := HLM.out; omega))
          clear HE2 h16
          go_wp2_with fail
          refine HSZ.out.mono ?_
          rintro _ w6 ⟨rfl, hb6⟩
          have HR6 := Lib.hid (HRR.out.below hb6)
          have HX6 := Lib.hid (HX3.out.up hb6)
          have HTR6 := Lib.hid (HTR.out.up hb6)
          have HNT6 := Lib.hid (newtr_of HNT.out HTR.out fun b _ hb => hb6.block b hb)
          obtain ⟨e0, e1, e2, e3⟩ := HR6.out.cells
          clear HSZ hb6 HRR HTR HNT HX3 b0 b1 b2 b3 c1 c2 c3 c4 e0 e2 e3
          obtain ⟨c1, c2, c3, c4⟩ := HX6.out.at
          by_cases hbig : 1000 < size t
          · have HE4 : Hid (R = (3, [])) := Lib.hid (by rw [HE3.out, if_pos hbig])
            have d4 : decide ((1000 : Int) < (size t : Int)) = true := decide_eq_true (by omega)
            clear HE3 hbig
            go_wp2
            simp only [bodyPostD]
            refine leave_idle (w0 := w) (by rfl) (by rfl) (HX6.out.set (.slice none 0 0) (.int .i64 3)) fun w' h _ => ?_
            exact ⟨none, 0, [], 3, rfl, HE4.out, tr_nil _, h.below, newtr_nil _ _⟩
          · have HE4 : Hid (R = (0, emit t 0)) := Lib.hid (by rw [HE3.out, if_neg hbig])
            have d4 : decide ((1000 : Int) < (size t : Int)) = false := decide_eq_false (by omega)
            clear HE3 hbig
            go_wp2
            simp only [bodyPostD]
            refine leave_idle (w0 := w) (by rfl) (by rfl) (HX6.out.set (.slice A ms.length c') (.int .i64 0)) fun w' h hb => ?_
            obtain ⟨t1, t2⟩ := tr_set (w0 := w) (.slice A ms.length c') (.int .i64 0) HPB.out HTR6.out HNT6.out
            exact ⟨A, c', ms, 0, rfl, by rw [HE4.out, HN.out], t1.up hb, h.below, newtr_mono (newtr_of t2 t1 fun b _ h2 => hb.block b h2) (by have := HPB.out; omega)⟩
end Go.Proofs.Ytdmbgjpidlllcaa.RqParse

namespace Go.Proofs.Ytdmbgjpidlllcaa.RxProg
open RxParse RxNewC
theorem rexps : RexpN := RqParse.parse_any
theorem runes : RunesC := RxRunes.runesC
end Go.Proofs.Ytdmbgjpidlllcaa.RxProg

