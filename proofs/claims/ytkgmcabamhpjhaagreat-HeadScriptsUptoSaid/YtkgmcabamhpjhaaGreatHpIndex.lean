/- The program's index: the records of a batch laid behind those that have the same terms. Conditions: the head and the batch lie in memory; each record has at most 2000 terms and is below 2^21; at most 65536 records on each side. -/
import Derived.Test.YtkgmcabamhpjhaaGreatHpAlls
import Derived.Test.YtkgmcabamhpjhaaGreatHpTerms
import Derived.BigQuiet
namespace Go.Proofs.YtkgmcabamhpjhaaGreat.HpIndex
open Go Go.RowKit Words AppN Less LbSpec LbText LbMem LbRef LbCmp UtOwn LpOrd RcAll RcMem RcRef RcOpen HdMem HdKm HdSpec HpSpec HpBox HpMem HpAll HpTerms HdTerms
open RcSpec hiding none

theorem step_lookup_run {P : Program} {ops : Array Oper} {o : Oper} {a : Act} {w : World} {K : Act → World → Prop} {Q : Exit → Act → World → Prop} {E : Prop}
    (hg : o.guard = .none) (m x : Operand) (t : TypeId) (hop : o.op = Op.lookup t m x false) (v : Value) (hrun : (Instr.lookup t (a.eval m) (a.eval x) false).run P w = .ok v w) (hK : K (a.put o.dst v) w) :
    if Region.wanted o (yielded ops a.tmps) = true then Oper.wp P o a w K Q else E := by
  have hw : Region.wanted o (yielded ops a.tmps) = true := by simp [Region.wanted, hg]
  rw [if_pos hw]
  unfold Oper.wp
  simp [execOp, hop, hrun, Result.andThen]
  exact hK
theorem step_mapUpdate_run {P : Program} {ops : Array Oper} {o : Oper} {a : Act} {w : World} {K : Act → World → Prop} {Q : Exit → Act → World → Prop} {E : Prop}
    (hg : o.guard = .none) (m x v : Operand) (t : TypeId) (hop : o.op = Op.mapUpdate t m x v) (w' : World) (hrun : (Instr.mapUpdate t (a.eval m) (a.eval x) (a.eval v)).run P w = .ok () w') (hK : K (a.put o.dst undef) w') :
    if Region.wanted o (yielded ops a.tmps) = true then Oper.wp P o a w K Q else E := by
  have hw : Region.wanted o (yielded ops a.tmps) = true := by simp [Region.wanted, hg]
  rw [if_pos hw]
  unfold Oper.wp
  simp [execOp, hop, hrun, Result.andThen]
  exact hK
theorem info_ptr : (Tryz.prog.info? 64).map (fun i => (i.zero, i.size, i.bytes)) = some (some (.pointer none), 1, 8) := by kernel_rfl
theorem meq_some (M : Nat) (w : World) : (binOp .eql 58 (.map (some M)) (.map none)).run Tryz.prog w = .ok (.bool false) w := by kernel_rfl
theorem meq_nil (w : World) : (binOp .eql 58 (.map none) (.map none)).run Tryz.prog w = .ok (.bool true) w := by kernel_rfl

/-- The terms' rows when the first k records, and the first j terms T of the record x, are in. -/
def Vk (V : List UInt8 → List Pin) (l : List Pin) (k : Nat) : List UInt8 → List Pin := fun t => V t ++ having (l.take k) t
def Vj (V : List UInt8 → List Pin) (T : List (List UInt8)) (x : Pin) (j : Nat) : List UInt8 → List Pin := fun t => V t ++ if t ∈ T.take j then [x] else []
theorem vj_zero (V : List UInt8 → List Pin) (T : List (List UInt8)) (x : Pin) : Vj V T x 0 = V := by funext t; simp [Vj]
theorem vj_succ {V : List UInt8 → List Pin} {T : List (List UInt8)} {x : Pin} {j : Nat} (hj : j < T.length) (hd : T.Nodup) : (fun t' => if t' = T[j] then Vj V T x j T[j] ++ [x] else Vj V T x j t') = Vj V T x (j + 1) := by
  funext t'
  have hn : T[j] ∉ T.take j := by
    intro h
    obtain ⟨i, hi, e⟩ := List.mem_take_iff_getElem.1 h
    exact List.pairwise_iff_getElem.1 hd i j (by omega) hj (by omega) e
  by_cases e : t' = T[j]
  · subst e
    rw [if_pos rfl]
    unfold Vj
    rw [if_neg hn, if_pos (by rw [List.take_succ_eq_append_getElem hj]; exact List.mem_append.2 (.inr (List.mem_singleton.2 rfl)))]
    simp
  · rw [if_neg e]
    unfold Vj
    have h2 : (t' ∈ T.take (j + 1)) ↔ (t' ∈ T.take j) := by
      rw [List.take_succ_eq_append_getElem hj, List.mem_append, List.mem_singleton]
      exact or_iff_left e
    by_cases h3 : t' ∈ T.take j
    · rw [if_pos h3, if_pos (h2.2 h3)]
    · rw [if_neg h3, if_neg (fun h => h3 (h2.1 h))]
theorem vk_succ {V : List UInt8 → List Pin} {l : List Pin} {k : Nat} (hk : k < l.length) : Vj (Vk V l k) (terms (rcp l[k])) l[k] (terms (rcp l[k])).length = Vk V l (k + 1) := by
  funext t
  unfold Vj Vk
  rw [List.take_length, List.take_succ_eq_append_getElem hk, having_append, List.append_assoc]
  congr 1
  unfold having
  by_cases h : t ∈ terms (rcp l[k]) <;> simp [h]
theorem having_len (l : List Pin) (t : List UInt8) : (having l t).length ≤ l.length := List.length_filter_le _ _
theorem rises_nodup {T : List (List UInt8)} (h : Rises T) : T.Nodup := by
  refine List.Pairwise.imp (fun {a b} hab e => ?_) h
  rw [e, less_irrefl] at hab
  cases hab

theorem word_len {s x : List UInt8} (h : x ∈ TxSpec.words s) : x.length ≤ 128 := by
  obtain ⟨c, rfl, _, _, hs⟩ := TxSpec.words_are s x h
  exact TxAll.wof_len hs
theorem terms_short {r : Rec} (hz : sizeR r ≤ 2097152) : ∀ t ∈ terms r, t.length ≤ 4194304 := by
  intro t ht
  unfold terms at ht
  rw [mem_once] at ht
  unfold termsL at ht
  rcases List.mem_append.1 ht with h | h
  · have := word_len h
    omega
  · obtain ⟨x, hx, rfl⟩ := List.mem_map.1 h
    obtain ⟨i, hi, rfl⟩ := List.mem_iff_getElem.1 hx
    have h1 := total_at hi
    unfold sizeR at hz
    simp only [labT, List.length_append, List.length_cons]
    omega
/-- Between two rounds. -/
structure IxSt (w : World) (J : Nat → Nat) (p : Nat) (last : Option Nat) (V : List UInt8 → List Pin) (ss : List Pin) (sv : Value) (M n : Nat) (l : List Pin) (wr : World) : Prop where
  hm : ∃ J' R n', HM wr J' p last V ss sv (some M) R n' ∧ n' ≤ n ∧ (∀ x ∈ l, PinAt wr J' x) ∧ Mo J J' (fun k => k ≠ 0) w wr
theorem IxSt.call {w wr w1 : World} {J : Nat → Nat} {p M n : Nat} {last : Option Nat} {V : List UInt8 → List Pin} {ss l : List Pin} {sv : Value} (h : IxSt w J p last V ss sv M n l wr) (hb : Below wr.heap.size wr w1) : IxSt w J p last V ss sv M n l w1 := by
  obtain ⟨J', R, n', h1, h2, h3, h4⟩ := h.hm
  exact ⟨J', R, n', h1.below hb, h2, fun x hx => (h3 x hx).keep fun i hi => hb.block i (h1.in_ i (by omega)), h4.call hb⟩
def IRel (w : World) (J : Nat → Nat) (p : Nat) (last : Option Nat) (V : List UInt8 → List Pin) (ss : List Pin) (sv : Value) (M n : Nat) (l : List Pin) (vi : Value) (wr : World) : Prop :=
  ∃ k : Nat, k ≤ l.length ∧ vi = .int .i64 (k : Int) ∧ Hid (IxSt w J p last (Vk V l k) ss sv M (n + 2000 * k) l wr)
def JRel (w : World) (J : Nat → Nat) (p : Nat) (last : Option Nat) (V : List UInt8 → List Pin) (ss : List Pin) (sv : Value) (M n : Nat) (l : List Pin) (T : List (List UInt8)) (x : Pin) (vi : Value) (wr : World) : Prop :=
  ∃ j : Nat, j ≤ T.length ∧ vi = .int .i64 (j : Int) ∧ Hid (IxSt w J p last (Vj V T x j) ss sv M (n + j) l wr)
/-- What index leaves. -/
def XPost (w : World) (J : Nat → Nat) (p : Nat) (last : Option Nat) (V : List UInt8 → List Pin) (ss : List Pin) (sv : Value) (n : Nat) (l : List Pin) (e : Ending) (w' : World) : Prop :=
  e = .returned (.tuple #[]) ∧ ∃ M, IxSt w J p last V ss sv M n l w'

set_option maxHeartbeats 6400000 in
set_option maxRecDepth 100000 in
/-- (*Head).index. -/
theorem index_any (w : World) (J : Nat → Nat) (p n : Nat) (last : Option Nat) (V : List UInt8 → List Pin) (ss : List Pin) (sv : Value) (mv : Option Nat) (R : List UInt8 → Value) (h : HM w J p last V ss sv mv R n)
    (l : List Pin) (A : Option Addr) (c : Nat) (hl : ∀ x ∈ l, PinAt w J x) (hrow : Rd w w.heap.size A (ptrs l)) (_hc : l.length ≤ c) (_hcm : c ≤ maxLen) (hA : ∀ b off, A = some ⟨b, off, none⟩ → 0 < l.length → J b = 0)
    (hT : ∀ x ∈ l, (terms (rcp x)).length ≤ 2000 ∧ sizeR (rcp x) ≤ 2097152) (hV : ∀ t, (V t).length ≤ 65536) (hn : n ≤ 1099511627776) (hll : l.length ≤ 65536) :
    Calls Tryz.prog 30 #[(.pointer (some ⟨p, 0, none⟩)), .slice A l.length c] w (XPost w J p last (Vk V l l.length) ss sv (n + 2000 * l.length) l) := by
  obtain ⟨i1, gi, gz0, gz1, gz2⟩ := info_parts info_ptr
  have hv0 : Vk V l 0 = V := by funext t; simp [Vk, having]
  have HRD := Lib.hid hrow
  have HA := Lib.hid hA
  have HT := Lib.hid hT
  have HV := Lib.hid hV
  unfold maxLen at _hcm
  have hlt0 := h.lt
  cases mv
  case' none =>
    obtain ⟨M, hM⟩ : ∃ M, M = w.heap.size := ⟨_, rfl⟩
    obtain ⟨W1, hW1⟩ : ∃ W1, W1 = (w.setCell ⟨p, 1, none⟩ (.map (some M))).alloc (.map #[] 0) := ⟨_, rfl⟩
    have hsz1 : W1.heap.size = w.heap.size + 1 := by rw [hW1]; simp
    have hbx : W1.heap[p]? = some (.cells #[sv, .map (some w.heap.size), .int .u64 ((last.getD 0 : Nat) : Int), .bool last.isSome] 60 (0, 0)) := by
      rw [hW1, Below.heap_alloc _ _ _ (by simpa using hlt0), heap_setCell_same w p 1 _ _ (.map (some M)) h.box, hM]
      simp
    have hmp : W1.heap[w.heap.size]? = some (.map #[] 0) := by
      rw [hW1]
      have := (MapKept.heap_alloc (w.setCell ⟨p, 1, none⟩ (.map (some M))) (.map #[] 0)).1
      simpa using this
    have hoth : ∀ i, i < w.heap.size → i ≠ p → W1.heap[i]? = w.heap[i]? := fun i hi hne => by
      rw [hW1, Below.heap_alloc _ _ _ (by simpa using hi), heap_setCell_other _ _ _ _ hne]
    have HST : Hid (IxSt w J p last (Vk V l 0) ss sv M (n + 2000 * 0) l W1) := Lib.hid (by
      have h2 := h.newMap hbx hmp hoth
      rw [hM, hv0]
      refine ⟨_, R, 0, h2, by omega, fun x hx => ?_, ⟨by rw [hW1]; rfl, by rw [hW1]; rfl, by rw [hW1]; rfl, by omega, fun i hi hJ => ?_⟩⟩
      · have hx1 := hl x hx
        refine (hx1.keep (fun i hi => hoth i (h.in_ i (by omega)) (fun e => ?_))).renum (fun i hi => ?_)
        · have := h.jp
          rw [e] at hi
          omega
        · have := h.in_ i (by omega)
          show (if i = w.heap.size then 2 else J i) = 4
          rw [if_neg (by omega)]
          exact hi
      · have h0 : J i = 0 := Decidable.not_not.1 hJ
        refine ⟨hoth i hi (fun e => ?_), if_neg (by omega)⟩
        have := h.jp
        rw [← e] at this
        omega)
    have k1 : w.cell? ⟨p, 1, none⟩ = some (.map none) := HpBox.cell_of_heap h.box rfl
    have k1f : ∀ j, w.frozen? ⟨p, j, none⟩ = false := fun j => HpBox.frozen_of_heap h.box
    have HM9 := Lib.hid hM
    have hme := meq_nil
    have hmm := @run_makeMap Tryz.prog
    clear h hl hrow hA hT hV hbx hmp hoth hM hsz1
    go_enter Tryz.func30, Tryz.ntmps30
    go_wp2
    rw [← HM9.out, ← hW1]
    clear k1 k1f hmm hW1
  case' some M =>
    have HST : Hid (IxSt w J p last (Vk V l 0) ss sv M (n + 2000 * 0) l w) := Lib.hid ⟨J, R, n, by rw [hv0]; exact h, by omega, hl, Mo.refl _ _ _⟩
    have k1 : w.cell? ⟨p, 1, none⟩ = some (.map (some M)) := HpBox.cell_of_heap h.box rfl
    have hme := meq_some M
    clear h hl hrow hA hT hV
    go_enter Tryz.func30, Tryz.ntmps30
    go_wp2
    clear k1
  all_goals
    go_loopw [19] (fun vi wr => IRel w J p last V ss sv M n l vi wr) (fun vi _ => l.length - (intOf vi).toNat)
    case atStart => exact ⟨0, Nat.zero_le _, rfl, HST⟩
    case round =>
      obtain ⟨k, hk, rfl, HK⟩ := hrel
      clear HST hme
      by_cases hlt : k < l.length
      · obtain ⟨gs, os, rfl, hgs, hcell⟩ := HRD.out (by rw [ptrs_len]; omega)
        obtain ⟨J1, R1, n1, hm1, hn1, hp1, hmo1⟩ := HK.out.hm
        have hJg := HA.out gs os rfl (by omega)
        have hrd1 := (rd_mo hmo1 HRD.out (fun b off e _ => by rw [HA.out b off e (by omega)]; exact fun e => e rfl)).1
        obtain ⟨gs', os', e, _, hcell1⟩ := hrd1 (by rw [ptrs_len]; omega)
        injection e with e
        injection e with e1 e2
        subst e1 e2
        have q := hcell1 k _ (ptrs_at hlt)
        have hpin := hp1 l[k] (List.getElem_mem hlt)
        obtain ⟨hT1, hT2⟩ := HT.out l[k] (List.getElem_mem hlt)
        have hok := pin_okm hpin
        have hbox := hpin.box
        have HVS := Lib.hid (vk_succ (V := V) hlt)
        have HVL : Hid (∀ t, (Vk V l k t).length ≤ 131072) := Lib.hid (fun t => by
          have h1 := HV.out t
          have h2 := having_len (l.take k) t
          rw [List.length_take] at h2
          unfold Vk
          rw [List.length_append]
          omega)
        have HIN := Lib.hid (List.getElem_mem hlt)
        obtain ⟨x, hx⟩ : ∃ x, l[k] = x := ⟨_, rfl⟩
        rw [hx] at q hbox hok hT1 hT2 HVS HIN
        obtain ⟨b0, b1, b2, b3⟩ := hbox.cells
        have HC := Lib.hid (terms_any wr x.2 hok hT2)
        unfold HdLaw.OPost at HC
        have HND : Hid ((terms x.2.1).Nodup) := Lib.hid (rises_nodup (rises_once _))
        have HTE : Hid (∀ t ∈ terms x.2.1, t.length ≤ 4194304) := Lib.hid (terms_short hT2)
        obtain ⟨T, hT'⟩ : ∃ T, terms x.2.1 = T := ⟨_, rfl⟩
        rw [show terms (rcp x) = T from hT'] at HVS hT1
        rw [hT'] at HC HND HTE
        have hi1 : (0 : Int) ≤ (k : Int) := by omega
        have hi2 : (k : Int) < (l.length : Int) := by omega
        clear hcell hcell1 hpin hx hrd1 hmo1 hp1 hm1 hok hbox hJg hT'
        obtain ⟨g, m⟩ := x
        obtain ⟨⟨tm, s, ls, ln⟩, Am, lm, cm⟩ := m
        unfold rcp slV S8 at *
        unfold aggR slV S8 at HC
        unfold ptr at q
        simp only at b0 b1 b2 b3 HC
        go_wp2_with fail
        refine HC.out.mono ?_
        rintro e w1 ⟨vT, rfl, hoT, hb1⟩
        obtain ⟨J1, R1, n1, hm1, hn1, hp1, hmo1⟩ := HK.out.hm
        obtain ⟨AT, cT, rfl, hcT, hcTm, _⟩ := own_slice hoT
        have hJT : ∀ q, (Value.slice AT T.length cT).ownBlock = some q → J1 q = 0 := fun q hq => Decidable.byContradiction fun h0 => by
          have h1 := (hoT.lt q hq).1
          have h2 := hm1.in_ q h0
          omega
        have HM1 := Lib.hid (hm1.below hb1)
        have HP1 : Hid (∀ y ∈ l, PinAt w1 J1 y) := Lib.hid fun y hy => (hp1 y hy).keep fun i hi => hb1.block i (hm1.in_ i (by omega))
        have HMO1 := Lib.hid (hmo1.call hb1)
        have HOT := Lib.hid hoT
        have HJT := Lib.hid hJT
        have HJ0 : Hid (IxSt w1 J1 p last (Vj (Vk V l k) T (g, ⟨tm, s, ls, ln⟩, Am, lm, cm) 0) ss sv M (n + 2000 * k + 0) l w1) := Lib.hid ⟨J1, R1, n1, by rw [vj_zero]; exact HM1.out, by omega, HP1.out, Mo.refl _ _ _⟩
        have hsz1 := hb1.size
        unfold maxLen at hcTm
        clear hoT hb1 hm1 hp1 hmo1 hJT HC HK HM1 HP1 b0 b1 b2 b3 q
        go_wp2
        go_loopw [28] (fun vj wr2 => JRel w1 J1 p last (Vk V l k) ss sv M (n + 2000 * k) l T (g, ⟨tm, s, ls, ln⟩, Am, lm, cm) vj wr2) (fun vj _ => T.length - (intOf vj).toNat)
        case atStart => exact ⟨0, Nat.zero_le _, rfl, HJ0⟩
        case round =>
          obtain ⟨j, hj, rfl, HJ⟩ := hrel
          clear HJ0
          by_cases hjt : j < T.length
          · obtain ⟨J2, R2, n2, hm2, hn2, hp2, hmo2⟩ := HJ.out.hm
            obtain ⟨hoT2, _⟩ := own_mo HOT.out HJT.out hmo2 (fun e => e rfl)
            obtain ⟨bT, oT, rfl, hbT, hcellT⟩ := (Rd.of_own hoT2) (by simpa using (by omega : 0 < T.length))
            have qT := hcellT j (.string ⟨T[j].toArray⟩) (by rw [List.getElem?_map, List.getElem?_eq_getElem hjt]; rfl)
            have c1 : wr.cell? ⟨p, 1, none⟩ = some (.map (some M)) := HpBox.cell_of_heap hm2.box rfl
            have htl := HTE.out T[j] (List.getElem_mem hjt)
            have HVJ := Lib.hid (vj_succ (V := Vk V l k) (x := (g, ⟨tm, s, ls, ln⟩, Am, lm, cm)) hjt HND.out)
            have hVl : (Vj (Vk V l k) T (g, ⟨tm, s, ls, ln⟩, Am, lm, cm) j T[j]).length ≤ 131073 := by
              have := HVL.out T[j]
              unfold Vj
              split <;> simp <;> omega
            have hxp := hp2 _ HIN.out
            generalize T[j] = t at *
            have hmax : t.length ≤ maxLen := by unfold maxLen; omega
            have hb9 : Below wr.heap.size wr (wr.drew.alloc (.cells #[ptr g] 64)) := (show Below wr.heap.size wr wr.drew from ⟨rfl, rfl, rfl, Nat.le_refl _, fun _ _ => rfl⟩).alloc (Nat.le_refl _) _
            have hm3 := hm2.below hb9
            have c1b : (wr.alloc (.cells #[.pointer (some ⟨g, 0, none⟩)] 64)).cell? ⟨p, 1, none⟩ = some (.map (some M)) := HpBox.cell_of_heap (w := wr.drew.alloc (.cells #[ptr g] 64)) hm3.box rfl
            obtain ⟨At, ct, hRt, hct1, hct2, _⟩ := own_row (hm2.row t) (by rw [ptrs_len]; omega)
            have hlk1 : (Instr.lookup 58 (.map (some M)) (.string ⟨t.toArray⟩) false).run Tryz.prog wr.drew = .ok (R2 t) wr.drew := hm2.map.look (w' := wr.drew) (own_rowV (hm2.row t)) hmax (fun M' _ => rfl)
            have hlk2 : (Instr.lookup 58 (.map (some M)) (.string ⟨t.toArray⟩) false).run Tryz.prog (wr.drew.alloc (.cells #[ptr g] 64)) = .ok (R2 t) (wr.drew.alloc (.cells #[ptr g] 64)) := hm3.map.look (own_rowV (hm3.row t)) hmax (fun M' _ => rfl)
            obtain ⟨v', w', hrun, hown', hg', hv'⟩ := run_append_rd (P := Tryz.prog) (wr.drew.alloc (.cells #[ptr g] 64)) 0 1 57 57 64 i1 (.pointer none) 8 Tryz.underlying57 gi gz0 gz1 gz2 rfl (by omega) _ _ _ (hm3.row t)
              (wr.heap.size + 1) (some ⟨wr.heap.size, 0, none⟩) 1 1 [ptr g] rfl (Rd.made wr.drew #[ptr g] 64) (by intro u hu; simp at hu; subst hu; rfl) (by unfold maxLen; omega) (by omega) (by omega)
            have c1c : w'.cell? ⟨p, 1, none⟩ = some (.map (some M)) := HpBox.cell_of_heap ((hg'.block p hm3.lt (fun e => by
              have h1 := hm2.jr t p e.symm
              have h2 := hm2.jp
              have h3 := tn_ge t
              omega)).trans hm3.box) rfl
            obtain ⟨w2, hmu, hs2, J3, R3, hm4, hmo4, hp4⟩ := hm3.put hmax (by unfold maxLen; omega) (hxp.keep fun i hi => hb9.block i (hm2.in_ i (by omega))) hg' hown' (hv'.imp id fun h => ⟨_, h, by simp⟩)
            have HS3 : Hid (IxSt w1 J1 p last (Vj (Vk V l k) T (g, ⟨tm, s, ls, ln⟩, Am, lm, cm) (j + 1)) ss sv M (n + 2000 * k + (j + 1)) l w2) := Lib.hid ⟨J3, R3, n2 + 1, HVJ.out ▸ hm4, by omega, fun y hy => hp4 y ((hp2 y hy).keep fun i hi => hb9.block i (hm2.in_ i (by omega))), (hmo2.call hb9).trans hmo4⟩
            rw [hRt] at hlk1 hlk2 hrun
            unfold S8 at hmu
            have hj1 : (0 : Int) ≤ (j : Int) := by omega
            have hj2 : (j : Int) < (T.length : Int) := by omega
            unfold ptr at hlk2 hrun
            have hlk3 : (Instr.lookup 58 (.map (some M)) (.string ⟨t.toArray⟩) false).run Tryz.prog (wr.alloc (.cells #[.pointer (some ⟨g, 0, none⟩)] 64)).drew = .ok (.slice At (Vj (Vk V l k) T (g, ⟨tm, s, ls, ln⟩, Am, lm, cm) j t).length ct) (wr.alloc (.cells #[.pointer (some ⟨g, 0, none⟩)] 64)).drew := hlk2
            have hrun3 : (Builtin.append_ #[57, 57] 57 #[.slice At (Vj (Vk V l k) T (g, ⟨tm, s, ls, ln⟩, Am, lm, cm) j t).length ct, .slice (some ⟨wr.heap.size, 0, none⟩) 1 1]).run Tryz.prog (wr.alloc (.cells #[.pointer (some ⟨g, 0, none⟩)] 64)).drew = .ok v' w' := hrun
            generalize (Vj (Vk V l k) T (g, ⟨tm, s, ls, ln⟩, Am, lm, cm) j t).length = nV at *
            clear hm2 hm3 hm4 hp2 hp4 hmo2 hmo4 hxp hb9 hoT2 hcellT HVJ HJ hg' hown' hv' hRt hVl hmax
            go_wp2
            go_region_law (first
              | (refine step_append_run rfl (.tmp 42) (.tmp 44) 57 rfl v' w' hrun ?_)
              | (refine step_lookup_run rfl (.tmp 40) (.tmp 41) 58 rfl _ hlk1 ?_)
              | (refine step_append_run rfl (.tmp 42) (.tmp 44) 57 rfl v' w' hrun3 ?_)
              | (refine step_lookup_run rfl (.tmp 40) (.tmp 41) 58 rfl _ hlk2 ?_)
              | (refine step_lookup_run rfl (.tmp 40) (.tmp 41) 58 rfl _ hlk3 ?_)
              | (refine step_mapUpdate_run rfl (.tmp 35) (.tmp 36) (.tmp 45) 58 rfl w2 hmu ?_))
            all_goals
              clear hrun hlk1 hlk2 hmu hlk3 hrun3
              go_wp2
              exact ⟨⟨j + 1, by omega, by go_num, HS3⟩, by simp [intOf]; omega⟩
          · obtain rfl : j = T.length := by omega
            have HE : Hid (IxSt w J p last (Vk V l (k + 1)) ss sv M (n + 2000 * (k + 1)) l wr) := Lib.hid (by
              obtain ⟨J2, R2, n2, hm2, hn2, hp2, hmo2⟩ := HJ.out.hm
              exact ⟨J2, R2, n2, HVS.out ▸ hm2, by omega, hp2, HMO1.out.trans hmo2⟩)
            clear HJ HMO1 HOT HJT
            go_wp2
            exact ⟨⟨k + 1, by omega, by go_num, HE⟩, by simp [intOf]; omega⟩
      · obtain rfl : k = l.length := by omega
        go_wp2
        go_end0
        exact ⟨rfl, M, HK.out⟩
end Go.Proofs.YtkgmcabamhpjhaaGreat.HpIndex
