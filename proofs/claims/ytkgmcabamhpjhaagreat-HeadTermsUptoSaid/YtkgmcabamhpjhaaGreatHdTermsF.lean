/- The contracts of the document's Terms and Has of a record. Conditions: the record lies in memory; its line and its labels are below 2^32. · The contracts of the document's Has and Find. Conditions: the records lie in memory, each below 2^32 bytes, at most 2^40 of them; a term that Go's strings can be. -/
import Derived.Test.YtkgmcabamhpjhaaGreatHdMems
import Derived.Test.YtkgmcabamhpjhaaGreatTxAll
import Derived.Test.YtkgmcabamhpjhaaGreatTxOnce
import Derived.Deep.RegionLaw
import Derived.BigRegion
import Derived.Laws.Concat
import Derived.BigQuiet
namespace Go.Proofs.YtkgmcabamhpjhaaGreat.HdTerms
open Go Go.RowKit Words App UtSpec UtOwn Less LbSpec LbMem RcSpec RcAll RcMem LbOpen RcOpen HdSpec HdLaw TxSpec TxAll TxOnce

/-- An append whose run is known, in a region that draws its order. -/
theorem step_append_run {P : Program} {ops : Array Oper} {o : Oper} {a : Act} {w : World} {K : Act → World → Prop} {Q : Exit → Act → World → Prop} {E : Prop}
    (hg : o.guard = .none) (s x : Operand) (t : TypeId) (hop : o.op = Op.call { callee := Callee.builtin Builtin.append, args := #[s, x], argTypes := #[t, t] })
    (v' : Value) (w' : World) (hrun : (Builtin.append_ #[t, t] o.type #[a.eval s, a.eval x]).run P w = .ok v' w') (hK : K (a.put o.dst v') w') :
    if Region.wanted o (yielded ops a.tmps) = true then Oper.wp P o a w K Q else E := by
  have hw : Region.wanted o (yielded ops a.tmps) = true := by simp [Region.wanted, hg]
  rw [if_pos hw]
  unfold Oper.wp
  simp [execOp, hop, resolve, invoke, builtin, hrun, Result.andThen]
  exact hK
theorem cell_of_heap {w : World} {g j : Nat} {cs : Array Value} {t : TypeId} {u : Value} (h : w.heap[g]? = some (.cells cs t (0, 0))) (hj : cs[j]? = some u) : w.cell? ⟨g, j, .none⟩ = some u := by
  unfold World.cell?
  rw [h]
  simpa using hj
theorem runsA_len (R : List Nat) : ∀ (cur : List Nat) (st : Bool), (runsA cur st R).length ≤ R.length + 1 := by
  induction R with
  | nil => intro cur st; rw [runsA]; split <;> simp
  | cons r R ih =>
    intro cur st
    rw [runsA]
    split
    · have := ih (cur ++ [r]) st; simp only [List.length_cons]; omega
    · have := ih [] true
      split <;> simp only [List.length_cons] <;> omega
theorem words_len (s : List UInt8) : (words s).length ≤ s.length + 1 := by
  unfold words
  rw [List.length_map, ← runsA_fst (rs s) [] false, List.length_map]
  have h1 := runsA_len (rs s) [] false
  have h2 := runes_len s
  have h3 : (rs s).length = (runes s).length := by unfold rs; rw [List.length_map]
  omega
theorem drew_to {w w' : World} {B : Nat} (h : Below B w w') : Below B w w'.drew := ⟨h.os, h.tape, h.output, h.size, h.block⟩
theorem total_at {l : List Lab} {k : Nat} (h : k < l.length) : l[k].1.length + l[k].2.length ≤ total l := by
  induction l generalizing k with
  | nil => simp at h
  | cons x l ih =>
    cases k with
    | zero => simp only [List.getElem_cons_zero, total, List.map_cons, List.sum_cons]; omega
    | succ k =>
      have := ih (k := k) (by simpa using h)
      simp only [List.getElem_cons_succ, total, List.map_cons, List.sum_cons] at *
      omega
/-- The box of a record; the list so far; nothing else has changed. -/
def TRel (w : World) (r : Rec) (A : Option Addr) (n c : Nat) (vl vi : Value) (wr : World) : Prop :=
  ∃ k : Nat, k ≤ r.labels.length ∧ vi = .int .i64 (k : Int) ∧ Hid (wr.ownsRow (w.heap.size + 1) 9 1 vl (words r.line ++ (r.labels.take k).map labT).length ((words r.line ++ (r.labels.take k).map labT).map S8)) ∧ Hid (Below w.heap.size w wr) ∧
    Hid (wr.heap[w.heap.size]? = some (.cells #[.int .i64 r.time, .int .u64 (r.seq : Int), .slice A n c, .string ⟨r.line.toArray⟩] 47 (0, 0)))

set_option maxHeartbeats 3200000 in
set_option maxRecDepth 100000 in
theorem rterms_any (w : World) (m : RM) (h : Okm w m) (hz : sizeR m.1 ≤ 4294967296) :
    Calls Tryz.prog 25 #[aggR m] w fun e w' => ∃ v, e = .returned v ∧ w'.ownsRow w.heap.size 9 1 v (terms m.1).length ((terms m.1).map S8) ∧ Below w.heap.size w w' := by
  obtain ⟨⟨t, s, l, line⟩, A, n, c⟩ := m
  obtain ⟨i1, gi, gz0, gz1, gz2⟩ := info_parts info_str
  have hlb := h.labs
  have h1 : line.length ≤ 4294967296 := by unfold sizeR at hz; simp only at hz; omega
  have h2 : l.length ≤ 4294967296 := by unfold sizeR at hz; simp only at hz; omega
  have h3 : total l ≤ 4294967296 := by unfold sizeR at hz; simp only at hz; omega
  simp only at hlb
  obtain ⟨rfl, hnc, hcm, hrd⟩ := hlb
  obtain ⟨R, hR⟩ : ∃ R, terms ⟨t, s, l, line⟩ = R := ⟨_, rfl⟩
  rw [show terms (⟨⟨t, s, l, line⟩, A, l.length, c⟩ : RM).1 = R from hR]
  have HTM : Hid (R = once (termsL ⟨t, s, l, line⟩)) := Lib.hid hR.symm
  clear hR
  have HRD := Lib.hid hrd
  have HW : Hid (Below w.heap.size w (w.alloc (.cells #[.int .i64 t, .int .u64 (s : Int), .slice A l.length c, .string ⟨line.toArray⟩] 47))) := Lib.hid ((Below.refl _ w).alloc (Nat.le_refl _) _)
  have HBOX := Lib.hid (heap_alloc_new w (.cells #[.int .i64 t, .int .u64 (s : Int), .slice A l.length c, .string ⟨line.toArray⟩] 47))
  have CA := Lib.hid (all_any ⟨line.toArray⟩ false (w.alloc (.cells #[.int .i64 t, .int .u64 (s : Int), .slice A l.length c, .string ⟨line.toArray⟩] 47)) (by show line.toArray.size ≤ _; simp; omega))
  unfold APost at CA
  rw [sel_words] at CA
  unfold aggR slV S8
  unfold maxLen at hcm
  simp only
  clear h hrd hz
  go_enter Tryz.func25, Tryz.ntmps25
  go_wp2_with fail
  refine CA.out.mono ?_
  rintro e w1 ⟨v, rfl, hown, hb1⟩
  have hz1 : w.heap.size < (w.alloc (.cells #[.int .i64 t, .int .u64 (s : Int), .slice A l.length c, .string ⟨line.toArray⟩] 47)).heap.size := by simp
  have HB1 : Hid (Below w.heap.size w w1) := Lib.hid (HW.out.trans (hb1.mono HW.out.size))
  have HX1 : Hid (w1.heap[w.heap.size]? = some (.cells #[.int .i64 t, .int .u64 (s : Int), .slice A l.length c, .string ⟨line.toArray⟩] 47 (0, 0))) := Lib.hid ((hb1.block w.heap.size hz1).trans HBOX.out)
  have HO1 : Hid (w1.ownsRow (w.heap.size + 1) 9 1 v (words line ++ (l.take 0).map labT).length ((words line ++ (l.take 0).map labT).map S8)) := Lib.hid (by
    rw [show (w.alloc (.cells #[.int .i64 t, .int .u64 (s : Int), .slice A l.length c, .string ⟨line.toArray⟩] 47)).heap.size = w.heap.size + 1 by simp] at hown
    simpa using hown)
  have HWL := Lib.hid (words_len line)
  clear hown hb1 CA HBOX HW hz1
  go_wp2
  go_loopw [3, 4] (fun vl vi wr => TRel w ⟨t, s, l, line⟩ A l.length c vl vi wr) (fun _ vi _ => l.length - (intOf vi).toNat)
  case atStart => exact ⟨0, Nat.zero_le _, rfl, HO1, HB1, HX1⟩
  case round =>
    obtain ⟨k, hk, rfl, HO, HB, HX⟩ := hrel
    simp only at hk HO HX
    have k2 := cell_of_heap (j := 2) HX.out rfl
    by_cases hlt : k < l.length
    · obtain ⟨b1, o1, rfl, hbb, hc⟩ := HRD.out (by rw [flat_len]; omega)
      obtain ⟨q1, q2⟩ := cellsL hc hlt
      have k3 := (HB.out.cell (p := ⟨b1, o1 + k * 2, .none⟩) hbb).trans q1
      have k4 := (HB.out.cell (p := ⟨b1, o1 + k * 2 + 1, .none⟩) hbb).trans q2
      have HLT : Hid ((l.take (k + 1)).map labT = (l.take k).map labT ++ [labT l[k]]) := Lib.hid (by rw [List.take_succ_eq_append_getElem hlt, List.map_append]; rfl)
      have HLX : Hid (labT l[k] = l[k].1 ++ 61 :: l[k].2) := Lib.hid rfl
      have hn1 : k ≤ 4294967296 := by omega
      have hn3 := total_at hlt
      have hn2 : (words line ++ (l.take k).map labT).length ≤ 8589934593 := by
        have := HWL.out
        simp only [List.length_append, List.length_map, List.length_take]
        omega
      generalize labT l[k] = y at *
      generalize l[k].1 = x1 at *
      generalize l[k].2 = x2 at *
      have hxa : ∀ w, (Op.stringOp .add ⟨x1.toArray⟩ { data := #[61] }).run Tryz.prog w = .ok (.string (⟨x1.toArray⟩ ++ { data := #[61] })) w := fun w => run_string_add_sum w _ _ (by simp [ByteArray.size]; omega)
      have hxb : ∀ w, (Op.stringOp .add (⟨x1.toArray⟩ ++ { data := #[61] }) ⟨x2.toArray⟩).run Tryz.prog w = .ok (.string (⟨x1.toArray⟩ ++ { data := #[61] } ++ ⟨x2.toArray⟩)) w := fun w => run_string_add_sum w _ _ (by rw [ByteArray.size_append]; simp [ByteArray.size]; omega)
      have HBY : Hid ((⟨x1.toArray⟩ : ByteArray) ++ ({ data := #[61] } : ByteArray) ++ ⟨x2.toArray⟩ = ⟨y.toArray⟩) := Lib.hid (by
        apply ByteArray.ext
        rw [HLX.out]
        simp)
      have HLT2 : Hid ((words line ++ (l.take (k + 1)).map labT) = (words line ++ (l.take k).map labT) ++ [y]) := Lib.hid (by rw [HLT.out, List.append_assoc])
      clear hc q1 q2 HLT HLX
      obtain ⟨T, hT⟩ : ∃ T, words line ++ (l.take k).map labT = T := ⟨_, rfl⟩
      rw [hT] at HO HLT2 hn2
      clear hT
      obtain ⟨At, ct, rfl, ht1, ht2, _⟩ := own_slice HO.out
      have hs1 := HB.out.size
      have hlt1 : w.heap.size < wr.heap.size := (Array.getElem?_eq_some_iff.1 HX.out).1
      obtain ⟨v', w', hrun, hown', hg', hv'⟩ := run_append_rd (P := Tryz.prog) (wr.drew.alloc (.cells #[.string ⟨y.toArray⟩] 9)) (w.heap.size + 1) 49 49 9 i1 (.string ByteArray.empty) 16 Tryz.underlying49 gi gz0 gz1 gz2 rfl _ _ _ (show (wr.drew.alloc (.cells #[.string ⟨y.toArray⟩] 9)).ownsRow (w.heap.size + 1) 9 1 _ _ _ from (show wr.drew.ownsRow (w.heap.size + 1) 9 1 _ _ _ from HO.out).alloc _)
        (wr.heap.size + 1) (some ⟨wr.heap.size, 0, .none⟩) 1 1 [.string ⟨y.toArray⟩] rfl (Rd.made wr.drew #[.string ⟨y.toArray⟩] 9) (by intro u hu; simp at hu; subst hu; rfl) (by unfold maxLen; omega) (by omega) (by simp; omega)
      rw [← HBY.out] at hrun
      have HO2 : Hid (w'.ownsRow (w.heap.size + 1) 9 1 v' (T ++ [y]).length ((T ++ [y]).map S8)) := Lib.hid (by rw [List.length_append, List.map_append]; exact hown')
      have HB2 : Hid (Below w.heap.size w w') := Lib.hid (((drew_to HB.out).alloc hs1 _).grown hg' (by simp; omega) (fun g h => by have := (HO.out.lt g h).1; omega))
      have HX2 : Hid (w'.heap[w.heap.size]? = some (.cells #[.int .i64 t, .int .u64 (s : Int), .slice (some ⟨b1, o1, .none⟩) l.length c, .string ⟨line.toArray⟩] 47 (0, 0))) := Lib.hid ((hg'.block _ (by simp; omega) (fun e => by have := (HO.out.lt _ e.symm).1; omega)).trans ((Below.heap_alloc wr.drew _ _ hlt1).trans HX.out))
      clear hown' hg' hv' HO HB HX
      go_wp2
      go_region_law (refine step_append_run rfl (.tmp 15) (.tmp 30) 49 rfl v' w' hrun ?_)
      all_goals
        clear hrun hxa hxb
        go_wp2
        refine ⟨⟨k + 1, by show k + 1 ≤ l.length; omega, by go_num, ?_, HB2, HX2⟩, by simp [intOf]; omega⟩
        rw [HLT2.out]
        exact HO2
    · obtain rfl : k = l.length := by omega
      have HT : Hid (words line ++ (l.take l.length).map labT = termsL ⟨t, s, l, line⟩) := Lib.hid (by rw [List.take_length]; rfl)
      have hn2 : (termsL ⟨t, s, l, line⟩).length ≤ 8589934593 := by
        have := HWL.out
        unfold termsL
        simp only [List.length_append, List.length_map]
        omega
      rw [HT.out] at HO
      generalize termsL ⟨t, s, l, line⟩ = T at *
      obtain ⟨At, ct, rfl, ht1, ht2, _⟩ := own_slice HO.out
      have CO := Lib.hid (once_any wr T At ct (Rd.of_own HO.out) ht1 ht2 (by omega))
      clear hk hlt HT
      go_wp2_with fail
      refine CO.out.mono ?_
      rintro e w9 ⟨v9, rfl, hown9, hb9⟩
      have HO9 : Hid (w9.ownsRow w.heap.size 9 1 v9 (once T).length ((once T).map S8)) := Lib.hid (own_mono hown9 HB.out.size)
      have HB9 : Hid (Below w.heap.size w w9) := Lib.hid (HB.out.trans (hb9.mono HB.out.size))
      clear hown9 hb9 CO
      go_wp2
      go_ret
      exact ⟨v9, rfl, by rw [HTM.out]; exact HO9.out, HB9.out⟩
end Go.Proofs.YtkgmcabamhpjhaaGreat.HdTerms

namespace Go.Proofs.YtkgmcabamhpjhaaGreat.HdFind
open Go Go.RowKit Words App UtSpec UtOwn Less LbSpec LbMem RcSpec RcAll RcMem LbOpen RcOpen HdSpec HdLaw TxOnce HdTerms

def HRel (T : List (List UInt8)) (t : List UInt8) (w1 : World) (vi : Value) (wr : World) : Prop := ∃ k : Nat, k ≤ T.length ∧ vi = .int .i64 (k : Int) ∧ Hid (∀ j (h : j < T.length), j < k → T[j] ≠ t) ∧ wr = w1

set_option maxHeartbeats 3200000 in
set_option maxRecDepth 100000 in
theorem rhas_any (w : World) (m : RM) (t : List UInt8) (h : Okm w m) (hz : sizeR m.1 ≤ 4294967296) (_ht : t.length ≤ maxLen) :
    Calls Tryz.prog 39 #[aggR m, .string ⟨t.toArray⟩] w fun e w' => e = .returned (.bool (decide (t ∈ terms m.1))) ∧ Below w.heap.size w w' := by
  obtain ⟨⟨tm, s, l, line⟩, A, n, c⟩ := m
  have HW : Hid (Below w.heap.size w (w.alloc (.cells #[.int .i64 tm, .int .u64 (s : Int), .slice A n c, .string ⟨line.toArray⟩] 47))) := Lib.hid ((Below.refl _ w).alloc (Nat.le_refl _) _)
  have CT := Lib.hid (rterms_any _ _ (h.below HW.out) hz)
  obtain ⟨T, hT⟩ : ∃ T, terms ⟨tm, s, l, line⟩ = T := ⟨_, rfl⟩
  rw [show terms (⟨⟨tm, s, l, line⟩, A, n, c⟩ : RM).1 = T from hT] at CT ⊢
  clear hT h hz
  unfold aggR slV S8 at CT
  unfold aggR slV S8
  simp only at CT ⊢
  go_enter Tryz.func39, Tryz.ntmps39
  go_wp2_with fail
  refine CT.out.mono ?_
  rintro e w1 ⟨v1, rfl, hown, hb1⟩
  have HB1 : Hid (Below w.heap.size w w1) := Lib.hid (HW.out.trans (hb1.mono HW.out.size))
  obtain ⟨A1, c1, rfl, hc1, hm1, _⟩ := own_slice hown
  have HR := Lib.hid (Rd.of_own hown)
  unfold maxLen at hm1
  clear hown hb1 CT HW
  go_wp2
  go_loop [6] (fun vi => ∃ k : Nat, k ≤ T.length ∧ vi = .int .i64 (k : Int) ∧ Hid (∀ j (h : j < T.length), j < k → T[j] ≠ t)) (fun vi => T.length - (intOf vi).toNat)
  case atStart => exact ⟨0, Nat.zero_le _, rfl, Lib.hid fun j _ h => by omega⟩
  case round =>
    obtain ⟨k, hk, rfl, HN⟩ := hrel
    by_cases hlt : k < T.length
    · obtain ⟨b1, o1, rfl, _, hc⟩ := HR.out (by simp; omega)
      have k1 := cellS hc hlt
      by_cases e : T[k] = t
      · have e1 : (T[k] == t) = true := by simp [e]
        have HE : Hid (decide (t ∈ T) = true) := Lib.hid (decide_eq_true (e ▸ List.getElem_mem hlt))
        generalize T[k] = y at *
        clear hc e
        go_wp2
        go_ret
        exact ⟨by rw [HE.out]; rfl, HB1.out⟩
      · have e1 : (T[k] == t) = false := by simp [e]
        have HN2 : Hid (∀ j (h : j < T.length), j < k + 1 → T[j] ≠ t) := Lib.hid fun j h hj => by
          by_cases e2 : j = k
          · subst e2; exact e
          · exact HN.out j h (by omega)
        generalize T[k] = y at *
        clear hc e
        go_wp2
        exact ⟨⟨k + 1, by omega, by go_num, HN2⟩, by simp [intOf]; omega⟩
    · obtain rfl : k = T.length := by omega
      have HE : Hid (decide (t ∈ T) = false) := Lib.hid (decide_eq_false (fun h => by
        obtain ⟨j, hj, e⟩ := List.mem_iff_getElem.1 h
        exact HN.out j hj hj e))
      go_wp2
      go_ret
      exact ⟨by rw [HE.out]; rfl, HB1.out⟩

/-! ### Find -/
def findTo (l : List Rec) (t : List UInt8) (k : Nat) : List UInt64 := ((List.range k).filter fun i => decide (t ∈ terms (l.getD i RcSpec.none))).map UInt64.ofNat
theorem findTo_len (l : List Rec) (t : List UInt8) (k : Nat) : (findTo l t k).length ≤ k := by
  unfold findTo
  rw [List.length_map]
  have := List.length_filter_le (fun i => decide (t ∈ terms (l.getD i RcSpec.none))) (List.range k)
  simpa using this
theorem findTo_yes {l : List Rec} {t : List UInt8} {k : Nat} (h : t ∈ terms (l.getD k RcSpec.none)) : findTo l t (k + 1) = findTo l t k ++ [UInt64.ofNat k] := by
  unfold findTo
  have h' : decide (t ∈ terms (l.getD k RcSpec.none)) = true := decide_eq_true h
  rw [List.range_succ, List.filter_append, List.map_append]
  congr 1
  simp only [List.filter_cons, h', List.filter_nil, if_true]
  rfl
theorem findTo_no {l : List Rec} {t : List UInt8} {k : Nat} (h : ¬ t ∈ terms (l.getD k RcSpec.none)) : findTo l t (k + 1) = findTo l t k := by
  unfold findTo
  have h' : decide (t ∈ terms (l.getD k RcSpec.none)) = false := decide_eq_false h
  rw [List.range_succ, List.filter_append, List.map_append]
  simp only [List.filter_cons, h', List.filter_nil, Bool.false_eq_true, if_false, List.map_nil, List.append_nil]
def FRel (w : World) (l : List Rec) (t : List UInt8) (vo vi : Value) (wr : World) : Prop := ∃ k : Nat, k ≤ l.length ∧ vi = .int .i64 (k : Int) ∧ Hid (wr.ownsRow w.heap.size 44 1 vo (findTo l t k).length ((findTo l t k).map B64)) ∧ Hid (Below w.heap.size w wr)
theorem info_u64 : (Tryz.prog.info? 44).map (fun i => (i.zero, i.size, i.bytes)) = some (some (.int .u64 0), 1, 8) := by kernel_rfl
set_option maxHeartbeats 3200000 in
set_option maxRecDepth 100000 in
theorem rfind_any (w : World) (ms : List RM) (A : Option Addr) (n c : Nat) (t : List UInt8) (h : Rl w A n c ms) (hz : ∀ m ∈ ms, sizeR m.1 ≤ 4294967296) (hn : ms.length ≤ 1099511627776) (ht : t.length ≤ maxLen) :
    Calls Tryz.prog 19 #[.slice A n c, .string ⟨t.toArray⟩] w fun e w' => ∃ v, e = .returned v ∧ w'.ownsRow w.heap.size 44 1 v (HdSpec.find (recsOf ms) t).length ((HdSpec.find (recsOf ms) t).map B64) ∧ Below w.heap.size w w' := by
  obtain ⟨i1, gi, gz0, gz1, gz2⟩ := info_parts info_u64
  have HR := Lib.hid h
  have HZ := Lib.hid hz
  obtain ⟨rfl, hnc, hcm, _, _⟩ := h
  have hrl : (recsOf ms).length = ms.length := by simp [recsOf]
  have HF : Hid (HdSpec.find (recsOf ms) t = findTo (recsOf ms) t ms.length) := Lib.hid (by unfold HdSpec.find findTo; rw [hrl])
  unfold maxLen at hcm
  have HRL := Lib.hid hrl
  clear hz hrl
  go_enter Tryz.func19, Tryz.ntmps19
  go_wp2
  go_loopw [5, 6] (fun vo vi wr => FRel w (recsOf ms) t vo vi wr) (fun _ vi _ => ms.length - (intOf vi).toNat)
  case atStart => exact ⟨0, Nat.zero_le _, rfl, Lib.hid (World.ownsRow_nil ..), Lib.hid (Below.refl _ _)⟩
  case round =>
    obtain ⟨k, hk, rfl, HO, HB⟩ := hrel
    rw [HRL.out] at hk
    by_cases hlt : k < ms.length
    · obtain ⟨b1, o1, rfl, hbb, hc⟩ := HR.out.rd (by rw [flatR_len]; omega)
      obtain ⟨q0, q1, q2, q3⟩ := cellsR hc hlt
      have k0 := (HB.out.cell (p := ⟨b1, o1 + k * 4, .none⟩) hbb).trans q0
      have k1 := (HB.out.cell (p := ⟨b1, o1 + k * 4 + 1, .none⟩) hbb).trans q1
      have k2 := (HB.out.cell (p := ⟨b1, o1 + k * 4 + 2, .none⟩) hbb).trans q2
      have k3 := (HB.out.cell (p := ⟨b1, o1 + k * 4 + 3, .none⟩) hbb).trans q3
      have hbr := HB.out
      have hok : Okm wr ms[k] := (HR.out.each _ (List.getElem_mem hlt)).below hbr
      have CH := Lib.hid (rhas_any wr ms[k] t hok (HZ.out _ (List.getElem_mem hlt)) ht)
      have hfl := findTo_len (recsOf ms) t k
      have hgd : (recsOf ms).getD k RcSpec.none = (ms[k]).1 := by simp [recsOf, List.getD, hlt]
      have hyes := findTo_yes (l := recsOf ms) (t := t) (k := k)
      have hno := findTo_no (l := recsOf ms) (t := t) (k := k)
      rw [hgd] at hyes hno
      have HY := Lib.hid hyes
      have HNO := Lib.hid hno
      unfold aggR slV S8 at CH
      unfold slV at k2
      clear hc q0 q1 q2 q3 hok hbr hgd hyes hno
      generalize ms[k] = m at *
      obtain ⟨⟨tm, s, ls, ln⟩, Am, nm, cm⟩ := m
      simp only at CH k0 k1 k2 k3
      generalize findTo (recsOf ms) t k = F at *
      by_cases hin : t ∈ terms ⟨tm, s, ls, ln⟩
      · rw [show decide (t ∈ terms ((⟨⟨tm, s, ls, ln⟩, Am, nm, cm⟩ : RM).1)) = true from decide_eq_true hin] at CH
        have HF1 := Lib.hid (HY.out hin)
        clear HY HNO hin
        go_wp2_with fail
        refine CH.out.mono ?_
        rintro e w5 ⟨rfl, hb5⟩
        have HO5 := Lib.hid (own_keep HO.out hb5)
        have HB5 : Hid (Below w.heap.size w w5) := Lib.hid (HB.out.trans (hb5.mono HB.out.size))
        clear CH hb5 HO HB k0 k1 k2 k3
        have hwk : IntKind.u64.wrap (k : Int) = (k : Int) := by rw [IntKind.wrap_u64]; omega
        have hM := Lib.hid (Rd.made w5 #[.int .u64 (k : Int)] 44)
        have hs5 := HB5.out.size
        go_wp2_with (at_builtin; refine wpList_append_rd _ rfl (.tmp 19) (.tmp 22) 39 rfl w.heap.size 44 i1 (.int .u64 0) 8 Tryz.underlying39 gi gz0 gz1 gz2 rfl _ _ _ rfl (HO5.out.alloc _) (w5.heap.size + 1) (some ⟨w5.heap.size, 0, .none⟩) 1 1 [.int .u64 (k : Int)] rfl rfl hM.out (by intro u hu; simp at hu; subst hu; rfl) (by unfold maxLen; omega) (by omega) (by simp; omega) ?_)
        intro v' w6 hown6 hg6 _
        have HO6 : Hid (w6.ownsRow w.heap.size 44 1 v' (F ++ [UInt64.ofNat k]).length ((F ++ [UInt64.ofNat k]).map B64)) := Lib.hid (by
          rw [List.length_append, List.map_append]
          have e : B64 (UInt64.ofNat k) = .int .u64 (k : Int) := by unfold B64; rw [UInt64.toNat_ofNat_of_lt' (by show k < 2 ^ 64; omega)]
          rw [show [UInt64.ofNat k].map B64 = [.int .u64 (k : Int)] by rw [List.map_cons, e]; rfl]
          exact hown6)
        have HB6 : Hid (Below w.heap.size w w6) := Lib.hid ((HB5.out.alloc HB5.out.size _).grown hg6 (by simp; omega) (fun g h => (HO5.out.lt g h).1))
        clear hown6 hg6 HO5 HB5
        go_wp2
        go_roundw
        case rel => exact ⟨k + 1, by rw [HRL.out]; omega, by go_num, by rw [HF1.out]; exact HO6, HB6⟩
        case measure => simp [intOf]; omega
      · rw [show decide (t ∈ terms ((⟨⟨tm, s, ls, ln⟩, Am, nm, cm⟩ : RM).1)) = false from decide_eq_false hin] at CH
        have HF1 := Lib.hid (HNO.out hin)
        clear HY HNO hin
        go_wp2_with fail
        refine CH.out.mono ?_
        rintro e w5 ⟨rfl, hb5⟩
        have HO5 := Lib.hid (own_keep HO.out hb5)
        have HB5 : Hid (Below w.heap.size w w5) := Lib.hid (HB.out.trans (hb5.mono HB.out.size))
        clear CH hb5 HO HB k0 k1 k2 k3
        go_wp2
        go_roundw
        case rel => exact ⟨k + 1, by rw [HRL.out]; omega, by go_num, by rw [HF1.out]; exact HO5, HB5⟩
        case measure => simp [intOf]; omega
    · obtain rfl : k = ms.length := by omega
      rw [← HF.out] at HO
      go_wp2
      go_ret
      exact ⟨_, rfl, HO.out, HB.out⟩
end Go.Proofs.YtkgmcabamhpjhaaGreat.HdFind

