/- The contracts of the document's Same and of the statements' own within, over lists of texts. Conditions: both slices read as the lists. · The contracts of the document's Has, and of the statements' own cut. Condition: texts of lengths that the model has, their sum too. -/
import Derived.Test.YtkgmcabamhpjhaaGreatLbSpecs
import Derived.Deep.QuietTactic
import Derived.BigQuiet
import Derived.BigCall
import Derived.Lib.Hide
import Derived.Lib.IndexBytes
import Derived.Lib.IndexMore
import Derived.Laws.DeepStrings4
namespace Go.Proofs.YtkgmcabamhpjhaaGreat.TxSame
open Go Go.RowKit Words Less

theorem ret_bool {a b : Bool} (h : a = b) : Ending.returned (.bool a) = .returned (.bool b) := by rw [h]
def Rel (la lb : List (List UInt8)) (w : World) (i : Value) (wr : World) : Prop := ∃ k : Nat, k ≤ la.length ∧ i = .int .i64 (k : Int) ∧ Hid (la.take k = lb.take k) ∧ Hid (Below w.heap.size w wr) ∧ Hid (wr.heap = w.heap)

theorem below_drewN {B : Nat} {a w : World} (h : Below B a w) (n : Nat) : Below B a (w.drewN n) := ⟨h.os, h.tape, h.output, h.size, h.block⟩

set_option maxHeartbeats 1600000 in
set_option maxRecDepth 100000 in
theorem same_any (w : World) (la lb : List (List UInt8)) (A1 A2 : Option Addr) (c1 c2 B1 B2 : Nat) (h1 : Rd w B1 A1 (la.map S8)) (h2 : Rd w B2 A2 (lb.map S8)) (hm1 : la.length ≤ c1) (_hm2 : lb.length ≤ c2) (hc1 : c1 ≤ maxLen) (_hc2 : c2 ≤ maxLen) :
    Calls Tryz.prog 23 #[.slice A1 la.length c1, .slice A2 lb.length c2] w fun e w' => e = .returned (.bool (la == lb)) ∧ Below w.heap.size w w' := by
  have H1 := Lib.hid h1
  have H2 := Lib.hid h2
  unfold maxLen at hc1 _hc2
  clear h1 h2
  by_cases hn : la.length = lb.length
  · have hne : ((la.length : Int) != (lb.length : Int)) = false := by simp [hn]
    have HN := Lib.hid hn
    clear hn
    go_enter Tryz.func23, Tryz.ntmps23
    go_wp2
    go_loopw [5] (fun i wr => Rel la lb w i wr) (fun i _ => la.length - (intOf i).toNat)
    case atStart => exact ⟨0, Nat.zero_le _, rfl, Lib.hid (by simp), Lib.hid (Below.refl _ _), Lib.hid rfl⟩
    case round =>
      obtain ⟨k, hk, rfl, HT, HB, HH⟩ := hrel
      by_cases hlt : k < la.length
      · have hlt' : k < lb.length := by rw [← HN.out]; exact hlt
        obtain ⟨b1, o1, rfl, _, hc⟩ := H1.out (by simp; omega)
        obtain ⟨b2, o2, rfl, _, hd⟩ := H2.out (by simp; omega)
        have hcc : ∀ a : Addr, wr.cell? a = w.cell? a := fun a => by unfold World.cell?; rw [HH.out]
        have k1 : wr.cell? ⟨b1, o1 + k, none⟩ = some (.string ⟨la[k].toArray⟩) := (hcc _).trans (cellS hc hlt)
        have k2 : wr.cell? ⟨b2, o2 + k, none⟩ = some (.string ⟨lb[k].toArray⟩) := (hcc _).trans (cellS hd hlt')
        have HS : Hid (la[k] = lb[k] → la.take (k + 1) = lb.take (k + 1)) := Lib.hid (fun h => by
          rw [List.take_succ_eq_append_getElem hlt, List.take_succ_eq_append_getElem hlt', HT.out, h])
        have HF : Hid (la[k] ≠ lb[k] → (la == lb) = false) := Lib.hid (fun h => beq_eq_false_iff_ne.2 (fun e => h (by simp [e])))
        by_cases he : la[k] = lb[k]
        · have HS2 := Lib.hid (HS.out he)
          rw [← he] at k2
          generalize la[k] = nm at *
          have hnm : (nm != nm) = false := by simp
          clear hc hd hcc he HS HF
          go_wp2
          go_quiet (fail)
          go_wp2
          go_roundw
          case rel => exact ⟨k + 1, by omega, by go_num, HS2, Lib.hid (below_drewN HB.out _), HH⟩
          case measure => simp [intOf]; omega
        · have HF2 := Lib.hid (HF.out he)
          have hnm : (la[k] == lb[k]) = false := by simpa using he
          generalize la[k] = n1 at *
          generalize lb[k] = n2 at *
          clear hc hd hcc he HS HF
          go_wp2
          go_quiet (fail)
          go_wp2
          go_ret
          exact ⟨ret_bool HF2.out.symm, below_drewN HB.out _⟩
      · have hkn : k = la.length := by omega
        have HE : Hid ((la == lb) = true) := Lib.hid (by
          have h := HT.out
          rw [hkn, List.take_length, HN.out, List.take_length] at h
          rw [h]
          simp)
        subst hkn
        clear HT
        go_wp2
        go_ret
        exact ⟨ret_bool HE.out.symm, HB.out⟩
  · have hne : ((la.length : Int) != (lb.length : Int)) = true := by simp; omega
    have HE : Hid ((la == lb) = false) := Lib.hid (beq_eq_false_iff_ne.2 (fun e => hn (by rw [e])))
    clear hn
    go_enter Tryz.func23, Tryz.ntmps23
    go_wp2
    go_ret
    exact ⟨ret_bool HE.out.symm, Below.refl _ _⟩

def isin (x : List UInt8) (l : List (List UInt8)) : Bool := l.any fun y => x == y
def IRel (x : List UInt8) (lb : List (List UInt8)) (w : World) (v i : Value) (wr : World) : Prop := ∃ k : Nat, k ≤ lb.length ∧ i = .int .i64 (k : Int) ∧ v = .bool (isin x (lb.take k)) ∧ Hid (Below w.heap.size w wr) ∧ Hid (wr.heap = w.heap)
def ORel (la lb : List (List UInt8)) (w : World) (i : Value) (wr : World) : Prop := ∃ k : Nat, k ≤ la.length ∧ i = .int .i64 (k : Int) ∧ Hid ((la.take k).all (fun x => isin x lb) = true) ∧ Hid (Below w.heap.size w wr) ∧ Hid (wr.heap = w.heap)
theorem isin_next {x : List UInt8} {l : List (List UInt8)} {k : Nat} (h : k < l.length) : isin x (l.take (k + 1)) = (isin x (l.take k) || x == l[k]) := by
  unfold isin
  rw [List.take_succ_eq_append_getElem h, List.any_append]
  simp

end Go.Proofs.YtkgmcabamhpjhaaGreat.TxSame

namespace Go.Proofs.YtkgmcabamhpjhaaGreat.TxHas
open Go Go.RowKit Words Less TxSame

/-- Whether p stands in l at a place. -/
def occ (l p : List UInt8) (i : Nat) : Bool := p.isPrefixOf (l.drop i)
def stands (l p : List UInt8) : Bool := (List.range (l.length + 1)).any fun i => occ l p i
theorem stands_true {l p : List UInt8} {i : Nat} (hi : i ≤ l.length) (h : occ l p i = true) : stands l p = true := by
  unfold stands
  rw [List.any_eq_true]
  exact ⟨i, List.mem_range.2 (by omega), h⟩
theorem stands_false {l p : List UInt8} (h : ∀ i, i ≤ l.length → occ l p i = false) : stands l p = false := by
  unfold stands
  rw [List.any_eq_false]
  intro i hi
  rw [h i (by have := List.mem_range.1 hi; omega)]
  decide
theorem occ_short {l p : List UInt8} {i : Nat} (h : l.length < i + p.length) (hi : i ≤ l.length) : occ l p i = false := by
  cases hx : occ l p i with
  | false => rfl
  | true =>
    unfold occ at hx
    have := (List.isPrefixOf_iff_prefix.1 hx).length_le
    rw [List.length_drop] at this
    omega
theorem occ_eq {l p : List UInt8} {i : Nat} : occ l p i = ((l.drop i).take p.length == p) := by
  unfold occ
  rw [Bool.eq_iff_iff, List.isPrefixOf_iff_prefix, beq_iff_eq]
  exact ⟨fun h => (List.prefix_iff_eq_take.1 h).symm, fun h => List.prefix_iff_eq_take.2 h.symm⟩
theorem ext_part (l p : ByteArray) (i : Nat) : l.extract i (i + p.size) = ⟨((l.data.toList.drop i).take p.data.toList.length).toArray⟩ := by
  have e2 : p.data.size = p.size := rfl
  apply ByteArray.ext
  rw [← Array.toList_inj]
  rw [Lib.extract_data]
  simp

/-- 's[i:j]'. -/
theorem run_part (s : ByteArray) (i j : Nat) (x : Int) (hx : x = (j : Int)) (hij : i ≤ j) (hj : j ≤ s.size) (w : World) : (Instr.slice 9 (.string s) (some (.int .i64 (i : Int))) (some (.int .i64 x)) none).run Tryz.prog w = .ok (.string (s.extract i j)) w := by
  subst hx
  rw [run_slice_string_if w 9 s .i64 .i64 (i : Int) (j : Int) Tryz.underlying9]
  simp [hij, hj]

def HRel (l p : ByteArray) (v : Value) : Prop := ∃ k : Nat, k ≤ l.size + 1 ∧ v = .int .i64 (k : Int) ∧ Hid (∀ i, i < k → occ l.data.toList p.data.toList i = false)

theorem place_of (x : Int) (n : Nat) : ∃ k : Nat, (IntKind.u64.wrap x).tmod ((n : Int) + 1) = (k : Int) ∧ k ≤ n := by
  rw [IntKind.wrap_u64]
  have h0 : 0 ≤ x % 18446744073709551616 := Int.emod_nonneg _ (by omega)
  generalize x % 18446744073709551616 = y at *
  rw [Int.tmod_eq_emod_of_nonneg h0]
  have h1 := Int.emod_nonneg y (show (n : Int) + 1 ≠ 0 by omega)
  have h2 := Int.emod_lt_of_pos y (show (0 : Int) < (n : Int) + 1 by omega)
  exact ⟨(y % ((n : Int) + 1)).toNat, by omega, by omega⟩
/-- A part of a text. -/
def CPost (s : ByteArray) (w : World) (e : Ending) (w' : World) : Prop := ∃ i n : Nat, i + n ≤ s.size ∧ e = .returned (.string (s.extract i (i + n))) ∧ w = w'
end Go.Proofs.YtkgmcabamhpjhaaGreat.TxHas

