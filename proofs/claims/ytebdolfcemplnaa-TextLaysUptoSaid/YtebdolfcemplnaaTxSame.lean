/- The contracts of the document's Same and of the statements' own within, over lists of texts. Conditions: both slices read as the lists. -/
import Derived.Test.YtebdolfcemplnaaLess
import Derived.Deep.QuietTactic
import Derived.BigQuiet
import Derived.BigCall
import Derived.Lib.Hide
namespace Go.Proofs.Ytebdolfcemplnaa.TxSame
open Go Go.RowKit Words Less

theorem ret_bool {a b : Bool} (h : a = b) : Ending.returned (.bool a) = .returned (.bool b) := by rw [h]
def Rel (la lb : List (List UInt8)) (w : World) (i : Value) (wr : World) : Prop := ∃ k : Nat, k ≤ la.length ∧ i = .int .i64 (k : Int) ∧ Hid (la.take k = lb.take k) ∧ Hid (Below w.heap.size w wr) ∧ Hid (wr.heap = w.heap)

theorem below_drewN {B : Nat} {a w : World} (h : Below B a w) (n : Nat) : Below B a (w.drewN n) := ⟨h.os, h.tape, h.output, h.size, h.block⟩

set_option maxHeartbeats 1600000 in
set_option maxRecDepth 100000 in
theorem same_any (w : World) (la lb : List (List UInt8)) (A1 A2 : Option Addr) (c1 c2 B1 B2 : Nat) (h1 : Rd w B1 A1 (la.map S8)) (h2 : Rd w B2 A2 (lb.map S8)) (hm1 : la.length ≤ c1) (hm2 : lb.length ≤ c2) (hc1 : c1 ≤ maxLen) (hc2 : c2 ≤ maxLen) :
    Calls Try.prog 10 #[.slice A1 la.length c1, .slice A2 lb.length c2] w fun e w' => e = .returned (.bool (la == lb)) ∧ Below w.heap.size w w' := by
  have H1 := Lib.hid h1
  have H2 := Lib.hid h2
  unfold maxLen at hc1 hc2
  clear h1 h2
  by_cases hn : la.length = lb.length
  · have hne : ((la.length : Int) != (lb.length : Int)) = false := by simp [hn]
    have HN := Lib.hid hn
    clear hn
    go_enter Try.func10, Try.ntmps10
    go_wp2
    go_loopw [5] (fun i wr => Rel la lb w i wr) (fun i _ => la.length - (intOf i).toNat)
    case atStart => exact ⟨0, Nat.zero_le _, rfl, Lib.hid (by simp), Lib.hid (Below.refl _ _), Lib.hid rfl⟩
    case round =>
      obtain ⟨k, hk, rfl, HT, HB, HH⟩ := hrel
      by_cases hlt : k < la.length
      · have hlt' : k < lb.length := by rw [← HN.out]; exact hlt
        obtain ⟨b1, o1, rfl, _, hc⟩ := H1.out (by simp; omega)
        obtain ⟨b2, o2, rfl, _, hd⟩ := H2.out (by simp; omega)
        have hcc : ∀ a : Addr, wr.cell? a = w.cell? a := fun a => by unfold World.cell?; rw [HH.out]
        have k1 : wr.cell? ⟨b1, o1 + k, none⟩ = some (.string ⟨la[k].toArray⟩) := (hcc _).trans (cellS hc hlt)
        have k2 : wr.cell? ⟨b2, o2 + k, none⟩ = some (.string ⟨lb[k].toArray⟩) := (hcc _).trans (cellS hd hlt')
        have HS : Hid (la[k] = lb[k] → la.take (k + 1) = lb.take (k + 1)) := Lib.hid (fun h => by
          rw [List.take_succ_eq_append_getElem hlt, List.take_succ_eq_append_getElem hlt', HT.out, h])
        have HF : Hid (la[k] ≠ lb[k] → (la == lb) = false) := Lib.hid (fun h => beq_eq_false_iff_ne.2 (fun e => h (by simp [e])))
        by_cases he : la[k] = lb[k]
        · have HS2 := Lib.hid (HS.out he)
          rw [← he] at k2
          generalize la[k] = nm at *
          have hnm : (nm != nm) = false := by simp
          clear hc hd hcc he HS HF
          go_wp2
          go_quiet (fail)
          go_wp2
          go_roundw
          case rel => exact ⟨k + 1, by omega, by go_num, HS2, Lib.hid (below_drewN HB.out _), HH⟩
          case measure => simp [intOf]; omega
        · have HF2 := Lib.hid (HF.out he)
          have hnm : (la[k] == lb[k]) = false := by simpa using he
          generalize la[k] = n1 at *
          generalize lb[k] = n2 at *
          clear hc hd hcc he HS HF
          go_wp2
          go_quiet (fail)
          go_wp2
          go_ret
          exact ⟨ret_bool HF2.out.symm, below_drewN HB.out _⟩
      · have hkn : k = la.length := by omega
        have HE : Hid ((la == lb) = true) := Lib.hid (by
          have h := HT.out
          rw [hkn, List.take_length, HN.out, List.take_length] at h
          rw [h]
          simp)
        subst hkn
        clear HT
        go_wp2
        go_ret
        exact ⟨ret_bool HE.out.symm, HB.out⟩
  · have hne : ((la.length : Int) != (lb.length : Int)) = true := by simp; omega
    have HE : Hid ((la == lb) = false) := Lib.hid (beq_eq_false_iff_ne.2 (fun e => hn (by rw [e])))
    clear hn
    go_enter Try.func10, Try.ntmps10
    go_wp2
    go_ret
    exact ⟨ret_bool HE.out.symm, Below.refl _ _⟩

def isin (x : List UInt8) (l : List (List UInt8)) : Bool := l.any fun y => x == y
def IRel (x : List UInt8) (lb : List (List UInt8)) (w : World) (v i : Value) (wr : World) : Prop := ∃ k : Nat, k ≤ lb.length ∧ i = .int .i64 (k : Int) ∧ v = .bool (isin x (lb.take k)) ∧ Hid (Below w.heap.size w wr) ∧ Hid (wr.heap = w.heap)
def ORel (la lb : List (List UInt8)) (w : World) (i : Value) (wr : World) : Prop := ∃ k : Nat, k ≤ la.length ∧ i = .int .i64 (k : Int) ∧ Hid ((la.take k).all (fun x => isin x lb) = true) ∧ Hid (Below w.heap.size w wr) ∧ Hid (wr.heap = w.heap)
theorem isin_next {x : List UInt8} {l : List (List UInt8)} {k : Nat} (h : k < l.length) : isin x (l.take (k + 1)) = (isin x (l.take k) || x == l[k]) := by
  unfold isin
  rw [List.take_succ_eq_append_getElem h, List.any_append]
  simp

set_option maxHeartbeats 3200000 in
set_option maxRecDepth 100000 in
theorem within_any (w : World) (la lb : List (List UInt8)) (A1 A2 : Option Addr) (c1 c2 B1 B2 : Nat) (h1 : Rd w B1 A1 (la.map S8)) (h2 : Rd w B2 A2 (lb.map S8)) (hm1 : la.length ≤ c1) (hm2 : lb.length ≤ c2) (hc1 : c1 ≤ maxLen) (hc2 : c2 ≤ maxLen) :
    Calls Try.prog 19 #[.slice A1 la.length c1, .slice A2 lb.length c2] w fun e w' => e = .returned (.bool (la.all fun x => isin x lb)) ∧ Below w.heap.size w w' := by
  have H1 := Lib.hid h1
  have H2 := Lib.hid h2
  unfold maxLen at hc1 hc2
  clear h1 h2
  go_enter Try.func19, Try.ntmps19
  go_wp2
  go_loopw [5] (fun i wr => ORel la lb w i wr) (fun i _ => la.length - (intOf i).toNat)
  case atStart => exact ⟨0, Nat.zero_le _, rfl, Lib.hid (by simp), Lib.hid (Below.refl _ _), Lib.hid rfl⟩
  case round =>
    obtain ⟨k, hk, rfl, HT, HB, HH⟩ := hrel
    by_cases hlt : k < la.length
    · obtain ⟨b1, o1, rfl, _, hc⟩ := H1.out (by simp; omega)
      have k1 : w.cell? ⟨b1, o1 + k, none⟩ = some (.string ⟨la[k].toArray⟩) := cellS hc hlt
      have HS : Hid (isin la[k] lb = true → (la.take (k + 1)).all (fun x => isin x lb) = true) := Lib.hid (fun h => by
        rw [List.take_succ_eq_append_getElem hlt, List.all_append, HT.out]
        simp [h])
      have HF : Hid (isin la[k] lb = false → (la.all fun x => isin x lb) = false) := Lib.hid (fun h => by
        rw [List.all_eq_false]
        exact ⟨la[k], List.getElem_mem hlt, by simp [h]⟩)
      generalize la[k] = x at *
      have HK1 := Lib.hid k1
      clear hc k1 HT
      obtain ⟨wo, rfl⟩ : ∃ wo : World, wo = wr := ⟨_, rfl⟩
      go_wp2
      go_loopw [6, 7] (fun v i wr => IRel x lb w v i wr) (fun _ i _ => lb.length - (intOf i).toNat)
      case atStart => exact ⟨0, Nat.zero_le _, rfl, rfl, HB, HH⟩
      case round =>
        obtain ⟨j, hj, rfl, rfl, HB2, HH2⟩ := hrel
        obtain ⟨v, hv⟩ : ∃ v, isin x (lb.take j) = v := ⟨_, rfl⟩
        by_cases hjl : j < lb.length
        · obtain ⟨b2, o2, rfl, _, hd⟩ := H2.out (by simp; omega)
          have hcc : ∀ a : Addr, wr.cell? a = w.cell? a := fun a => by unfold World.cell?; rw [HH2.out]
          have k1 : wr.cell? ⟨b1, o1 + k, none⟩ = some (.string ⟨x.toArray⟩) := (hcc _).trans HK1.out
          have k2 : wr.cell? ⟨b2, o2 + j, none⟩ = some (.string ⟨lb[j].toArray⟩) := (hcc _).trans (cellS hd hjl)
          have hnx := isin_next (x := x) hjl
          rw [hv] at hnx
          obtain ⟨e, he⟩ : ∃ e, (x == lb[j]) = e := ⟨_, rfl⟩
          rw [he] at hnx
          generalize lb[j] = y at *
          have HNX := Lib.hid hnx
          rw [hv]
          clear hd hcc hnx hv
          cases v with
          | true =>
            clear he
            go_wp2
            go_quiet (fail)
            go_wp2
            go_roundw
            case rel => exact ⟨j + 1, by omega, by go_num, by rw [HNX.out]; rfl, Lib.hid (below_drewN HB2.out _), HH2⟩
            case measure => simp [intOf]; omega
          | false =>
            go_wp2
            go_quiet (fail)
            go_wp2
            go_roundw
            case rel => exact ⟨j + 1, by omega, by go_num, by rw [HNX.out]; simp [he], Lib.hid (below_drewN HB2.out _), HH2⟩
            case measure => simp [intOf]; omega
        · have hjn : j = lb.length := by omega
          rw [hjn, List.take_length] at hv
          have HV := Lib.hid hv
          have hv2 : isin x (lb.take j) = v := by rw [hjn, List.take_length, hv]
          rw [hv2]
          have HJ := Lib.hid hjn
          clear hv hv2 hjn
          cases v with
          | true =>
            have HS2 := Lib.hid (HS.out HV.out)
            clear HS HF
            go_wp2
            go_roundw
            case rel => exact ⟨k + 1, by omega, by go_num, HS2, HB2, HH2⟩
            case measure => simp [intOf]; omega
          | false =>
            have HF2 := Lib.hid (HF.out HV.out)
            clear HS HF
            go_wp2
            go_ret
            exact ⟨ret_bool HF2.out.symm, HB2.out⟩
    · have hkn : k = la.length := by omega
      have HE : Hid ((la.all fun x => isin x lb) = true) := Lib.hid (by
        have h := HT.out
        rw [hkn, List.take_length] at h
        exact h)
      subst hkn
      clear HT
      go_wp2
      go_ret
      exact ⟨ret_bool HE.out.symm, HB.out⟩
end Go.Proofs.Ytebdolfcemplnaa.TxSame
