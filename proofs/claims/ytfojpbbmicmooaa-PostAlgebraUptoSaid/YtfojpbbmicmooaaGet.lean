/- The contract of varint.Get: for all bytes and every place it answers the number, the place behind it and the error that 'Plain.getN', 'getTo', 'getE' say, and leaves the world as it is. Conditions: the slice's length is at most its capacity, the capacity at most the model's greatest length. -/
import Derived.Test.YtfojpbbmicmooaaRows
import Derived.Test.YtfojpbbmicmooaaWords
import Derived.Test.YtfojpbbmicmooaaPlain
import Derived.WalkKit
import Derived.LoopTactic
import Derived.Lib.Hide
import Derived.Outline
namespace Go.Proofs.Ytfojpbbmicmooaa.Get
open Go Go.RowKit Words Plain

theorem ret3 {n m : Int} {a b c d : Int} (h1 : n = m) (h2 : a = b) (h3 : c = d) : Ending.returned (.tuple #[.int .u64 n, .int .i64 a, .int .i64 c]) = .returned (.tuple #[.int .u64 m, .int .i64 b, .int .i64 d]) := by rw [h1, h2, h3]

set_option maxHeartbeats 400000 in
theorem get_low (l : List UInt8) (A : Option Addr) (c : Nat) (at_ : Int) (w : World) (h : at_ < 0) :
    Calls Try.prog 29 #[.slice A l.length c, .int .i64 at_] w fun e w' => e = .returned (.tuple #[.int .u64 (getN l at_), .int .i64 (getTo l at_), .int .i64 (getE l at_)]) ∧ w = w' := by
  go_enter Try.func29, Try.ntmps29
  go_wp2
  go_ret3
  exact ⟨by simp [getN, getTo, getE, h], rfl⟩

set_option maxHeartbeats 400000 in
theorem get_high (l : List UInt8) (A : Option Addr) (c : Nat) (at_ : Int) (w : World) (h : (l.length : Int) < at_) :
    Calls Try.prog 29 #[.slice A l.length c, .int .i64 at_] w fun e w' => e = .returned (.tuple #[.int .u64 (getN l at_), .int .i64 (getTo l at_), .int .i64 (getE l at_)]) ∧ w = w' := by
  have h0 : 0 ≤ at_ := by omega
  go_enter Try.func29, Try.ntmps29
  go_wp2
  go_ret3
  exact ⟨by simp [getN, getTo, getE, h], rfl⟩

theorem fin {l : List UInt8} {p n c e : Nat} (h : p ≤ l.length) (hd : dec 0 0 (l.drop p) = (n, c, e)) : getN l p = n ∧ getTo l p = (if e = 0 then (p : Int) + c else 0) ∧ getE l p = e := by
  have h' : ¬ ((p : Int) < 0 ∨ (l.length : Int) < p) := by omega
  unfold getN getTo getE
  rw [if_neg h', if_neg h', if_neg h', Int.toNat_natCast, hd]
  refine ⟨rfl, ?_, rfl⟩
  by_cases h0 : e = 0 <;> simp [h0]

set_option maxHeartbeats 400000 in
theorem get_end (l : List UInt8) (A : Option Addr) (c : Nat) (p : Nat) (w : World) (hc : l.length ≤ c) (hm : c ≤ maxLen) (h : p = l.length) :
    Calls Try.prog 29 #[.slice A l.length c, .int .i64 p] w fun e w' => e = .returned (.tuple #[.int .u64 (getN l p), .int .i64 (getTo l p), .int .i64 (getE l p)]) ∧ w = w' := by
  unfold maxLen at hm
  have F := fin (l := l) (p := p) (n := 0) (c := 0) (e := 5) (by omega) (by rw [List.drop_eq_nil_of_le (by omega)]; rfl)
  have HF := Lib.hid F
  clear F
  generalize hn : l.length = n at *
  subst h
  have HN := Lib.hid hn
  clear hn
  go_enter Try.func29, Try.ntmps29
  go_wp2
  all_goals
    refine wp_loop_rounds 1 ?_
    rw [rounds_succ]
    go_wp2
    go_ret3
    obtain ⟨f1, f2, f3⟩ := HF.out
    exact ⟨ret3 f1.symm f2.symm f3.symm, rfl⟩

def Rel (l' : List UInt8) (m : Nat) (x i : Value) : Prop := ∃ k acc : Nat, k ≤ m ∧ k ≤ 9 ∧ acc < 128 ^ k ∧ i = .int .i64 k ∧ x = .int .u64 acc ∧ Hid (dec 0 0 l' = dec k acc (l'.drop k))

set_option maxHeartbeats 400000 in
set_option maxRecDepth 100000 in
theorem get_in (l : List UInt8) (b off : Nat) (c : Nat) (p : Nat) (w : World) (hcell : ∀ j u, (l.map B8)[j]? = some u → w.cell? ⟨b, off + j, none⟩ = some u) (hc : l.length ≤ c) (hm : c ≤ maxLen) (h : p < l.length) :
    Calls Try.prog 29 #[.slice (some ⟨b, off, none⟩) l.length c, .int .i64 p] w fun e w' => e = .returned (.tuple #[.int .u64 (getN l p), .int .i64 (getTo l p), .int .i64 (getE l p)]) ∧ w = w' := by
  unfold maxLen at hm
  have hcp : ¬ c = p := by omega
  have HL := Lib.hid (List.length_drop (i := p) (l := l))
  have HC : Hid (∀ k, ∀ h : k < (l.drop p).length, w.cell? ⟨b, off + p + k, none⟩ = some (.int .u8 (((l.drop p)[k].toNat : Nat) : Int))) := fun k hk => by
    have := hcell (p + k) (B8 (l.drop p)[k]) (by simp only [List.getElem?_map, List.getElem_drop]; rw [List.getElem?_eq_getElem (by simp at hk; omega)]; rfl)
    rw [Nat.add_assoc]
    exact this
  have HF := fun n c e => Lib.hid (fin (l := l) (p := p) (n := n) (c := c) (e := e) (by omega))
  clear hcell
  generalize hl' : l.drop p = l' at *
  clear hl'
  have hb1 : decide ((p : Int) < 0) = false := by simp
  have hb2 : decide (l.length < p) = false := by simp; omega
  go_enter Try.func29, Try.ntmps29
  go_wp2
  go_loop [7, 22] (fun x i => Rel l' (l.length - p) x i) (fun _ i => l.length - p - (intOf i).toNat)
  case atStart => exact ⟨0, 0, by omega, by omega, by decide, rfl, rfl, rfl⟩
  case round =>
    obtain ⟨k, acc, hk, hk9, hacc, rfl, rfl, hd⟩ := hrel
    by_cases hlt : k < l.length - p
    · have hlt' : k < l'.length := by rw [HL.out]; exact hlt
      have hcell := HC.out k hlt'
      have hx := l'[k].toNat_lt
      have d10 := dec_ten (acc := acc) hlt'
      have dm := dec_more (acc := acc) hlt'
      have dz := dec_zero (acc := acc) hlt'
      have dl := dec_last (acc := acc) hlt'
      generalize l'[k].toNat = x at *
      have D10 := Lib.hid d10
      have DM := Lib.hid dm
      have DZ := Lib.hid dz
      have DL := Lib.hid dl
      have HA := Lib.hid hacc
      clear d10 dm dz dl hacc HL HC
      go_wp2
      · go_ret3
        obtain ⟨f1, f2, f3⟩ := (HF 0 0 6).out (hd.out.trans (D10.out (by omega) (by omega)))
        exact ⟨ret3 f1.symm f2.symm f3.symm, rfl⟩
      · go_ret3
        obtain ⟨f1, f2, f3⟩ := (HF 0 0 6).out (hd.out.trans (DZ.out (by omega) (by omega)))
        exact ⟨ret3 f1.symm f2.symm f3.symm, rfl⟩
      · go_ret3
        have sv := step_val k acc x 9223372036854775808 (by rw [show k = 9 by omega]; decide) hk9 HA.out (by omega) (by omega)
        obtain ⟨f1, f2, f3⟩ := (HF _ _ 0).out (hd.out.trans (DL.out (by omega) (by omega) (by omega)))
        rw [show x % 128 = x by omega] at sv
        exact ⟨ret3 (sv.trans f1.symm) (by rw [f2]; simp; omega) f3.symm, rfl⟩
      · have sv := step_val k acc x (2 ^ (7 * k)) rfl hk9 HA.out (by omega) (by omega)
        have hs := (or_shl k acc (x % 128) hk9 HA.out (by omega) (by omega)).2.2 (by omega)
        have hd' := hd.out.trans (DM.out (by omega) (by omega))
        have SV := Lib.hid sv
        have HS := Lib.hid hs
        have HD := Lib.hid hd'
        clear sv hs hd' HF D10 DM DZ DL
        go_round
        case rel => exact ⟨k + 1, acc + x % 128 * 128 ^ k, by omega, by omega, HS.out, by go_num, by rw [SV.out], HD⟩
        case measure => simp [intOf]; omega
      · go_ret3
        obtain ⟨f1, f2, f3⟩ := (HF 0 0 6).out (hd.out.trans (DZ.out (by omega) (by omega)))
        exact ⟨ret3 f1.symm f2.symm f3.symm, rfl⟩
      · go_ret3
        have sv := step_val k acc 0 (2 ^ (7 * k)) rfl hk9 HA.out (by omega) (by omega)
        obtain ⟨f1, f2, f3⟩ := (HF _ _ 0).out (hd.out.trans (DL.out (by omega) (by omega) (by omega)))
        obtain rfl : x = 0 := by assumption
        exact ⟨ret3 (sv.trans f1.symm) (by rw [f2]; simp; omega) f3.symm, rfl⟩
      · go_ret3
        have sv := step_val k acc x (2 ^ (7 * k)) rfl hk9 HA.out (by omega) (by omega)
        obtain ⟨f1, f2, f3⟩ := (HF _ _ 0).out (hd.out.trans (DL.out (by omega) (by omega) (by omega)))
        rw [show x % 128 = x by omega] at sv
        exact ⟨ret3 (sv.trans f1.symm) (by rw [f2]; simp; omega) f3.symm, rfl⟩
    · go_wp2
      go_ret3
      have hk' : k = l.length - p := by omega
      obtain ⟨f1, f2, f3⟩ := (HF 0 0 5).out (hd.out.trans (dec_end (by rw [HL.out]; omega)))
      exact ⟨ret3 f1.symm f2.symm f3.symm, rfl⟩

/-- varint.Get, at every place. -/
theorem get_any (l : List UInt8) (A : Option Addr) (c : Nat) (at_ : Int) (w : World) (B : Nat) (hr : Rd w B A (l.map B8)) (hc : l.length ≤ c) (hm : c ≤ maxLen) :
    Calls Try.prog 29 #[.slice A l.length c, .int .i64 at_] w fun e w' => e = .returned (.tuple #[.int .u64 (getN l at_), .int .i64 (getTo l at_), .int .i64 (getE l at_)]) ∧ w = w' := by
  by_cases h1 : at_ < 0
  · exact get_low l A c at_ w h1
  by_cases h2 : (l.length : Int) < at_
  · exact get_high l A c at_ w h2
  obtain ⟨p, rfl⟩ := Int.eq_ofNat_of_zero_le (Int.not_lt.1 h1)
  by_cases h3 : p = l.length
  · exact get_end l A c p w hc hm h3
  obtain ⟨b, off, rfl, _, hcell⟩ := hr (by simp; omega)
  exact get_in l b off c p w hcell hc hm (by omega)

/-- The same, the slice's length a letter. -/
theorem get_len (l : List UInt8) (A : Option Addr) (n c : Nat) (at_ : Int) (w : World) (B : Nat) (hn : n = l.length) (hr : Rd w B A (l.map B8)) (hc : n ≤ c) (hm : c ≤ maxLen) :
    Calls Try.prog 29 #[.slice A n c, .int .i64 at_] w fun e w' => e = .returned (.tuple #[.int .u64 (getN l at_), .int .i64 (getTo l at_), .int .i64 (getE l at_)]) ∧ w = w' := by
  subst hn
  exact get_any l A c at_ w B hr hc hm

end Go.Proofs.Ytfojpbbmicmooaa.Get
