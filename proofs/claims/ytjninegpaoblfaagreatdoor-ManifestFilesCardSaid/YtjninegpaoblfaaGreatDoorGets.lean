/- The contract of varint.Get: for all bytes and every place it answers the number, the place behind it and the error that 'Plain.getN', 'getTo', 'getE' say, and leaves the world as it is. Conditions: the slice's length is at most its capacity, the capacity at most the model's greatest length. · The contract of the document's own Get: for all bytes and every place it answers as 'Plain.getN', 'getTo', 'getE' say, and leaves the world as it is. Conditions: the slice's length is at most its capacity, the capacity at most the model's greatest length. -/
import Derived.Test.YtjninegpaoblfaaGreatDoorRows
import Derived.Test.YtjninegpaoblfaaGreatDoorWords
import Derived.Test.YtjninegpaoblfaaGreatDoorPlain
import Derived.WalkKit
import Derived.LoopTactic
import Derived.Lib.Hide
import Derived.Outline
namespace Go.Proofs.YtjninegpaoblfaaGreatDoor.Get
open Go Go.RowKit Words Plain

theorem ret3 {n m : Int} {a b c d : Int} (h1 : n = m) (h2 : a = b) (h3 : c = d) : Ending.returned (.tuple #[.int .u64 n, .int .i64 a, .int .i64 c]) = .returned (.tuple #[.int .u64 m, .int .i64 b, .int .i64 d]) := by rw [h1, h2, h3]

set_option maxHeartbeats 400000 in
theorem get_low (l : List UInt8) (A : Option Addr) (c : Nat) (at_ : Int) (w : World) (h : at_ < 0) :
    Calls Tryz.prog 71 #[.slice A l.length c, .int .i64 at_] w fun e w' => e = .returned (.tuple #[.int .u64 (getN l at_), .int .i64 (getTo l at_), .int .i64 (getE l at_)]) ∧ w = w' := by
  go_enter Tryz.func71, Tryz.ntmps71
  go_wp2
  go_ret3
  exact ⟨by simp [getN, getTo, getE, h], rfl⟩

set_option maxHeartbeats 400000 in
theorem get_high (l : List UInt8) (A : Option Addr) (c : Nat) (at_ : Int) (w : World) (h : (l.length : Int) < at_) :
    Calls Tryz.prog 71 #[.slice A l.length c, .int .i64 at_] w fun e w' => e = .returned (.tuple #[.int .u64 (getN l at_), .int .i64 (getTo l at_), .int .i64 (getE l at_)]) ∧ w = w' := by
  have h0 : 0 ≤ at_ := by omega
  go_enter Tryz.func71, Tryz.ntmps71
  go_wp2
  go_ret3
  exact ⟨by simp [getN, getTo, getE, h], rfl⟩

theorem fin {l : List UInt8} {p n c e : Nat} (h : p ≤ l.length) (hd : dec 0 0 (l.drop p) = (n, c, e)) : getN l p = n ∧ getTo l p = (if e = 0 then (p : Int) + c else 0) ∧ getE l p = e := by
  have h' : ¬ ((p : Int) < 0 ∨ (l.length : Int) < p) := by omega
  unfold getN getTo getE
  rw [if_neg h', if_neg h', if_neg h', Int.toNat_natCast, hd]
  refine ⟨rfl, ?_, rfl⟩
  by_cases h0 : e = 0 <;> simp [h0]

set_option maxHeartbeats 400000 in
theorem get_end (l : List UInt8) (A : Option Addr) (c : Nat) (p : Nat) (w : World) (hc : l.length ≤ c) (_hm : c ≤ maxLen) (h : p = l.length) :
    Calls Tryz.prog 71 #[.slice A l.length c, .int .i64 p] w fun e w' => e = .returned (.tuple #[.int .u64 (getN l p), .int .i64 (getTo l p), .int .i64 (getE l p)]) ∧ w = w' := by
  unfold maxLen at _hm
  have F := fin (l := l) (p := p) (n := 0) (c := 0) (e := 5) (by omega) (by rw [List.drop_eq_nil_of_le (by omega)]; rfl)
  have HF := Lib.hid F
  clear F
  generalize hn : l.length = n at *
  subst h
  have HN := Lib.hid hn
  clear hn
  go_enter Tryz.func71, Tryz.ntmps71
  go_wp2
  all_goals
    refine wp_loop_rounds 1 ?_
    rw [rounds_succ]
    go_wp2
    go_ret3
    obtain ⟨f1, f2, f3⟩ := HF.out
    exact ⟨ret3 f1.symm f2.symm f3.symm, rfl⟩

def Rel (l' : List UInt8) (m : Nat) (x i : Value) : Prop := ∃ k acc : Nat, k ≤ m ∧ k ≤ 9 ∧ acc < 128 ^ k ∧ i = .int .i64 k ∧ x = .int .u64 acc ∧ Hid (dec 0 0 l' = dec k acc (l'.drop k))

set_option maxHeartbeats 400000 in
set_option maxRecDepth 100000 in
theorem get_in (l : List UInt8) (b off : Nat) (c : Nat) (p : Nat) (w : World) (hcell : ∀ j u, (l.map B8)[j]? = some u → w.cell? ⟨b, off + j, none⟩ = some u) (hc : l.length ≤ c) (hm : c ≤ maxLen) (h : p < l.length) :
    Calls Tryz.prog 71 #[.slice (some ⟨b, off, none⟩) l.length c, .int .i64 p] w fun e w' => e = .returned (.tuple #[.int .u64 (getN l p), .int .i64 (getTo l p), .int .i64 (getE l p)]) ∧ w = w' := by
  unfold maxLen at hm
  have hcp : ¬ c = p := by omega
  have HL := Lib.hid (List.length_drop (i := p) (l := l))
  have HC : Hid (∀ k, ∀ h : k < (l.drop p).length, w.cell? ⟨b, off + p + k, none⟩ = some (.int .u8 (((l.drop p)[k].toNat : Nat) : Int))) := fun k hk => by
    have := hcell (p + k) (B8 (l.drop p)[k]) (by simp only [List.getElem?_map, List.getElem_drop]; rw [List.getElem?_eq_getElem (by simp at hk; omega)]; rfl)
    rw [Nat.add_assoc]
    exact this
  have HF := fun n c e => Lib.hid (fin (l := l) (p := p) (n := n) (c := c) (e := e) (by omega))
  clear hcell
  generalize hl' : l.drop p = l' at *
  clear hl'
  have hb1 : decide ((p : Int) < 0) = false := by simp
  have hb2 : decide (l.length < p) = false := by simp; omega
  go_enter Tryz.func71, Tryz.ntmps71
  go_wp2
  go_loop [7, 22] (fun x i => Rel l' (l.length - p) x i) (fun _ i => l.length - p - (intOf i).toNat)
  case atStart => exact ⟨0, 0, by omega, by omega, by decide, rfl, rfl, rfl⟩
  case round =>
    obtain ⟨k, acc, hk, hk9, hacc, rfl, rfl, hd⟩ := hrel
    by_cases hlt : k < l.length - p
    · have hlt' : k < l'.length := by rw [HL.out]; exact hlt
      have hcell := HC.out k hlt'
      have hx := l'[k].toNat_lt
      have d10 := dec_ten (acc := acc) hlt'
      have dm := dec_more (acc := acc) hlt'
      have dz := dec_zero (acc := acc) hlt'
      have dl := dec_last (acc := acc) hlt'
      generalize l'[k].toNat = x at *
      have D10 := Lib.hid d10
      have DM := Lib.hid dm
      have DZ := Lib.hid dz
      have DL := Lib.hid dl
      have HA := Lib.hid hacc
      clear d10 dm dz dl hacc HL HC
      go_wp2
      · go_ret3
        obtain ⟨f1, f2, f3⟩ := (HF 0 0 6).out (hd.out.trans (D10.out (by omega) (by omega)))
        exact ⟨ret3 f1.symm f2.symm f3.symm, rfl⟩
      · go_ret3
        obtain ⟨f1, f2, f3⟩ := (HF 0 0 6).out (hd.out.trans (DZ.out (by omega) (by omega)))
        exact ⟨ret3 f1.symm f2.symm f3.symm, rfl⟩
      · go_ret3
        have sv := step_val k acc x 9223372036854775808 (by rw [show k = 9 by omega]; decide) hk9 HA.out (by omega) (by omega)
        obtain ⟨f1, f2, f3⟩ := (HF _ _ 0).out (hd.out.trans (DL.out (by omega) (by omega) (by omega)))
        rw [show x % 128 = x by omega] at sv
        exact ⟨ret3 (sv.trans f1.symm) (by rw [f2]; simp; omega) f3.symm, rfl⟩
      · have sv := step_val k acc x (2 ^ (7 * k)) rfl hk9 HA.out (by omega) (by omega)
        have hs := (or_shl k acc (x % 128) hk9 HA.out (by omega) (by omega)).2.2 (by omega)
        have hd' := hd.out.trans (DM.out (by omega) (by omega))
        have SV := Lib.hid sv
        have HS := Lib.hid hs
        have HD := Lib.hid hd'
        clear sv hs hd' HF D10 DM DZ DL
        go_round
        case rel => exact ⟨k + 1, acc + x % 128 * 128 ^ k, by omega, by omega, HS.out, by go_num, by rw [SV.out], HD⟩
        case measure => simp [intOf]; omega
      · go_ret3
        obtain ⟨f1, f2, f3⟩ := (HF 0 0 6).out (hd.out.trans (DZ.out (by omega) (by omega)))
        exact ⟨ret3 f1.symm f2.symm f3.symm, rfl⟩
      · go_ret3
        have sv := step_val k acc 0 (2 ^ (7 * k)) rfl hk9 HA.out (by omega) (by omega)
        obtain ⟨f1, f2, f3⟩ := (HF _ _ 0).out (hd.out.trans (DL.out (by omega) (by omega) (by omega)))
        obtain rfl : x = 0 := by assumption
        exact ⟨ret3 (sv.trans f1.symm) (by rw [f2]; simp; omega) f3.symm, rfl⟩
      · go_ret3
        have sv := step_val k acc x (2 ^ (7 * k)) rfl hk9 HA.out (by omega) (by omega)
        obtain ⟨f1, f2, f3⟩ := (HF _ _ 0).out (hd.out.trans (DL.out (by omega) (by omega) (by omega)))
        rw [show x % 128 = x by omega] at sv
        exact ⟨ret3 (sv.trans f1.symm) (by rw [f2]; simp; omega) f3.symm, rfl⟩
    · go_wp2
      go_ret3
      have hk' : k = l.length - p := by omega
      obtain ⟨f1, f2, f3⟩ := (HF 0 0 5).out (hd.out.trans (dec_end (by rw [HL.out]; omega)))
      exact ⟨ret3 f1.symm f2.symm f3.symm, rfl⟩

/-- varint.Get, at every place. -/
theorem get_any (l : List UInt8) (A : Option Addr) (c : Nat) (at_ : Int) (w : World) (B : Nat) (hr : Rd w B A (l.map B8)) (hc : l.length ≤ c) (hm : c ≤ maxLen) :
    Calls Tryz.prog 71 #[.slice A l.length c, .int .i64 at_] w fun e w' => e = .returned (.tuple #[.int .u64 (getN l at_), .int .i64 (getTo l at_), .int .i64 (getE l at_)]) ∧ w = w' := by
  by_cases h1 : at_ < 0
  · exact get_low l A c at_ w h1
  by_cases h2 : (l.length : Int) < at_
  · exact get_high l A c at_ w h2
  obtain ⟨p, rfl⟩ := Int.eq_ofNat_of_zero_le (Int.not_lt.1 h1)
  by_cases h3 : p = l.length
  · exact get_end l A c p w hc hm h3
  obtain ⟨b, off, rfl, _, hcell⟩ := hr (by simp; omega)
  exact get_in l b off c p w hcell hc hm (by omega)

/-- The same, the slice's length a letter. -/
theorem get_len (l : List UInt8) (A : Option Addr) (n c : Nat) (at_ : Int) (w : World) (B : Nat) (hn : n = l.length) (hr : Rd w B A (l.map B8)) (hc : n ≤ c) (hm : c ≤ maxLen) :
    Calls Tryz.prog 71 #[.slice A n c, .int .i64 at_] w fun e w' => e = .returned (.tuple #[.int .u64 (getN l at_), .int .i64 (getTo l at_), .int .i64 (getE l at_)]) ∧ w = w' := by
  subst hn
  exact get_any l A c at_ w B hr hc hm

end Go.Proofs.YtjninegpaoblfaaGreatDoor.Get

namespace Go.Proofs.YtjninegpaoblfaaGreatDoor.RefGet
open Go Go.RowKit Words Plain Get

set_option maxHeartbeats 400000 in
theorem ref_low (l : List UInt8) (A : Option Addr) (c : Nat) (at_ : Int) (w : World) (h : at_ < 0) :
    Calls Tryz.prog 62 #[.slice A l.length c, .int .i64 at_] w fun e w' => e = .returned (.tuple #[.int .u64 (getN l at_), .int .i64 (getTo l at_), .int .i64 (getE l at_)]) ∧ w = w' := by
  go_enter Tryz.func62, Tryz.ntmps62
  go_wp2
  go_ret3
  exact ⟨by simp [getN, getTo, getE, h], rfl⟩

set_option maxHeartbeats 400000 in
theorem ref_high (l : List UInt8) (A : Option Addr) (c : Nat) (at_ : Int) (w : World) (h : (l.length : Int) < at_) :
    Calls Tryz.prog 62 #[.slice A l.length c, .int .i64 at_] w fun e w' => e = .returned (.tuple #[.int .u64 (getN l at_), .int .i64 (getTo l at_), .int .i64 (getE l at_)]) ∧ w = w' := by
  have h0 : 0 ≤ at_ := by omega
  go_enter Tryz.func62, Tryz.ntmps62
  go_wp2
  go_ret3
  exact ⟨by simp [getN, getTo, getE, h], rfl⟩

def Rel3 (l' : List UInt8) (m : Nat) (x u i : Value) : Prop := ∃ k acc : Nat, k ≤ m ∧ k ≤ 9 ∧ acc < 128 ^ k ∧ i = .int .i64 k ∧ x = .int .u64 acc ∧ u = .int .u64 ((128 ^ k : Nat) : Int) ∧ Hid (dec 0 0 l' = dec k acc (l'.drop k))

theorem pow_bound (k : Nat) (h : k ≤ 9) : 128 ^ k ≤ 9223372036854775808 := by
  have : 128 ^ k ≤ 128 ^ 9 := Nat.pow_le_pow_right (by omega) h
  simpa using this

set_option maxHeartbeats 800000 in
set_option maxRecDepth 100000 in
theorem ref_in (l : List UInt8) (A : Option Addr) (c : Nat) (p : Nat) (w : World) (B : Nat) (hr : Rd w B A (l.map B8)) (hc : l.length ≤ c) (hm : c ≤ maxLen) (h : p ≤ l.length) :
    Calls Tryz.prog 62 #[.slice A l.length c, .int .i64 p] w fun e w' => e = .returned (.tuple #[.int .u64 (getN l p), .int .i64 (getTo l p), .int .i64 (getE l p)]) ∧ w = w' := by
  unfold maxLen at hm
  have HL := Lib.hid (List.length_drop (i := p) (l := l))
  have HC : Hid (∀ k, ∀ h : k < (l.drop p).length, ∃ b off, A = some ⟨b, off, none⟩ ∧ w.cell? ⟨b, off + (p + k), none⟩ = some (.int .u8 (((l.drop p)[k].toNat : Nat) : Int))) := fun k hk => by
    rw [List.length_drop] at hk
    obtain ⟨b, off, rfl, _, hcell⟩ := hr (by simp; omega)
    refine ⟨b, off, rfl, ?_⟩
    have := hcell (p + k) (B8 (l.drop p)[k]) (by simp only [List.getElem?_map, List.getElem_drop]; rw [List.getElem?_eq_getElem (by omega)]; rfl)
    exact this
  have HF := fun n c e => Lib.hid (fin (l := l) (p := p) (n := n) (c := c) (e := e) (by omega))
  clear hr
  generalize hl' : l.drop p = l' at *
  clear hl'
  have hb1 : decide ((p : Int) < 0) = false := by simp
  have hb2 : decide (l.length < p) = false := by simp; omega
  go_enter Tryz.func62, Tryz.ntmps62
  go_wp2
  go_loop [7, 8, 9] (fun x u i => Rel3 l' (l.length - p) x u i) (fun _ _ i => l.length - p - (intOf i).toNat)
  case atStart => exact ⟨0, 0, by omega, by omega, by decide, rfl, rfl, rfl, rfl⟩
  case round =>
    obtain ⟨k, acc, hk, hk9, hacc, rfl, rfl, rfl, hd⟩ := hrel
    have hpb := pow_bound k hk9
    by_cases hlt : k < l.length - p
    · have hlt' : k < l'.length := by rw [HL.out]; exact hlt
      obtain ⟨b, off, rfl, hcell⟩ := HC.out k hlt'
      have hx := l'[k].toNat_lt
      have d10 := dec_ten (acc := acc) hlt'
      have dm := dec_more (acc := acc) hlt'
      have dz := dec_zero (acc := acc) hlt'
      have dl := dec_last (acc := acc) hlt'
      generalize l'[k].toNat = x at *
      have D10 := Lib.hid d10
      have DM := Lib.hid dm
      have DZ := Lib.hid dz
      have DL := Lib.hid dl
      have HA := Lib.hid hacc
      have SR := fun h9 => Lib.hid (step_ref k acc x hk9 hacc h9)
      have UR := fun h9 => Lib.hid (unit_ref k h9)
      clear d10 dm dz dl hacc HL HC
      generalize hU : 128 ^ k = U at *
      have HU := Lib.hid hU.symm
      clear hU
      go_wp2
      · go_ret3
        obtain ⟨f1, f2, f3⟩ := (HF 0 0 6).out (hd.out.trans (D10.out (by omega) (by omega)))
        exact ⟨ret3 f1.symm f2.symm f3.symm, rfl⟩
      · go_ret3
        obtain ⟨f1, f2, f3⟩ := (HF 0 0 6).out (hd.out.trans (DZ.out (by omega) (by omega)))
        exact ⟨ret3 f1.symm f2.symm f3.symm, rfl⟩
      · go_ret3
        obtain ⟨f1, f2, f3⟩ := (HF _ _ 0).out (hd.out.trans (DL.out (by omega) (by omega) (by omega)))
        have sv := (SR (by omega)).out
        rw [show x % 128 = x by omega] at sv
        exact ⟨ret3 (sv.trans f1.symm) (by rw [f2]; simp; omega) f3.symm, rfl⟩
      · go_round
        case rel => exact ⟨k + 1, acc + x % 128 * U, by omega, by omega, by rw [HU.out]; exact (or_shl k acc (x % 128) hk9 (by rw [← HU.out]; exact HA.out) (by omega) (by omega)).2.2 (by omega), by go_num, by rw [(SR (by omega)).out], by rw [(UR (by omega)).out], hd.out.trans (DM.out (by omega) (by omega))⟩
        case measure => simp [intOf]; omega
      · go_ret3
        obtain ⟨f1, f2, f3⟩ := (HF 0 0 6).out (hd.out.trans (DZ.out (by omega) (by omega)))
        exact ⟨ret3 f1.symm f2.symm f3.symm, rfl⟩
      · go_ret3
        obtain ⟨f1, f2, f3⟩ := (HF _ _ 0).out (hd.out.trans (DL.out (by omega) (by omega) (by omega)))
        have sv := (SR (by omega)).out
        obtain rfl : x = 0 := by assumption
        rw [show (((0 : Nat) : Int) % 128 * (U : Int)) = 0 by omega, show 0 % 128 = 0 from rfl] at sv
        exact ⟨ret3 (sv.trans f1.symm) (by rw [f2]; simp; omega) f3.symm, rfl⟩
      · go_ret3
        obtain ⟨f1, f2, f3⟩ := (HF _ _ 0).out (hd.out.trans (DL.out (by omega) (by omega) (by omega)))
        have sv := (SR (by omega)).out
        rw [show x % 128 = x by omega] at sv
        exact ⟨ret3 (sv.trans f1.symm) (by rw [f2]; simp; omega) f3.symm, rfl⟩
    · go_wp2
      go_ret3
      have hk' : k = l.length - p := by omega
      obtain ⟨f1, f2, f3⟩ := (HF 0 0 5).out (hd.out.trans (dec_end (by rw [HL.out]; omega)))
      exact ⟨ret3 f1.symm f2.symm f3.symm, rfl⟩
/-- The document's own Get, at every place. -/
theorem ref_any (l : List UInt8) (A : Option Addr) (c : Nat) (at_ : Int) (w : World) (B : Nat) (hr : Rd w B A (l.map B8)) (hc : l.length ≤ c) (hm : c ≤ maxLen) :
    Calls Tryz.prog 62 #[.slice A l.length c, .int .i64 at_] w fun e w' => e = .returned (.tuple #[.int .u64 (getN l at_), .int .i64 (getTo l at_), .int .i64 (getE l at_)]) ∧ w = w' := by
  by_cases h1 : at_ < 0
  · exact ref_low l A c at_ w h1
  by_cases h2 : (l.length : Int) < at_
  · exact ref_high l A c at_ w h2
  obtain ⟨p, rfl⟩ := Int.eq_ofNat_of_zero_le (Int.not_lt.1 h1)
  exact ref_in l A c p w B hr hc hm (by omega)
end Go.Proofs.YtjninegpaoblfaaGreatDoor.RefGet

