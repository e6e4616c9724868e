/- The contract of lz.findEcho: how many bytes stood ahead and the echo that lays them, as 'CompSpec.echo' says, in new memory; nothing that was there has changed. Conditions: as for the map; the place lies within the bytes. -/
import Derived.Test.YtifndcjjlhjgiaaMap
import Derived.Deep.QuietTactic
import Derived.BigQuiet
import Derived.IntWalk
namespace Go.Proofs.Ytifndcjjlhjgiaa.Find
open Go Go.RowKit Words Plain Put Own CompSpec Map

theorem encs_two (x y : UInt64) : encs [x, y] = Lib.uvarint x.toNat ++ Lib.uvarint y.toNat := by simp [encs]
theorem u64_cast (n : Nat) (h : n < 18446744073709551616) : (n.toUInt64).toNat = n := by simp; omega
/-- varint.Put of numbers that are written out. -/
def PutPost (w : World) (H : List UInt8) (e : Ending) (w' : World) : Prop := ∃ v, e = .returned v ∧ w'.ownsRow w.heap.size 5 1 v H.length (H.map B8) ∧ Below w.heap.size w w'
theorem put_one (n : Nat) (w : World) (hn : n < 18446744073709551616) : Calls Try.prog 12 #[.slice (some ⟨w.heap.size, 0, none⟩) 1 1] (w.alloc (.cells #[.int .u64 (n : Int)] 33)) (PutPost w (Lib.uvarint n)) := by
  have h1 := Rd.made' w #[.int .u64 (n : Int)] 33
  have h2 : [n.toUInt64].map B64 = (#[Value.int .u64 (n : Int)] : Array Value).toList := by
    simp only [List.map_cons, List.map_nil, B64]
    rw [u64_cast _ hn]
  rw [← h2] at h1
  refine (put_any [n.toUInt64] _ 1 _ h1 (by simp)).mono ?_
  rintro e w' ⟨v, he, ho, hb⟩
  rw [encs_one, u64_cast _ hn] at ho
  exact ⟨v, he, own_mono ho (by simp), ((Below.refl _ _).alloc (Nat.le_refl _) _).trans (hb.mono (by simp))⟩
theorem put_two (n x : Nat) (w : World) (hn : n < 18446744073709551616) (hx : x < 18446744073709551616) : Calls Try.prog 12 #[.slice (some ⟨w.heap.size, 0, none⟩) 2 2] (w.alloc (.cells #[.int .u64 (n : Int), .int .u64 (x : Int)] 33)) (PutPost w (Lib.uvarint n ++ Lib.uvarint x)) := by
  have h1 := Rd.made' w #[.int .u64 (n : Int), .int .u64 (x : Int)] 33
  have h2 : [n.toUInt64, x.toUInt64].map B64 = (#[Value.int .u64 (n : Int), .int .u64 (x : Int)] : Array Value).toList := by
    simp only [List.map_cons, List.map_nil, B64]
    rw [u64_cast _ hn, u64_cast _ hx]
  rw [← h2] at h1
  refine (put_any [n.toUInt64, x.toUInt64] _ 2 _ h1 (by simp)).mono ?_
  rintro e w' ⟨v, he, ho, hb⟩
  rw [encs_two, u64_cast _ hn, u64_cast _ hx] at ho
  exact ⟨v, he, own_mono ho (by simp), ((Below.refl _ _).alloc (Nat.le_refl _) _).trans (hb.mono (by simp))⟩

/-- What findEcho answers. -/
def FPost (w : World) (r : Nat × List UInt8) (e : Ending) (w' : World) : Prop :=
  ∃ v, e = .returned (.tuple #[.int .i64 (r.1 : Int), v]) ∧ w'.ownsRow w.heap.size 5 1 v r.2.length (r.2.map B8) ∧ Below w.heap.size w w'

/-- The loop: n bytes are the same. -/
def RelF (b : List UInt8) (f a N : Nat) (w : World) (x : Value) (wr : World) : Prop := ∃ n nq : Nat, 4 ≤ n ∧ a + n ≤ b.length ∧ x = .int .i64 (n : Int) ∧ Hid (ext b f a (b.length - (a + n)) n = N) ∧ wr = w.drewN nq


set_option maxHeartbeats 800000 in
theorem echo_no (b : List UInt8) (A : Option Addr) (c : Nat) (a : Nat) (w : World) (M : Nat) (B : Nat) (hr : Rd w B A (b.map B8)) (hc : b.length ≤ c) (hbl : b.length ≤ 65536) (hM : MapOk w M b a) (hab : a ≤ b.length) (h : findAt b a = none) :
    Calls Try.prog 19 #[.slice A b.length c, .int .i64 (a : Int), .map (some M)] w (FPost w (CompSpec.echo b a)) := by
  have hf := find_any b A c a w M B hr hc hbl hM hab
  rw [h] at hf
  have HF := Lib.hid hf
  rw [echo_none h]
  clear hf h hr hc hbl hM hab
  go_enter Try.func19, Try.ntmps19
  go_wp2_with fail
  refine HF.out.mono ?_
  rintro e w1 ⟨rfl, rfl⟩
  go_wp2
  go_ret2
  exact ⟨_, rfl, World.ownsRow_nil _ _ _ _, Below.refl _ _⟩

set_option maxHeartbeats 1600000 in
set_option maxRecDepth 100000 in
theorem echo_yes (b : List UInt8) (A : Option Addr) (c : Nat) (a : Nat) (w : World) (M : Nat) (B : Nat) (hr : Rd w B A (b.map B8)) (hc : b.length ≤ c) (hbl : b.length ≤ 65536) (hM : MapOk w M b a) (hab : a ≤ b.length) {f : Nat} (h : findAt b a = some f) :
    Calls Try.prog 19 #[.slice A b.length c, .int .i64 (a : Int), .map (some M)] w (FPost w (CompSpec.echo b a)) := by
  have hf := find_any b A c a w M B hr hc hbl hM hab
  rw [h] at hf
  have HF := Lib.hid hf
  have h1 := findAt_some h
  rw [echo_some h]
  obtain ⟨N, hN⟩ : ∃ N, ext b f a (b.length - (a + 4)) 4 = N := ⟨_, rfl⟩
  rw [hN]
  have hN1 := (ext_le (b := b) (f := f) (a := a) (b.length - (a + 4)) 4)
  rw [hN] at hN1
  have hN2 := hN1.2 h1.2.1
  have HN := Lib.hid hN
  obtain ⟨g, off, rfl, hg, hcell⟩ := hr (by simp; omega)
  have HC := Lib.hid hcell
  have hfa : f < a := h1.1
  have ha4 : a + 4 ≤ b.length := h1.2.1
  have HP := fun w' => Lib.hid (put_two (2 * N + 1) (a - f) w' (by omega) (by omega))
  have e1 : ((2 * N + 1 : Nat) : Int) = (N : Int) * 2 + 1 := by omega
  have e2 : ((a - f : Nat) : Int) = (a : Int) - (f : Int) := by omega
  rw [e1, e2] at HP
  clear hf h h1 hr hM hN hN1 hcell e1 e2
  go_enter Try.func19, Try.ntmps19
  go_wp2_with fail
  refine HF.out.mono ?_
  rintro e w1 ⟨rfl, rfl⟩
  go_wp2
  go_loopw [10] (fun x wr => RelF b f a N w x wr) (fun x _ => b.length - (intOf x).toNat)
  case atStart => exact ⟨4, 0, by omega, ha4, rfl, HN, rfl⟩
  case round =>
    obtain ⟨n, nq, hn4, hnl, rfl, he, rfl⟩ := hrel
    by_cases hlt : a + n < b.length
    · have hcell := HC.out
      have k1 : w.cell? ⟨g, off + (a + n), none⟩ = some (.int .u8 (((b[a + n]'hlt).toNat : Nat) : Int)) := cell8 hcell hlt
      have k2 : w.cell? ⟨g, off + (f + n), none⟩ = some (.int .u8 (((b[f + n]'(by omega)).toNat : Nat) : Int)) := cell8 hcell (by omega)
      have g1 : b.getD (a + n) 0 = b[a + n]'hlt := by simp [List.getD, List.getElem?_eq_getElem hlt]
      have g2 : b.getD (f + n) 0 = b[f + n]'(by omega) := by simp [List.getD, List.getElem?_eq_getElem (show f + n < b.length by omega)]
      obtain ⟨m, hm⟩ : ∃ m, b.length - (a + n) = m + 1 := ⟨b.length - (a + n) - 1, by omega⟩
      have he2 := he.out
      rw [hm, ext, g1, g2] at he2
      have hmm : b.length - (a + (n + 1)) = m := by omega
      clear hcell g1 g2 he hm
      generalize b[a + n]'hlt = Y at *
      generalize b[f + n]'(by omega) = X at *
      have s1 : IntKind.i64.wrap ((a : Int) + (n : Int)) = (a : Int) + (n : Int) := IntWalk.i64_in _ (by omega)
      have s2 : IntKind.i64.wrap ((f : Int) + (n : Int)) = (f : Int) + (n : Int) := IntWalk.i64_in _ (by omega)
      have t1 : 0 ≤ (a : Int) + (n : Int) := by omega
      have t2 : (a : Int) + (n : Int) < (b.length : Int) := by omega
      have t3 : 0 ≤ (f : Int) + (n : Int) := by omega
      have t4 : (f : Int) + (n : Int) < (b.length : Int) := by omega
      have hd : decide ((a : Int) + (n : Int) < (b.length : Int)) = true := by simp; omega
      have hd2 : decide (a + n < b.length) = true := by simp; omega
      have hn6 : n + 1 ≤ 65536 := by omega
      by_cases hxy : X = Y
      · have HE : Hid (ext b f a (b.length - (a + (n + 1))) (n + 1) = N) := by
          refine Lib.hid ?_
          rw [if_pos ⟨hlt, hxy⟩] at he2
          rw [hmm]
          exact he2
        have hq : (((X.toNat : Nat) : Int) == ((Y.toNat : Nat) : Int)) = true := by rw [hxy]; simp
        clear he2 hmm hxy
        have n1 : ((a : Int) + (n : Int)).toNat = a + n := by omega
        have n2 : ((f : Int) + (n : Int)).toNat = f + n := by omega
        go_wp2
        go_quiet (fail)
        clear n1 n2 s1 s2
        go_wp2
        go_roundw
        case rel => exact ⟨n + 1, _, by omega, by omega, by go_num, HE, rfl⟩
        case measure => simp [intOf]; omega
      · have hnN : n = N := by
          rw [if_neg (fun h => hxy h.2)] at he2
          exact he2
        subst hnN
        have hq : (((X.toNat : Nat) : Int) == ((Y.toNat : Nat) : Int)) = false := beq_eq_false_iff_ne.2 (fun h => hxy (UInt8.toNat_inj.1 (by omega)))
        clear he2 hmm hxy
        have n1 : ((a : Int) + (n : Int)).toNat = a + n := by omega
        have n2 : ((f : Int) + (n : Int)).toNat = f + n := by omega
        go_wp2
        go_quiet (fail)
        clear n1 n2 s1 s2
        go_wp2_with fail
        refine (HP _).out.mono ?_
        rintro e w2 ⟨v2, rfl, hown2, hb2⟩
        have HO2 : Hid (w2.ownsRow w.heap.size 5 1 v2 _ _) := Lib.hid hown2
        have HB2 := Lib.hid ((below_drewN w _).trans hb2)
        clear hown2 hb2
        go_wp2
        go_ret2
        exact ⟨v2, rfl, HO2.out, HB2.out⟩
    · have hnN : n = N := by
        have he2 := he.out
        rw [show b.length - (a + n) = 0 by omega] at he2
        exact he2
      subst hnN
      have hd : decide ((a : Int) + (n : Int) < (b.length : Int)) = false := by simp; omega
      have hd2 : decide (a + n < b.length) = false := by simp; omega
      have hn6 : n ≤ 65536 := by omega
      have s1 : IntKind.i64.wrap ((a : Int) + (n : Int)) = (a : Int) + (n : Int) := IntWalk.i64_in _ (by omega)
      clear he
      go_wp2
      go_quiet (fail)
      clear s1
      go_wp2_with fail
      refine (HP _).out.mono ?_
      rintro e w2 ⟨v2, rfl, hown2, hb2⟩
      have HO2 : Hid (w2.ownsRow w.heap.size 5 1 v2 _ _) := Lib.hid hown2
      have HB2 := Lib.hid ((below_drewN w _).trans hb2)
      clear hown2 hb2
      go_wp2
      go_ret2
      exact ⟨v2, rfl, HO2.out, HB2.out⟩
/-- lz.findEcho. -/
theorem findEcho_any (b : List UInt8) (A : Option Addr) (c : Nat) (a : Nat) (w : World) (M : Nat) (B : Nat) (hr : Rd w B A (b.map B8)) (hc : b.length ≤ c) (hbl : b.length ≤ 65536) (hM : MapOk w M b a) (hab : a ≤ b.length) : Calls Try.prog 19 #[.slice A b.length c, .int .i64 (a : Int), .map (some M)] w (FPost w (CompSpec.echo b a)) := by
  cases h : findAt b a with
  | none => exact echo_no b A c a w M B hr hc hbl hM hab h
  | some f => exact echo_yes b A c a w M B hr hc hbl hM hab h
end Go.Proofs.Ytifndcjjlhjgiaa.Find
