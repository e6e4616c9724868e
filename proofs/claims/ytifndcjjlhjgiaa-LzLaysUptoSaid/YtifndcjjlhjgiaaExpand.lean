/- The contract of lz.Expand: for all bytes and every 'most' the error and the bytes that 'LaySpec.exp' says, in memory of the call's own; nothing that was there has changed. Conditions: the slice's length is at most its capacity, the capacity at most the model's greatest length, the length at most 2^47. -/
import Derived.Test.YtifndcjjlhjgiaaPart
namespace Go.Proofs.Ytifndcjjlhjgiaa.Expand
open Go Go.RowKit Words Plain Put Get Own LaySpec Echo Part App

/-- What Expand answers. -/
def XPost (w : World) (r : Nat × List UInt8) (e : Ending) (w' : World) : Prop :=
  ∃ v, e = .returned (.tuple #[v, .int .i64 (r.1 : Int)]) ∧ w'.ownsRow w.heap.size 5 1 v r.2.length (r.2.map B8) ∧ Below w.heap.size w w'
theorem xpost_err {w w' : World} {r : Nat × List UInt8} {err : Nat} {x : Int} (hr : r = (err, [])) (hx : x = (err : Int)) (hb : Below w.heap.size w w') : XPost w r (.returned (.tuple #[.slice none 0 0, .int .i64 x])) w' := by
  subst hr hx
  exact ⟨_, rfl, World.ownsRow_nil _ _ _ _, hb⟩

/-- The loop over the parts. -/
def Rel (b : List UInt8) (size : Nat) (R : Nat × List UInt8) (w : World) (x y v : Value) (wr : World) : Prop := ∃ (at_ : Nat) (l : List UInt8), at_ ≤ b.length ∧ x = .int .i64 (at_ : Int) ∧ y = .int .i64 0 ∧ l.length ≤ size ∧
  Hid (lay size (b.drop at_) l = R) ∧ wr.ownsRow w.heap.size 5 1 v l.length (l.map B8) ∧ Below w.heap.size w wr


set_option maxHeartbeats 800000 in
theorem exp_err (b : List UInt8) (A : Option Addr) (c : Nat) (most : Int) (w : World) (hr : Rd w w.heap.size A (b.map B8)) (hc : b.length ≤ c) (hm : c ≤ maxLen) {p k e : Nat} (hd : dec 0 0 b = (p, k, e)) (he : e ≠ 0) :
    Calls Try.prog 9 #[.slice A b.length c, .int .i64 most] w (XPost w (exp b most)) := by
  have hg := get_any b A c ((0 : Nat) : Int) w w.heap.size hr hc hm
  obtain ⟨f1, f2, f3⟩ := fin (p := 0) (Nat.zero_le _) hd
  rw [f1, f2, f3, if_neg he] at hg
  have HG := Lib.hid hg
  have HX := Lib.hid (show exp b most = (e, []) by unfold exp; rw [hd, if_pos he])
  have h1 : ((e : Int) != 0) = true := by simp; omega
  clear hg f1 f2 f3 hd hr hc hm he
  go_enter Try.func9, Try.ntmps9
  go_wp2_with fail
  refine HG.out.mono ?_
  rintro e w1 ⟨rfl, rfl⟩
  go_wp2
  go_ret2
  exact xpost_err HX.out rfl (Below.refl _ _)

set_option maxHeartbeats 800000 in
theorem exp_long (b : List UInt8) (A : Option Addr) (c : Nat) (most : Int) (w : World) (hr : Rd w w.heap.size A (b.map B8)) (hc : b.length ≤ c) (hm : c ≤ maxLen) {p k : Nat} (hd : dec 0 0 b = (p, k, 0)) (hl : most < (p : Int) ∨ 65536 < p) :
    Calls Try.prog 9 #[.slice A b.length c, .int .i64 most] w (XPost w (exp b most)) := by
  have hg := get_any b A c ((0 : Nat) : Int) w w.heap.size hr hc hm
  obtain ⟨f1, f2, f3⟩ := fin (p := 0) (Nat.zero_le _) hd
  rw [f1, f2, f3, if_pos rfl] at hg
  have HG := Lib.hid hg
  have HX := Lib.hid (show exp b most = (4, []) by unfold exp; rw [hd, if_neg (by simp), if_pos hl])
  clear hg f1 f2 f3 hd hr hc hm
  by_cases hp : 65536 < p
  · have h1 : decide (65536 < (p : Int)) = true := by simp; omega
    clear hl
    go_enter Try.func9, Try.ntmps9
    go_wp2_with fail
    refine HG.out.mono ?_
    rintro e w1 ⟨rfl, rfl⟩
    go_wp2
    go_ret2
    exact xpost_err HX.out rfl (Below.refl _ _)
  · have h1 : decide (65536 < (p : Int)) = false := by simp; omega
    have h2 : decide (most < (p : Int)) = true := by simp; omega
    have hp' : p ≤ 65536 := by omega
    clear hl
    go_enter Try.func9, Try.ntmps9
    go_wp2_with fail
    refine HG.out.mono ?_
    rintro e w1 ⟨rfl, rfl⟩
    go_wp2
    go_ret2
    exact xpost_err HX.out rfl (Below.refl _ _)

set_option maxHeartbeats 1600000 in
set_option maxRecDepth 100000 in
theorem exp_in (b : List UInt8) (A : Option Addr) (c : Nat) (most : Int) (w : World) (hr : Rd w w.heap.size A (b.map B8)) (hc : b.length ≤ c) (hm : c ≤ maxLen) (hbl : b.length ≤ 140737488355327) {p k : Nat} (hd : dec 0 0 b = (p, k, 0)) (hl : ¬ (most < (p : Int) ∨ 65536 < p)) :
    Calls Try.prog 9 #[.slice A b.length c, .int .i64 most] w (XPost w (exp b most)) := by
  obtain ⟨i0, hi, hz0, hz1, hz2⟩ := info_parts info_u8
  have hg := get_any b A c ((0 : Nat) : Int) w w.heap.size hr hc hm
  obtain ⟨f1, f2, f3⟩ := fin (p := 0) (Nat.zero_le _) hd
  rw [f1, f2, f3, if_pos rfl, show (((0 : Nat) : Int) + (k : Int)) = (k : Int) by omega] at hg
  have HG := Lib.hid hg
  have hkt := dec_takes hd
  obtain ⟨R, hR⟩ : ∃ R, exp b most = R := ⟨_, rfl⟩
  have HX : Hid (lay p (b.drop k) [] = R) := by
    refine Lib.hid ?_
    rw [← hR]
    unfold exp
    rw [hd, if_neg (by simp), if_neg hl]
  rw [hR]
  have hp : p ≤ 65536 := by omega
  have h1 : decide (65536 < (p : Int)) = false := by simp; omega
  have h2 : decide (most < (p : Int)) = false := by simp; omega
  have hk : k ≤ b.length := hkt.2.1
  have HR := Lib.hid hr
  have HM := Lib.hid hm
  clear hg f1 f2 f3 hd hr hm hR hl hkt
  go_enter Try.func9, Try.ntmps9
  go_wp2_with fail
  refine HG.out.mono ?_
  rintro e w1 ⟨rfl, rfl⟩
  go_wp2_with ((refine wpList_make_own _ rfl _ _ 22 rfl w.heap.size 5 i0 (.int .u8 0) 1 Try.underlying22 hi hz0 hz1 .i64 .u64 _ p rfl rfl rfl (by rw [hz2]; omega) (by unfold maxLen; omega) (Nat.le_refl _) ?_); intro w1 hown1 hg1)
  have HB1 := Lib.hid ((Below.refl _ _).grown hg1 (Nat.le_refl _) (by simp))
  have HO1 := Lib.hid hown1
  clear hg1 hown1
  go_loopw [7, 8, 9] (fun x y v wr => Rel b p R w x y v wr) (fun x _ _ _ => b.length - (intOf x).toNat)
  case atStart => exact ⟨k, [], hk, rfl, rfl, by simp, HX, HO1.out, HB1.out⟩
  case round =>
    obtain ⟨at_, l, hat, rfl, rfl, hlp, hlay, hown, hb⟩ := hrel
    clear HO1 HB1 HX
    obtain ⟨A1, c1, rfl, _, _, _⟩ := own_slice hown
    by_cases hlt : at_ < b.length
    · obtain ⟨err, l', k', hP⟩ : ∃ err l' k', LaySpec.part p (b.drop at_) l = (err, l', k') := ⟨_, _, _, rfl⟩
      have hne : b.drop at_ ≠ [] := by
        intro h
        have := congrArg List.length h
        simp at this
        omega
      have HC := Lib.hid (part_any b A c at_ w wr l _ p HR.out hc HM.out hat hown hb hlp hp hbl hP)
      by_cases he : err = 0
      · subst he
        have ht := part_takes (size := p) (rest := b.drop at_) (laid := l) (by rw [hP])
        rw [hP, List.length_drop] at ht
        simp only at ht
        obtain ⟨t1, t2, t3, t4⟩ := ht
        have HL : Hid (lay p (b.drop (at_ + k')) l' = R) := by
          refine Lib.hid ?_
          rw [← List.drop_drop, ← lay_ok hne hP, hlay.out]
        rw [if_pos rfl] at HC
        clear hown hb hlay hP hne
        go_wp2_with fail
        refine HC.out.mono ?_
        rintro e w2 ⟨v2, rfl, hown2, hb2⟩
        have HO := Lib.hid hown2
        have HB := Lib.hid hb2
        clear hown2 hb2 HC
        go_wp2
        go_roundw
        case rel => exact ⟨at_ + k', l', by omega, rfl, rfl, t3, HL, HO.out, HB.out⟩
        case measure => simp [intOf]; omega
      · have HL : Hid (R = (err, [])) := by
          refine Lib.hid ?_
          rw [← hlay.out, lay_err hne hP he]
        rw [if_neg he] at HC
        have h5 : ((err : Int) != 0) = true := by simp; omega
        clear hown hb hlay hP hne he
        go_wp2_with fail
        refine HC.out.mono ?_
        rintro e w2 ⟨v2, rfl, _, hb2⟩
        have HB := Lib.hid hb2
        clear hb2 HC
        go_wp2
        go_ret2
        exact xpost_err HL.out rfl HB.out
    · have hle : at_ = b.length := by omega
      have HL : Hid (R = if l.length < p then (5, []) else (0, l)) := by
        refine Lib.hid ?_
        rw [← hlay.out, hle, List.drop_length, lay_nil]
      have HO := Lib.hid hown
      have HB := Lib.hid hb
      have h6 : decide (at_ < b.length) = false := by simp; omega
      clear hown hb hlay hle
      by_cases hs : l.length < p
      · rw [if_pos hs] at HL
        go_wp2
        go_ret2
        exact xpost_err HL.out rfl HB.out
      · rw [if_neg hs] at HL
        go_wp2
        go_ret2
        rw [HL.out]
        exact ⟨_, rfl, HO.out, HB.out⟩

/-- lz.Expand. -/
theorem exp_any (b : List UInt8) (A : Option Addr) (c : Nat) (most : Int) (w : World) (hr : Rd w w.heap.size A (b.map B8)) (hc : b.length ≤ c) (hm : c ≤ maxLen) (hbl : b.length ≤ 140737488355327) : Calls Try.prog 9 #[.slice A b.length c, .int .i64 most] w (XPost w (exp b most)) := by
  obtain ⟨p, k, e, hd⟩ : ∃ p k e, dec 0 0 b = (p, k, e) := ⟨_, _, _, rfl⟩
  by_cases he : e = 0
  · subst he
    by_cases hl : most < (p : Int) ∨ 65536 < p
    · exact exp_long b A c most w hr hc hm hd hl
    · exact exp_in b A c most w hr hc hm hbl hd hl
  · exact exp_err b A c most w hr hc hm hd he
end Go.Proofs.Ytifndcjjlhjgiaa.Expand
