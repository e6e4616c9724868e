/- The contract of frame.Frame and of the document's own Frame: for all payloads of at most 65536 bytes new memory that holds the frame, else the error; nothing that was there has changed. Conditions: the table lies as the program's text lays it (the program's own); the slice's length is at most its capacity, the capacity at most the model's greatest length. -/
import Derived.Test.YtjninegpaoblfaaGreatDoorSums
import Derived.Test.YtjninegpaoblfaaGreatDoorPuts
namespace Go.Proofs.YtjninegpaoblfaaGreatDoor.Framed
open Go Go.RowKit Words Plain Crc Tab Summ RefSum SumB Put RefPut App

/-- The frame. -/
def frm (l : List UInt8) : List UInt8 := Lib.uvarint l.length ++ (l ++ four (sum l))
theorem frm_length (l : List UInt8) : (frm l).length = (Lib.uvarint l.length).length + l.length + 4 := by simp [frm, four_length, Nat.add_assoc]

theorem own_bytes {w : World} {base : Nat} {e : TypeId} {v : Value} {m : Nat} {a b d : List UInt8} (hm : m = a.length + b.length + d.length) (h : w.ownsRow base e 1 v m (a.map B8 ++ (b.map B8 ++ d.map B8))) : w.ownsRow base e 1 v (a ++ (b ++ d)).length ((a ++ (b ++ d)).map B8) := by
  subst hm
  simpa [Nat.add_assoc] using h

set_option maxHeartbeats 800000 in
set_option maxRecDepth 100000 in
theorem frame_long (l : List UInt8) (A : Option Addr) (n c : Nat) (w : World) (hn : n = l.length) (h : 65536 < l.length) :
    Calls Tryz.prog 45 #[.slice A n c] w fun e w' => e = .returned (.tuple #[.slice none 0 0, .int .i64 4]) ∧ w = w' := by
  subst hn
  go_enter Tryz.func45, Tryz.ntmps45
  go_wp2
  go_ret2
  exact ⟨rfl, rfl⟩

set_option maxHeartbeats 800000 in
set_option maxRecDepth 100000 in
theorem frame_ok (l : List UInt8) (A : Option Addr) (n c : Nat) (w : World) (hn : n = l.length) (hr : Rd w w.heap.size A (l.map B8)) (hc : l.length ≤ c) (hm : c ≤ maxLen) (hL : Laid w w.heap.size) (h : l.length ≤ 65536) :
    Calls Tryz.prog 45 #[.slice A n c] w fun e w' => ∃ v, e = .returned (.tuple #[v, .int .i64 0]) ∧ w'.ownsRow w.heap.size 5 1 v (frm l).length ((frm l).map B8) ∧ Below w.heap.size w w' := by
  obtain ⟨i0, hi, hz0, hz1, hz2⟩ := info_parts info_u8
  subst hn
  unfold frm
  have HR := Lib.hid hr
  have HL := Lib.hid hL
  have HM := Lib.hid hm
  clear hr hm hL
  have hu := Lib.uvarint_length64 (x := l.length) (by omega)
  have hb : decide (65536 < (l.length : Int)) = false := by simp; omega
  go_enter Tryz.func45, Tryz.ntmps45
  go_wp2_with fail
  have HP := put_any [UInt64.ofNat l.length] (some ⟨w.heap.size, 0, none⟩) 1 (w.alloc (.cells #[.int .u64 (l.length : Int)] 34)) (by
    have := Rd.made' w #[.int .u64 (l.length : Int)] 34
    have e : ([UInt64.ofNat l.length] : List UInt64).map B64 = (#[Value.int .u64 (l.length : Int)] : Array Value).toList := by simp [B64]; omega
    rw [e]; exact this) (by simp)
  have e1 : encs [UInt64.ofNat l.length] = Lib.uvarint l.length := by
    rw [encs_one]; congr 1; simp; omega
  rw [e1] at HP
  refine HP.mono ?_
  rintro e w1 ⟨v1, rfl, hown1, hb1⟩
  have HB1 := Lib.hid (((Below.refl w.heap.size w).alloc (Nat.le_refl _) (.cells #[.int .u64 (l.length : Int)] 34)).trans (hb1.mono (by simp)))
  have HO1 : Hid (w1.ownsRow w.heap.size 5 1 v1 (Lib.uvarint l.length).length ((Lib.uvarint l.length).map B8)) := own_mono hown1 (by simp)
  clear HP hown1 hb1 e1
  generalize hU : Lib.uvarint l.length = U at *
  have HU := Lib.hid hU
  clear hU
  go_wp2_with (at_builtin; refine wpList_append_rd (v := v1) _ rfl (.tmp 12) (.tmp 13) 51 rfl w.heap.size 5 i0 (.int .u8 0) 1 Tryz.underlying51 hi hz0 hz1 hz2 rfl _ _ rfl HO1.out w.heap.size A l.length c (l.map B8) rfl (by simp) (HR.out.below HB1.out) (one8 l) ?c1 ?c2 HB1.out.size ?_)
  case c1 => unfold maxLen; omega
  case c2 => omega
  intro v2 w2 hown2 hg2 _
  have HB2 := Lib.hid (below_app HO1.out HB1.out hg2)
  have HO2 := Lib.hid hown2
  clear hown2 hg2 HO1
  go_wp2_with fail
  refine (sumb_any l A _ c w2 w.heap.size rfl (HR.out.below HB2.out) HB2.out.size hc HM.out (HL.out.below HB2.out)).mono ?_
  rintro e w3 ⟨A3, rfl, hr3, hb3⟩
  have HO3 := Lib.hid (own_keep HO2.out hb3)
  have HB3 := Lib.hid (HB2.out.trans (hb3.mono HB2.out.size))
  have HR3 := Lib.hid hr3
  clear hr3 hb3 HO2
  go_wp2_with (at_builtin; refine wpList_append_rd (v := v2) _ rfl (.tmp 15) (.tmp 17) 51 rfl w.heap.size 5 i0 (.int .u8 0) 1 Tryz.underlying51 hi hz0 hz1 hz2 rfl _ _ rfl HO3.out _ A3 4 4 ((four (sum l)).map B8) rfl (by simp [four_length]) HR3.out (one8 _) ?c1 ?c2 HB3.out.size ?_)
  case c1 => unfold maxLen; omega
  case c2 => omega
  intro v4 w4 hown4 hg4 _
  have HB4 := Lib.hid (below_app HO3.out HB3.out hg4)
  have HO4 := Lib.hid (own_bytes (m := U.length + l.length + 4) (a := U) (b := l) (d := four (sum l)) rfl hown4)
  clear hown4 hg4
  go_wp2
  go_ret2
  rw [HU.out]
  exact ⟨v4, rfl, HO4.out, HB4.out⟩

set_option maxHeartbeats 800000 in
set_option maxRecDepth 100000 in
theorem reff_long (l : List UInt8) (A : Option Addr) (n c : Nat) (w : World) (hn : n = l.length) (h : 65536 < l.length) :
    Calls Tryz.prog 56 #[.slice A n c] w fun e w' => e = .returned (.tuple #[.slice none 0 0, .int .i64 4]) ∧ w = w' := by
  subst hn
  go_enter Tryz.func56, Tryz.ntmps56
  go_wp2
  go_ret2
  exact ⟨rfl, rfl⟩

set_option maxHeartbeats 800000 in
set_option maxRecDepth 100000 in
theorem reff_ok (l : List UInt8) (A : Option Addr) (n c : Nat) (w : World) (hn : n = l.length) (hr : Rd w w.heap.size A (l.map B8)) (hc : l.length ≤ c) (hm : c ≤ maxLen) (h : l.length ≤ 65536) :
    Calls Tryz.prog 56 #[.slice A n c] w fun e w' => ∃ v, e = .returned (.tuple #[v, .int .i64 0]) ∧ w'.ownsRow w.heap.size 5 1 v (frm l).length ((frm l).map B8) ∧ Below w.heap.size w w' := by
  obtain ⟨i0, hi, hz0, hz1, hz2⟩ := info_parts info_u8
  subst hn
  unfold frm
  have HR := Lib.hid hr
  have HM := Lib.hid hm
  clear hr hm
  have hu := Lib.uvarint_length64 (x := l.length) (by omega)
  have hb : decide (65536 < (l.length : Int)) = false := by simp; omega
  go_enter Tryz.func56, Tryz.ntmps56
  go_wp2_with fail
  refine (one64 l.length _ (by omega)).mono ?_
  rintro e w1 ⟨v1, rfl, hown1, hb1⟩
  have HB1 := Lib.hid hb1
  have HO1 := Lib.hid hown1
  clear hown1 hb1
  generalize hU : Lib.uvarint l.length = U at *
  have HU := Lib.hid hU
  clear hU
  go_wp2_with (at_builtin; refine wpList_append_rd (v := v1) _ rfl (.tmp 12) (.tmp 13) 51 rfl w.heap.size 5 i0 (.int .u8 0) 1 Tryz.underlying51 hi hz0 hz1 hz2 rfl _ _ rfl HO1.out w.heap.size A l.length c (l.map B8) rfl (by simp) (HR.out.below HB1.out) (one8 l) ?c1 ?c2 HB1.out.size ?_)
  case c1 => unfold maxLen; omega
  case c2 => omega
  intro v2 w2 hown2 hg2 _
  have HB2 := Lib.hid (below_app HO1.out HB1.out hg2)
  have HO2 := Lib.hid hown2
  clear hown2 hg2 HO1
  go_wp2_with fail
  refine (refsum_any l A c w2 w.heap.size (HR.out.below HB2.out) hc HM.out).mono ?_
  rintro e w2' ⟨rfl, rfl⟩
  go_wp2_with fail
  refine (four_any _ _ (sum_lt l)).mono ?_
  rintro e w3 ⟨A3, rfl, hr3, hb3⟩
  have HO3 := Lib.hid (own_keep HO2.out hb3)
  have HB3 := Lib.hid (HB2.out.trans (hb3.mono HB2.out.size))
  have HR3 := Lib.hid hr3
  clear hr3 hb3 HO2
  go_wp2_with (at_builtin; refine wpList_append_rd (v := v2) _ rfl (.tmp 15) (.tmp 18) 51 rfl w.heap.size 5 i0 (.int .u8 0) 1 Tryz.underlying51 hi hz0 hz1 hz2 rfl _ _ rfl HO3.out _ A3 4 4 ((four (sum l)).map B8) rfl (by simp [four_length]) HR3.out (one8 _) ?c1 ?c2 HB3.out.size ?_)
  case c1 => unfold maxLen; omega
  case c2 => omega
  intro v4 w4 hown4 hg4 _
  have HB4 := Lib.hid (below_app HO3.out HB3.out hg4)
  have HO4 := Lib.hid (own_bytes (m := U.length + l.length + 4) (a := U) (b := l) (d := four (sum l)) rfl hown4)
  clear hown4 hg4
  go_wp2
  go_ret2
  rw [HU.out]
  exact ⟨v4, rfl, HO4.out, HB4.out⟩
end Go.Proofs.YtjninegpaoblfaaGreatDoor.Framed
