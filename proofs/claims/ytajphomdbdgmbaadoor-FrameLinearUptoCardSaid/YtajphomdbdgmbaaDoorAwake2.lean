/- The contracts of the statements' own 'one' (Read and the document's Read answer the same) and 'awake' (the document's fixed answers are met): they answer true and change nothing that was there. Conditions: the table lies as the program's text lays it; the slice's length is at most its capacity, the capacity at most the model's greatest length, the length at most 2^62. -/
import Derived.Test.YtajphomdbdgmbaaDoorRefRead
import Derived.Lib.SlBytesConst
namespace Go.Proofs.YtajphomdbdgmbaaDoor.Awake2
open Go Go.RowKit Words Plain Crc Tab Summ RefSum SumB Put RefPut App Get RefGet Framed Reading Read2 RefRead

set_option maxHeartbeats 800000 in
set_option maxRecDepth 100000 in
theorem one_any (l : List UInt8) (A : Option Addr) (m c : Nat) (at_ : Int) (w : World) (h0 : m = l.length) (hr : Rd w w.heap.size A (l.map B8)) (hc : l.length ≤ c) (hm : c ≤ maxLen) (hlen : l.length ≤ 4611686018427387904) (hL : Laid w w.heap.size) :
    Calls Tryd.prog 13 #[.slice A m c, .int .i64 at_] w fun e w' => e = .returned (.bool true) ∧ Below w.heap.size w w' := by
  have H1 := Lib.hid (read_any l A m c at_ w h0 hr hc hm hL)
  have H2 := fun w' (hb : Below w.heap.size w w') => Lib.hid (refr_any l A m c at_ w' h0 ((hr.below hb).more hb.size) hc hm hlen)
  clear hr hc hm hlen hL h0
  go_enter Tryd.func13, Tryd.ntmps13
  go_wp2_with fail
  refine H1.out.mono ?_
  rintro e w1 ⟨v1, rfl, hown1, hb1⟩
  have HB1 := Lib.hid hb1
  have HO1 := Lib.hid hown1
  clear hown1
  go_wp2_with fail
  refine (H2 w1 hb1).out.mono ?_
  rintro e w2 ⟨v2, rfl, hown2, hb2⟩
  have HO1' := Lib.hid (own_keep HO1.out hb2)
  have HB2 := Lib.hid (HB1.out.trans (hb2.mono HB1.out.size))
  obtain ⟨A1, c1, rfl, _, _, _⟩ := own_slice HO1'.out
  obtain ⟨A2, c2, rfl, _, _, _⟩ := own_slice hown2
  have s1 := run_str w2 A1 _ c1 rfl (Rd.of_own HO1'.out)
  have s2 := run_str w2 A2 _ c2 rfl (Rd.of_own hown2)
  clear hown2 hb1 hb2 H1 H2 HO1 HO1'
  generalize rdP l at_ = P at *
  generalize rdT l at_ = T at *
  generalize rdE l at_ = E at *
  have e1 : (P == P) = true := by simp
  have e2 : (T == T) = true := by simp
  have e3 : (E == E) = true := by simp
  go_wp2
  go_ret
  exact ⟨rfl, HB2.out⟩

def fa : List UInt8 := [1, 97, 67, 190, 183, 232]
theorem fa_frm : frm [97] = fa := by
  unfold frm
  rw [show ([97] : List UInt8).length = 1 from rfl, Lib.uvarint_small (by omega)]
  decide +kernel
theorem fa_E : rdE fa 0 = 0 := by decide +kernel
theorem fa_P : rdP fa 0 = [97] := by decide +kernel
theorem fa_T : rdT fa 0 = 6 := by decide +kernel
def nine : List UInt8 := [49, 50, 51, 52, 53, 54, 55, 56, 57]
theorem nine_sum : sum nine = 3421780262 := by decide +kernel

theorem marked (w : World) (cs : Array Value) (e : TypeId) (fz : Nat × Nat) : Rd (w.alloc (.cells cs e fz)) (w.alloc (.cells cs e fz)).heap.size (some ⟨w.heap.size, 0, none⟩) cs.toList := fun _ =>
  ⟨w.heap.size, 0, rfl, by simp, fun j u hu => by
    have h : (w.alloc (.cells cs e fz)).heap[w.heap.size]? = some (.cells cs e fz) := by
      show (w.heap.push (.cells cs e fz))[w.heap.size]? = _
      simp
    unfold World.cell?
    simp only [h]
    simpa using hu⟩
theorem L6 : fa.length = 6 := rfl
theorem L9 : nine.length = 9 := rfl

set_option maxHeartbeats 1600000 in
set_option maxRecDepth 100000 in
theorem awake_any (w : World) (hL : Laid w w.heap.size) : Calls Tryd.prog 8 #[] w fun e w' => e = .returned (.bool true) ∧ Below w.heap.size w w' := by
  have HL := Lib.hid hL
  have kc := fun (w : World) (C : Array Value) (n c : Nat) => Lib.run_convert_bytes_const (P := Tryd.prog) w 24 5 C n c Tryd.underlying24 Tryd.underlying5
  have H1 := Lib.hid (frame_ok [97] (some ⟨w.heap.size, 0, none⟩) 1 1 (w.alloc (.cells #[.int .u8 97] 5 (1, 2))) rfl (marked w #[.int .u8 97] 5 (1, 2)) (by simp) (by unfold maxLen; omega) ((hL.alloc (Nat.le_refl _) _).more (by simp)) (by simp))
  rw [fa_frm] at H1
  have HB0 := Lib.hid ((Below.refl w.heap.size w).alloc (Nat.le_refl _) (.cells #[.int .u8 97] 5 (1, 2)))
  clear hL
  go_enter Tryd.func8, Tryd.ntmps8
  go_wp2_with fail
  refine H1.out.mono ?_
  rintro e w1 ⟨v1, rfl, hown1, hb1⟩
  have HB1 := Lib.hid (HB0.out.trans (hb1.mono (by simp)))
  obtain ⟨A1, c1, rfl, _, _, _⟩ := own_slice hown1
  have HR1 := Lib.hid (Rd.of_own hown1)
  rw [L6]
  clear hown1 hb1 H1 HB0
  have H2 := Lib.hid (read_any fa (some ⟨w1.heap.size, 0, none⟩) 6 6 0 (w1.alloc (.cells #[.int .u8 1, .int .u8 97, .int .u8 67, .int .u8 190, .int .u8 183, .int .u8 232] 5 (6, 7))) rfl (marked w1 #[.int .u8 1, .int .u8 97, .int .u8 67, .int .u8 190, .int .u8 183, .int .u8 232] 5 (6, 7)) (by simp [L6]) (by unfold maxLen; omega) (((HL.out.below HB1.out).more HB1.out.size |>.alloc (Nat.le_refl _) _).more (by simp)))
  unfold ReadPost at H2
  rw [fa_E, fa_P, fa_T] at H2
  have HB1' := Lib.hid (HB1.out.alloc HB1.out.size (.cells #[.int .u8 1, .int .u8 97, .int .u8 67, .int .u8 190, .int .u8 183, .int .u8 232] 5 (6, 7)))
  go_wp2_with fail
  refine H2.out.mono ?_
  rintro e w2 ⟨v2, rfl, hown2, hb2⟩
  have HB2 := Lib.hid (HB1'.out.trans (hb2.mono HB1'.out.size))
  obtain ⟨A2, c2, rfl, _, _, _⟩ := own_slice hown2
  have HR2 := Lib.hid (Rd.of_own hown2)
  have HR1' := Lib.hid (((HR1.out.alloc (Nat.le_refl _) (.cells #[.int .u8 1, .int .u8 97, .int .u8 67, .int .u8 190, .int .u8 183, .int .u8 232] 5 (6, 7))).more (by simp)).below hb2 |>.more hb2.size)
  clear hown2 hb2 H2 HB1 HB1' HR1
  have C9 : Hid (Rd (w2.alloc (.cells #[.int .u8 49, .int .u8 50, .int .u8 51, .int .u8 52, .int .u8 53, .int .u8 54, .int .u8 55, .int .u8 56, .int .u8 57] 5 (9, 10))) _ _ _) := Lib.hid (marked w2 #[.int .u8 49, .int .u8 50, .int .u8 51, .int .u8 52, .int .u8 53, .int .u8 54, .int .u8 55, .int .u8 56, .int .u8 57] 5 (9, 10))
  go_wp2_with fail
  refine (sum_one nine (some ⟨w2.heap.size, 0, none⟩) 9 9 _ _ _ (by rw [L9]) C9.out ?s1 (by simp [L9]) (by unfold maxLen; omega) ?s2 ?s3).mono ?_
  case s1 => exact Nat.le_refl _
  case s2 => exact ((HL.out.below HB2.out).more HB2.out.size |>.alloc (Nat.le_refl _) _).more (by simp)
  case s3 => simp
  rintro e w3 ⟨rfl, hw⟩
  have hb23 : Below w2.heap.size w2 w3 := by rw [← hw]; exact ((Below.refl _ _).alloc (Nat.le_refl _) _).alloc (by simp) _
  have HB3 := Lib.hid (HB2.out.trans (hb23.mono HB2.out.size))
  have s1 := run_str w3 A1 6 c1 L6.symm (HR1'.out.below hb23)
  have s2 := run_str w3 A2 1 c2 rfl (HR2.out.below hb23)
  clear hw hb23 C9 HR1' HR2 HB2
  rw [nine_sum]
  unfold fa at s1
  go_wp2
  go_ret
  exact ⟨rfl, HB3.out⟩
end Go.Proofs.YtajphomdbdgmbaaDoor.Awake2
