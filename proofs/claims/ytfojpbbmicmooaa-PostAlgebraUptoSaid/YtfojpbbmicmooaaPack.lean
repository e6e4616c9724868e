/- The contract of pack.Pack: for all lists of numbers the error, or new memory that holds the list's bytes; nothing that was there has changed. Conditions: the slice's length is at most its capacity, the capacity at most the model's greatest length. -/
import Derived.Test.YtfojpbbmicmooaaLay
import Derived.Test.YtfojpbbmicmooaaAppend
import Derived.Test.YtfojpbbmicmooaaRefPks
namespace Go.Proofs.Ytfojpbbmicmooaa.Pack
open Go Go.RowKit Words Plain Put RefPut App PkPlain PkSpec PkLay PRise Lay RefPk PkHas

theorem below_drewN (w : World) (n : Nat) : Below w.heap.size w (w.drewN n) := ⟨rfl, rfl, rfl, Nat.le_refl _, fun _ _ => rfl⟩

set_option maxHeartbeats 800000 in
theorem pack_long (l : List UInt64) (A : Option Addr) (c : Nat) (w : World) (h : 65536 < l.length) :
    Calls Try.prog 17 #[.slice A l.length c] w (PackPost l w) := by
  go_enter Try.func17, Try.ntmps17
  go_wp2
  go_ret2
  exact .inl ⟨h, rfl, Below.refl _ _⟩

set_option maxHeartbeats 800000 in
theorem pack_not (l : List UInt64) (A : Option Addr) (c : Nat) (w : World) (hr : Rd w w.heap.size A (l.map B64)) (h : l.length ≤ 65536) (hri : ¬ Rising l) :
    Calls Try.prog 17 #[.slice A l.length c] w (PackPost l w) := by
  have HR := Lib.hid (rising_any l A l.length c w w.heap.size rfl hr h)
  have HN := Lib.hid hri
  have hb : decide (65536 < (l.length : Int)) = false := decide_eq_false (by omega)
  clear hr hri
  go_enter Try.func17, Try.ntmps17
  go_wp2_with fail
  refine HR.out.mono ?_
  rintro e w1 ⟨⟨b, rfl, hbi⟩, nq, rfl⟩
  obtain rfl : b = false := by
    cases b
    · rfl
    · exact absurd (hbi.1 rfl) HN.out
  clear hbi
  go_wp2
  go_ret2
  exact .inr (.inl ⟨h, HN.out, rfl, below_drewN _ _⟩)

theorem encs_two (x y : UInt64) : encs [x, y] = Lib.uvarint x.toNat ++ Lib.uvarint y.toNat := by simp [encs]
theorem encs_one (x : UInt64) : encs [x] = Lib.uvarint x.toNat := by simp [encs]
theorem u64_cast (n : Nat) (h : n < 18446744073709551616) : (n.toUInt64).toNat = n := by simp; omega

/-- varint.Put of numbers that are written out. -/
def PutPost (w : World) (H : List UInt8) (e : Ending) (w' : World) : Prop := ∃ v, e = .returned v ∧ w'.ownsRow w.heap.size 5 1 v H.length (H.map B8) ∧ Below w.heap.size w w'
theorem put_zero (w : World) : Calls Try.prog 15 #[.slice (some ⟨w.heap.size, 0, none⟩) 1 1] (w.alloc (.cells #[.int .u64 0] 31)) (PutPost w (Lib.uvarint 0)) :=
  (put_any [0] _ 1 (w.alloc (.cells #[.int .u64 0] 31)) (Rd.made' w #[.int .u64 0] 31) (by simp)).mono fun e w' ⟨v, he, ho, hb⟩ => by
    rw [encs_one] at ho
    exact ⟨v, he, own_mono ho (by simp), ((Below.refl _ _).alloc (Nat.le_refl _) _).trans (hb.mono (by simp))⟩
theorem put_two (n x : Nat) (w : World) (hn : n < 18446744073709551616) (hx : x < 18446744073709551616) : Calls Try.prog 15 #[.slice (some ⟨w.heap.size, 0, none⟩) 2 2] (w.alloc (.cells #[.int .u64 (n : Int), .int .u64 (x : Int)] 31)) (PutPost w (Lib.uvarint n ++ Lib.uvarint x)) := by
  have h1 := Rd.made' w #[.int .u64 (n : Int), .int .u64 (x : Int)] 31
  have h2 : [n.toUInt64, x.toUInt64].map B64 = (#[Value.int .u64 (n : Int), .int .u64 (x : Int)] : Array Value).toList := by
    simp only [List.map_cons, List.map_nil, B64]
    rw [u64_cast _ hn, u64_cast _ hx]
  rw [← h2] at h1
  refine (put_any [n.toUInt64, x.toUInt64] _ 2 _ h1 (by simp)).mono ?_
  rintro e w' ⟨v, he, ho, hb⟩
  rw [encs_two, u64_cast _ hn, u64_cast _ hx] at ho
  exact ⟨v, he, own_mono ho (by simp), ((Below.refl _ _).alloc (Nat.le_refl _) _).trans (hb.mono (by simp))⟩

set_option maxHeartbeats 800000 in
theorem pack_zero (A : Option Addr) (c : Nat) (w : World) (hr : Rd w w.heap.size A (([] : List UInt64).map B64)) :
    Calls Try.prog 17 #[.slice A 0 c] w (PackPost [] w) := by
  have HRI : Hid (Rising []) := fun i hi => by simp at hi
  have HR := fun w' => Lib.hid (rising_any [] A 0 c w' w'.heap.size rfl (Rd.nil_) (by simp))
  clear hr
  go_enter Try.func17, Try.ntmps17
  go_wp2_with fail
  refine (HR w).out.mono ?_
  rintro e w1 ⟨⟨b, rfl, hbi⟩, nq, rfl⟩
  obtain rfl : b = true := hbi.2 HRI.out
  clear hbi
  go_wp2_with fail
  refine (put_zero (w.drewN nq)).mono ?_
  rintro e w2 ⟨v, rfl, hown, hb⟩
  have HO := Lib.hid hown
  have HB := Lib.hid ((below_drewN w nq).trans hb)
  clear hown hb
  go_wp2
  go_ret2
  refine .inr (.inr ⟨by simp, HRI.out, v, rfl, ?_, HB.out⟩)
  have e : pk [] = Lib.uvarint 0 := by simp [pk, head1, tail2]
  rw [e]
  exact HO.out

set_option maxHeartbeats 1600000 in
theorem pack_some (l : List UInt64) (A : Option Addr) (c : Nat) (w : World) (hr : Rd w w.heap.size A (l.map B64)) (h : l.length ≤ 65536) (h0 : 0 < l.length) (hri : Rising l) :
    Calls Try.prog 17 #[.slice A l.length c] w (PackPost l w) := by
  obtain ⟨i0, hi, hz0, hz1, hz2⟩ := info_parts info_u8
  have HRI := Lib.hid hri
  have HR := fun w' hr' => Lib.hid (rising_any l A l.length c w' w.heap.size rfl hr' h)
  obtain ⟨b, off, rfl, hbb, hcell⟩ := hr (by simp; omega)
  have k1 : w.cell? ⟨b, off, none⟩ = some (.int .u64 ((l[0].toNat : Nat) : Int)) := cell64 hcell (k := 0) h0
  have hx := l[0].toNat_lt
  have HP := fun w' => Lib.hid (put_two l.length l[0].toNat w' (by omega) hx)
  rw [← head1_at h0] at HP
  have HRR := Lib.hid hr
  have hpk : Hid (pk l = (Lib.uvarint l.length ++ head1 l) ++ tail2 l) := by show pk l = _; unfold pk; rw [List.append_assoc]
  have hH20 : (Lib.uvarint l.length ++ head1 l).length ≤ 20 := by
    rw [head1_at h0, List.length_append]
    have h1 := Lib.uvarint_length64 (x := l.length) (by omega)
    have h2 := Lib.uvarint_length64 (x := l[0].toNat) hx
    omega
  generalize l[0].toNat = x at *
  generalize Lib.uvarint l.length ++ head1 l = H at *
  have e0 : (0 : Int) < (l.length : Int) := by omega
  have e1 : ((l.length : Int) == 0) = false := beq_eq_false_iff_ne.2 (by omega)
  have eb : decide (65536 < (l.length : Int)) = false := decide_eq_false (by omega)
  have HQ := Lib.hid (HR w hr)
  clear hr hri hcell
  go_enter Try.func17, Try.ntmps17
  go_wp2_with fail
  refine HQ.out.out.mono ?_
  rintro e w1 ⟨⟨b', rfl, hbi⟩, nq, rfl⟩
  obtain rfl : b' = true := hbi.2 HRI.out
  clear hbi
  go_wp2_with fail
  refine (HP (w.drewN nq)).out.mono ?_
  rintro e w2 ⟨v, rfl, hown, hb⟩
  have HO : Hid (w2.ownsRow w.heap.size 5 1 v H.length (H.map B8)) := hown
  have HB := Lib.hid ((below_drewN w nq).trans hb)
  clear hown hb k1
  by_cases h1 : l.length = 1
  · have e2 : ((l.length : Int) == 1) = true := by rw [h1]; rfl
    have ht : Hid (tail2 l = []) := by show tail2 l = []; unfold tail2; rw [if_pos (by omega)]
    have H1 := Lib.hid h1
    clear h1
    go_wp2
    go_ret2
    refine .inr (.inr ⟨h, HRI.out, v, rfl, ?_, HB.out⟩)
    rw [hpk.out, ht.out, List.append_nil]
    exact HO.out
  · have e2 : ((l.length : Int) == 1) = false := beq_eq_false_iff_ne.2 (by omega)
    have ht : Hid (tail2 l = (wd l).toUInt8 :: digs (size8 l) (stk l)) := by show tail2 l = _; unfold tail2; rw [if_neg (by omega)]
    have HG := Lib.hid (fun w' hr' => gap_any l (some ⟨b, off, none⟩) l.length c w' w.heap.size rfl hr' h (by omega) HRI.out)
    have hr2 := HRR.out.below HB.out
    have HG2 := Lib.hid (HG.out w2 hr2)
    clear hr2
    have hW := width_64 l
    have hW' : wd l ≤ 64 := hW
    have HL := Lib.hid (fun w' hr' => gaps_any l (some ⟨b, off, none⟩) c w' hr' h (by omega) HRI.out)
    have hsz9 : size8 l ≤ 600000 := by
      have htot : total l ≤ 65536 * 64 := by unfold total; exact Nat.mul_le_mul (by omega) hW
      unfold size8
      omega
    generalize wd l = W at *
    generalize size8 l = sz at *
    generalize stk l = N at *
    clear hW
    go_wp2_with fail
    refine HG2.out.mono ?_
    rintro e w3 ⟨rfl, nq2, rfl⟩
    go_wp2_with (at_builtin; refine wpList_append_rd _ rfl (.tmp 31) (.tmp 34) 24 rfl w.heap.size 5 i0 (.int .u8 0) 1 Try.underlying24 hi hz0 hz1 hz2 rfl _ _ _ rfl ((show (w2.drewN nq2).ownsRow _ _ _ _ _ _ from HO.out).alloc _) ((w2.drewN nq2).heap.size + 1) (some ⟨w2.heap.size, 0, none⟩) 1 1 [.int .u8 (W : Int)] rfl rfl (Rd.made (w2.drewN nq2) #[.int .u8 (W : Int)] 5) ?f1 ?f2 ?f3 ?f4 ?_)
    case f1 => intro u hu; simp at hu; subst hu; rfl
    case f2 => unfold maxLen; omega
    case f3 => omega
    case f4 => have := HB.out.size; simp; omega
    intro v4 w4 hown4 hg4 _
    have HO4 := Lib.hid hown4
    have HB4 := Lib.hid (below_app ((show (w2.drewN nq2).ownsRow _ _ _ _ _ _ from HO.out).alloc (.cells #[.int .u8 (W : Int)] 5)) ((show Below w.heap.size w (w2.drewN nq2) from ⟨HB.out.os, HB.out.tape, HB.out.output, HB.out.size, HB.out.block⟩).alloc HB.out.size (.cells #[.int .u8 (W : Int)] 5)) hg4)
    have HC4 := Lib.hid (HL.out w4 ((HRR.out.below HB4.out).more HB4.out.size))
    clear hown4 hg4 HO HB HG2
    go_wp2_with fail
    refine HC4.out.mono ?_
    rintro e w5 ⟨v5, rfl, hown5, hb5⟩
    have HO5 := Lib.hid (own_keep HO4.out hb5)
    have HB5 := Lib.hid (HB4.out.trans (hb5.mono HB4.out.size))
    obtain ⟨A5, c5, rfl, _, _, _⟩ := own_slice hown5
    have HR5 := Lib.hid (Rd.of_own hown5)
    have hlen5 : ((digs sz N).map B8).length = sz := by rw [List.length_map, digs_length]
    have HLEN := Lib.hid hlen5
    clear hown5 hb5 hlen5 HO4 HB4
    go_wp2_with (at_builtin; refine wpList_append_rd _ rfl (.tmp 36) (.tmp 39) 24 rfl w.heap.size 5 i0 (.int .u8 0) 1 Try.underlying24 hi hz0 hz1 hz2 rfl _ _ _ rfl HO5.out w5.heap.size A5 sz c5 ((digs sz N).map B8) rfl HLEN.out HR5.out ?f1 ?f2 ?f3 ?f4 ?_)
    case f1 => exact one8 _
    case f2 => unfold maxLen; omega
    case f3 => omega
    case f4 => exact HB5.out.size
    intro v6 w6 hown6 hg6 _
    have HB6 := Lib.hid (below_app HO5.out HB5.out hg6)
    have HO6 := Lib.hid hown6
    clear hown6 hg6 HO5 HB5
    go_wp2
    go_ret2
    refine .inr (.inr ⟨h, HRI.out, v6, rfl, ?_, HB6.out⟩)
    have h9 := HO6.out
    rw [hpk.out, ht.out]
    have e9 : (H ++ (W.toUInt8 :: digs sz N)).length = H.length + 1 + sz := by simp [digs_length]; omega
    have eW : B8 W.toUInt8 = .int .u8 (W : Int) := by
      unfold B8
      congr 1 <;> (simp <;> omega)
    rw [e9, List.map_append, List.map_cons, eW]
    simpa using h9

/-- pack.Pack. -/
theorem pack_any : PackAny := by
  intro l A n c w hn hr hc hm
  subst hn
  by_cases h : 65536 < l.length
  · exact pack_long l A c w h
  by_cases hri : Rising l
  · by_cases h0 : l.length = 0
    · obtain rfl : l = [] := List.eq_nil_of_length_eq_zero h0
      exact pack_zero A c w hr
    · exact pack_some l A c w hr (by omega) (by omega) hri
  · exact pack_not l A c w hr (by omega) hri
end Go.Proofs.Ytfojpbbmicmooaa.Pack
