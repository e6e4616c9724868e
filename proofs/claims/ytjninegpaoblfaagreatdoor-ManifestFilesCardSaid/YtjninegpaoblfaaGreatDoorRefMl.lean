/- The contracts of the document's Load and Save of manifests. Conditions: the disk lies in memory and holds no files but the two. -/
import Derived.Test.YtjninegpaoblfaaGreatDoorRefMr
import Derived.Test.YtjninegpaoblfaaGreatDoorMfDisks
import Derived.Test.YtjninegpaoblfaaGreatDoorRefOps
import Derived.Test.YtjninegpaoblfaaGreatDoorPdApps
import Derived.Test.YtjninegpaoblfaaGreatDoorRefRl
import Derived.Test.YtjninegpaoblfaaGreatDoorDkLaws
import Derived.Test.YtjninegpaoblfaaGreatDoorPdSt
import Derived.Test.YtjninegpaoblfaaGreatDoorPdClone
namespace Go.Proofs.YtjninegpaoblfaaGreatDoor.RefMl
open Go Go.RowKit Words AppN DkSpec PdLook RefDisk RefOps5 MfSpec MfMem RefMf RefMw RefMr MfDisk Pairs Mv

theorem eq_nil_ref (p : Nat) (w : World) : (binOp .eql 28 (.pointer (some ⟨p, 0, none⟩)) (.pointer none)).run Tryz.prog w = .ok (.bool false) w := by kernel_rfl
theorem read_len {n T : Nat} {d : DSt} (h : Fine1 n T d) (a : List UInt8) : (DkSpec.read a d).2.length ≤ T := by
  unfold DkSpec.read
  split
  · simp
  · split
    · simp
    · exact h.old a
set_option maxHeartbeats 3200000 in
set_option maxRecDepth 100000 in
theorem rload_any (w : World) (K : Nat → Nat) (o p : Nat) (d : DSt) (hd : RefD w K o p d) (hs : Small d) :
    Calls Tryz.prog 15 #[.pointer (some ⟨p, 0, none⟩)] w (RPost (MfSpec.load d) w) := by
  have HF := Lib.hid hs.fine
  have HBA : Hid (Below w.heap.size w (w.alloc (.cells #[.int .i64 0, .int .i64 0, .int .u64 0, .int .i64 0, .slice none 0 0] 37))) := Lib.hid ((Below.refl _ w).alloc (Nat.le_refl _) _)
  have hdA : RefD (w.alloc (.cells #[.int .i64 0, .int .i64 0, .int .u64 0, .int .i64 0, .slice none 0 0] 37)) K o p d := RefD.mv hd (S := fun _ => False) (Mv.same HBA.out) (fun h => h) (fun h => h)
  have HZ : Hid (Box5 (w.alloc (.cells #[.int .i64 0, .int .i64 0, .int .u64 0, .int .i64 0, .slice none 0 0] 37)) w.heap.size (.int .i64 0) (.int .i64 0) (.int .u64 0) (.int .i64 0) (.slice none 0 0)) := Lib.hid (heap_alloc_new w _)
  have HR := Lib.hid (RefRead5.read_any _ K o p d nm hdA (by decide))
  unfold RefRead5.RdPost at HR
  clear hs hd hdA
  have hlen := read_len HF.out nm
  obtain ⟨R, hR⟩ : ∃ R, MfSpec.load d = R := ⟨_, rfl⟩
  unfold MfSpec.load at hR
  obtain ⟨⟨e, b⟩, hrd⟩ : ∃ r, DkSpec.read nm d = r := ⟨_, rfl⟩
  rw [hrd] at HR hR hlen
  simp only at HR hR hlen
  have HRR := Lib.hid hR
  have HRR2 := Lib.hid (rfl : MfSpec.load d = MfSpec.load d)
  rw [show MfSpec.load d = R by unfold MfSpec.load; rw [hrd]; exact hR]
  clear hR hrd HRR2
  unfold RPost
  go_enter Tryz.func15, Tryz.ntmps15
  go_wp2_with fail
  refine HR.out.mono ?_
  rintro e1 w1 ⟨⟨A, c, rfl, hc, hm, hrd, hk⟩, rfl⟩
  have HRB := Lib.hid hrd
  clear hrd hk HR
  obtain ⟨⟨x0, x1, x2, x3, x4⟩, z0, z1, z2, z3, z4⟩ := HZ.out.facts
  have HW1 := Lib.hid (rfirst_any (w.alloc (.cells #[.int .i64 0, .int .i64 0, .int .u64 0, .int .i64 0, .slice none 0 0] 37)))
  have HW2 := Lib.hid (rread_any (w.alloc (.cells #[.int .i64 0, .int .i64 0, .int .u64 0, .int .i64 0, .slice none 0 0] 37)) b A b.length c rfl HRB.out hc hm (by omega))
  have hww : w.heap.size < (w.alloc (.cells #[.int .i64 0, .int .i64 0, .int .u64 0, .int .i64 0, .slice none 0 0] 37)).heap.size := by simp
  generalize w.alloc (.cells #[.int .i64 0, .int .i64 0, .int .u64 0, .int .i64 0, .slice none 0 0] 37) = W at *
  unfold maxLen at hm
  by_cases h21 : e = 21
  · subst h21
    have HX : Hid ((0, MfSpec.first) = R) := Lib.hid (by rw [← HRR.out, if_pos rfl])
    clear HRR HW2
    go_wp2_with fail
    refine HW1.out.mono ?_
    rintro e2 w2 ⟨rfl, hb2⟩
    have HB2 : Hid (Below w.heap.size w w2) := Lib.hid (HBA.out.trans (hb2.mono HBA.out.size))
    have HZ2 := Lib.hid (HZ.out.up hb2 hww)
    clear hb2 x0 x1 x2 x3 x4 z0 z1 z2 z3 z4
    obtain ⟨⟨x0, x1, x2, x3, x4⟩, z0, z1, z2, z3, z4⟩ := HZ2.out.facts
    unfold aggM slV MfSpec.first
    simp only
    go_wp2
    refine bodyPost_ret (results_cell_row2 rfl _ _ w.heap.size 37 #[.int .i64 1, .int .i64 1, .int .u64 1, .int .i64 (-9223372036854775808), .slice none 0 0] _ _ rfl HZ2.out.put Tryz.underlying37 rfl (by kernel_rfl)) rfl ?_
    rw [← HX.out]
    exact ⟨(MfSpec.first, none, 0, 0), rfl, rfl, World.ownsRow_nil _ _ _ _, put_below HB2.out (Nat.le_refl _)⟩
  · have j1 : ((e : Int) == 21) = false := beq_eq_false_iff_ne.2 (by omega)
    by_cases h0 : e = 0
    · subst h0
      have HX : Hid (MfSpec.read b = R) := Lib.hid (by rw [← HRR.out, if_neg h21, if_neg (by simp)])
      clear HRR HW1 j1 h21
      unfold RPost at HW2
      rw [HX.out] at HW2
      go_wp2_with fail
      refine HW2.out.mono ?_
      rintro e2 w2 ⟨mm, rfl, hmm, hown, hb2⟩
      obtain ⟨⟨wal, next, seq, mark, segs⟩, As, ns, cs⟩ := mm
      simp only at hmm hown
      have HM := Lib.hid hmm
      have HO := Lib.hid hown
      have HB2 : Hid (Below w.heap.size w w2) := Lib.hid (HBA.out.trans (hb2.mono HBA.out.size))
      have HZ2 := Lib.hid (HZ.out.up hb2 hww)
      clear hb2 x0 x1 x2 x3 x4 z0 z1 z2 z3 z4 hmm hown
      obtain ⟨⟨x0, x1, x2, x3, x4⟩, z0, z1, z2, z3, z4⟩ := HZ2.out.facts
      unfold aggM slV
      simp only
      go_wp2
      refine bodyPost_ret (results_cell_row2 rfl _ _ w.heap.size 37 #[.int .i64 wal, .int .i64 next, .int .u64 (seq.toNat : Int), .int .i64 mark, .slice As ns cs] _ _ rfl HZ2.out.put Tryz.underlying37 rfl (by kernel_rfl)) rfl ?_
      refine ⟨(⟨wal, next, seq, mark, segs⟩, As, ns, cs), rfl, HM.out, ?_, put_below HB2.out (Nat.le_refl _)⟩
      have hg1 := hww
      exact own_monoN (ownsRow_setCell_below (ownsRow_setCell_below (ownsRow_setCell_below (ownsRow_setCell_below (ownsRow_setCell_below HO.out hg1 _) hg1 _) hg1 _) hg1 _) hg1 _) (Nat.le_of_lt hg1)
    · have HX : Hid ((e, zero) = R) := Lib.hid (by rw [← HRR.out, if_neg h21, if_pos h0])
      have j2 : ((e : Int) != 0) = true := by simpa using h0
      clear HRR HW1 HW2 h21 h0
      go_wp2
      refine bodyPost_ret (results_cell_row2 rfl _ _ w.heap.size 37 #[.int .i64 0, .int .i64 0, .int .u64 0, .int .i64 0, .slice none 0 0] _ _ rfl HZ.out.put Tryz.underlying37 rfl (by kernel_rfl)) rfl ?_
      rw [← HX.out]
      exact ⟨(zero, none, 0, 0), rfl, rfl, World.ownsRow_nil _ _ _ _, put_below HBA.out (Nat.le_refl _)⟩

theorem mark_turned {w w' : World} {K : Nat → Nat} {o : Nat} (hb : Below w.heap.size w w') (m : Nat) : Turned K (PdSt.mark K w.heap.size m) o w w' :=
  ⟨hb.os, hb.tape, hb.output, hb.size, fun i hi _ => hb.block i hi, fun _i hi => if_pos hi⟩
/-- The bytes to be saved, in memory that nobody writes again. -/
structure By (w : World) (K : Nat → Nat) (A : Option Addr) (b : List UInt8) : Prop where
  rd : Rd w w.heap.size A (b.map B8)
  kind : ∀ g off, A = some ⟨g, off, none⟩ → 0 < b.length → K g = 0
theorem By.turned {w w' : World} {K K' : Nat → Nat} {A : Option Addr} {b : List UInt8} {o : Nat} (h : By w K A b) (ho : o ≠ 0) (ht : Turned K K' o w w') : By w' K' A b :=
  ⟨rd_turned ht ho h.rd (fun g off e hn => h.kind g off e (by simpa using hn)), fun g off e hn => by
    obtain ⟨g', off', e', hg', _⟩ := h.rd (by simpa using hn)
    have hk := h.kind g off e hn
    rw [e] at e'
    injection e' with e'
    injection e' with e'
    subst e'
    exact (ht.kind g hg').trans hk⟩
theorem new_by {w w1 : World} {K : Nat → Nat} {A : Option Addr} {b : List UInt8} {c : Nat} (h : w1.ownsRow w.heap.size 5 1 (.slice A b.length c) b.length (b.map B8)) : By w1 (PdSt.mark K w.heap.size 0) A b :=
  ⟨Rd.of_own h, fun g off e hn => PdSt.mark_new (h.lt g (by rw [e]; rfl)).1⟩

set_option maxHeartbeats 3200000 in
set_option maxRecDepth 100000 in
theorem rsave_any (w : World) (K : Nat → Nat) (o p : Nat) (d : DSt) (m : MM) (hd : RefD w K o p d) (ho : o ≠ 0) (hm : OkM w m) (hs : Small d) :
    Calls Tryz.prog 12 #[.pointer (some ⟨p, 0, none⟩), aggM m] w (OPost w K o p (MfSpec.save m.1 d)) := by
  have HF := Lib.hid hs.fine
  have HBA : Hid (Below w.heap.size w (w.alloc (boxM m))) := Lib.hid ((Below.refl _ w).alloc (Nat.le_refl _) _)
  have HW := Lib.hid (rwrite_any (w.alloc (boxM m)) m (hm.below HBA.out))
  have HD := Lib.hid hd
  have HLEN := Lib.hid (write_len hm.ok)
  obtain ⟨⟨we, wb⟩, hwr⟩ : ∃ r, MfSpec.write m.1 = r := ⟨_, rfl⟩
  have HSV : Hid (MfSpec.save m.1 d = if we ≠ 0 then (we, d) else if (delete nw d).1 ≠ 0 ∧ (delete nw d).1 ≠ 21 then delete nw d
    else if (append nw wb (delete nw d).2).1 ≠ 0 then append nw wb (delete nw d).2
    else if (sync nw (append nw wb (delete nw d).2).2).1 ≠ 0 then sync nw (append nw wb (delete nw d).2).2
    else rename nw nm (sync nw (append nw wb (delete nw d).2).2).2) := Lib.hid (by unfold MfSpec.save; rw [hwr])
  unfold WPost at HW
  rw [hwr] at HW HLEN
  simp only at HW HLEN
  obtain ⟨R, hR⟩ : ∃ R, MfSpec.save m.1 d = R := ⟨_, rfl⟩
  rw [hR] at HSV
  rw [hR]
  clear hR hwr hm hd hs
  obtain ⟨⟨wal, next, seq, mark, segs⟩, As, ns, cs⟩ := m
  unfold aggM slV boxM at HW
  unfold boxM at HBA
  unfold aggM slV
  simp only at HW HBA ⊢
  have hne := fun w => eq_nil_ref p w
  go_enter Tryz.func12, Tryz.ntmps12
  go_wp2_with fail
  refine HW.out.mono ?_
  rintro e1 w1 ⟨v1, rfl, hown1, hb1⟩
  have HB1 : Hid (Below w.heap.size w w1) := Lib.hid (HBA.out.trans (hb1.mono HBA.out.size))
  have HT1 : Hid (Turned K (PdSt.mark K w.heap.size 0) o w w1) := Lib.hid (mark_turned HB1.out 0)
  have HD1 : Hid (RefD w1 (PdSt.mark K w.heap.size 0) o p d) := Lib.hid (RefD.mv HD.out (S := fun _ => False) (Mv.new HB1.out 0) (fun h => h) (fun h => h))
  obtain ⟨A1, c1, rfl, _, _, _⟩ := Put.own_slice hown1
  have HBY : Hid (By w1 (PdSt.mark K w.heap.size 0) A1 wb) := Lib.hid (new_by (RefMr.own_monoN hown1 HBA.out.size))
  clear hb1 hown1 HW HBA
  obtain ⟨K1, hK1⟩ : ∃ K1, PdSt.mark K w.heap.size 0 = K1 := ⟨_, rfl⟩
  rw [hK1] at HT1 HD1 HBY
  clear hK1
  by_cases hwe : we = 0
  case neg =>
    have HX : Hid (R = (we, d)) := Lib.hid (by rw [HSV.out, if_pos hwe])
    have j1 : ((we : Int) != 0) = true := by simpa using hwe
    clear hwe
    go_wp2
    go_ret
    rw [HX.out]
    exact ⟨rfl, K1, HD1.out, HT1.out⟩
  subst hwe
  have HC1 := Lib.hid (delete_any w1 K1 o p d nw HD1.out ho (by decide) HF.out.low HF.out.high (by have := HF.out.few; omega))
  have HF2 := Lib.hid (fine_delete HF.out nw)
  obtain ⟨⟨e2, d2⟩, hr2⟩ : ∃ r, delete nw d = r := ⟨_, rfl⟩
  rw [hr2] at HC1 HSV HF2
  unfold OPost at HC1
  simp only at HC1 HSV HF2
  clear hr2
  go_wp2_with fail
  refine HC1.out.mono ?_
  rintro e w2 ⟨rfl, K2, hd2, ht2⟩
  have HD2 := Lib.hid hd2
  have HT2 := Lib.hid (HT1.out.trans ht2)
  have HBY2 := Lib.hid (HBY.out.turned ho ht2)
  clear hd2 ht2 HBY HC1 HD1 HT1
  have q1 : ((e2 : Int) != 0) = decide (e2 ≠ 0) := by rw [Bool.eq_iff_iff]; simp
  have q2 : ((e2 : Int) != 21) = decide (e2 ≠ 21) := by rw [Bool.eq_iff_iff]; simp; omega
  by_cases hb : e2 ≠ 0 ∧ e2 ≠ 21
  · have HX : Hid (R = (e2, d2)) := Lib.hid (by rw [HSV.out, if_neg (by decide), if_pos hb])
    rw [decide_eq_true hb.1] at q1
    rw [decide_eq_true hb.2] at q2
    clear hb
    go_wp2
    go_ret
    rw [HX.out]
    exact ⟨rfl, K2, HD2.out, HT2.out⟩
  have hb' : e2 = 0 ∨ e2 = 21 := by omega
  have HS2 : Hid (R = if (append nw wb d2).1 ≠ 0 then append nw wb d2 else if (sync nw (append nw wb d2).2).1 ≠ 0 then sync nw (append nw wb d2).2 else rename nw nm (sync nw (append nw wb d2).2).2) := Lib.hid (by rw [HSV.out, if_neg (by decide), if_neg hb])
  have hold := HF2.out.old nw
  have HC2 := Lib.hid (RefApp5.append_any w2 K2 o p d2 nw wb A1 c1 HD2.out ho (by decide) HF2.out.low HF2.out.high (by have := HF2.out.few; omega) (by have := HLEN.out; omega) HBY2.out.rd (fun g off e hn => by rw [HBY2.out.kind g off e hn]; exact fun h => ho h.symm))
  have HF3 := Lib.hid (fine_append HF2.out nw wb)
  obtain ⟨⟨e3, d3⟩, hr3⟩ : ∃ r, append nw wb d2 = r := ⟨_, rfl⟩
  rw [hr3] at HC2 HS2 HF3
  unfold OPost at HC2
  simp only at HC2 HS2 HF3
  clear hr3 hb HSV hold
  have q3 : (((e2 : Int) != 0) && ((e2 : Int) != 21)) = false := by rcases hb' with rfl | rfl <;> rfl
  clear q1 q2
  rcases hb' with rfl | rfl
  all_goals
    clear q3
    go_wp2_with fail
    refine HC2.out.mono ?_
    rintro e w3 ⟨rfl, K3, hd3, ht3⟩
    have HD3 := Lib.hid hd3
    have HT3 := Lib.hid (HT2.out.trans ht3)
    clear hd3 ht3
    by_cases h3 : e3 = 0
    case neg =>
      have HX : Hid (R = (e3, d3)) := Lib.hid (by rw [HS2.out, if_pos h3])
      have j1 : ((e3 : Int) != 0) = true := by simpa using h3
      clear h3
      go_wp2
      go_ret
      rw [HX.out]
      exact ⟨rfl, K3, HD3.out, HT3.out⟩
    subst h3
    have HC3 := Lib.hid (RefSync5.sync_any w3 K3 o p d3 nw HD3.out ho (by decide) HF3.out.low HF3.out.high)
    have HF4 := Lib.hid (fine_sync HF3.out nw)
    have HS3 : Hid (R = if (sync nw d3).1 ≠ 0 then sync nw d3 else rename nw nm (sync nw d3).2) := Lib.hid (by rw [HS2.out, if_neg (by decide)])
    obtain ⟨⟨e4, d4⟩, hr4⟩ : ∃ r, sync nw d3 = r := ⟨_, rfl⟩
    rw [hr4] at HC3 HS3 HF4
    unfold OPost at HC3
    simp only at HC3 HS3 HF4
    clear hr4
    go_wp2_with fail
    refine HC3.out.mono ?_
    rintro e w4 ⟨rfl, K4, hd4, ht4⟩
    have HD4 := Lib.hid hd4
    have HT4 := Lib.hid (HT3.out.trans ht4)
    clear hd4 ht4
    by_cases h4 : e4 = 0
    case neg =>
      have HX : Hid (R = (e4, d4)) := Lib.hid (by rw [HS3.out, if_pos h4])
      have j1 : ((e4 : Int) != 0) = true := by simpa using h4
      clear h4
      go_wp2
      go_ret
      rw [HX.out]
      exact ⟨rfl, K4, HD4.out, HT4.out⟩
    subst h4
    have HLB := HLEN.out
    have HC4 := Lib.hid (RefRen5.rename_any w4 K4 o p d4 nw nm HD4.out ho (by decide) (by decide) HF4.out.low HF4.out.high (by have := HF4.out.few; omega))
    have HX : Hid (R = rename nw nm d4) := Lib.hid (by rw [HS3.out, if_neg (by decide)])
    rw [← HX.out] at HC4
    unfold OPost at HC4
    clear HLB
    go_wp2_with fail
    refine HC4.out.mono ?_
    rintro e w5 ⟨rfl, K5, hd5, ht5⟩
    have HD5 := Lib.hid hd5
    have HT5 := Lib.hid (HT4.out.trans ht5)
    clear hd5 ht5
    go_wp2
    go_ret
    exact ⟨rfl, K5, HD5.out, HT5.out⟩
end Go.Proofs.YtjninegpaoblfaaGreatDoor.RefMl
