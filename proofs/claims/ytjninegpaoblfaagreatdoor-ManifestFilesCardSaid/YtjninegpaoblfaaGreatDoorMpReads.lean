/- The program's Read, First: the manifest whose bytes were handed in, its segments in new memory, or the error. Conditions: the bytes lie in memory. · The program's Load and Save of manifests. Conditions: the disk lies in memory and holds no files but the two. · The program's manifests keep what the statements ask of them. No conditions. -/
import Derived.Test.YtjninegpaoblfaaGreatDoorMpOf
import Derived.Test.YtjninegpaoblfaaGreatDoorMfDisks
import Derived.Test.YtjninegpaoblfaaGreatDoorPdReads
import Derived.Test.YtjninegpaoblfaaGreatDoorPdApps
import Derived.Test.YtjninegpaoblfaaGreatDoorPdOpss
import Derived.Test.YtjninegpaoblfaaGreatDoorPairs
namespace Go.Proofs.YtjninegpaoblfaaGreatDoor.MpRead
open Go Go.RowKit Words AppN MfSpec MfMem RefMf RefMw RefMr Plain Zig Put Framed Reading MfRead MpMay MpNin MpPlain MpOf

theorem first_run (w : World) : Calls Tryz.prog 27 #[] w fun e w' => e = .returned (aggM (MfSpec.first, none, 0, 0)) ∧ Below w.heap.size w w' := by
  go_enter Tryz.func27, Tryz.ntmps27
  go_wp2
  refine bodyPost_ret (v := .agg #[.int .i64 1, .int .i64 1, .int .u64 1, .int .i64 (-9223372036854775808), .slice none 0 0]) ?_ rfl ?_
  · rw [results_cell1 rfl]
    go_simp
  · exact ⟨rfl, (Below.refl _ w).alloc (Nat.le_refl _) _⟩
theorem first_any (w : World) : Calls Tryz.prog 27 #[] w fun e w' => ∃ mm : MM, e = .returned (aggM mm) ∧ mm.1 = MfSpec.first ∧ OkM w' mm ∧ Below w.heap.size w w' :=
  (first_run w).mono fun _ _ h => ⟨(MfSpec.first, none, 0, 0), h.1, rfl, okM_of rfl ok_first, h.2⟩

set_option maxHeartbeats 3200000 in
set_option maxRecDepth 100000 in
theorem read_any (w : World) (b : List UInt8) (A : Option Addr) (n c : Nat) (h0 : n = b.length) (hr : Rd w w.heap.size A (b.map B8)) (hc : b.length ≤ c) (hm : c ≤ maxLen) (hL : Tab.Laid w w.heap.size) :
    Calls Tryz.prog 25 #[.slice A n c] w (RPost (read b) w) := by
  have HBA : Hid (Below w.heap.size w (w.alloc (boxM (zero, none, 0, 0)))) := Lib.hid ((Below.refl _ w).alloc (Nat.le_refl _) _)
  have HZB : Hid ((w.alloc (boxM (zero, none, 0, 0))).heap[w.heap.size]? = some (boxM (zero, none, 0, 0))) := Lib.hid (heap_alloc_new w _)
  have HRD := Lib.hid (Read2.read_any b A n c 0 (w.alloc (boxM (zero, none, 0, 0))) h0 ((hr.below HBA.out).more HBA.out.size) hc hm ((hL.below HBA.out).more HBA.out.size))
  have HN := Lib.hid h0
  unfold boxM zero at HBA HRD HZB
  simp only at HBA HRD HZB
  have hw0 : w.heap.size < (w.alloc (.cells #[.int .i64 0, .int .i64 0, .int .u64 (((0 : UInt64).toNat : Nat) : Int), .int .i64 0, .slice none 0 0] 37)).heap.size := by simp
  rw [show (((0 : UInt64).toNat : Nat) : Int) = 0 from rfl] at HBA HRD HZB hw0
  have hnm : n ≤ c := by omega
  unfold maxLen at hm
  obtain ⟨R, hR⟩ : ∃ R, read b = R := ⟨_, rfl⟩
  have HR := Lib.hid hR
  rw [hR]
  clear hR h0 hr hL hc
  unfold RPost
  unfold ReadPost at HRD
  have HPL := Lib.hid (payload_len b 0)
  obtain ⟨E, hE⟩ : ∃ E, rdE b 0 = E := ⟨_, rfl⟩
  obtain ⟨T, hT⟩ : ∃ T, rdT b 0 = T := ⟨_, rfl⟩
  have HNF : Hid (E ≠ 0 → R = (30, zero)) := Lib.hid fun h => by rw [← HR.out]; exact none_frame (by rw [hE]; exact h)
  have HNT : Hid (T ≠ (n : Int) → R = (30, zero)) := Lib.hid fun h => by rw [← HR.out]; exact none_tail (by rw [hT, ← HN.out]; exact h)
  have HNN : Hid ((∃ (ns : List UInt64) (k : Nat), k < (rdP b 0).length ∧ encs ns = (rdP b 0).take k ∧ getE (rdP b 0) k ≠ 0) → R = (30, zero)) := Lib.hid fun ⟨ns, k, h1, h2, h3⟩ => by rw [← HR.out]; exact none_num h1 h2 h3
  have HNA : Hid (∀ L : List UInt64, encs L = rdP b 0 → areOf L = false → R = (30, zero)) := Lib.hid fun L h1 h2 => by rw [← HR.out]; exact none_are h1 h2
  have HNM : Hid (∀ L : List UInt64, encs L = rdP b 0 → may (made L) = false → R = (30, zero)) := Lib.hid fun L h1 h2 => by rw [← HR.out]; exact none_made h1 h2
  have HRM : Hid (E = 0 → T = (n : Int) → ∀ L : List UInt64, encs L = rdP b 0 → areOf L = true → may (made L) = true → R = (0, made L)) := Lib.hid fun h1 h2 L h3 h4 h5 => by
    rw [← HR.out]; exact read_made h3 (by rw [hE, h1]) (by rw [hT, h2, HN.out]) h4 h5
  have HTL : Hid (E = 0 → T ≤ (n : Int)) := Lib.hid fun h => by
    rw [← hT, HN.out]
    rw [← hE] at h
    have h1 : rdT b 0 = getTo b 0 + getN b 0 + 4 := by unfold rdT; rw [if_pos h]
    have h2 := h
    unfold rdE at h2
    split at h2
    · contradiction
    · split at h2
      · omega
      · split at h2
        · omega
        · omega
  rw [hE, hT] at HRD
  clear hE hT
  generalize rdP b 0 = p at *
  go_enter Tryz.func25, Tryz.ntmps25
  go_wp2_with fail
  refine HRD.out.mono ?_
  rintro e w1 ⟨v1, rfl, hown1, hb1⟩
  have HB1 : Hid (Below w.heap.size w w1) := Lib.hid (HBA.out.trans (hb1.mono HBA.out.size))
  have HZ1 : Hid (Box5 w1 w.heap.size (.int .i64 0) (.int .i64 0) (.int .u64 0) (.int .i64 0) (.slice none 0 0)) := Lib.hid ((hb1.block _ hw0).trans HZB.out)
  have hw1 : w.heap.size < w1.heap.size := Nat.lt_of_lt_of_le hw0 hb1.size
  have HO1 := Lib.hid hown1
  clear hb1 hown1 HRD HBA HZB hw0
  obtain ⟨A1, c1, rfl, hc1, hm1, _⟩ := own_slice HO1.out
  have HRP := Lib.hid (Rd.of_own HO1.out)
  obtain ⟨⟨x0, x1, x2, x3, x4⟩, z0, z1, z2, z3, z4⟩ := HZ1.out.facts
  by_cases hE0 : E = 0
  case neg =>
    have HX := Lib.hid (HNF.out hE0)
    have j1 : (E != 0) = true := by simpa using hE0
    clear hE0
    go_wp2
    refine bodyPost_ret (results_cell_row2 rfl _ _ w.heap.size 37 #[.int .i64 0, .int .i64 0, .int .u64 0, .int .i64 0, .slice none 0 0] _ _ rfl HZ1.out.put Tryz.underlying37 rfl (by kernel_rfl)) rfl ?_
    rw [HX.out]
    exact ⟨(zero, none, 0, 0), rfl, rfl, World.ownsRow_nil _ _ _ _, put_below HB1.out (Nat.le_refl _)⟩
  have htl := HTL.out hE0
  have HRM2 := Lib.hid (HRM.out hE0)
  subst hE0
  by_cases hT0 : T = (n : Int)
  case neg =>
    have HX := Lib.hid (HNT.out hT0)
    have j1 : decide (T < (n : Int)) = true := decide_eq_true (by omega)
    clear hT0 htl
    go_wp2
    refine bodyPost_ret (results_cell_row2 rfl _ _ w.heap.size 37 #[.int .i64 0, .int .i64 0, .int .u64 0, .int .i64 0, .slice none 0 0] _ _ rfl HZ1.out.put Tryz.underlying37 rfl (by kernel_rfl)) rfl ?_
    rw [HX.out]
    exact ⟨(zero, none, 0, 0), rfl, rfl, World.ownsRow_nil _ _ _ _, put_below HB1.out (Nat.le_refl _)⟩
  have HRM3 := Lib.hid (HRM2.out hT0)
  subst hT0
  clear htl HNF HNT HRM HRM2 HTL
  have HNI := Lib.hid (numbersIn_any w1 p A1 p.length c1 rfl HRP.out hc1 hm1 HPL.out)
  unfold NiPost at HNI
  have hp64 : p.length ≤ 65536 := HPL.out
  have HEG : Hid (∀ L : List UInt64, encs L = p → L.length ≤ p.length) := Lib.hid fun L h => by rw [← h]; exact encs_ge L
  generalize p.length = np at *
  go_wp2_with fail
  refine HNI.out.mono ?_
  rintro e w2 ⟨hb2, hcs⟩
  have HB2 : Hid (Below w.heap.size w w2) := Lib.hid (HB1.out.trans (hb2.mono (Nat.le_of_lt hw1)))
  have HZ2 := Lib.hid (HZ1.out.up hb2 hw1)
  have hw2 : w.heap.size < w2.heap.size := Nat.lt_of_lt_of_le hw1 hb2.size
  clear hb2 x0 x1 x2 x3 x4 z0 z1 z2 z3 z4 HNI
  obtain ⟨⟨x0, x1, x2, x3, x4⟩, z0, z1, z2, z3, z4⟩ := HZ2.out.facts
  rcases hcs with ⟨L, v2, rfl, hL, hown2⟩ | ⟨rfl, hbad⟩
  case inr =>
    have HX := Lib.hid (HNN.out hbad)
    clear hbad
    go_wp2
    refine bodyPost_ret (results_cell_row2 rfl _ _ w.heap.size 37 #[.int .i64 0, .int .i64 0, .int .u64 0, .int .i64 0, .slice none 0 0] _ _ rfl HZ2.out.put Tryz.underlying37 rfl (by kernel_rfl)) rfl ?_
    rw [HX.out]
    exact ⟨(zero, none, 0, 0), rfl, rfl, World.ownsRow_nil _ _ _ _, put_below HB2.out (Nat.le_refl _)⟩
  obtain ⟨A2, c2, rfl, hc2, hm2, _⟩ := own_slice hown2
  have HR2 := Lib.hid (Rd.of_own hown2)
  have hln : L.length ≤ 65536 := by have := HEG.out L hL; omega
  have HA2 := Lib.hid (areOf_any L A2 L.length c2 w2 _ rfl HR2.out hln)
  have HNA2 := Lib.hid (HNA.out L hL)
  have HNM2 := Lib.hid (HNM.out L hL)
  have HRM4 := Lib.hid (HRM3.out L hL)
  have HMO : Hid (areOf L = true → Calls Tryz.prog 51 #[.slice A2 L.length c2] w2 (MPost L w2)) := Lib.hid fun h => manifestOf_any L A2 L.length c2 w2 rfl HR2.out hc2 hm2 hln h
  clear hown2 HNN HNA HNM HRM3 hL HEG hm2 hc2
  generalize L.length = nL at *
  cases hao : areOf L with
  | false =>
    have HX := Lib.hid (HNA2.out hao)
    rw [hao] at HA2
    clear hao HMO HNA2 HRM4
    go_wp2_with fail
    refine HA2.out.mono ?_
    rintro e w3 ⟨rfl, rfl⟩
    go_wp2
    refine bodyPost_ret (results_cell_row2 rfl _ _ w.heap.size 37 #[.int .i64 0, .int .i64 0, .int .u64 0, .int .i64 0, .slice none 0 0] _ _ rfl HZ2.out.put Tryz.underlying37 rfl (by kernel_rfl)) rfl ?_
    rw [HX.out]
    exact ⟨(zero, none, 0, 0), rfl, rfl, World.ownsRow_nil _ _ _ _, put_below HB2.out (Nat.le_refl _)⟩
  | true =>
    have HMO2 := Lib.hid (HMO.out hao)
    have HRM5 := Lib.hid (HRM4.out hao)
    rw [hao] at HA2
    unfold MPost at HMO2
    clear hao HMO HNA2 HRM4
    go_wp2_with fail
    refine HA2.out.mono ?_
    rintro e w3 ⟨rfl, rfl⟩
    go_wp2_with fail
    refine HMO2.out.mono ?_
    rintro e w4 ⟨mm, rfl, hmm, hown4, hb4⟩
    obtain ⟨Ma, As, ns, cs⟩ := mm
    simp only at hmm hown4
    have HOKM : Hid (OkM w4 (Ma, As, ns, cs)) := Lib.hid (by
      obtain ⟨As', cs', hv, hsg, _⟩ := own_sgs hown4
      unfold slV at hv
      simp only [Value.slice.injEq] at hv
      obtain ⟨rfl, rfl, rfl⟩ := hv
      exact ⟨hsg, by rw [hmm]; exact ok_made L⟩)
    have HB4 : Hid (Below w.heap.size w w4) := Lib.hid (HB2.out.trans (hb4.mono (Nat.le_of_lt hw2)))
    have HZ4 := Lib.hid (HZ2.out.up hb4 hw2)
    have hw4 : w.heap.size < w4.heap.size := Nat.lt_of_lt_of_le hw2 hb4.size
    have HO4 := Lib.hid hown4
    have HMM := Lib.hid hmm
    clear hb4 hown4 hmm x0 x1 x2 x3 x4 z0 z1 z2 z3 z4 HMO2
    have HMB := Lib.hid (fun (W : World) (hb : Below w4.heap.size w4 W) => mayBe_any W (Ma, As, ns, cs) (HOKM.out.below hb))
    have HBX : Hid (∀ W, W = w4.alloc (boxM (Ma, As, ns, cs)) → Below w4.heap.size w4 W ∧ BoxM W w4.heap.size (Ma, As, ns, cs)) := Lib.hid fun W h => by rw [h]; exact ⟨(Below.refl _ w4).alloc (Nat.le_refl _) _, boxed1 w4 _⟩
    obtain ⟨wal, next, seq, mark, segs⟩ := Ma
    unfold aggM slV at HMB
    unfold aggM slV
    unfold boxM at HBX
    simp only at HMB HBX ⊢
    obtain ⟨q, hq⟩ : ∃ q, may ⟨wal, next, seq, mark, segs⟩ = q := ⟨_, rfl⟩
    rw [hq] at HMB
    obtain ⟨W, hW⟩ : ∃ W, W = w4.alloc (.cells #[.int .i64 wal, .int .i64 next, .int .u64 (seq.toNat : Int), .int .i64 mark, .slice As ns cs] 37) := ⟨_, rfl⟩
    obtain ⟨hbW, hbx⟩ := HBX.out W hW
    have HW : Hid (w4.alloc (.cells #[.int .i64 wal, .int .i64 next, .int .u64 (seq.toNat : Int), .int .i64 mark, .slice As ns cs] 37) = W) := Lib.hid hW.symm
    have hwW : w4.heap.size < W.heap.size := World.block_lt_of_cell? W ⟨w4.heap.size, 0, none⟩ hbx.c0
    have HBXW := Lib.hid hbx
    have HBW := Lib.hid hbW
    clear hW hbx hbW HBX
    go_wp2_with fail
    rw [HW.out]
    refine (HMB.out W HBW.out).mono ?_
    rintro e w5 ⟨rfl, hb5⟩
    have HB45 : Hid (Below w4.heap.size w4 w5) := Lib.hid (HBW.out.trans (hb5.mono (Nat.le_of_lt hwW)))
    have HB5 : Hid (Below w.heap.size w w5) := Lib.hid (HB4.out.trans (HB45.out.mono (Nat.le_of_lt hw4)))
    have HZ5 := Lib.hid (HZ4.out.up HB45.out hw4)
    have HX5 := Lib.hid (HBXW.out.up hb5 hwW)
    clear hb5 HMB HW
    obtain ⟨⟨x0, x1, x2, x3, x4⟩, z0, z1, z2, z3, z4⟩ := HZ5.out.facts
    cases q with
    | false =>
      have HX := Lib.hid (HNM2.out (by rw [← HMM.out]; exact hq))
      clear hq HNM2 HRM5
      go_wp2
      refine bodyPost_ret (results_cell_row2 rfl _ _ w.heap.size 37 #[.int .i64 0, .int .i64 0, .int .u64 0, .int .i64 0, .slice none 0 0] _ _ rfl HZ5.out.put Tryz.underlying37 rfl (by kernel_rfl)) rfl ?_
      rw [HX.out]
      exact ⟨(zero, none, 0, 0), rfl, rfl, World.ownsRow_nil _ _ _ _, put_below HB5.out (Nat.le_refl _)⟩
    | true =>
      have HX := Lib.hid (HRM5.out (by rw [← HMM.out]; exact hq))
      clear hq HNM2 HRM5
      obtain ⟨b0, b1, b2, b3, b4⟩ := HX5.out
      simp only at b0 b1 b2 b3 b4
      go_wp2
      refine bodyPost_ret (results_cell_row2 rfl _ _ w.heap.size 37 #[.int .i64 wal, .int .i64 next, .int .u64 (seq.toNat : Int), .int .i64 mark, .slice As ns cs] _ _ rfl HZ5.out.put Tryz.underlying37 rfl (by kernel_rfl)) rfl ?_
      rw [HX.out]
      refine ⟨(⟨wal, next, seq, mark, segs⟩, As, ns, cs), rfl, HMM.out, ?_, put_below HB5.out (Nat.le_refl _)⟩
      have hO5 := own_keepN HO4.out HB45.out
      exact own_monoN (ownsRow_setCell_below (ownsRow_setCell_below (ownsRow_setCell_below (ownsRow_setCell_below (ownsRow_setCell_below hO5 hw2 _) hw2 _) hw2 _) hw2 _) hw2 _) (Nat.le_of_lt hw2)
end Go.Proofs.YtjninegpaoblfaaGreatDoor.MpRead

namespace Go.Proofs.YtjninegpaoblfaaGreatDoor.MpDisk
open Go Go.RowKit Words AppN DkSpec PdLook RefDisk PdDisk PdOps MfSpec MfMem RefMf RefMw RefMr MfDisk Pairs Mv MpNums MpRead

theorem eq_nil_pd (p : Nat) (w : World) : (binOp .eql 26 (.pointer (some ⟨p, 0, none⟩)) (.pointer none)).run Tryz.prog w = .ok (.bool false) w := by kernel_rfl
theorem eq_nil_no (w : World) : (binOp .eql 26 (.pointer none) (.pointer none)).run Tryz.prog w = .ok (.bool true) w := by kernel_rfl
theorem read_len {n T : Nat} {d : DSt} (h : Fine1 n T d) (a : List UInt8) : (DkSpec.read a d).2.length ≤ T := by
  unfold DkSpec.read
  split
  · simp
  · split
    · simp
    · exact h.old a
set_option maxHeartbeats 3200000 in
set_option maxRecDepth 100000 in
theorem load_any (w : World) (K : Nat → Nat) (o p : Nat) (d : DSt) (hd : PDisk w K o p d) (hs : Small d) (hL : Tab.Laid w w.heap.size) :
    Calls Tryz.prog 14 #[.pointer (some ⟨p, 0, none⟩)] w (RPost (MfSpec.load d) w) := by
  have HF := Lib.hid hs.fine
  have HL := Lib.hid hL
  have HBA : Hid (Below w.heap.size w (w.alloc (.cells #[.int .i64 0, .int .i64 0, .int .u64 0, .int .i64 0, .slice none 0 0] 37))) := Lib.hid ((Below.refl _ w).alloc (Nat.le_refl _) _)
  have hdA : PDisk (w.alloc (.cells #[.int .i64 0, .int .i64 0, .int .u64 0, .int .i64 0, .slice none 0 0] 37)) K o p d := PDisk.mv hd (S := fun _ => False) (Mv.same HBA.out) (fun h => h)
  have HZ : Hid (Box5 (w.alloc (.cells #[.int .i64 0, .int .i64 0, .int .u64 0, .int .i64 0, .slice none 0 0] 37)) w.heap.size (.int .i64 0) (.int .i64 0) (.int .u64 0) (.int .i64 0) (.slice none 0 0)) := Lib.hid (heap_alloc_new w _)
  have HR := Lib.hid (PdRead.read_any _ K o p d nm hdA (by decide) (fun f hf => by have := HF.out.small f hf; omega))
  unfold PdRead.RdPost at HR
  clear hs hd hdA hL
  have hlen := read_len HF.out nm
  obtain ⟨R, hR⟩ : ∃ R, MfSpec.load d = R := ⟨_, rfl⟩
  unfold MfSpec.load at hR
  obtain ⟨⟨e, b⟩, hrd⟩ : ∃ r, DkSpec.read nm d = r := ⟨_, rfl⟩
  rw [hrd] at HR hR hlen
  simp only at HR hR hlen
  have HRR := Lib.hid hR
  have HRR2 := Lib.hid (rfl : MfSpec.load d = MfSpec.load d)
  rw [show MfSpec.load d = R by unfold MfSpec.load; rw [hrd]; exact hR]
  clear hR hrd HRR2
  unfold RPost
  go_enter Tryz.func14, Tryz.ntmps14
  go_wp2_with fail
  refine HR.out.mono ?_
  rintro e1 w1 ⟨v1, rfl, hown1, hb1⟩
  obtain ⟨A, c, rfl, hc, hm, _⟩ := Put.own_slice hown1
  have HRB := Lib.hid (Rd.of_own hown1)
  have hww0 : w.heap.size < (w.alloc (.cells #[.int .i64 0, .int .i64 0, .int .u64 0, .int .i64 0, .slice none 0 0] 37)).heap.size := by simp
  have HBW : Hid (Below w.heap.size w w1) := Lib.hid (HBA.out.trans (hb1.mono HBA.out.size))
  have HZ1 := Lib.hid (HZ.out.up hb1 hww0)
  have hww : w.heap.size < w1.heap.size := Nat.lt_of_lt_of_le hww0 hb1.size
  clear hown1 hb1 HR HBA HZ hww0
  obtain ⟨⟨x0, x1, x2, x3, x4⟩, z0, z1, z2, z3, z4⟩ := HZ1.out.facts
  have HW1 := Lib.hid (first_run w1)
  have HW2 := Lib.hid (MpRead.read_any w1 b A b.length c rfl HRB.out hc hm ((HL.out.below HBW.out).more HBW.out.size))
  unfold maxLen at hm
  by_cases h0 : e = 0
  · subst h0
    have HX : Hid (MfSpec.read b = R) := Lib.hid (by rw [← HRR.out, if_neg (by decide), if_neg (by simp)])
    clear HRR HW1
    unfold RPost at HW2
    rw [HX.out] at HW2
    go_wp2_with fail
    refine HW2.out.mono ?_
    rintro e2 w2 ⟨mm, rfl, hmm, hown, hb2⟩
    obtain ⟨⟨wal, next, seq, mark, segs⟩, As, ns, cs⟩ := mm
    simp only at hmm hown
    have HM := Lib.hid hmm
    have HO := Lib.hid hown
    have HB2 : Hid (Below w.heap.size w w2) := Lib.hid (HBW.out.trans (hb2.mono HBW.out.size))
    have HZ2 := Lib.hid (HZ1.out.up hb2 hww)
    clear hb2 x0 x1 x2 x3 x4 z0 z1 z2 z3 z4 hmm hown
    obtain ⟨⟨x0, x1, x2, x3, x4⟩, z0, z1, z2, z3, z4⟩ := HZ2.out.facts
    unfold aggM slV
    simp only
    go_wp2
    refine bodyPost_ret (results_cell_row2 rfl _ _ w.heap.size 37 #[.int .i64 wal, .int .i64 next, .int .u64 (seq.toNat : Int), .int .i64 mark, .slice As ns cs] _ _ rfl HZ2.out.put Tryz.underlying37 rfl (by kernel_rfl)) rfl ?_
    refine ⟨(⟨wal, next, seq, mark, segs⟩, As, ns, cs), rfl, HM.out, ?_, put_below HB2.out (Nat.le_refl _)⟩
    have hg1 := hww
    exact own_monoN (ownsRow_setCell_below (ownsRow_setCell_below (ownsRow_setCell_below (ownsRow_setCell_below (ownsRow_setCell_below HO.out hg1 _) hg1 _) hg1 _) hg1 _) hg1 _) (Nat.le_of_lt hg1)
  · have j0 : ((e : Int) == 0) = false := beq_eq_false_iff_ne.2 (by omega)
    by_cases h21 : e = 21
    · subst h21
      have HX : Hid ((0, MfSpec.first) = R) := Lib.hid (by rw [← HRR.out, if_pos rfl])
      clear HRR HW2 h0 j0
      go_wp2_with fail
      refine HW1.out.mono ?_
      rintro e2 w2 ⟨rfl, hb2⟩
      have HB2 : Hid (Below w.heap.size w w2) := Lib.hid (HBW.out.trans (hb2.mono HBW.out.size))
      have HZ2 := Lib.hid (HZ1.out.up hb2 hww)
      clear hb2 x0 x1 x2 x3 x4 z0 z1 z2 z3 z4
      obtain ⟨⟨x0, x1, x2, x3, x4⟩, z0, z1, z2, z3, z4⟩ := HZ2.out.facts
      unfold aggM slV MfSpec.first
      simp only
      go_wp2
      refine bodyPost_ret (results_cell_row2 rfl _ _ w.heap.size 37 #[.int .i64 1, .int .i64 1, .int .u64 1, .int .i64 (-9223372036854775808), .slice none 0 0] _ _ rfl HZ2.out.put Tryz.underlying37 rfl (by kernel_rfl)) rfl ?_
      rw [← HX.out]
      exact ⟨(MfSpec.first, none, 0, 0), rfl, rfl, World.ownsRow_nil _ _ _ _, put_below HB2.out (Nat.le_refl _)⟩
    · have HX : Hid ((e, zero) = R) := Lib.hid (by rw [← HRR.out, if_neg h21, if_pos h0])
      have j1 : ((e : Int) == 21) = false := beq_eq_false_iff_ne.2 (by omega)
      clear HRR HW1 HW2 h21 h0
      go_wp2
      refine bodyPost_ret (results_cell_row2 rfl _ _ w.heap.size 37 #[.int .i64 0, .int .i64 0, .int .u64 0, .int .i64 0, .slice none 0 0] _ _ rfl HZ1.out.put Tryz.underlying37 rfl (by kernel_rfl)) rfl ?_
      rw [← HX.out]
      exact ⟨(zero, none, 0, 0), rfl, rfl, World.ownsRow_nil _ _ _ _, put_below HBW.out (Nat.le_refl _)⟩

theorem mark_turned {w w' : World} {K : Nat → Nat} {o : Nat} (hb : Below w.heap.size w w') (m : Nat) : Turned K (PdSt.mark K w.heap.size m) o w w' :=
  ⟨hb.os, hb.tape, hb.output, hb.size, fun i hi _ => hb.block i hi, fun _i hi => if_pos hi⟩
/-- The bytes to be saved, in memory that nobody writes again. -/
structure By (w : World) (K : Nat → Nat) (A : Option Addr) (b : List UInt8) : Prop where
  rd : Rd w w.heap.size A (b.map B8)
  kind : ∀ g off, A = some ⟨g, off, none⟩ → 0 < b.length → K g = 0
theorem By.turned {w w' : World} {K K' : Nat → Nat} {A : Option Addr} {b : List UInt8} {o : Nat} (h : By w K A b) (ho : o ≠ 0) (ht : Turned K K' o w w') : By w' K' A b :=
  ⟨rd_turned ht ho h.rd (fun g off e hn => h.kind g off e (by simpa using hn)), fun g off e hn => by
    obtain ⟨g', off', e', hg', _⟩ := h.rd (by simpa using hn)
    have hk := h.kind g off e hn
    rw [e] at e'
    injection e' with e'
    injection e' with e'
    subst e'
    exact (ht.kind g hg').trans hk⟩
theorem new_by {w w1 : World} {K : Nat → Nat} {A : Option Addr} {b : List UInt8} {c : Nat} (h : w1.ownsRow w.heap.size 5 1 (.slice A b.length c) b.length (b.map B8)) : By w1 (PdSt.mark K w.heap.size 0) A b :=
  ⟨Rd.of_own h, fun g off e hn => PdSt.mark_new (h.lt g (by rw [e]; rfl)).1⟩

set_option maxHeartbeats 3200000 in
set_option maxRecDepth 100000 in
theorem save_any (w : World) (K : Nat → Nat) (o p : Nat) (d : DSt) (m : MM) (hd : PDisk w K o p d) (ho : o ≠ 0) (hm : OkM w m) (hs : Small d) (hL : Tab.Laid w w.heap.size) :
    Calls Tryz.prog 11 #[.pointer (some ⟨p, 0, none⟩), aggM m] w (OPost w K o p (MfSpec.save m.1 d)) := by
  have HF := Lib.hid hs.fine
  have HBA : Hid (Below w.heap.size w (w.alloc (boxM m))) := Lib.hid ((Below.refl _ w).alloc (Nat.le_refl _) _)
  have HW := Lib.hid (write_any (w.alloc (boxM m)) m (hm.below HBA.out) ((hL.below HBA.out).more HBA.out.size))
  have HD := Lib.hid hd
  have HLEN := Lib.hid (write_len hm.ok)
  obtain ⟨⟨we, wb⟩, hwr⟩ : ∃ r, MfSpec.write m.1 = r := ⟨_, rfl⟩
  have HSV : Hid (MfSpec.save m.1 d = if we ≠ 0 then (we, d) else if (delete nw d).1 ≠ 0 ∧ (delete nw d).1 ≠ 21 then delete nw d
    else if (append nw wb (delete nw d).2).1 ≠ 0 then append nw wb (delete nw d).2
    else if (sync nw (append nw wb (delete nw d).2).2).1 ≠ 0 then sync nw (append nw wb (delete nw d).2).2
    else rename nw nm (sync nw (append nw wb (delete nw d).2).2).2) := Lib.hid (by unfold MfSpec.save; rw [hwr])
  unfold WPost at HW
  rw [hwr] at HW HLEN
  simp only at HW HLEN
  obtain ⟨R, hR⟩ : ∃ R, MfSpec.save m.1 d = R := ⟨_, rfl⟩
  rw [hR] at HSV
  rw [hR]
  clear hR hwr hm hd hs
  obtain ⟨⟨wal, next, seq, mark, segs⟩, As, ns, cs⟩ := m
  unfold aggM slV boxM at HW
  unfold boxM at HBA
  unfold aggM slV
  simp only at HW HBA ⊢
  have hne := fun w => eq_nil_pd p w
  go_enter Tryz.func11, Tryz.ntmps11
  go_wp2_with fail
  refine HW.out.mono ?_
  rintro e1 w1 ⟨v1, rfl, hown1, hb1⟩
  have HB1 : Hid (Below w.heap.size w w1) := Lib.hid (HBA.out.trans (hb1.mono HBA.out.size))
  have HT1 : Hid (Turned K (PdSt.mark K w.heap.size 0) o w w1) := Lib.hid (mark_turned HB1.out 0)
  have HD1 : Hid (PDisk w1 (PdSt.mark K w.heap.size 0) o p d) := Lib.hid (PDisk.mv HD.out (S := fun _ => False) (Mv.new HB1.out 0) (fun h => h))
  obtain ⟨A1, c1, rfl, _, _, _⟩ := Put.own_slice hown1
  have HBY : Hid (By w1 (PdSt.mark K w.heap.size 0) A1 wb) := Lib.hid (new_by (RefMr.own_monoN hown1 HBA.out.size))
  clear hb1 hown1 HW HBA
  obtain ⟨K1, hK1⟩ : ∃ K1, PdSt.mark K w.heap.size 0 = K1 := ⟨_, rfl⟩
  rw [hK1] at HT1 HD1 HBY
  clear hK1
  by_cases hwe : we = 0
  case neg =>
    have HX : Hid (R = (we, d)) := Lib.hid (by rw [HSV.out, if_pos hwe])
    have j1 : ((we : Int) != 0) = true := by simpa using hwe
    clear hwe
    go_wp2
    go_ret
    rw [HX.out]
    exact ⟨rfl, K1, HD1.out, HT1.out⟩
  subst hwe
  have HC1 := Lib.hid (delete_any w1 K1 o p d nw HD1.out (by decide))
  have HF2 := Lib.hid (fine_delete HF.out nw)
  obtain ⟨⟨e2, d2⟩, hr2⟩ : ∃ r, delete nw d = r := ⟨_, rfl⟩
  rw [hr2] at HC1 HSV HF2
  unfold OPost at HC1
  simp only at HC1 HSV HF2
  clear hr2
  go_wp2_with fail
  refine HC1.out.mono ?_
  rintro e w2 ⟨rfl, K2, hd2, ht2⟩
  have HD2 := Lib.hid hd2
  have HT2 := Lib.hid (HT1.out.trans ht2)
  have HBY2 := Lib.hid (HBY.out.turned ho ht2)
  clear hd2 ht2 HBY HC1 HD1 HT1
  have q1 : ((e2 : Int) != 0) = decide (e2 ≠ 0) := by rw [Bool.eq_iff_iff]; simp
  have q2 : ((e2 : Int) != 21) = decide (e2 ≠ 21) := by rw [Bool.eq_iff_iff]; simp; omega
  by_cases hb : e2 ≠ 0 ∧ e2 ≠ 21
  · have HX : Hid (R = (e2, d2)) := Lib.hid (by rw [HSV.out, if_neg (by decide), if_pos hb])
    rw [decide_eq_true hb.1] at q1
    rw [decide_eq_true hb.2] at q2
    clear hb
    go_wp2
    go_ret
    rw [HX.out]
    exact ⟨rfl, K2, HD2.out, HT2.out⟩
  have hb' : e2 = 0 ∨ e2 = 21 := by omega
  have HS2 : Hid (R = if (append nw wb d2).1 ≠ 0 then append nw wb d2 else if (sync nw (append nw wb d2).2).1 ≠ 0 then sync nw (append nw wb d2).2 else rename nw nm (sync nw (append nw wb d2).2).2) := Lib.hid (by rw [HSV.out, if_neg (by decide), if_neg hb])
  have hold := HF2.out.old nw
  have HC2 := Lib.hid (PdApp.append_any w2 K2 o p d2 nw wb A1 c1 HD2.out (by decide) (by have := HF2.out.few; omega) (by have := HLEN.out; omega) HBY2.out.rd (fun g off e hn => by rw [HBY2.out.kind g off e hn]; exact fun h => ho h.symm))
  have HF3 := Lib.hid (fine_append HF2.out nw wb)
  obtain ⟨⟨e3, d3⟩, hr3⟩ : ∃ r, append nw wb d2 = r := ⟨_, rfl⟩
  rw [hr3] at HC2 HS2 HF3
  unfold OPost at HC2
  simp only at HC2 HS2 HF3
  clear hr3 hb HSV hold
  have q3 : (((e2 : Int) != 0) && ((e2 : Int) != 21)) = false := by rcases hb' with rfl | rfl <;> rfl
  clear q1 q2
  rcases hb' with rfl | rfl
  all_goals
    clear q3
    go_wp2_with fail
    refine HC2.out.mono ?_
    rintro e w3 ⟨rfl, K3, hd3, ht3⟩
    have HD3 := Lib.hid hd3
    have HT3 := Lib.hid (HT2.out.trans ht3)
    clear hd3 ht3
    by_cases h3 : e3 = 0
    case neg =>
      have HX : Hid (R = (e3, d3)) := Lib.hid (by rw [HS2.out, if_pos h3])
      have j1 : ((e3 : Int) != 0) = true := by simpa using h3
      clear h3
      go_wp2
      go_ret
      rw [HX.out]
      exact ⟨rfl, K3, HD3.out, HT3.out⟩
    subst h3
    have HC3 := Lib.hid (PdSync.sync_any w3 K3 o p d3 nw HD3.out (by decide))
    have HF4 := Lib.hid (fine_sync HF3.out nw)
    have HS3 : Hid (R = if (sync nw d3).1 ≠ 0 then sync nw d3 else rename nw nm (sync nw d3).2) := Lib.hid (by rw [HS2.out, if_neg (by decide)])
    obtain ⟨⟨e4, d4⟩, hr4⟩ : ∃ r, sync nw d3 = r := ⟨_, rfl⟩
    rw [hr4] at HC3 HS3 HF4
    unfold OPost at HC3
    simp only at HC3 HS3 HF4
    clear hr4
    go_wp2_with fail
    refine HC3.out.mono ?_
    rintro e w4 ⟨rfl, K4, hd4, ht4⟩
    have HD4 := Lib.hid hd4
    have HT4 := Lib.hid (HT3.out.trans ht4)
    clear hd4 ht4
    by_cases h4 : e4 = 0
    case neg =>
      have HX : Hid (R = (e4, d4)) := Lib.hid (by rw [HS3.out, if_pos h4])
      have j1 : ((e4 : Int) != 0) = true := by simpa using h4
      clear h4
      go_wp2
      go_ret
      rw [HX.out]
      exact ⟨rfl, K4, HD4.out, HT4.out⟩
    subst h4
    have HLB := HLEN.out
    have HC4 := Lib.hid (PdRen.rename_any w4 K4 o p d4 nw nm HD4.out (by decide) (by decide) (by have := HF4.out.few; omega))
    have HX : Hid (R = rename nw nm d4) := Lib.hid (by rw [HS3.out, if_neg (by decide)])
    rw [← HX.out] at HC4
    unfold OPost at HC4
    clear HLB
    go_wp2_with fail
    refine HC4.out.mono ?_
    rintro e w5 ⟨rfl, K5, hd5, ht5⟩
    have HD5 := Lib.hid hd5
    have HT5 := Lib.hid (HT4.out.trans ht5)
    clear hd5 ht5
    go_wp2
    go_ret
    exact ⟨rfl, K5, HD5.out, HT5.out⟩


set_option maxHeartbeats 1600000 in
set_option maxRecDepth 100000 in
theorem load_nil (w : World) : Calls Tryz.prog 14 #[.pointer none] w (RPost (2, zero) w) := by
  have HBA : Hid (Below w.heap.size w (w.alloc (.cells #[.int .i64 0, .int .i64 0, .int .u64 0, .int .i64 0, .slice none 0 0] 37))) := Lib.hid ((Below.refl _ w).alloc (Nat.le_refl _) _)
  have HZ : Hid (Box5 (w.alloc (.cells #[.int .i64 0, .int .i64 0, .int .u64 0, .int .i64 0, .slice none 0 0] 37)) w.heap.size (.int .i64 0) (.int .i64 0) (.int .u64 0) (.int .i64 0) (.slice none 0 0)) := Lib.hid (heap_alloc_new w _)
  have HR := Lib.hid (hread_nil (w.alloc (.cells #[.int .i64 0, .int .i64 0, .int .u64 0, .int .i64 0, .slice none 0 0] 37)) nm)
  have hww : w.heap.size < (w.alloc (.cells #[.int .i64 0, .int .i64 0, .int .u64 0, .int .i64 0, .slice none 0 0] 37)).heap.size := by simp
  unfold RPost
  go_enter Tryz.func14, Tryz.ntmps14
  go_wp2_with fail
  refine HR.out.mono ?_
  rintro e1 w1 ⟨rfl, hw⟩
  have hb1 : Below (w.alloc (.cells #[.int .i64 0, .int .i64 0, .int .u64 0, .int .i64 0, .slice none 0 0] 37)).heap.size (w.alloc (.cells #[.int .i64 0, .int .i64 0, .int .u64 0, .int .i64 0, .slice none 0 0] 37)) w1 := by rw [← hw]; exact (Below.refl _ _).alloc (Nat.le_refl _) _
  have HBW : Hid (Below w.heap.size w w1) := Lib.hid (HBA.out.trans (hb1.mono HBA.out.size))
  have HZ1 := Lib.hid (HZ.out.up hb1 hww)
  clear hb1 hw HR HBA HZ hww
  obtain ⟨⟨x0, x1, x2, x3, x4⟩, z0, z1, z2, z3, z4⟩ := HZ1.out.facts
  go_wp2
  refine bodyPost_ret (results_cell_row2 rfl _ _ w.heap.size 37 #[.int .i64 0, .int .i64 0, .int .u64 0, .int .i64 0, .slice none 0 0] _ _ rfl HZ1.out.put Tryz.underlying37 rfl (by kernel_rfl)) rfl ?_
  exact ⟨(zero, none, 0, 0), rfl, rfl, World.ownsRow_nil _ _ _ _, put_below HBW.out (Nat.le_refl _)⟩
set_option maxHeartbeats 1600000 in
set_option maxRecDepth 100000 in
theorem save_nil (w : World) (m : MM) : Calls Tryz.prog 11 #[.pointer none, aggM m] w fun e w' => e = .returned (.int .i64 2) ∧ Below w.heap.size w w' := by
  have hne := fun w => eq_nil_no w
  obtain ⟨⟨wal, next, seq, mark, segs⟩, As, ns, cs⟩ := m
  unfold aggM slV
  simp only
  go_enter Tryz.func11, Tryz.ntmps11
  go_wp2
  go_ret
  exact ⟨rfl, (Below.refl _ w).alloc (Nat.le_refl _) _⟩
end Go.Proofs.YtjninegpaoblfaaGreatDoor.MpDisk

namespace Go.Proofs.YtjninegpaoblfaaGreatDoor.MfProg
open Go Go.RowKit MfSpec MfMem RefMr MfLaw

/-- The program's. -/
theorem mfs : Mfs where
  first := MpRead.first_any
  write := fun w m hm hL => MpNums.write_any w m hm hL
  read := fun w b A n c h0 hr hc hm hL => MpRead.read_any w b A n c h0 hr hc hm hL
  load := fun w K o p d hd hs hL => MpDisk.load_any w K o p d hd hs hL
  loadNil := fun w _ => MpDisk.load_nil w
  save := fun w K o p d m hd ho hm hs hL => MpDisk.save_any w K o p d m hd ho hm hs hL
  saveNil := fun w m _ _ => MpDisk.save_nil w m
end Go.Proofs.YtjninegpaoblfaaGreatDoor.MfProg

