/- ManifestSwap, walked over the contracts of the program's manifests and disk. Conditions: the program's table is laid. -/
import Derived.Test.YtjninegpaoblfaaDoorMfBytesW
import Derived.Test.YtjninegpaoblfaaDoorMfSwapP
import Derived.Test.YtjninegpaoblfaaDoorPdReads
import Derived.Deep.CutBlock
namespace Go.Proofs.YtjninegpaoblfaaDoor.MfSwapW
open Go Go.RowKit Words AppN DkSpec PdLook RefDisk PdDisk PdOps PdSt PdRes MfSpec MfMem RefMf RefMw RefMr MfRead MfDisk MfLaw MfAwake MfBytesW MfSwapP Mv Tab Framed Reading
/-- A manifest that lies where nothing is written, or has no segments. -/
def Fast (w : World) (a : MM) : Prop := ∀ wz, Below w.heap.size w wz → OkM wz a
theorem fast_of {w : World} {a : MM} (h : OkM w a) : Fast w a := fun _ hb => h.below hb
theorem fast_nil {w wz : World} {a : MM} (h : OkM wz a) (hn : a.1.segs = []) : Fast w a := fun w' _ => ⟨⟨h.segs.len, h.segs.le, h.segs.cap, by rw [hn]; exact Rd.nil_⟩, h.ok⟩
/-- A box, whole: what it holds, and that it may be written. -/
def B5 (w : World) (g : Nat) (m : MM) : Prop := Box5 w g (.int .i64 m.1.wal) (.int .i64 m.1.next) (.int .u64 (m.1.seq.toNat : Int)) (.int .i64 m.1.mark) (.slice m.2.1 m.2.2.1 m.2.2.2)
def put5 (w : World) (g : Nat) (m : MM) : World := ((((w.setCell ⟨g, 0, none⟩ (.int .i64 m.1.wal)).setCell ⟨g, 1, none⟩ (.int .i64 m.1.next)).setCell ⟨g, 2, none⟩ (.int .u64 (m.1.seq.toNat : Int))).setCell ⟨g, 3, none⟩ (.int .i64 m.1.mark)).setCell ⟨g, 4, none⟩ (.slice m.2.1 m.2.2.1 m.2.2.2)
theorem put5_mv {K : Nat → Nat} (w : World) (g : Nat) (m : MM) (h : K g = 0) : Mv.Mv K K (· = 0) w (put5 w g m) :=
  (((Mv.Mv.poke (a := ⟨g, 0, none⟩) _ h).trans (Mv.Mv.poke (a := ⟨g, 1, none⟩) _ h)).trans ((Mv.Mv.poke (a := ⟨g, 2, none⟩) _ h).trans (Mv.Mv.poke (a := ⟨g, 3, none⟩) _ h))).trans (Mv.Mv.poke (a := ⟨g, 4, none⟩) _ h)
theorem put5_other {w : World} {g i : Nat} {m : MM} (h : i ≠ g) : (put5 w g m).heap[i]? = w.heap[i]? := by
  unfold put5
  rw [heap_setCell_other _ _ i _ h, heap_setCell_other _ _ i _ h, heap_setCell_other _ _ i _ h, heap_setCell_other _ _ i _ h, heap_setCell_other _ _ i _ h]
/-- One disk, two boxes; old memory as it was. -/
structure Sw (w : World) (g4 g5 : Nat) (a f : MM) (K : Nat → Nat) (p : Nat) (d : DSt) (wz : World) : Prop where
  disk : PDisk wz K 1 p d
  below : Below w.heap.size w wz
  old : ∀ i, i < w.heap.size → K i = 0
  b4 : B5 wz g4 a
  k4 : K g4 = 0
  l4 : g4 < wz.heap.size
  b5 : B5 wz g5 f
  k5 : K g5 = 0
  l5 : g5 < wz.heap.size
section
variable {w wz w' : World} {g4 g5 : Nat} {a f : MM} {K K' : Nat → Nat} {p : Nat} {d d' : DSt}
theorem Sw.step (h : Sw w g4 g5 a f K p d wz) (hd : PDisk w' K' 1 p d') (ht : Turned K K' 1 wz w') : Sw w g4 g5 a f K' p d' w' :=
  ⟨hd, ⟨ht.os.trans h.below.os, ht.tape.trans h.below.tape, ht.output.trans h.below.output, Nat.le_trans h.below.size ht.size, fun i hi => (ht.block i (Nat.lt_of_lt_of_le hi h.below.size) (by rw [h.old i hi]; decide)).trans (h.below.block i hi)⟩,
    fun i hi => (ht.kind i (Nat.lt_of_lt_of_le hi h.below.size)).trans (h.old i hi),
    (ht.block g4 h.l4 (by rw [h.k4]; decide)).trans h.b4, (ht.kind g4 h.l4).trans h.k4, Nat.lt_of_lt_of_le h.l4 ht.size,
    (ht.block g5 h.l5 (by rw [h.k5]; decide)).trans h.b5, (ht.kind g5 h.l5).trans h.k5, Nat.lt_of_lt_of_le h.l5 ht.size⟩
theorem Sw.call (h : Sw w g4 g5 a f K p d wz) (hb : Below wz.heap.size wz w') : Sw w g4 g5 a f (PdSt.mark K wz.heap.size 0) p d w' :=
  h.step (PDisk.mv h.disk (S := fun _ => False) (Mv.Mv.new hb 0) (fun x => x)) ⟨hb.os, hb.tape, hb.output, hb.size, fun i hi _ => hb.block i hi, fun _i hi => if_pos hi⟩
theorem Sw.put (h : Sw w g4 g5 a f K p d wz) (n : MM) (hg : w.heap.size ≤ g4) (hne : g5 ≠ g4) : Sw w g4 g5 n f K p d (put5 wz g4 n) :=
  ⟨PDisk.mv h.disk (put5_mv wz g4 n h.k4) (by decide), put_below h.below hg, h.old, Box5.put h.b4, h.k4, Nat.lt_of_lt_of_le h.l4 (put5_mv wz g4 n h.k4).size, (put5_other hne).trans h.b5, h.k5, Nat.lt_of_lt_of_le h.l5 (put5_mv wz g4 n h.k4).size⟩
theorem Sw.rd {w wz : World} {g4 g5 : Nat} {a f : MM} {K : Nat → Nat} {p : Nat} {d : DSt} {A : Option Addr} {ks : List Int} (h : Sw w g4 g5 a f K p d wz) (hr : Rd w w.heap.size A (ks.map I64)) :
    Rd wz wz.heap.size A (ks.map I64) ∧ ∀ b off, A = some ⟨b, off, none⟩ → 0 < ks.length → K b ≠ 1 := by
  refine ⟨(hr.below h.below).more h.below.size, fun b off e hn => ?_⟩
  obtain ⟨b', off', e', hb', _⟩ := hr (by simpa using hn)
  rw [e] at e'
  injection e' with e'
  injection e' with e'
  subst e'
  rw [h.old b hb']
  decide
theorem small_few {d : DSt} (h : Small d) : d.files.length ≤ 1000000000 := by
  have := h.fine.few
  omega
/-- A box beside. -/
structure Bx (wz : World) (K : Nat → Nat) (g : Nat) (m : MM) : Prop where
  b : B5 wz g m
  k : K g = 0
  l : g < wz.heap.size
theorem Bx.step {wz w' : World} {K K' : Nat → Nat} {g : Nat} {m : MM} (h : Bx wz K g m) (ht : Turned K K' 1 wz w') : Bx w' K' g m :=
  ⟨(ht.block g h.l (by rw [h.k]; decide)).trans h.b, (ht.kind g h.l).trans h.k, Nat.lt_of_lt_of_le h.l ht.size⟩
theorem Bx.put {wz : World} {K : Nat → Nat} {g : Nat} {m : MM} (h : Bx wz K g m) (n : MM) : Bx (put5 wz g n) K g n :=
  ⟨Box5.put h.b, h.k, Nat.lt_of_lt_of_le h.l (put5_mv wz g n h.k).size⟩
theorem Sw.beside {w wz : World} {g4 g5 g : Nat} {a f : MM} {K : Nat → Nat} {p : Nat} {d : DSt} (h : Sw w g4 g5 a f K p d wz) (n : MM) (hk : K g = 0) (hg : w.heap.size ≤ g) (h4 : g4 ≠ g) (h5 : g5 ≠ g) : Sw w g4 g5 a f K p d (put5 wz g n) :=
  ⟨PDisk.mv h.disk (put5_mv wz g n hk) (by decide), put_below h.below hg, h.old, (put5_other h4).trans h.b4, h.k4, Nat.lt_of_lt_of_le h.l4 (put5_mv wz g n hk).size, (put5_other h5).trans h.b5, h.k5, Nat.lt_of_lt_of_le h.l5 (put5_mv wz g n hk).size⟩
theorem Bx.call {wz w' : World} {K : Nat → Nat} {g : Nat} {m : MM} (h : Bx wz K g m) (hb : Below wz.heap.size wz w') : Bx w' (PdSt.mark K wz.heap.size 0) g m :=
  ⟨(hb.block g h.l).trans h.b, (if_pos h.l).trans h.k, Nat.lt_of_lt_of_le h.l hb.size⟩

end
set_option maxHeartbeats 6400000 in
set_option maxRecDepth 100000 in
theorem swap_any (P : Mfs) (w : World) (hL : Laid w w.heap.size) (o f : MM) (ho : OkM w o) (hf : OkM w f) (at_ : Int) (_hat : In64 at_) (ks : List Int) (Ak : Option Addr) (ck : Nat) (hk : Rd w w.heap.size Ak (ks.map I64)) (hkc : ks.length ≤ ck) (hkm : ck ≤ maxLen) (hks : ∀ x ∈ ks, In64 x) :
    Calls Tryd.prog 12 #[aggM o, aggM f, .int .i64 at_, .slice Ak ks.length ck] w fun e w' => e = .returned (.bool true) ∧ Below w.heap.size w w' := by
  have HL := Lib.hid hL
  have HO := Lib.hid ho
  have HF := Lib.hid hf
  have HK := Lib.hid hk
  have HKC := Lib.hid hkc
  have HKM := Lib.hid hkm
  have HKS := Lib.hid hks
  obtain ⟨u, hu, hu2⟩ : ∃ u : Nat, IntKind.u64.wrap at_ = (u : Int) ∧ u < 18446744073709551616 := ⟨(at_ % 18446744073709551616).toNat, by rw [IntKind.wrap_u64]; omega, by omega⟩
  obtain ⟨k, hk7, hk8⟩ : ∃ k : Nat, Int.tmod (u : Int) 7 = (k : Int) ∧ k < 7 := ⟨u % 7, by rw [Int.tmod_eq_emod_of_nonneg (by omega)]; omega, by omega⟩
  have FF := Lib.hid (facts ho.ok hf.ok k hk8 ks)
  have HE1 := Lib.hid (e1_of o.1)
  have HB0 : Hid (Below w.heap.size w ((w.alloc (boxM o)).alloc (boxM f))) := Lib.hid (((Below.refl _ w).alloc (Nat.le_refl _) _).alloc (by simp) _)
  have hb1 : B5 ((w.alloc (boxM o)).alloc (boxM f)) w.heap.size o := (Below.heap_alloc _ _ _ (by simp)).trans (heap_alloc_new w _)
  have hb2 : B5 ((w.alloc (boxM o)).alloc (boxM f)) (w.heap.size + 1) f := heap_alloc2_new w _ _
  have HXO := Lib.hid hb1
  have HXF := Lib.hid hb2
  have hw0 : w.heap.size < ((w.alloc (boxM o)).alloc (boxM f)).heap.size := by simp; omega
  have hw1 : w.heap.size + 1 < ((w.alloc (boxM o)).alloc (boxM f)).heap.size := by simp
  have H1 := Lib.hid (PdOps.new_any ((w.alloc (boxM o)).alloc (boxM f)) (fun _ => 0) 1)
  clear hL ho hf hk hkc hkm hks hb1 hb2
  obtain ⟨⟨o0, o1, o2, o3, ol⟩, oA, on_, oc⟩ := o
  obtain ⟨⟨f0, f1, f2, f3, fl⟩, fA, fn, fc⟩ := f
  unfold boxM at HB0 HXO HXF hw0 hw1 H1
  unfold aggM slV
  simp only at HB0 HXO HXF hw0 hw1 H1 FF HE1 ⊢
  go_enter Tryd.func12, Tryd.ntmps12
  go_wp2_with fail
  obtain ⟨W, hW⟩ : ∃ W, (w.alloc (.cells #[.int .i64 o0, .int .i64 o1, .int .u64 (o2.toNat : Int), .int .i64 o3, .slice oA on_ oc] 25)).alloc (.cells #[.int .i64 f0, .int .i64 f1, .int .u64 (f2.toNat : Int), .int .i64 f3, .slice fA fn fc] 25) = W := ⟨_, rfl⟩
  rw [hW] at HB0 HXO HXF hw0 hw1 H1
  rw [hW]
  clear hW
  refine H1.out.mono ?_
  rintro e w1 ⟨p, K1, rfl, hp, hd1, ht1⟩
  have S1 : Hid (Sw w w.heap.size (w.heap.size + 1) (⟨o0, o1, o2, o3, ol⟩, oA, on_, oc) (⟨f0, f1, f2, f3, fl⟩, fA, fn, fc) K1 p DkSpec.fresh w1) := Lib.hid (by
    have ht := ht1 1
    refine ⟨hd1, HB0.out.trans ((St.first hd1 ht1).below.mono HB0.out.size), fun i hi => ht.kind i (by omega), ((St.first hd1 ht1).below.block _ hw0).trans HXO.out, ht.kind _ hw0, Nat.lt_of_lt_of_le hw0 ht.size, ((St.first hd1 ht1).below.block _ hw1).trans HXF.out, ht.kind _ hw1, Nat.lt_of_lt_of_le hw1 ht.size⟩)
  clear hd1 ht1 H1 hp HXO HXF hw0 hw1 HB0
  have H2 := Lib.hid (P.save w1 K1 1 p DkSpec.fresh (⟨o0, o1, o2, o3, ol⟩, oA, on_, oc) S1.out.disk (by decide) (HO.out.below S1.out.below) small_fresh (laid_up HL.out S1.out.below))
  unfold OPost aggM slV at H2
  simp only at H2
  have ⟨x0, x1, x2, x3, x4⟩ := S1.out.b4.facts.1
  simp only at x0 x1 x2 x3 x4
  go_wp2_with fail
  refine H2.out.mono ?_
  rintro e w2 ⟨rfl, K2, hd2, ht2⟩
  have S2 := Lib.hid (S1.out.step hd2 ht2)
  clear hd2 ht2 H2 x0 x1 x2 x3 x4 S1
  have HE1a : Hid ((save ⟨o0, o1, o2, o3, ol⟩ DkSpec.fresh).1 = if may ⟨o0, o1, o2, o3, ol⟩ = true then 0 else 1) := Lib.hid (by rw [HE1.out])
  obtain ⟨e1, he1⟩ : ∃ e1, (save ⟨o0, o1, o2, o3, ol⟩ DkSpec.fresh).1 = e1 := ⟨_, rfl⟩
  rw [he1] at HE1a
  rw [he1]
  clear he1 HE1
  have HP := fun wz => Lib.hid ((P.first wz).mono fun e w' h => open_mm h)
  go_upto_if 22 with (fail)
  go_cut [23] from 23 to 24 (fun _ wx => ∃ (q0 q1 : Int) (q2 : UInt64) (q3 : Int) (ql : List Sg) (qA : Option Addr) (qn qc : Nat) (K3 : Nat → Nat), Hid ((⟨q0, q1, q2, q3, ql⟩ : Man) = oldOf ⟨o0, o1, o2, o3, ol⟩) ∧ Hid (Sw w w.heap.size (w.heap.size + 1) (⟨q0, q1, q2, q3, ql⟩, qA, qn, qc) (⟨f0, f1, f2, f3, fl⟩, fA, fn, fc) K3 p (save ⟨o0, o1, o2, o3, ol⟩ DkSpec.fresh).2 wx) ∧ Hid (Fast w (⟨q0, q1, q2, q3, ql⟩, qA, qn, qc)))
  case first =>
    by_cases hmo : may ⟨o0, o1, o2, o3, ol⟩ = true
    · have hq : Hid ((⟨o0, o1, o2, o3, ol⟩ : Man) = oldOf ⟨o0, o1, o2, o3, ol⟩) := Lib.hid (by unfold oldOf; rw [if_pos hmo])
      obtain rfl : e1 = 0 := by rw [HE1a.out, if_pos hmo]
      have hF : Hid (Fast w (⟨o0, o1, o2, o3, ol⟩, oA, on_, oc)) := Lib.hid (fast_of HO.out)
      clear HE1a hmo HP FF
      go_wp2
      go_meet
      exact ⟨o0, o1, o2, o3, ol, oA, on_, oc, K2, hq, S2, hF⟩
    · have hq : Hid (MfSpec.first = oldOf ⟨o0, o1, o2, o3, ol⟩) := Lib.hid (by unfold oldOf; rw [if_neg hmo])
      obtain rfl : e1 = 1 := by rw [HE1a.out, if_neg hmo]
      clear HE1a hmo FF
      go_wp2_with fail
      refine (HP w2).out.mono ?_
      rintro e w3 ⟨q0, q1, q2, q3, ql, qA, qn, qc, rfl, hqq, hok, hb⟩
      have S3 := Lib.hid (S2.out.call hb)
      obtain ⟨⟨x0, x1, x2, x3, x4⟩, z0, z1, z2, z3, z4⟩ := S3.out.b4.facts
      have S4 := Lib.hid (S3.out.put (⟨q0, q1, q2, q3, ql⟩, qA, qn, qc) (Nat.le_refl _) (by omega))
      have hF : Hid (Fast w (⟨q0, q1, q2, q3, ql⟩, qA, qn, qc)) := Lib.hid (fast_nil hok (by show ql = []; exact congrArg Man.segs hqq))
      have HQ : Hid ((⟨q0, q1, q2, q3, ql⟩ : Man) = oldOf ⟨o0, o1, o2, o3, ol⟩) := Lib.hid (hqq.trans hq.out)
      clear hqq hok hb hq S2
      unfold put5 at S4
      simp only at S4 x0 x1 x2 x3 x4
      go_wp2
      go_meet
      exact ⟨q0, q1, q2, q3, ql, qA, qn, qc, _, HQ, S4, hF⟩
  case rest =>
    obtain ⟨q0, q1, q2, q3, ql, qA, qn, qc, K3, HQ, S3, F3⟩ := hcut
    clear HP HE1a S2
    have H4 := Lib.hid (PdOps.arm_any wc K3 1 p _ (k : Int) S3.out.disk (by omega) (by omega))
    unfold MPost at H4
    go_wp2_with fail
    refine H4.out.mono ?_
    rintro e w4 ⟨rfl, K4, hd4, ht4⟩
    have S4 := Lib.hid (S3.out.step hd4 ht4)
    clear hd4 ht4 H4 S3
    have H5 := P.save w4 K4 1 p _ (⟨f0, f1, f2, f3, fl⟩, fA, fn, fc) S4.out.disk (by decide) (HF.out.below S4.out.below) FF.out.s2 (laid_up HL.out S4.out.below)
    rw [show save (⟨f0, f1, f2, f3, fl⟩, fA, fn, fc).1 (arm (k : Int) (save ⟨o0, o1, o2, o3, ol⟩ DkSpec.fresh).2) = E3 ⟨o0, o1, o2, o3, ol⟩ ⟨f0, f1, f2, f3, fl⟩ k from rfl] at H5
    replace H5 := Lib.hid H5
    unfold OPost aggM slV at H5
    simp only at H5
    have ⟨x0, x1, x2, x3, x4⟩ := S4.out.b5.facts.1
    simp only at x0 x1 x2 x3 x4
    go_wp2_with fail
    refine H5.out.mono ?_
    rintro e w5 ⟨rfl, K5, hd5, ht5⟩
    have S5 := Lib.hid (S4.out.step hd5 ht5)
    clear hd5 ht5 H5 x0 x1 x2 x3 x4 S4
    have H6 := restart_any w5 K5 1 p _ ks Ak ck S5.out.disk (small_few FF.out.s3) (S5.out.rd HK.out).1 (S5.out.rd HK.out).2 HKS.out HKC.out HKM.out
    rw [show restart ks (E3 ⟨o0, o1, o2, o3, ol⟩ ⟨f0, f1, f2, f3, fl⟩ k).2 = D4 ⟨o0, o1, o2, o3, ol⟩ ⟨f0, f1, f2, f3, fl⟩ k ks from rfl] at H6
    replace H6 := Lib.hid H6
    unfold MPost at H6
    go_wp2_with fail
    refine H6.out.mono ?_
    rintro e w6 ⟨rfl, K6, hd6, ht6⟩
    have S6 := Lib.hid (S5.out.step hd6 ht6)
    clear hd6 ht6 H6 S5
    obtain ⟨mm, hmm⟩ : ∃ mm, (if (E3 ⟨o0, o1, o2, o3, ol⟩ ⟨f0, f1, f2, f3, fl⟩ k).1 = 0 then (⟨f0, f1, f2, f3, fl⟩ : Man) else oldOf ⟨o0, o1, o2, o3, ol⟩) = mm := ⟨_, rfl⟩
    have HMM := Lib.hid hmm
    have hok : Ok mm := by
      rw [← hmm]
      split
      · exact HF.out.ok
      · rw [← HQ.out]
        exact (F3.out w (Below.refl _ _)).ok
    have H7 := P.load w6 K6 1 p _ S6.out.disk FF.out.s4 (laid_up HL.out S6.out.below)
    rw [FF.out.load4, hmm] at H7
    replace H7 := Lib.hid (H7.mono fun e w' h => rpost_open h hok)
    clear hmm hok
    simp only at H7
    go_wp2_with fail
    refine H7.out.mono ?_
    rintro e w7 ⟨m0, m1, m2, m3, ml, mA, mn, mc, rfl, hmm, hokm, hb⟩
    have HMQ : Hid ((⟨m0, m1, m2, m3, ml⟩ : Man) = mm) := Lib.hid hmm
    have hal : Below w7.heap.size w7 (w7.alloc (boxM (⟨m0, m1, m2, m3, ml⟩, mA, mn, mc))) := (Below.refl _ w7).alloc (Nat.le_refl _) _
    have S7 := Lib.hid (S6.out.call (hb.trans (hal.mono hb.size)))
    have HMO : Hid (OkM (w7.alloc (boxM (⟨m0, m1, m2, m3, ml⟩, mA, mn, mc))) (⟨m0, m1, m2, m3, ml⟩, mA, mn, mc)) := Lib.hid (hokm.below hal)
    have X7 : Hid (Bx (w7.alloc (boxM (⟨m0, m1, m2, m3, ml⟩, mA, mn, mc))) (PdSt.mark K6 w6.heap.size 0) w7.heap.size (⟨m0, m1, m2, m3, ml⟩, mA, mn, mc)) := Lib.hid ⟨heap_alloc_new w7 _, if_neg (by have := hb.size; omega), by simp⟩
    have hg7 : w.heap.size + 1 < w7.heap.size := Nat.lt_of_lt_of_le S6.out.l5 hb.size
    clear hmm hokm hb hal S6 H7
    unfold boxM at S7 HMO X7
    simp only at S7 HMO X7
    obtain ⟨K7, hK7⟩ : ∃ K7, PdSt.mark K6 w6.heap.size 0 = K7 := ⟨_, rfl⟩
    rw [hK7] at S7 X7
    clear hK7
    go_upto_region 9 with (fail)
    obtain ⟨W7, hW7⟩ : ∃ W7, w7.alloc (.cells #[.int .i64 m0, .int .i64 m1, .int .u64 (m2.toNat : Int), .int .i64 m3, .slice mA mn mc] 25) = W7 := ⟨_, rfl⟩
    rw [hW7] at S7 HMO X7
    rw [hW7]
    clear hW7
    obtain ⟨g7, hg⟩ : ∃ g7, w7.heap.size = g7 := ⟨_, rfl⟩
    rw [hg] at X7 hg7
    rw [hg]
    clear hg
    have HYES := Lib.hid FF.out.yes
    have HNO := Lib.hid FF.out.no
    have HE5 := Lib.hid FF.out.e5
    have HL5 := Lib.hid FF.out.load5
    have HI5 := Lib.hid FF.out.list5
    have HS4 := Lib.hid FF.out.s4
    have HS5 := Lib.hid FF.out.s5
    have H8 := (P.write W7 (⟨f0, f1, f2, f3, fl⟩, fA, fn, fc) (HF.out.below S7.out.below) (laid_up HL.out S7.out.below)).mono fun e w' h => wpost_open h
    have HSV := Lib.hid (fun w9 K (h : PDisk w9 K 1 p (D4 ⟨o0, o1, o2, o3, ol⟩ ⟨f0, f1, f2, f3, fl⟩ k ks)) hb hl => P.save w9 K 1 p _ (⟨f0, f1, f2, f3, fl⟩, fA, fn, fc) h (by decide) (HF.out.below hb) HS4.out hl)
    rw [show save (⟨f0, f1, f2, f3, fl⟩, fA, fn, fc).1 (D4 ⟨o0, o1, o2, o3, ol⟩ ⟨f0, f1, f2, f3, fl⟩ k ks) = E5 ⟨o0, o1, o2, o3, ol⟩ ⟨f0, f1, f2, f3, fl⟩ k ks from rfl] at HSV
    obtain ⟨e3, he3⟩ : ∃ e3, (E3 ⟨o0, o1, o2, o3, ol⟩ ⟨f0, f1, f2, f3, fl⟩ k).1 = e3 := ⟨_, rfl⟩
    rw [he3] at HYES HNO HMM
    rw [he3]
    clear he3 FF
    obtain ⟨D, hD⟩ : ∃ D, D4 ⟨o0, o1, o2, o3, ol⟩ ⟨f0, f1, f2, f3, fl⟩ k ks = D := ⟨_, rfl⟩
    rw [hD] at S7 HSV HS4
    clear hD
    obtain ⟨E, hE⟩ : ∃ E, E5 ⟨o0, o1, o2, o3, ol⟩ ⟨f0, f1, f2, f3, fl⟩ k ks = E := ⟨_, rfl⟩
    rw [hE] at HSV HE5 HL5 HI5 HS5
    clear hE
    obtain ⟨wr, hwr⟩ : ∃ wr, write ⟨f0, f1, f2, f3, fl⟩ = wr := ⟨_, rfl⟩
    have HWE : Hid (wr.1 = if may ⟨f0, f1, f2, f3, fl⟩ = true then 0 else 1) := Lib.hid (by
      rw [← hwr]
      by_cases h : may ⟨f0, f1, f2, f3, fl⟩ = true
      · rw [write_ok h, if_pos h]
      · rw [write_no h, if_neg h])
    rw [hwr] at H8
    clear hwr
    obtain ⟨we, wb⟩ := wr
    simp only at HWE H8
    replace H8 := Lib.hid H8
    unfold aggM slV at H8
    simp only at H8
    have ⟨x0, x1, x2, x3, x4⟩ := S7.out.b5.facts.1
    simp only at x0 x1 x2 x3 x4
    go_wp2_with fail
    refine H8.out.mono ?_
    rintro e w8 ⟨A8, c8, rfl, _, _, _, hb⟩
    have S8 := Lib.hid (S7.out.call hb)
    have X8 := Lib.hid (X7.out.call hb)
    have M8 := Lib.hid (HMO.out.below hb)
    clear hb H8 S7 X7 HMO x0 x1 x2 x3 x4
    obtain ⟨K8, hK8⟩ : ∃ K8, PdSt.mark K7 W7.heap.size 0 = K8 := ⟨_, rfl⟩
    rw [hK8] at S8 X8
    clear hK8
    by_cases hmf : may ⟨f0, f1, f2, f3, fl⟩ = true
    case neg =>
      obtain rfl : we = 1 := by rw [HWE.out, if_neg hmf]
      obtain rfl : e3 = 1 := HNO.out hmf
      have H9 := Lib.hid (same_same w8 m0 m1 m2 m3 ml mA mn mc q0 q1 q2 q3 ql qA qn qc M8.out (F3.out w8 S8.out.below) true (decide_eq_true (by rw [HMQ.out, ← HMM.out, HQ.out]; rfl)))
      clear HWE HNO HYES HE5 HL5 HI5 HSV hmf
      obtain ⟨x0, x1, x2, x3, x4⟩ := X8.out.b.facts.1
      obtain ⟨y0, y1, y2, y3, y4⟩ := S8.out.b4.facts.1
      simp only at x0 x1 x2 x3 x4 y0 y1 y2 y3 y4
      go_wp2_with fail
      refine H9.out.mono ?_
      rintro e w9 ⟨rfl, hb9⟩
      have HB9 := Lib.hid (S8.out.below.trans (hb9.mono S8.out.below.size))
      clear hb9 H9
      go_wp2
      go_ret
      exact ⟨rfl, HB9.out⟩
    obtain rfl : we = 0 := by rw [HWE.out, if_pos hmf]
    have HYE := Lib.hid (HYES.out hmf)
    have HE50 := Lib.hid (HE5.out hmf)
    have HLD5 := Lib.hid (HL5.out hmf)
    have HLI5 := Lib.hid (HI5.out hmf)
    clear HWE HNO HYES HE5 HL5 HI5 hmf
    go_upto_region 14 with (fail)
    go_cut [83] from 59 to 84 (fun s83 wx => s83 = .bool false ∧ Hid (Below w8.heap.size w8 wx))
    case first =>
      obtain ⟨x0, x1, x2, x3, x4⟩ := X8.out.b.facts.1
      obtain ⟨y0, y1, y2, y3, y4⟩ := S8.out.b4.facts.1
      obtain ⟨v0, v1, v2, v3, v4⟩ := S8.out.b5.facts.1
      simp only at x0 x1 x2 x3 x4 y0 y1 y2 y3 y4 v0 v1 v2 v3 v4
      by_cases hk4 : 4 ≤ k
      · obtain rfl : e3 = 0 := HYE.out.2 hk4
        have H9 := Lib.hid (same_same w8 m0 m1 m2 m3 ml mA mn mc f0 f1 f2 f3 fl fA fn fc M8.out (HF.out.below S8.out.below) true (decide_eq_true (by rw [HMQ.out, ← HMM.out]; rfl)))
        have j1 : (((0 : Nat) : Int) == 0) = true := by decide
        have j2 : decide ((k : Int) ≥ 4) = true := decide_eq_true (by omega)
        have j3 : (((0 : Nat) : Int) != 0) = false := by decide
        clear HYE HMM HE50 HLD5 HLI5 HSV
        go_wp2_with fail
        refine H9.out.mono ?_
        rintro e w9 ⟨rfl, hb9⟩
        have HB9 := Lib.hid hb9
        clear hb9 H9
        go_wp2
        go_meet
        exact ⟨rfl, HB9⟩
      · have he : e3 ≠ 0 := fun h => hk4 (HYE.out.1 h)
        have H9 := Lib.hid (same_same w8 m0 m1 m2 m3 ml mA mn mc q0 q1 q2 q3 ql qA qn qc M8.out (F3.out w8 S8.out.below) true (decide_eq_true (by rw [HMQ.out, ← HMM.out, if_neg he, HQ.out])))
        have j1 : ((e3 : Int) == 0) = false := by simpa using he
        have j2 : decide ((k : Int) ≥ 4) = false := decide_eq_false (by omega)
        have j3 : ((e3 : Int) != 0) = true := by simpa using he
        clear HYE HMM HE50 HLD5 HLI5 HSV he
        go_wp2_with fail
        refine H9.out.mono ?_
        rintro e w9 ⟨rfl, hb9⟩
        have HB9 := Lib.hid hb9
        clear hb9 H9
        go_wp2
        go_meet
        exact ⟨rfl, HB9⟩
    case rest =>
      obtain ⟨rfl, hb9⟩ := hcut
      have S9 := Lib.hid (S8.out.call hb9.out)
      have X9 := Lib.hid (X8.out.call hb9.out)
      clear hb9 S8 X8 M8 HYE HMM HMQ HQ F3
      obtain ⟨K9, hK9⟩ : ∃ K9, PdSt.mark K8 w8.heap.size 0 = K9 := ⟨_, rfl⟩
      rw [hK9] at S9 X9
      clear hK9
      have H10 := Lib.hid (HSV.out wc K9 S9.out.disk S9.out.below (laid_up HL.out S9.out.below))
      unfold OPost aggM slV at H10
      simp only [HE50.out] at H10
      have ⟨x0, x1, x2, x3, x4⟩ := S9.out.b5.facts.1
      simp only at x0 x1 x2 x3 x4
      clear HSV
      go_wp2_with fail
      refine H10.out.mono ?_
      rintro e w10 ⟨rfl, K10, hd10, ht10⟩
      have S10 := Lib.hid (S9.out.step hd10 ht10)
      have X10 := Lib.hid (X9.out.step ht10)
      clear hd10 ht10 H10 x0 x1 x2 x3 x4 S9 X9 HS4
      have H11 := P.load w10 K10 1 p _ S10.out.disk HS5.out (laid_up HL.out S10.out.below)
      rw [HLD5.out] at H11
      replace H11 := Lib.hid (H11.mono fun e w' h => rpost_own h)
      simp only at H11
      go_wp2_with fail
      refine H11.out.mono ?_
      rintro e w11 ⟨n0, n1, n2, n3, nl, nA, nn, nc, rfl, hnn, hown, hb⟩
      have HNF := Lib.hid hnn
      have HOW := Lib.hid (own_put5 (g := g7) (a := .int .i64 n0) (b := .int .i64 n1) (c := .int .u64 (n2.toNat : Int)) (d := .int .i64 n3) (f := .slice nA nn nc) hown X10.out.l)
      have HNO := Lib.hid (own_okM (m := ⟨n0, n1, n2, n3, nl⟩) HOW.out (by rw [HNF.out]; exact HF.out.ok))
      have S11 := Lib.hid (S10.out.call hb)
      have X11 := Lib.hid (X10.out.call hb)
      obtain ⟨⟨x0, x1, x2, x3, x4⟩, z0, z1, z2, z3, z4⟩ := X11.out.b.facts
      have S12 := Lib.hid (S11.out.beside (⟨n0, n1, n2, n3, nl⟩, nA, nn, nc) X11.out.k (by omega) (by omega) (by omega))
      have X12 := Lib.hid (X11.out.put (⟨n0, n1, n2, n3, nl⟩, nA, nn, nc))
      clear hnn hown hb H11 S10 X10 S11 HOW HLD5 HE50
      unfold put5 at S12 X12
      simp only at S12 X12 HNO x0 x1 x2 x3 x4
      go_wp2_with fail
      obtain ⟨W12, hW⟩ : ∃ W12, (((((w11.setCell ⟨g7, 0, none⟩ (.int .i64 n0)).setCell ⟨g7, 1, none⟩ (.int .i64 n1)).setCell ⟨g7, 2, none⟩ (.int .u64 (n2.toNat : Int))).setCell ⟨g7, 3, none⟩ (.int .i64 n3)).setCell ⟨g7, 4, none⟩ (.slice nA nn nc)) = W12 := ⟨_, rfl⟩
      rw [hW] at S12 X12 HNO
      rw [hW]
      clear hW x0 x1 x2 x3 x4 z0 z1 z2 z3 z4
      have H13 := PdList.list_any W12 _ 1 p _ S12.out.disk (small_few HS5.out)
      rw [HLI5.out] at H13
      replace H13 := Lib.hid H13
      unfold PdList.LsPost at H13
      simp only at H13
      clear HLI5
      refine H13.out.mono ?_
      rintro e w13 ⟨v, rfl, hown, hb⟩
      obtain ⟨A13, c13, rfl, _, _, _⟩ := Put.own_slice hown
      have S13 := Lib.hid (S12.out.call hb)
      have X13 := Lib.hid (X12.out.call hb)
      have M13 := Lib.hid (HNO.out.below hb)
      clear hown hb H13 S12 X12 HNO
      have H14 := Lib.hid (same_same w13 n0 n1 n2 n3 nl nA nn nc f0 f1 f2 f3 fl fA fn fc M13.out (HF.out.below S13.out.below) true (decide_eq_true HNF.out))
      obtain ⟨x0, x1, x2, x3, x4⟩ := X13.out.b.facts.1
      obtain ⟨y0, y1, y2, y3, y4⟩ := S13.out.b5.facts.1
      simp only at x0 x1 x2 x3 x4 y0 y1 y2 y3 y4
      go_wp2_with fail
      refine H14.out.mono ?_
      rintro e w14 ⟨rfl, hb⟩
      have HB := Lib.hid (S13.out.below.trans (hb.mono S13.out.below.size))
      clear hb H14
      go_wp2
      go_ret
      exact ⟨rfl, HB.out⟩

set_option maxHeartbeats 1600000 in
set_option maxRecDepth 100000 in
theorem swap_walk (P : Mfs) (w : World) (hL : Laid w w.heap.size) (o f : MM) (ho : OkM w o) (hf : OkM w f) (at_ : Int) (hat : In64 at_) (ks : List Int) (Ak : Option Addr) (ck : Nat) (hk : Rd w w.heap.size Ak (ks.map I64)) (hkc : ks.length ≤ ck) (hkm : ck ≤ maxLen) (hks : ∀ x ∈ ks, In64 x) :
    Calls Tryd.prog 4 #[aggM o, aggM f, .agg #[.int .i64 at_, .slice Ak ks.length ck]] w fun e w' => e = .returned (.bool true) ∧ Below w.heap.size w w' := by
  have HB0 : Hid (Below w.heap.size w (((w.alloc (boxM o)).alloc (boxM f)).alloc (.cells #[.int .i64 at_, .slice Ak ks.length ck] 37))) := Lib.hid ((((Below.refl _ w).alloc (Nat.le_refl _) _).alloc (by simp) _).alloc (by simp <;> omega) _)
  have h1 : ((((w.alloc (boxM o)).alloc (boxM f)).alloc (.cells #[.int .i64 at_, .slice Ak ks.length ck] 37))).heap[w.heap.size]? = some (boxM o) := (Below.heap_alloc _ _ _ (by simp <;> omega)).trans ((Below.heap_alloc _ _ _ (by simp)).trans (heap_alloc_new w _))
  have h2 : ((((w.alloc (boxM o)).alloc (boxM f)).alloc (.cells #[.int .i64 at_, .slice Ak ks.length ck] 37))).heap[w.heap.size + 1]? = some (boxM f) := (Below.heap_alloc _ _ _ (by simp)).trans (heap_alloc2_new w _ _)
  have h3 : ((((w.alloc (boxM o)).alloc (boxM f)).alloc (.cells #[.int .i64 at_, .slice Ak ks.length ck] 37))).heap[w.heap.size + 2]? = some (.cells #[.int .i64 at_, .slice Ak ks.length ck] 37) := by
    have := heap_alloc_new ((w.alloc (boxM o)).alloc (boxM f)) (.cells #[.int .i64 at_, .slice Ak ks.length ck] 37)
    simpa using this
  have H1 := Lib.hid h1
  have H2 := Lib.hid h2
  have H3 := Lib.hid h3
  have hs : w.heap.size + 2 < (((w.alloc (boxM o)).alloc (boxM f)).alloc (.cells #[.int .i64 at_, .slice Ak ks.length ck] 37)).heap.size := by simp <;> omega
  have H0 := Lib.hid (awake_any P (((w.alloc (boxM o)).alloc (boxM f)).alloc (.cells #[.int .i64 at_, .slice Ak ks.length ck] 37)) (laid_up hL HB0.out))
  have HS := Lib.hid (fun wz (h : Below w.heap.size w wz) => swap_any P wz (laid_up hL h) o f (ho.below h) (hf.below h) at_ hat ks Ak ck ((hk.below h).more h.size) hkc hkm hks)
  clear hL ho hf hat hk hkc hkm hks h1 h2 h3
  obtain ⟨⟨o0, o1, o2, o3, ol⟩, oA, on_, oc⟩ := o
  obtain ⟨⟨f0, f1, f2, f3, fl⟩, fA, fn, fc⟩ := f
  unfold boxM at HB0 H0 H1 H2 H3 hs
  unfold aggM slV at HS
  unfold aggM slV
  simp only at HB0 H0 H1 H2 H3 hs HS ⊢
  go_enter Tryd.func4, Tryd.ntmps4
  go_wp2_with fail
  refine H0.out.mono ?_
  rintro e w1 ⟨rfl, hb1⟩
  have HB1 := Lib.hid (HB0.out.trans (hb1.mono HB0.out.size))
  have g1 := Lib.hid ((hb1.block _ (by omega)).trans H1.out)
  have g2 := Lib.hid ((hb1.block _ (by omega)).trans H2.out)
  have g3 := Lib.hid ((hb1.block _ (by omega)).trans H3.out)
  have a0 : w1.cell? ⟨w.heap.size, 0, none⟩ = some _ := cell_of_heap g1.out rfl
  have a1 : w1.cell? ⟨w.heap.size, 1, none⟩ = some _ := cell_of_heap g1.out rfl
  have a2 : w1.cell? ⟨w.heap.size, 2, none⟩ = some _ := cell_of_heap g1.out rfl
  have a3 : w1.cell? ⟨w.heap.size, 3, none⟩ = some _ := cell_of_heap g1.out rfl
  have a4 : w1.cell? ⟨w.heap.size, 4, none⟩ = some _ := cell_of_heap g1.out rfl
  have b0 : w1.cell? ⟨w.heap.size + 1, 0, none⟩ = some _ := cell_of_heap g2.out rfl
  have b1 : w1.cell? ⟨w.heap.size + 1, 1, none⟩ = some _ := cell_of_heap g2.out rfl
  have b2 : w1.cell? ⟨w.heap.size + 1, 2, none⟩ = some _ := cell_of_heap g2.out rfl
  have b3 : w1.cell? ⟨w.heap.size + 1, 3, none⟩ = some _ := cell_of_heap g2.out rfl
  have b4 : w1.cell? ⟨w.heap.size + 1, 4, none⟩ = some _ := cell_of_heap g2.out rfl
  have c0 : w1.cell? ⟨w.heap.size + 2, 0, none⟩ = some _ := cell_of_heap g3.out rfl
  have c1 : w1.cell? ⟨w.heap.size + 2, 1, none⟩ = some _ := cell_of_heap g3.out rfl
  have HS1 := Lib.hid (HS.out w1 HB1.out)
  clear hb1 H0 H1 H2 H3 HB0 hs HS
  go_wp2_with fail
  refine HS1.out.mono ?_
  rintro e w2 ⟨rfl, hb2⟩
  have HB2 := Lib.hid (HB1.out.trans (hb2.mono HB1.out.size))
  clear hb2 HS1
  go_wp2
  go_ret
  exact ⟨rfl, HB2.out⟩
end Go.Proofs.YtjninegpaoblfaaDoor.MfSwapW
