/- The program's reader of records: number. Conditions: the bytes lie in memory below the reader. -/
import Derived.Test.YtahbaifbihpppaaRpPlain
import Derived.Test.YtahbaifbihpppaaGet
import Derived.Test.YtahbaifbihpppaaZig
import Derived.Test.YtahbaifbihpppaaLpCmps
import Derived.Laws.ResultCell
import Derived.OneCell
namespace Go.Proofs.Ytahbaifbihpppaa.RpRead
open Go Go.RowKit Words AppN Less LbSpec LbText LbMem LbRef LbCmp RcSpec RcAll RcMem RcRefRd RpPlain UtOwn LpBoth Plain

/-- A reader's box. -/
structure RBox (w : World) (p : Nat) (b : List UInt8) (A : Option Addr) (c : Nat) (s : RS) : Prop where
  box : w.heap[p]? = some (.cells #[.slice A b.length c, .int .i64 s.1, .int .i64 (s.2 : Int)] 68 (0, 0))
  rd : Rd w p A (b.map B8)
  le : b.length ≤ c
  cap : c ≤ maxLen
variable {w w1 : World} {p : Nat} {b : List UInt8} {A : Option Addr} {c : Nat} {s : RS}
theorem RBox.lt (h : RBox w p b A c s) : p < w.heap.size := (Array.getElem?_eq_some_iff.1 h.box).1
theorem RBox.below (h : RBox w p b A c s) (hb : Below w.heap.size w w1) : RBox w1 p b A c s :=
  ⟨(hb.block _ h.lt).trans h.box, h.rd.below (hb.mono (Nat.le_of_lt h.lt)), h.le, h.cap⟩
theorem RBox.other (h : RBox w p b A c s) {a : Addr} (ha : p < a.block) (u : Value) : RBox (w.setCell a u) p b A c s :=
  ⟨(Below.heap_setCell _ _ _ _ (by omega)).trans h.box, h.rd.setCell (Nat.le_of_lt ha) u, h.le, h.cap⟩
theorem RBox.facts (h : RBox w p b A c s) :
    (w.cell? ⟨p, 0, .none⟩ = some (.slice A b.length c) ∧ w.cell? ⟨p, 1, .none⟩ = some (.int .i64 s.1) ∧ w.cell? ⟨p, 2, .none⟩ = some (.int .i64 (s.2 : Int))) ∧
    (w.frozen? ⟨p, 0, .none⟩ = false ∧ w.frozen? ⟨p, 1, .none⟩ = false ∧ w.frozen? ⟨p, 2, .none⟩ = false) :=
  ⟨⟨box_cell h.box rfl, box_cell h.box rfl, box_cell h.box rfl⟩, ⟨box_frozen h.box, box_frozen h.box, box_frozen h.box⟩⟩
theorem RBox.set1 (h : RBox w p b A c s) (a : Int) : RBox (w.setCell ⟨p, 1, .none⟩ (.int .i64 a)) p b A c (a, s.2) :=
  ⟨(heap_setCell_same _ _ _ _ _ _ h.box).trans rfl, h.rd.setCell (Nat.le_refl _) _, h.le, h.cap⟩
theorem RBox.set2 (h : RBox w p b A c s) (e : Nat) : RBox (w.setCell ⟨p, 2, .none⟩ (.int .i64 (e : Int))) p b A c (s.1, e) :=
  ⟨(heap_setCell_same _ _ _ _ _ _ h.box).trans rfl, h.rd.setCell (Nat.le_refl _) _, h.le, h.cap⟩
theorem RBox.drew (h : RBox w p b A c s) : RBox w.drew p b A c s := ⟨h.box, h.rd, h.le, h.cap⟩
theorem RBox.drewN (h : RBox w p b A c s) (k : Nat) : RBox (w.drewN k) p b A c s := ⟨h.box, h.rd, h.le, h.cap⟩
/-- But for one block all that was there is as it was. -/
theorem grown_refl (w : World) (r : Option Nat) : w.grownBy w r := ⟨rfl, rfl, rfl, Nat.le_refl _, fun _ _ _ => rfl⟩
theorem grown_set {w0 : World} (h : w0.grownBy w (some p)) (j : Nat) (u : Value) : w0.grownBy (w.setCell ⟨p, j, .none⟩ u) (some p) :=
  ⟨h.os, h.tape, h.output, Nat.le_trans h.size (by simp), fun i hi hne => (Below.heap_setCell _ _ _ _ (fun e => hne (by rw [e]))).trans (h.block i hi hne)⟩
theorem grown_drewN {w0 : World} {r : Option Nat} (h : w0.grownBy w r) (k : Nat) : w0.grownBy (w.drewN k) r := ⟨h.os, h.tape, h.output, h.size, h.block⟩
theorem grown_drew {w0 : World} {r : Option Nat} (h : w0.grownBy w r) : w0.grownBy w.drew r := ⟨h.os, h.tape, h.output, h.size, h.block⟩
theorem grown_trans {w0 : World} {r : Option Nat} (h : w0.grownBy w r) (h' : w.grownBy w1 r) : w0.grownBy w1 r :=
  ⟨h'.os.trans h.os, h'.tape.trans h.tape, h'.output.trans h.output, Nat.le_trans h.size h'.size, fun i hi hne => (h'.block i (Nat.lt_of_lt_of_le hi h.size) hne).trans (h.block i hi hne)⟩
theorem grown_below {w0 : World} {r : Option Nat} (h : w0.grownBy w r) (hb : Below w.heap.size w w1) : w0.grownBy w1 r := grown_trans h (only_of_below hb r)
theorem ret_u64 {a b : Int} (h : a = b) : Ending.returned (.int .u64 a) = .returned (.int .u64 b) := by rw [h]

set_option maxHeartbeats 3200000 in
set_option maxRecDepth 100000 in
theorem number_any (h : RBox w p b A c s) : Calls Try.prog 58 #[.pointer (some ⟨p, 0, .none⟩)] w fun e w' =>
    e = .returned (.int .u64 ((rnum b s).1 : Int)) ∧ RBox w' p b A c (rnum b s).2 ∧ w.grownBy w' (some p) := by
  obtain ⟨⟨k0, k1, k2⟩, ⟨z0, z1, z2⟩⟩ := h.facts
  have HX := Lib.hid h
  obtain ⟨a, e⟩ := s
  simp only at k1 k2
  by_cases he : e = 0
  · subst he
    have HG := Lib.hid (Get.get_any b A c a w.drew p h.drew.rd h.le h.cap)
    have HN : Hid (rnum b (a, 0) = ((getN b a).toNat, (getTo b a, (getE b a).toNat))) := Lib.hid rfl
    have hn0 : 0 ≤ getN b a := by unfold getN; split <;> omega
    have he0 : 0 ≤ getE b a := by unfold getE; split <;> omega
    generalize getN b a = n at *
    generalize getTo b a = to at *
    generalize getE b a = e2 at *
    obtain ⟨n, rfl⟩ := Int.eq_ofNat_of_zero_le hn0
    obtain ⟨e2, rfl⟩ := Int.eq_ofNat_of_zero_le he0
    clear hn0 he0 h
    go_enter Try.func58, Try.ntmps58
    go_wp2
    go_region_law (first
      | (go_simp; go_at_call 44; ((with_reducible refine HG.out.mono ?_); rintro e w1 ⟨rfl, rfl⟩)))
    all_goals
      go_wp2
      go_ret
      rw [HN.out]
      refine ⟨rfl, ?_, ?_⟩
      · first | exact (HX.out.drew.set1 _).set2 _ | exact (HX.out.drew.set2 _).set1 _
      · exact grown_set (grown_set (grown_drew (grown_refl _ _)) _ _) _ _
  · have hj : ((e : Int) != 0) = true := by simp [he]
    have HN := Lib.hid (rnum_bad (b := b) (s := (a, e)) he)
    clear he h
    go_enter Try.func58, Try.ntmps58
    go_wp2
    go_ret
    rw [HN.out]
    exact ⟨rfl, HX.out, grown_refl _ _⟩

/-- A cut of the bytes at a reader, read as a text in any world that has the reader. -/
theorem cut_run (h : RBox w p b A c s) (q n : Nat) (hq : q + n ≤ b.length) (cc : Nat) :
    (convert 24 9 (.slice (if c = q then A else A.map (·.add q)) n cc)).run Try.prog w = .ok (.string ⟨((b.drop q).take n).toArray⟩) w := by
  have hcut := (h.rd.cut (k := q) (cap := c) (by simpa using h.le)).take n
  rw [← List.map_drop, ← List.map_take] at hcut
  have hr := run_bytes (P := Try.prog) w 24 9 5 Try.underlying24 Try.underlying5 Try.underlying9 _ ((b.drop q).take n) cc p hcut
  rwa [List.length_take, List.length_drop, Nat.min_eq_left (by omega)] at hr

set_option maxHeartbeats 3200000 in
set_option maxRecDepth 100000 in
theorem text_any (h : RBox w p b A c s) (hi : In b s) : Calls Try.prog 60 #[.pointer (some ⟨p, 0, .none⟩)] w fun e w' =>
    e = .returned (S8 (rtext b s).1) ∧ RBox w' p b A c (rtext b s).2 ∧ w.grownBy w' (some p) := by
  have HN := Lib.hid (number_any h)
  obtain ⟨hin, h64⟩ := rnum_in (b := b) (s := s) (.inr hi)
  have hm := h.cap
  have hle := h.le
  unfold maxLen at hm
  unfold rtext
  generalize rnum b s = N at *
  obtain ⟨n, a, e⟩ := N
  obtain ⟨hi1, hi2⟩ := hin
  simp only at hi1 hi2 h64 HN
  obtain ⟨q, rfl⟩ := Int.eq_ofNat_of_zero_le hi1
  have hq : q ≤ b.length := by omega
  obtain ⟨T, hT⟩ : ∃ T, rtextN b (n, ((q : Int), e)) = T := ⟨_, rfl⟩
  rw [hT]
  have HT := Lib.hid hT
  clear hT hi1 hi2 h hi
  unfold S8
  by_cases he : e = 0
  · subst he
    have hwl : IntKind.u64.wrap ((b.length : Int) - (q : Int)) = (b.length : Int) - (q : Int) := by rw [IntKind.wrap_u64]; omega
    have hwl2 : IntKind.u64.wrap ((b.length - q : Nat) : Int) = ((b.length - q : Nat) : Int) := by rw [IntKind.wrap_u64]; omega
    have c0 : (0 : Int) ≤ (q : Int) := by omega
    have c1 : (q : Int) ≤ (b.length : Int) := by omega
    have c2 : (b.length : Int) ≤ (c : Int) := by omega
    by_cases hs : (b.length : Int) - (q : Int) < (n : Int)
    · have HT2 : Hid (T = ([], ((q : Int), 5))) := Lib.hid (by rw [← HT.out]; unfold rtextN; rw [if_neg (by simp), if_pos hs])
      have hs2 : ((b.length - q : Nat) : Int) < (n : Int) := by omega
      clear HT
      by_cases hcq : c = q
      · go_enter Try.func60, Try.ntmps60
        go_wp2_with fail
        refine HN.out.mono ?_
        rintro e w1 ⟨rfl, hb1, hg1⟩
        have HB1 := Lib.hid hb1
        have HG1 := Lib.hid hg1
        obtain ⟨⟨k0, k1, k2⟩, ⟨z0, z1, z2⟩⟩ := hb1.facts
        simp only at k1 k2
        clear hb1 hg1 HN
        go_wp2
        go_quiet (fail)
        go_wp2
        go_ret
        rw [HT2.out]
        exact ⟨rfl, (HB1.out.drewN _).set2 5, grown_set (grown_drewN HG1.out _) _ _⟩
      · go_enter Try.func60, Try.ntmps60
        go_wp2_with fail
        refine HN.out.mono ?_
        rintro e w1 ⟨rfl, hb1, hg1⟩
        have HB1 := Lib.hid hb1
        have HG1 := Lib.hid hg1
        obtain ⟨⟨k0, k1, k2⟩, ⟨z0, z1, z2⟩⟩ := hb1.facts
        simp only at k1 k2
        clear hb1 hg1 HN
        go_wp2
        go_quiet (fail)
        go_wp2
        go_ret
        rw [HT2.out]
        exact ⟨rfl, (HB1.out.drewN _).set2 5, grown_set (grown_drewN HG1.out _) _ _⟩
    · have hqn : q + n ≤ b.length := by omega
      have HT2 : Hid (T = ((b.drop q).take n, ((q : Int) + (n : Int), 0))) := Lib.hid (by rw [← HT.out]; unfold rtextN; rw [if_neg (by simp), if_neg hs]; rfl)
      have hs2 : ¬ ((b.length - q : Nat) : Int) < (n : Int) := by omega
      have hwn : IntKind.i64.wrap (n : Int) = (n : Int) := by rw [IntKind.wrap_i64]; omega
      have hwq : IntKind.i64.wrap ((q : Int) + (n : Int)) = (q : Int) + (n : Int) := by rw [IntKind.wrap_i64]; omega
      have c3 : (0 : Int) ≤ (n : Int) := by omega
      have c4 : (n : Int) ≤ (c : Int) - (q : Int) := by omega
      clear HT
      by_cases hcq : c = q
      · go_enter Try.func60, Try.ntmps60
        go_wp2_with fail
        refine HN.out.mono ?_
        rintro e w1 ⟨rfl, hb1, hg1⟩
        have HB1 := Lib.hid hb1
        have HG1 := Lib.hid hg1
        obtain ⟨⟨k0, k1, k2⟩, ⟨z0, z1, z2⟩⟩ := hb1.facts
        simp only at k1 k2
        have hcv := fun nq cc => cut_run ((hb1.drewN nq).set1 ((q : Int) + (n : Int))) q n hqn cc
        simp only [if_pos hcq] at hcv
        clear hb1 hg1 HN
        go_wp2
        go_quiet (fail)
        go_wp2
        go_ret
        rw [HT2.out]
        exact ⟨rfl, (HB1.out.drewN _).set1 _, grown_set (grown_drewN HG1.out _) _ _⟩
      · go_enter Try.func60, Try.ntmps60
        go_wp2_with fail
        refine HN.out.mono ?_
        rintro e w1 ⟨rfl, hb1, hg1⟩
        have HB1 := Lib.hid hb1
        have HG1 := Lib.hid hg1
        obtain ⟨⟨k0, k1, k2⟩, ⟨z0, z1, z2⟩⟩ := hb1.facts
        simp only at k1 k2
        have hcv := fun nq cc => cut_run ((hb1.drewN nq).set1 ((q : Int) + (n : Int))) q n hqn cc
        simp only [if_neg hcq] at hcv
        have hcv2 : ∀ nq cc, (convert 24 9 (.slice (Option.map ((fun x => x) ∘ fun x => x.add q) A) n cc)).run Try.prog ((w1.drewN nq).setCell ⟨p, 1, .none⟩ (.int .i64 ((q : Int) + (n : Int)))) = .ok (.string ⟨((b.drop q).take n).toArray⟩) ((w1.drewN nq).setCell ⟨p, 1, .none⟩ (.int .i64 ((q : Int) + (n : Int)))) := hcv
        clear hb1 hg1 HN
        go_wp2
        go_quiet (fail)
        go_wp2
        go_ret
        rw [HT2.out]
        exact ⟨rfl, (HB1.out.drewN _).set1 _, grown_set (grown_drewN HG1.out _) _ _⟩
  · have hj : ((e : Int) != 0) = true := by simp [he]
    have HT2 : Hid (T = ([], ((q : Int), e))) := Lib.hid (by rw [← HT.out]; unfold rtextN; rw [if_pos he])
    clear he HT
    go_enter Try.func60, Try.ntmps60
    go_wp2_with fail
    refine HN.out.mono ?_
    rintro e w1 ⟨rfl, hb1, hg1⟩
    have HB1 := Lib.hid hb1
    have HG1 := Lib.hid hg1
    obtain ⟨⟨k0, k1, k2⟩, ⟨z0, z1, z2⟩⟩ := hb1.facts
    simp only at k1 k2
    clear hb1 hg1 HN
    go_wp2
    go_ret
    rw [HT2.out]
    exact ⟨rfl, HB1.out, HG1.out⟩
end Go.Proofs.Ytahbaifbihpppaa.RpRead
