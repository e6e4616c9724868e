/- The program's copy of a record: its labels in a new row, its texts new. Conditions: at most 65536 labels, texts of at most 2^47 bytes. -/
import Derived.Test.YtkgmcabamhpjhaaGreatLpCopy
import Derived.Test.YtkgmcabamhpjhaaGreatHdMems
import Derived.Test.YtkgmcabamhpjhaaGreatHpBoxs
namespace Go.Proofs.YtkgmcabamhpjhaaGreat.HpCopied
open Go Go.RowKit Words AppN Less LbSpec LbText LbMem LbRef LbCmp UtOwn LpOrd LpCan1 LpBoth LpCmp LpCopy RcAll RcMem HdSpec HpSpec HpBox HpMem
open RcSpec hiding none

/-- What is asked of a record's size. -/
structure Lim (r : Rec) : Prop where
  few : r.labels.length ≤ 65536
  short : ∀ x ∈ r.labels, x.1.length ≤ 140737488355328 ∧ x.2.length ≤ 140737488355328
  line : r.line.length ≤ 140737488355328
def W2 (w : World) (m : RM) : World := (w.alloc (.cells #[.int .i64 m.1.time, .int .u64 (m.1.seq : Int), slV m.2, S8 m.1.line] 47)).alloc (.cells #[.int .i64 0, .int .u64 0, .slice none 0 0, .string ⟨#[]⟩] 47)
/-- What copied answers: the same record, its labels in a row of the call's own. -/
def CPost (w : World) (r : Rec) (e : Ending) (w' : World) : Prop := ∃ g, e = .returned (aggR (r, some ⟨g, 0, none⟩, r.labels.length, r.labels.length)) ∧ w.heap.size ≤ g ∧ Row w' g r.labels ∧ Below w.heap.size w w'

set_option maxHeartbeats 6400000 in
set_option maxRecDepth 100000 in
theorem copied_any (w : World) (m : RM) (h : Okm w m) (hm : Lim m.1) : Calls Tryz.prog 29 #[aggR m] w (CPost w m.1) := by
  obtain ⟨⟨tm, sq, l, ln⟩, A, n, c⟩ := m
  obtain ⟨⟨hn, hc, hcm, hr⟩, hft⟩ := h
  simp only at hn hc hcm hr
  subst hn
  obtain ⟨hfew, hshort, hline⟩ := hm
  simp only at hfew hshort hline
  unfold maxLen at hcm
  have HR := Lib.hid hr
  have HS := Lib.hid hshort
  clear hr hshort hft
  obtain ⟨i1, gi, gz0, gz1, gz2⟩ := info_parts info_label
  obtain ⟨M, hM⟩ : ∃ M, M = (flat (mix l 0)).toArray := ⟨_, rfl⟩
  have hmk : ∀ W : World, (Instr.makeSlice 45 (.int .i64 (l.length : Int)) (.int .i64 (l.length : Int))).run Tryz.prog W = .ok (.slice (some ⟨W.heap.size, 0, none⟩) l.length l.length) (W.alloc (.cells M 70)) := fun W => by
    have h := run_make (P := Tryz.prog) W 45 70 i1 (.agg #[.string ByteArray.empty, .string ByteArray.empty]) Tryz.underlying45 gi gz0 .i64 .i64 (l.length : Int) (l.length : Int) (by omega) (by omega) (by rw [gz2]; omega) (by omega)
    rw [gz1] at h
    have e : madeCells (Value.agg #[.string ByteArray.empty, .string ByteArray.empty]).cells (((l.length : Nat) : Int).toNat * 2) = M := by rw [hM, ← made_mix]; rfl
    rw [e] at h
    simpa using h
  have HM := Lib.hid hM
  clear hM gi gz0 gz1 gz2
  obtain ⟨W2, hW2⟩ : ∃ W2, W2 = (w.alloc (.cells #[.int .i64 tm, .int .u64 (sq : Int), .slice A l.length c, .string ⟨ln.toArray⟩] 47)).alloc (.cells #[.int .i64 0, .int .u64 0, .slice none 0 0, .string ⟨#[]⟩] 47) := ⟨_, rfl⟩
  have hsz : W2.heap.size = w.heap.size + 1 + 1 := by rw [hW2]; simp
  have HBX : Hid (W2.heap[w.heap.size]? = some (.cells #[.int .i64 tm, .int .u64 (sq : Int), .slice A l.length c, .string ⟨ln.toArray⟩] 47 (0, 0)) ∧ W2.heap[w.heap.size + 1]? = some (.cells #[.int .i64 0, .int .u64 0, .slice none 0 0, .string ⟨#[]⟩] 47 (0, 0))) := Lib.hid (by
    rw [hW2]
    refine ⟨(Below.heap_alloc _ _ _ (by simp)).trans (Go.heap_alloc_new w _), ?_⟩
    have := Go.heap_alloc_new (w.alloc (.cells #[.int .i64 tm, .int .u64 (sq : Int), .slice A l.length c, .string ⟨ln.toArray⟩] 47)) (.cells #[.int .i64 0, .int .u64 0, .slice none 0 0, .string ⟨#[]⟩] 47)
    rwa [World.size_alloc] at this)
  have HB0 : Hid (Below w.heap.size w W2) := Lib.hid (by rw [hW2]; exact ((Below.refl _ w).alloc (Nat.le_refl _) _).alloc (by simp) _)
  unfold aggR slV S8
  simp only
  go_enter Tryz.func29, Tryz.ntmps29
  go_wp2
  rw [← hW2]
  go_loopw [13] (fun v wr => CpRel W2 l v wr) (fun v _ => l.length - (intOf v).toNat)
  case atStart => exact ⟨0, Nat.zero_le _, rfl, Lib.hid (by unfold Row; rw [← HM.out]; exact Go.heap_alloc_new W2 _), Lib.hid ((Below.refl _ W2).alloc (Nat.le_refl _) _)⟩
  case round =>
    obtain ⟨k, hk, rfl, HRow, HB⟩ := hrel
    clear hmk hW2
    have hbw := HB0.out.trans (HB.out.mono HB0.out.size)
    by_cases hlt : k < l.length
    · obtain ⟨g1, o1, rfl, hg1, hc1⟩ := HR.out (by rw [flat_len]; omega)
      obtain ⟨p0, p1⟩ := cellsL hc1 hlt
      have hz1 : g1 < wr.heap.size := Nat.lt_of_lt_of_le hg1 hbw.size
      have k0 := cell_up hbw (p := ⟨g1, o1 + k * 2, none⟩) hg1 p0
      have k1 := cell_up hbw (p := ⟨g1, o1 + k * 2 + 1, none⟩) hg1 p1
      obtain ⟨x, hx⟩ : ∃ x, l[k] = x := ⟨_, rfl⟩
      rw [hx] at k0 k1
      obtain ⟨hs1, hs2⟩ := HS.out x (hx ▸ List.getElem_mem hlt)
      have HF0 := fun W w' hb e1 e2 e3 e4 => copy_facts hlt hx HRow.out HB.out W w' e1 e2 e3 e4 hb
      rw [hsz] at HF0
      have HF := Lib.hid HF0
      have HC1 := fun w => Lib.hid (clone_any x.1 w (by omega))
      have HC2 := fun w => Lib.hid (clone_any x.2 w (by omega))
      have hi1 : (0 : Int) ≤ (k : Int) := by omega
      have hi2 : (k : Int) < (l.length : Int) := by omega
      clear hc1 p0 p1 hx hs1 hs2 HRow HF0 hbw
      obtain ⟨x1, x2⟩ := x
      unfold S8 at HF HC1 HC2
      simp only at k0 k1 HF HC1 HC2
      go_wp2
      go_region_law (first
        | (go_simp; go_at_call 52; ((with_reducible refine (HC1 _).out.mono ?_); rintro e w1 ⟨rfl, hb1⟩; obtain ⟨⟨a1, a2⟩, ⟨a3, a4⟩, ⟨a5, a6⟩, _⟩ := HF.out _ w1 hb1 rfl rfl rfl rfl))
        | (go_simp; go_at_call 52; ((with_reducible refine (HC2 _).out.mono ?_); rintro e w2 ⟨rfl, hb2⟩; obtain ⟨⟨b1, b2⟩, ⟨b3, b4⟩, ⟨b5, b6⟩, HFin⟩ := HF.out _ w2 (hb1.trans (hb2.mono hb1.size)) rfl rfl rfl rfl)))
      all_goals
        go_wp2
        go_roundw
        case rel => exact ⟨k + 1, by omega, by go_num, Lib.hid (by rw [hsz]; exact HFin.out.1), Lib.hid (by rw [hsz]; exact HFin.out.2)⟩
        case measure => simp [intOf]; omega
    · have hkl : k = l.length := by omega
      have HE : Hid (Row wr (w.heap.size + 1 + 1) l) := Lib.hid (by have h := HRow.out; rw [hkl, mix_all, hsz] at h; exact h)
      have hbx := (HB.out.block w.heap.size (by omega)).trans HBX.out.1
      have hrs := (HB.out.block (w.heap.size + 1) (by omega)).trans HBX.out.2
      have HBW := Lib.hid hbw
      have hwz : w.heap.size + 1 + 1 < wr.heap.size := HE.out.lt
      clear HRow hlt hbw HBX HB0 HB HR HS HM
      have c0 := cell_of (j := 0) hbx rfl
      have c1 := cell_of (j := 1) hbx rfl
      have c3 := cell_of (j := 3) hbx rfl
      have HC := fun w => Lib.hid (clone_any ln w (by omega))
      unfold S8 at HC
      have HN : Hid (∀ W w1, Below W.heap.size W w1 → W.heap = wr.heap → (w1.cell? ⟨w.heap.size, 0, none⟩ = some (.int .i64 tm) ∧ w1.cell? ⟨w.heap.size, 1, none⟩ = some (.int .u64 (sq : Int))) ∧
          ((w1.cell? ⟨w.heap.size + 1, 0, none⟩ = some (.int .i64 0) ∧ w1.cell? ⟨w.heap.size + 1, 1, none⟩ = some (.int .u64 0) ∧ w1.cell? ⟨w.heap.size + 1, 2, none⟩ = some (.slice none 0 0) ∧ w1.cell? ⟨w.heap.size + 1, 3, none⟩ = some (.string ⟨#[]⟩)) ∧ ∀ j, w1.frozen? ⟨w.heap.size + 1, j, none⟩ = false)) := Lib.hid (fun W w1 hb1 e1 => by
        have g1 := hb1.block w.heap.size (by rw [e1]; omega)
        have g2 := hb1.block (w.heap.size + 1) (by rw [e1]; omega)
        rw [e1] at g1 g2
        have h1 := g1.trans hbx
        have h2 := g2.trans hrs
        exact ⟨⟨cell_of h1 rfl, cell_of h1 rfl⟩, ⟨cell_of h2 rfl, cell_of h2 rfl, cell_of h2 rfl, cell_of h2 rfl⟩, fun j => frozen_of h2⟩)
      clear hbx
      subst hkl
      go_wp2
      go_region_law (first
        | (go_simp; go_at_call 52; ((with_reducible refine (HC _).out.mono ?_); rintro e w1 ⟨rfl, hb1⟩; obtain ⟨⟨a1, a2⟩, ⟨a3, a4, a5, a6⟩, a7⟩ := HN.out _ w1 hb1 rfl)))
      all_goals
        have hb2 : Below (w.heap.size + 1) wr w1 := ⟨hb1.os, hb1.tape, hb1.output, hb1.size, fun j hj => hb1.block j (by show j < wr.heap.size; omega)⟩
        have HR1 : Hid (Row w1 (w.heap.size + 1 + 1) l) := Lib.hid ((hb1.block (w.heap.size + 1 + 1) hwz).trans HE.out)
        have HQ : Hid (w1.heap[w.heap.size + 1]? = some (.cells #[.int .i64 0, .int .u64 0, .slice none 0 0, .string ⟨#[]⟩] 47 (0, 0))) := Lib.hid ((hb1.block (w.heap.size + 1) (by show w.heap.size + 1 < wr.heap.size; omega)).trans hrs)
        have HB3 : Hid (Below w.heap.size w w1) := Lib.hid (HBW.out.trans (hb2.mono (by omega)))
        go_wp2
        have e0 := heap_setCell_same _ _ 0 _ _ (.int .i64 tm) HQ.out
        have e1 := heap_setCell_same _ _ 1 _ _ (.int .u64 (sq : Int)) e0
        have e2 := heap_setCell_same _ _ 2 _ _ (.slice (some ⟨w.heap.size + 1 + 1, 0, none⟩) l.length l.length) e1
        have e3 := heap_setCell_same _ _ 3 _ _ (.string ⟨ln.toArray⟩) e2
        (try simp only [Exit.inBlock, Exit.then])
        refine bodyPost_ret (results_cell_row rfl _ _ (w.heap.size + 1) 47 #[.int .i64 tm, .int .u64 (sq : Int), .slice (some ⟨w.heap.size + 1 + 1, 0, none⟩) l.length l.length, .string ⟨ln.toArray⟩] _ _ rfl e3 Tryz.underlying47 rfl (by kernel_rfl)) rfl ?_
        refine ⟨w.heap.size + 1 + 1, rfl, by omega, ?_, (((HB3.out.setCell (by simp) _).setCell (by simp) _).setCell (by simp) _).setCell (by simp) _⟩
        unfold Row
        rw [heap_setCell_other _ _ _ _ (by simp), heap_setCell_other _ _ _ _ (by simp), heap_setCell_other _ _ _ _ (by simp), heap_setCell_other _ _ _ _ (by simp)]
        exact HR1.out
end Go.Proofs.YtkgmcabamhpjhaaGreat.HpCopied
