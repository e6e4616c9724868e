/- The statements' own 'awake', over the contracts of the program's log. -/
import Derived.Test.YtapbjmbakpopcaaGreatDoorWlTots
import Derived.Test.YtapbjmbakpopcaaGreatDoorWlSt
import Derived.Lib.SlBytesConst
namespace Go.Proofs.YtapbjmbakpopcaaGreatDoor.WlAwake
open Go Go.RowKit Words DkSpec PdLook RefDisk PdDisk PdOps WlSpec WlName WlHeld WlLog WlMv Parts5 WlLaw WlTot WlSt

theorem marked (w : World) (cs : Array Value) (e : TypeId) (fz : Nat × Nat) : Rd (w.alloc (.cells cs e fz)) (w.alloc (.cells cs e fz)).heap.size (some ⟨w.heap.size, 0, none⟩) cs.toList := fun _ =>
  ⟨w.heap.size, 0, rfl, by simp, fun j u hu => by
    have h : (w.alloc (.cells cs e fz)).heap[w.heap.size]? = some (.cells cs e fz) := by
      show (w.heap.push (.cells cs e fz))[w.heap.size]? = _
      simp
    unfold World.cell?
    simp only [h]
    simpa using hu⟩
theorem op_some {LogR : World → Nat → Nat → LSt → Prop} {w w' : World} {p : Nat} {x : List (List UInt8)} {l : LSt} {e : Ending} (h : OpPost LogR w p (0, x, some l) e w') :
    ∃ (g : Nat) (A : Option Addr) (c : Nat) (ps : List Part), e = .returned (.tuple #[.pointer (some ⟨g, 0, none⟩), .slice A ps.length c, .int .i64 0]) ∧ pays ps = x ∧ Ps w' A ps.length c ps ∧ Below w.heap.size w w' ∧ w.heap.size ≤ g ∧ LogR w' g p l ∧ PsN w.heap.size (fun o => o ≠ g) A ps := by
  obtain ⟨v, A, c, ps, h1, h2, h3, h4, g, h5, h6, h7, h8⟩ := h
  exact ⟨g, A, c, ps, by rw [h1, h5]; rfl, h2, h3, h4, h6, h7, h8⟩
theorem laid_keep {w0 w : World} (h : WlTab.Lays w0 w0.heap.size) (hb : Below w0.heap.size w0 w) : WlTab.Lays w w.heap.size := (h.below hb).more hb.size
theorem pays_len (ps : List Part) : (pays ps).length = ps.length := by simp [pays]
def a1 : LSt := ⟨1, 1, false⟩
theorem name7 : nameI 7 = [119, 97, 108, 45, 55] := by decide +kernel

set_option maxHeartbeats 6400000 in
set_option maxRecDepth 100000 in
theorem awake_any {LogR : World → Nat → Nat → LSt → Prop} (P : Wal LogR) (w : World) (hL : WlTab.Lays w w.heap.size) :
    Calls Tryz.prog 4 #[] w fun e w' => e = .returned (.bool true) ∧ Below w.heap.size w w' := by
  have kc := fun (w : World) (C : Array Value) (n c : Nat) => Lib.run_convert_bytes_const (P := Tryz.prog) w 38 5 C n c Tryz.underlying38 Tryz.underlying5
  have HL := Lib.hid hL
  have H1 := Lib.hid (new_any w (fun _ => 0) 1)
  clear hL
  go_enter Tryz.func4, Tryz.ntmps4
  go_wp2_with fail
  refine H1.out.mono ?_
  rintro e w1 ⟨p, K1, rfl, _, hd1, ht1⟩
  have S1 : Hid (DkSt w w1 K1 p fresh) := Lib.hid ⟨hd1, Mv.of (ht1 1) (.inl rfl)⟩
  have H2 := Lib.hid (P.opens w1 K1 p fresh 1 ⟨by decide, by decide⟩ S1.out.disk fresh_run.good fresh_fit (laid_keep HL.out S1.out.below))
  rw [fresh_open] at H2
  clear hd1 ht1 H1
  go_wp2_with fail
  refine H2.out.mono ?_
  rintro e w2 h2
  obtain ⟨g, A2, c2, ps2, rfl, hp2, hps2, hb2, hg2, hl2, hn2⟩ := op_some h2
  obtain rfl : ps2 = [] := List.eq_nil_of_length_eq_zero (by rw [← pays_len, hp2]; rfl)
  obtain ⟨s2, _⟩ := S1.out.opened P hb2 hl2 hg2
  have hal2 : Below w2.heap.size w2 (w2.alloc (.cells #[.int .u8 97] 5 (1, 2))) := (Below.refl _ w2).alloc (Nat.le_refl _) _
  obtain ⟨s3, _⟩ := s2.new P hal2 3
  have S3 := Lib.hid s3
  obtain ⟨q1, q2, q3, q4⟩ := calm_append fresh_run calm_fresh (p := [97]) (by simp)
  have t3 := tot_appendL [97] ⟨1, 1, false⟩ fresh
  have H3 := Lib.hid (P.append _ _ p g fresh ⟨1, 1, false⟩ [97] (some ⟨w2.heap.size, 0, none⟩) 1 S3.out.disk S3.out.log S3.out.kg fresh_run.good fresh_fit (by simp [tot, fresh]) (by unfold most; simp) (laid_keep HL.out S3.out.below)
    (marked w2 #[.int .u8 97] 5 (1, 2)) (by simp) (by unfold maxLen; omega) (fun o j e _ => by cases e; rw [kmark_new (Nat.le_refl _)]; decide))
  generalize hD3 : appendL [97] ⟨1, 1, false⟩ fresh = D3 at *
  obtain ⟨e3, l3, d3⟩ := D3
  simp only at q1 q2 q3 q4 t3
  subst q1 q4
  have Q2 := Lib.hid q2
  have Q3 := Lib.hid q3
  have T3 := Lib.hid t3
  simp only [List.length_nil]
  clear h2 hp2 hps2 hb2 hg2 hl2 hn2 s2 s3 hal2 H2 S1 q2 q3 t3 hD3
  go_wp2_with fail
  refine H3.out.mono ?_
  rintro e w4 h4
  obtain ⟨rfl, K4, s4, _⟩ := S3.out.step P h4
  have S4 := Lib.hid s4
  have H4 := Lib.hid (P.sync w4 K4 p g d3 ⟨1, 1, true⟩ S4.out.disk S4.out.log S4.out.kg Q3.out.good (by unfold most; simp) (laid_keep HL.out S4.out.below))
  obtain ⟨q5, q6, q7⟩ := calm_sync Q3.out Q2.out
  have t5 := tot_syncL ⟨1, 1, true⟩ d3
  generalize hD5 : syncL ⟨1, 1, true⟩ d3 = D5 at *
  obtain ⟨e5, d5⟩ := D5
  simp only at q5 q6 q7 t5 H4
  subst q5
  have Q6 := Lib.hid q6
  have Q7 := Lib.hid q7
  have T5 := Lib.hid t5
  clear h4 s4 q6 q7 t5 hD5 H3 S3 Q2 Q3
  go_wp2_with fail
  refine H4.out.mono ?_
  rintro e w5 h5
  obtain ⟨rfl, K5, s5, _⟩ := S4.out.step P h5
  have S5 := Lib.hid s5
  obtain ⟨hs, f1, f2, f3⟩ := run_has Q7.out Q6.out.1
  have hlen : hs.length = 1 := by simp at f3; omega
  have ho := open_has f2 (Nat.le_refl _) (by rw [hlen]; unfold most; simp)
  rw [f1, hlen] at ho
  have H5 := Lib.hid (P.opens w5 K5 p d5 1 ⟨by decide, by decide⟩ S5.out.disk Q7.out.good ⟨by have h1 := T5.out.2; have h2 := T3.out.2; simp [fresh] at h2; omega, by have h1 := T5.out.1; have h2 := T3.out.1; simp [tot, fresh] at h2; unfold tot at h1 ⊢; omega⟩ (laid_keep HL.out S5.out.below))
  rw [show (1 : Int) = ((1 : Nat) : Int) from rfl, ho] at H5
  rw [show ((1 : Nat) : Int) = 1 from rfl] at H5
  clear h5 s5 f1 f2 f3 ho hlen H4 S4
  go_wp2_with fail
  refine H5.out.mono ?_
  rintro e w6 h6
  obtain ⟨g6, A6, c6, ps6, rfl, hp6, hps6, hb6, hg6, hl6, hn6⟩ := op_some h6
  obtain ⟨s6, _⟩ := S5.out.dk.opened P hb6 hl6 hg6
  have S6 := Lib.hid s6
  have HP6 := Lib.hid hp6
  have HQ6 := Lib.hid hps6
  have hb67 : Below w6.heap.size w6 ((w6.alloc (.cells #[.int .u8 97] 5 (1, 2))).alloc (.cells #[.slice (some ⟨w6.heap.size, 0, none⟩) 1 1] 38)) := ((Below.refl _ w6).alloc (Nat.le_refl _) _).alloc (by simp) _
  obtain ⟨s7, _⟩ := s6.new P hb67 3
  have S7 := Lib.hid s7
  have hq7 : Ps ((w6.alloc (.cells #[.int .u8 97] 5 (1, 2))).alloc (.cells #[.slice (some ⟨w6.heap.size, 0, none⟩) 1 1] 38)) (some ⟨w6.heap.size + 1, 0, none⟩) 1 1 [⟨some ⟨w6.heap.size, 0, none⟩, 1, [97]⟩] := by
    have hm := marked (w6.alloc (.cells #[.int .u8 97] 5 (1, 2))) #[.slice (some ⟨w6.heap.size, 0, none⟩) 1 1] 38 (0, 0)
    rw [show (w6.alloc (.cells #[.int .u8 97] 5 (1, 2))).heap.size = w6.heap.size + 1 by simp] at hm
    refine ⟨rfl, Nat.le_refl _, by unfold maxLen; omega, hm, fun q hq => ?_⟩
    rw [List.mem_singleton.1 hq]
    have hl := marked w6 #[.int .u8 97] 5 (1, 2)
    exact ⟨(hl.below ((Below.refl _ _).alloc (Nat.le_refl _) _)).more (by simp), Nat.le_refl _, show 1 ≤ maxLen by unfold maxLen; omega⟩
  have H7 := Lib.hid (same_any _ ps6 _ A6 _ _ _ c6 1 (hps6.below hb67) hq7)
  rw [show decide (pays ps6 = pays [⟨some ⟨w6.heap.size, 0, none⟩, 1, [97]⟩]) = true by rw [hp6]; simp [pays]] at H7
  clear h6 hp6 hps6 hb6 hg6 hl6 hn6 s6 H5 S5 hb67 s7 hq7 HP6 HQ6
  go_wp2_with fail
  refine H7.out.mono ?_
  rintro e w8 ⟨rfl, hb8⟩
  obtain ⟨s8, _⟩ := S7.out.new P hb8 3
  have S8 := Lib.hid s8
  have H8 := Lib.hid (P.number w8 p g6 _ S8.out.log (by unfold most; simp))
  clear hb8 s8 H7 S7
  go_wp2_with fail
  refine H8.out.mono ?_
  rintro e w9 ⟨rfl, hb9⟩
  obtain ⟨s9, _⟩ := S8.out.new P hb9 3
  have S9 := Lib.hid s9
  have H9 := Lib.hid (P.name w9 7 ⟨by decide, by decide⟩ (laid_keep HL.out S9.out.below))
  rw [name7] at H9
  clear hb9 s9 H8 S8
  go_wp2_with fail
  refine H9.out.mono ?_
  rintro e w10 ⟨rfl, hb10⟩
  obtain ⟨s10, _⟩ := S9.out.new P hb10 3
  have HB := Lib.hid s10.below
  clear hb10 s10 H9 S9
  go_wp2
  go_ret
  exact ⟨rfl, HB.out⟩
end Go.Proofs.YtapbjmbakpopcaaGreatDoor.WlAwake
