/- What stage 10's statements ask of the program's log over a disk ('Wal': contracts of its seven calls); the statements' own 'same'. -/
import Derived.Test.YtapbjmbakpopcaaGreatDoorWlMv
import Derived.Test.YtapbjmbakpopcaaGreatDoorWlLog
import Derived.Test.YtapbjmbakpopcaaGreatDoorOpens
import Derived.Test.YtapbjmbakpopcaaGreatDoorWlTab
import Derived.StillTailTactics
namespace Go.Proofs.YtapbjmbakpopcaaGreatDoor.WlLaw
open Go Go.RowKit Words DkSpec PdLook RefDisk PdDisk PdOps WlSpec WlName WlHeld WlLog WlMv Parts5

/-- Slices of bytes in memory. -/
structure Ps (w : World) (A : Option Addr) (n c : Nat) (ps : List Part) : Prop where
  len : n = ps.length
  le : n ≤ c
  cap : c ≤ maxLen
  rd : Rd w w.heap.size A (ps.map SV)
  each : ∀ p ∈ ps, Parts5.Good w w.heap.size p
theorem Ps.below {w w' : World} {A : Option Addr} {n c : Nat} {ps : List Part} (h : Ps w A n c ps) (hb : Below w.heap.size w w') : Ps w' A n c ps :=
  ⟨h.len, h.le, h.cap, (h.rd.below hb).more hb.size, fun p hp => ⟨((h.each p hp).1.below hb).more hb.size, (h.each p hp).2⟩⟩
def pays (ps : List Part) : List (List UInt8) := ps.map (·.l)
theorem Ps.take {w : World} {A : Option Addr} {n c : Nat} {ps : List Part} (h : Ps w A n c ps) (k : Nat) (hk : k ≤ n) : Ps w A k c (ps.take k) :=
  ⟨by rw [List.length_take]; have := h.len; omega, by have := h.le; omega, h.cap, by rw [List.map_take]; exact h.rd.take k, fun p hp => h.each p (List.mem_of_mem_take hp)⟩
/-- How many bytes all files have. -/
def tot (d : DSt) : Nat := (d.files.map fun f => f.data.length).sum
structure Fit (d : DSt) : Prop where
  few : d.files.length ≤ 1000000000
  small : tot d ≤ 1099511627776
def In64 (n : Int) : Prop := -9223372036854775808 ≤ n ∧ n ≤ 9223372036854775807
def dropL : Nat → Int → LSt → DSt → Nat × LSt × DSt
  | 0, _, l, d => (0, l, d)
  | k + 1, below, l, d =>
    if (l.first : Int) < below ∧ l.first < l.n then
      if (delete (name l.first) d).1 ≠ 0 ∧ (delete (name l.first) d).1 ≠ 21 then ((delete (name l.first) d).1, l, (delete (name l.first) d).2) else dropL k below { l with first := l.first + 1 } (delete (name l.first) d).2
    else (0, l, d)

/-- Slices of bytes in new memory, none of it in the block g. -/
def PsN (B : Nat) (off : Nat → Prop) (A : Option Addr) (ps : List Part) : Prop :=
  (∀ o j, A = some ⟨o, j, none⟩ → 0 < ps.length → B ≤ o ∧ off o) ∧ ∀ q ∈ ps, ∀ o j, q.A = some ⟨o, j, none⟩ → 0 < q.l.length → B ≤ o ∧ off o
section
variable (LogR : World → Nat → Nat → LSt → Prop)
/-- What Open leaves: the disk as it was, new memory. -/
def OpPost (w : World) (p : Nat) (r : Nat × List (List UInt8) × Option LSt) (e : Ending) (w' : World) : Prop :=
  ∃ (v : Value) (A : Option Addr) (c : Nat) (ps : List Part), e = .returned (.tuple #[v, .slice A ps.length c, .int .i64 (r.1 : Int)]) ∧ pays ps = r.2.1 ∧ Ps w' A ps.length c ps ∧ Below w.heap.size w w' ∧
    match r.2.2 with
    | none => v = .pointer none ∧ PsN w.heap.size (fun _ => True) A ps
    | some l => ∃ g, v = .pointer (some ⟨g, 0, none⟩) ∧ w.heap.size ≤ g ∧ LogR w' g p l ∧ PsN w.heap.size (fun o => o ≠ g) A ps
/-- What a call of a log's leaves: the answer, the log and the disk behind it; only their blocks have changed. -/
def LgPost (w : World) (K : Nat → Nat) (p g : Nat) (r : Nat × LSt × DSt) (e : Ending) (w' : World) : Prop :=
  e = .returned (.int .i64 (r.1 : Int)) ∧ ∃ K', PDisk w' K' 1 p r.2.2 ∧ LogR w' g p r.2.1 ∧ Mv K K' (fun o => o = 1 ∨ o = 2) w w'
/-- The program's log. -/
structure Wal : Prop where
  keep : ∀ {w w' : World} {g p : Nat} {l : LSt}, LogR w g p l → w'.heap[g]? = w.heap[g]? → LogR w' g p l
  lt : ∀ {w : World} {g p : Nat} {l : LSt}, LogR w g p l → g < w.heap.size
  name : ∀ (w : World) (n : Int), In64 n → WlTab.Lays w w.heap.size → Calls Tryz.prog 5 #[.int .i64 n] w fun e w' => e = .returned (.string ⟨(nameI n).toArray⟩) ∧ Below w.heap.size w w'
  opens : ∀ (w : World) (K : Nat → Nat) (p : Nat) (d : DSt) (first : Int), In64 first → PDisk w K 1 p d → DkSpec.Good d → Fit d → WlTab.Lays w w.heap.size →
    Calls Tryz.prog 9 #[.pointer (some ⟨p, 0, none⟩), .int .i64 first] w (OpPost LogR w p (openL d first))
  append : ∀ (w : World) (K : Nat → Nat) (p g : Nat) (d : DSt) (l : LSt) (b : List UInt8) (A : Option Addr) (c : Nat), PDisk w K 1 p d → LogR w g p l → K g = 2 → DkSpec.Good d → Fit d → tot d + b.length + 100 ≤ 1099511627776 → l.n ≤ most → WlTab.Lays w w.heap.size →
    Rd w w.heap.size A (b.map B8) → b.length ≤ c → c ≤ maxLen → (∀ o off, A = some ⟨o, off, none⟩ → 0 < b.length → K o ≠ 1 ∧ K o ≠ 2) →
    Calls Tryz.prog 12 #[.pointer (some ⟨g, 0, none⟩), .slice A b.length c] w (LgPost LogR w K p g (appendL b l d))
  sync : ∀ (w : World) (K : Nat → Nat) (p g : Nat) (d : DSt) (l : LSt), PDisk w K 1 p d → LogR w g p l → K g = 2 → DkSpec.Good d → l.n ≤ most → WlTab.Lays w w.heap.size →
    Calls Tryz.prog 14 #[.pointer (some ⟨g, 0, none⟩)] w (LgPost LogR w K p g ((syncL l d).1, l, (syncL l d).2))
  rotate : ∀ (w : World) (K : Nat → Nat) (p g : Nat) (d : DSt) (l : LSt), PDisk w K 1 p d → LogR w g p l → K g = 2 → l.n ≤ most →
    Calls Tryz.prog 16 #[.pointer (some ⟨g, 0, none⟩)] w (LgPost LogR w K p g ((rotateL l).1, (rotateL l).2, d))
  number : ∀ (w : World) (p g : Nat) (l : LSt), LogR w g p l → l.n ≤ most → Calls Tryz.prog 30 #[.pointer (some ⟨g, 0, none⟩)] w fun e w' => e = .returned (.int .i64 (l.n : Int)) ∧ Below w.heap.size w w'
  drop : ∀ (w : World) (K : Nat → Nat) (p g : Nat) (d : DSt) (l : LSt) (below : Int), In64 below → PDisk w K 1 p d → LogR w g p l → K g = 2 → DkSpec.Good d → Fit d → l.n ≤ most → WlTab.Lays w w.heap.size → WlTab.Out K →
    Calls Tryz.prog 18 #[.pointer (some ⟨g, 0, none⟩), .int .i64 below] w (LgPost LogR w K p g (dropL (l.n - l.first) below l d))
end

/-! ### The statements' own 'same' -/
def SRel (w : World) (a b : List (List UInt8)) (v : Value) (wr : World) : Prop := ∃ k : Nat, k ≤ a.length ∧ v = .int .i64 (k : Int) ∧ Hid (a.take k = b.take k) ∧ Hid (Below w.heap.size w wr)
theorem below_drewN {w0 w : World} {B : Nat} (h : Below B w0 w) (k : Nat) : Below B w0 (w.drewN k) := ⟨h.os, h.tape, h.output, h.size, h.block⟩
theorem take_next {a b : List (List UInt8)} {k : Nat} (h : a.take k = b.take k) (ha : k < a.length) (hb : k < b.length) (e : a[k] = b[k]) : a.take (k + 1) = b.take (k + 1) := by
  rw [List.take_succ_eq_append_getElem ha, List.take_succ_eq_append_getElem hb, h, e]

set_option maxHeartbeats 3200000 in
set_option maxRecDepth 100000 in
theorem same_any (w : World) (ps qs : List Part) (A B : Option Addr) (m n c d : Nat) (ha : Ps w A m c ps) (hb : Ps w B n d qs) :
    Calls Tryz.prog 11 #[.slice A m c, .slice B n d] w fun e w' => e = .returned (.bool (decide (pays ps = pays qs))) ∧ Below w.heap.size w w' := by
  obtain ⟨rfl, hc, hm, hra, hga⟩ := ha
  obtain ⟨rfl, hd, hn, hrb, hgb⟩ := hb
  have HRA := Lib.hid hra
  have HRB := Lib.hid hrb
  have HGA := Lib.hid hga
  have HGB := Lib.hid hgb
  unfold maxLen at hm hn
  have hla : (pays ps).length = ps.length := by simp [pays]
  have hlb : (pays qs).length = qs.length := by simp [pays]
  clear hra hrb hga hgb
  obtain ⟨r, hr⟩ : ∃ r, decide (pays ps = pays qs) = r := ⟨_, rfl⟩
  rw [hr]
  have HR := Lib.hid hr
  have HLA := Lib.hid hla
  have HLB := Lib.hid hlb
  clear hr hla hlb
  by_cases hlen : ps.length = qs.length
  · have j1 : ((ps.length : Int) != (qs.length : Int)) = false := by simp [hlen]
    have HLEN := Lib.hid hlen
    clear hlen
    go_enter Tryz.func11, Tryz.ntmps11
    go_wp2
    go_loopw [5] (fun v wr => SRel w (pays ps) (pays qs) v wr) (fun v _ => ps.length - (intOf v).toNat)
    case atStart => exact ⟨0, Nat.zero_le _, rfl, Lib.hid (by simp), Lib.hid (Below.refl _ _)⟩
    case round =>
      obtain ⟨k, hk, rfl, HT, HB⟩ := hrel
      by_cases hlt : k < ps.length
      · have hlt2 : k < qs.length := by have := HLEN.out; omega
        obtain ⟨b1, o1, rfl, hb1, hc1⟩ := HRA.out (by simp; omega)
        obtain ⟨b2, o2, rfl, hb2, hc2⟩ := HRB.out (by simp; omega)
        have k1 := (HB.out.cell (p := ⟨b1, o1 + k, none⟩) hb1).trans (hc1 k (SV ps[k]) (by rw [List.getElem?_map, List.getElem?_eq_getElem hlt]; rfl))
        have k2 := (HB.out.cell (p := ⟨b2, o2 + k, none⟩) hb2).trans (hc2 k (SV qs[k]) (by rw [List.getElem?_map, List.getElem?_eq_getElem hlt2]; rfl))
        have g1 := HGA.out _ (List.getElem_mem hlt)
        have g2 := HGB.out _ (List.getElem_mem hlt2)
        have HE : Hid ((pays ps)[k]'(by rw [HLA.out]; exact hlt) = (ps[k]).l) := Lib.hid (by simp [pays])
        have HE2 : Hid ((pays qs)[k]'(by rw [HLB.out]; exact hlt2) = (qs[k]).l) := Lib.hid (by simp [pays])
        have HNX : Hid ((ps[k]).l = (qs[k]).l → (pays ps).take (k + 1) = (pays qs).take (k + 1)) := Lib.hid fun e => take_next HT.out (by rw [HLA.out]; exact hlt) (by rw [HLB.out]; exact hlt2) (by rw [HE.out, HE2.out]; exact e)
        have HNE : Hid ((ps[k]).l ≠ (qs[k]).l → r = false) := Lib.hid fun e => by
          rw [← HR.out, decide_eq_false_iff_not]
          intro h
          refine e ?_
          have h3 : (pays ps)[k]? = (pays qs)[k]? := by rw [h]
          simpa [pays, hlt, hlt2] using h3
        generalize ps[k] = x at *
        generalize qs[k] = y at *
        unfold SV at k1 k2
        have i1 : (0 : Int) ≤ (k : Int) := by omega
        have i2 : (k : Int) < (ps.length : Int) := by omega
        have i3 : (k : Int) < (qs.length : Int) := by omega
        have s1 := run_bytes (P := Tryz.prog) wr.drew 38 9 5 Tryz.underlying38 Tryz.underlying5 Tryz.underlying9 x.A x.l x.c w.heap.size (g1.1.below HB.out).drew
        have s2 := run_bytes (P := Tryz.prog) wr.drew 38 9 5 Tryz.underlying38 Tryz.underlying5 Tryz.underlying9 y.A y.l y.c w.heap.size (g2.1.below HB.out).drew
        obtain ⟨q, hq⟩ : ∃ q, (x.l == y.l) = q := ⟨_, rfl⟩
        clear hc1 hc2 g1 g2 HE HE2 HT hb1 hb2
        cases q with
        | true =>
          have HX : Hid (x.l = y.l) := Lib.hid (by simpa using hq)
          go_wp2
          refine wp_region_still_lit (by kernel_rfl) (by kernel_rfl) ?_
          iterate 11 (refine wpStill_step (fun K hK => ?_); go_simp; refine hK _ ?_; clear hK K)
          refine wpStill_nil ?_
          go_wp2
          go_roundw
          case rel => exact ⟨k + 1, by rw [HLA.out]; omega, by go_num, Lib.hid (HNX.out HX.out), Lib.hid (below_drewN HB.out 1)⟩
          case measure => simp [intOf]; omega
        | false =>
          have HX : Hid (x.l ≠ y.l) := Lib.hid (by simpa using hq)
          go_wp2
          refine wp_region_still_lit (by kernel_rfl) (by kernel_rfl) ?_
          iterate 11 (refine wpStill_step (fun K hK => ?_); go_simp; refine hK _ ?_; clear hK K)
          refine wpStill_nil ?_
          go_wp2
          go_ret
          rw [HNE.out HX.out]
          exact ⟨rfl, below_drewN HB.out 1⟩
      · have HX : Hid (r = true) := Lib.hid (by
          rw [← HR.out, decide_eq_true_eq]
          have hk2 : k = ps.length := by have := HLA.out; omega
          have h := HT.out
          rwa [hk2, List.take_of_length_le (by rw [HLA.out]; exact Nat.le_refl _), List.take_of_length_le (by rw [HLB.out, HLEN.out]; exact Nat.le_refl _)] at h)
        have hge : ¬ (k : Int) < (ps.length : Int) := by omega
        clear hlt hk HT
        go_wp2
        go_ret
        rw [HX.out]
        exact ⟨rfl, HB.out⟩
  · have j1 : ((ps.length : Int) != (qs.length : Int)) = true := by simp; omega
    have HN : Hid (r = false) := Lib.hid (by
      rw [← HR.out, decide_eq_false_iff_not]
      intro h
      exact hlen (by rw [← HLA.out, ← HLB.out, h]))
    clear hlen
    go_enter Tryz.func11, Tryz.ntmps11
    go_wp2
    go_ret
    rw [HN.out]
    exact ⟨rfl, Below.refl _ _⟩
end Go.Proofs.YtapbjmbakpopcaaGreatDoor.WlLaw
