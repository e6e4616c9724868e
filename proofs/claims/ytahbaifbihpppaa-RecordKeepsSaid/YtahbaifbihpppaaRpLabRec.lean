/- The program's reader of records: labels. Conditions: the bytes lie in memory below the reader. · The program's reader of records: record. Conditions: the bytes lie in memory below the reader. -/
import Derived.Test.YtahbaifbihpppaaRpRead
import Derived.Test.YtahbaifbihpppaaLpCopy
namespace Go.Proofs.Ytahbaifbihpppaa.RpLabs
open Go Go.RowKit Words AppN Less LbSpec LbText LbMem LbRef LbCmp RcSpec RcAll RcMem RcRefRd RpPlain RpRead UtOwn LpBoth LpCopy Plain

/-- A list of labels, and empty ones up to n. -/
def pad (n : Nat) (l : List Lab) : List Lab := l ++ List.replicate (n - l.length) ([], [])
theorem pad_full (l : List Lab) : pad l.length l = l := by simp [pad]
theorem pad_nil (n : Nat) : pad n [] = List.replicate n ([], []) := by simp [pad]
theorem pad_len {n : Nat} {l : List Lab} (h : l.length ≤ n) : (pad n l).length = n := by simp [pad]; omega
theorem pad_set {n : Nat} {l : List Lab} (h : l.length < n) (x : Lab) : (pad n l).set l.length x = pad n (l ++ [x]) := by
  unfold pad
  rw [show n - l.length = (n - (l ++ [x]).length) + 1 by simp; omega, List.replicate_succ, List.set_append_right _ _ (Nat.le_refl _)]
  simp
theorem made_pad (n : Nat) : madeCells #[S8 [], S8 []] (n * 2) = (flat (pad n [])).toArray := by
  rw [pad_nil, flat_rep]
  apply Array.ext
  · simp [size_madeCells]
  · intro i h1 h2
    simp only [madeCells, Array.getElem_map, Array.getElem_range, List.getElem_toArray, List.getElem_replicate]
    rcases Nat.mod_two_eq_zero_or_one i with h | h
    · simp [h]
    · simp [h]
theorem own_rowL {w : World} {base M n : Nat} {l : List Lab} (h : Row w M l) (hb : base ≤ M) (hn : n = l.length) (hm : n ≤ 65536) : w.ownsRow base 46 2 (.slice (some ⟨M, 0, none⟩) n n) n (flat l) := by
  subst hn
  refine ⟨flat_len l, .inr ⟨M, l.length, _, rfl, hb, h, Nat.le_refl _, by unfold maxLen; omega, by simp [flat_len], ?_⟩⟩
  rw [← flat_len]
  simp

variable {w w1 : World} {p M n k : Nat} {b : List UInt8} {A : Option Addr} {c : Nat} {s : RS}
/-- The row's cells for the round's two stores. -/
theorem row_fst {l : List Lab} (h : Row w M (pad n l)) (hk : l.length < n) :
    w.cell? ⟨M, l.length * 2, .none⟩ = some (S8 ((pad n l)[l.length]'(by rw [pad_len (Nat.le_of_lt hk)]; exact hk)).1) ∧ w.frozen? ⟨M, l.length * 2, .none⟩ = false :=
  ⟨(h.cells (k := l.length) (by rw [pad_len (Nat.le_of_lt hk)]; exact hk)).1, frozen_of h⟩
theorem row_mid {l : List Lab} (h : Row w M (pad n l)) (hk : l.length < n) (x : List UInt8) (hw : w1.heap[M]? = (w.setCell ⟨M, l.length * 2, .none⟩ (S8 x)).heap[M]?) :
    (w1.cell? ⟨M, l.length * 2 + 1, .none⟩ = some (S8 ((pad n l)[l.length]'(by rw [pad_len (Nat.le_of_lt hk)]; exact hk)).2) ∧ w1.frozen? ⟨M, l.length * 2 + 1, .none⟩ = false) ∧
    ∀ y, Row (w1.setCell ⟨M, l.length * 2 + 1, .none⟩ (S8 y)) M (pad n (l ++ [(x, y)])) := by
  have hlt : l.length < (pad n l).length := by rw [pad_len (Nat.le_of_lt hk)]; exact hk
  have h1 := heap_setCell_same w M (l.length * 2) _ _ (S8 x) h
  have h2 := hw.trans h1
  refine ⟨⟨cell_of h2 ?_, frozen_of h2⟩, fun y => ?_⟩
  · have := (flat_at hlt).2
    rw [Array.getElem?_setIfInBounds, if_neg (by omega)]
    simpa using this
  · unfold Row
    rw [heap_setCell_same _ _ _ _ _ _ h2, ← pad_set hk (x, y), ← flat_set _ l.length (x, y) hlt]
    simp

theorem grown_other {w0 w : World} {r : Option Nat} (h : w0.grownBy w r) {a : Addr} (ha : w0.heap.size ≤ a.block) (u : Value) : w0.grownBy (w.setCell a u) r :=
  ⟨h.os, h.tape, h.output, Nat.le_trans h.size (by simp), fun i hi hne => (Below.heap_setCell _ _ _ _ (by omega)).trans (h.block i hi hne)⟩
def LRel (w : World) (p M : Nat) (b : List UInt8) (A : Option Addr) (c n : Nat) (s : RS) (v : Value) (wr : World) : Prop :=
  ∃ k : Nat, k ≤ n ∧ v = .int .i64 (k : Int) ∧ Hid (RBox wr p b A c (rl b s k).2) ∧ Hid (Row wr M (pad n (rl b s k).1)) ∧ Hid (w.grownBy wr (some p)) ∧ M < wr.heap.size

/-- What labels leaves. -/
def LPost (w : World) (p : Nat) (b : List UInt8) (A : Option Addr) (c : Nat) (r : List Lab × RS) (e : Ending) (w' : World) : Prop :=
  ∃ X nx cx, e = .returned (.slice X nx cx) ∧ w'.ownsRow w.heap.size 46 2 (.slice X nx cx) r.1.length (flat r.1) ∧ RBox w' p b A c r.2 ∧ w.grownBy w' (some p)

set_option maxHeartbeats 6400000 in
set_option maxRecDepth 100000 in
theorem labels_any (h : RBox w p b A c s) (hi : In b s) : Calls Try.prog 59 #[.pointer (some ⟨p, 0, .none⟩)] w (LPost w p b A c (rlabs b s)) := by
  have HN := Lib.hid (number_any h)
  obtain ⟨hin, h64⟩ := rnum_in (b := b) (s := s) (.inr hi)
  have hpw := h.lt
  unfold rlabs
  generalize rnum b s = N at *
  obtain ⟨n, s2⟩ := N
  simp only at hin h64 HN
  have HIN := Lib.hid hin
  obtain ⟨T, hT⟩ : ∃ T, rlabsN b (n, s2) = T := ⟨_, rfl⟩
  rw [hT]
  have HT := Lib.hid hT
  clear hT hin h hi
  by_cases h16 : 16 < n
  · have HT2 : Hid (T = ([], (s2.1, 3))) := Lib.hid (by rw [← HT.out]; unfold rlabsN; rw [if_pos h16])
    have hj : (16 : Int) < (n : Int) := by omega
    clear HT h16
    go_enter Try.func59, Try.ntmps59
    go_wp2_with fail
    refine HN.out.mono ?_
    rintro e w1 ⟨rfl, hb1, hg1⟩
    have HB1 := Lib.hid hb1
    have HG1 := Lib.hid hg1
    obtain ⟨⟨k0, k1, k2⟩, ⟨z0, z1, z2⟩⟩ := hb1.facts
    clear hb1 hg1 HN
    go_wp2
    go_ret
    rw [HT2.out]
    exact ⟨.none, 0, 0, rfl, World.ownsRow_nil .., HB1.out.set2 3, grown_set HG1.out _ _⟩
  · have HT2 : Hid (T = rl b s2 n) := Lib.hid (by rw [← HT.out]; unfold rlabsN; rw [if_neg h16])
    have hj : ¬ (16 : Int) < (n : Int) := by omega
    obtain ⟨i1, gi, gz0, gz1, gz2⟩ := info_parts info_label
    obtain ⟨C0, hC0⟩ : ∃ C0, C0 = (flat (pad n [])).toArray := ⟨_, rfl⟩
    have hmk : ∀ W : World, (Instr.makeSlice 31 (.int .u64 (n : Int)) (.int .u64 (n : Int))).run Try.prog W = .ok (.slice (some ⟨W.heap.size, 0, none⟩) n n) (W.alloc (.cells C0 46)) := fun W => by
      have h := run_make (P := Try.prog) W 31 46 i1 (.agg #[.string ByteArray.empty, .string ByteArray.empty]) Try.underlying31 gi gz0 .u64 .u64 (n : Int) (n : Int) (by omega) (by omega) (by rw [gz2]; omega) (by omega)
      rw [gz1] at h
      have e : madeCells (Value.agg #[.string ByteArray.empty, .string ByteArray.empty]).cells (((n : Nat) : Int).toNat * 2) = C0 := by rw [hC0, ← made_pad]; rfl
      rw [e] at h
      simpa using h
    have HC0 := Lib.hid hC0
    have hn16 : n ≤ 16 := by omega
    clear HT h16 hC0 gi gz0 gz1 gz2
    go_enter Try.func59, Try.ntmps59
    go_wp2_with fail
    refine HN.out.mono ?_
    rintro e w1 ⟨rfl, hb1, hg1⟩
    have HB1 := Lib.hid (hb1.below ((Below.refl _ w1).alloc (Nat.le_refl _) (.cells C0 46)))
    have HG1 := Lib.hid (grown_below hg1 ((Below.refl _ w1).alloc (Nat.le_refl _) (.cells C0 46)))
    have HR1 : Hid (Row (w1.alloc (.cells C0 46)) w1.heap.size (pad n [])) := Lib.hid (by unfold Row; rw [← HC0.out]; exact heap_alloc_new w1 _)
    have hpM : p < w1.heap.size := hb1.lt
    have hwM : w.heap.size ≤ w1.heap.size := hg1.size
    clear hb1 hg1 HN
    go_wp2
    go_loopw [17] (fun v wr => LRel w p w1.heap.size b A c n s2 v wr) (fun v _ => n - (intOf v).toNat)
    case atStart => exact ⟨0, Nat.zero_le _, rfl, HB1, HR1, HG1, by simp⟩
    case round =>
      obtain ⟨k, hk, rfl, HB, HR, HG, hM⟩ := hrel
      clear hmk HC0 HR1 HB1 HG1
      by_cases hlt : k < n
      · have hlen := rl_len b s2 k
        have HI := Lib.hid (rl_in HIN.out k)
        have HNX : Hid (rl b s2 (k + 1) = ((rl b s2 k).1 ++ [((rtext b (rl b s2 k).2).1, (rtext b (rtext b (rl b s2 k).2).2).1)], (rtext b (rtext b (rl b s2 k).2).2).2)) := Lib.hid rfl
        generalize rl b s2 k = R at *
        obtain ⟨L, sk⟩ := R
        simp only at hlen HB HR HI HNX
        subst hlen
        have HI2 := Lib.hid (rtext_in (b := b) (s := sk) (.inr HI.out))
        have HT1 := Lib.hid (text_any HB.out HI.out)
        have hne : some w1.heap.size ≠ some p := fun e => by cases e; omega
        have hwr : w.heap.size ≤ wr.heap.size := HG.out.size
        have hi1 : (0 : Int) ≤ (L.length : Int) := by omega
        have hi2 : (L.length : Int) < (n : Int) := by omega
        generalize rtext b sk = X1 at *
        obtain ⟨x1, s3⟩ := X1
        simp only at HI2 HT1 HNX
        generalize hMM : w1.heap.size = M at *
        clear hMM
        unfold S8 at HT1
        go_wp2_with fail
        refine HT1.out.mono ?_
        rintro e w2 ⟨rfl, hb2, hg2⟩
        have HR2 : Hid (Row w2 M (pad n L)) := Lib.hid ((hg2.block M hM hne).trans HR.out)
        obtain ⟨f0, f1⟩ := row_fst HR2.out hlt
        obtain ⟨u0, f0⟩ : ∃ u, w2.cell? ⟨M, L.length * 2, .none⟩ = some u := ⟨_, f0⟩
        have HBs : Hid (RBox (w2.setCell ⟨M, L.length * 2, .none⟩ (.string ⟨x1.toArray⟩)) p b A c s3) := Lib.hid (hb2.other hpM _)
        have HGs : Hid (w.grownBy (w2.setCell ⟨M, L.length * 2, .none⟩ (.string ⟨x1.toArray⟩)) (some p)) := Lib.hid (grown_other (grown_trans HG.out hg2) hwM _)
        have hM2 : M < w2.heap.size := Nat.lt_of_lt_of_le hM hg2.size
        have HT2 := Lib.hid (text_any HBs.out HI2.out)
        generalize rtext b s3 = X2 at *
        obtain ⟨x2, s4⟩ := X2
        simp only at HT2 HNX
        unfold S8 at HT2
        clear hb2 hg2 HT1 HB HG HR
        go_wp2_with fail
        refine HT2.out.mono ?_
        rintro e w3 ⟨rfl, hb3, hg3⟩
        obtain ⟨⟨m0, m1⟩, hrow3⟩ := row_mid (w1 := w3) HR2.out hlt x1 (hg3.block M (by simpa using hM2) hne)
        obtain ⟨u1, m0⟩ : ∃ u, w3.cell? ⟨M, L.length * 2 + 1, .none⟩ = some u := ⟨_, m0⟩
        have HB3 := Lib.hid (hb3.other (a := ⟨M, L.length * 2 + 1, .none⟩) hpM (S8 x2))
        have HR3 := Lib.hid (hrow3 x2)
        have HG3 := Lib.hid (grown_other (grown_trans HGs.out hg3) (a := ⟨M, L.length * 2 + 1, .none⟩) hwM (S8 x2))
        have hM3 : M < w3.heap.size := Nat.lt_of_lt_of_le hM2 (by simpa using hg3.size)
        clear hb3 hg3 hrow3 HT2 HBs HGs HR2 f0 f1
        go_wp2
        go_roundw
        case rel => exact ⟨L.length + 1, by omega, by go_num, by rw [HNX.out]; exact HB3, by rw [HNX.out]; exact HR3, HG3, by simpa using hM3⟩
        case measure => simp [intOf]; omega
      · have hkn : k = n := by omega
        subst hkn
        have HL := Lib.hid (rl_len b s2 k)
        clear hlt hk
        go_wp2
        go_ret
        rw [HT2.out]
        have hrow := HR.out
        generalize rl b s2 k = R at *
        obtain ⟨L, sk⟩ := R
        have hl := HL.out
        simp only at hl hrow
        subst hl
        rw [pad_full] at hrow
        exact ⟨_, _, _, rfl, own_rowL hrow hwM rfl (by omega), HB.out, HG.out⟩
end Go.Proofs.Ytahbaifbihpppaa.RpLabs

namespace Go.Proofs.Ytahbaifbihpppaa.RpRec
open Go Go.RowKit Words AppN Less LbSpec LbText LbMem LbRef LbCmp RcSpec RcAll RcMem RcRefRd RpPlain RpRead RpLabs UtOwn LpBoth LbCanon Plain

theorem results_cell1 {fn : Func} {p : Tmp} {ty : TypeId} (h : fn.results = #[.cell p ty]) (tmps : Array Value) (P : Program) (w : World) :
    (results fn tmps).run P w = ((asAddr (tmps.getD p undef)).run P w).andThen fun a w₁ => (loadVar ty a).run P w₁ := by
  simp only [results, h]
  simp [Sem.run_bind, Result.andThen]

/-- On the way: the result's box, r's box, the labels in a row of the call's own. -/
structure KSt (w : World) (p : Nat) (b : List UInt8) (A : Option Addr) (c : Nat) (t : Int) (sq : Nat) (v : Value) (ls : List Lab) (x : List UInt8) (s : RS) (wr : World) : Prop where
  b0 : wr.heap[w.heap.size]? = some (.cells #[.int .i64 0, .int .u64 0, .slice .none 0 0, .string ⟨#[]⟩] 33 (0, 0))
  b1 : wr.heap[w.heap.size + 1]? = some (.cells #[.int .i64 t, .int .u64 (sq : Int), v, .string ⟨x.toArray⟩] 33 (0, 0))
  own : wr.ownsRow (w.heap.size + 2) 46 2 v ls.length (flat ls)
  rb : RBox wr p b A c s
  gr : w.grownBy wr (some p)
variable {w wr w1 : World} {p : Nat} {b : List UInt8} {A : Option Addr} {c : Nat} {t : Int} {sq : Nat} {v : Value} {ls : List Lab} {x : List UInt8} {s s' : RS}
theorem KSt.lt (h : KSt w p b A c t sq v ls x s wr) : w.heap.size + 1 < wr.heap.size := (Array.getElem?_eq_some_iff.1 h.b1).1
theorem KSt.own_ne (h : KSt w p b A c t sq v ls x s wr) (hp : p < w.heap.size) : v.ownBlock = Option.none ∨ v.ownBlock ≠ some p := by
  cases e : v.ownBlock with
  | none => exact .inl rfl
  | some k => exact .inr (fun h2 => by cases h2; have := (h.own.lt _ e).1; omega)
theorem KSt.call (h : KSt w p b A c t sq v ls x s wr) (hp : p < w.heap.size) (hg : wr.grownBy w1 (some p)) (hr : RBox w1 p b A c s') : KSt w p b A c t sq v ls x s' w1 := by
  have hl := h.lt
  exact ⟨(hg.block _ (by omega) (fun e => by cases e; omega)).trans h.b0, (hg.block _ hl (fun e => by cases e; omega)).trans h.b1, h.own.kept hg (h.own_ne hp), hr, grown_trans h.gr hg⟩
theorem KSt.facts (h : KSt w p b A c t sq v ls x s wr) :
    (wr.cell? ⟨w.heap.size + 1, 0, .none⟩ = some (.int .i64 t) ∧ wr.cell? ⟨w.heap.size + 1, 1, .none⟩ = some (.int .u64 (sq : Int)) ∧ wr.cell? ⟨w.heap.size + 1, 2, .none⟩ = some v ∧ wr.cell? ⟨w.heap.size + 1, 3, .none⟩ = some (.string ⟨x.toArray⟩)) ∧
    (wr.frozen? ⟨w.heap.size + 1, 0, .none⟩ = false ∧ wr.frozen? ⟨w.heap.size + 1, 1, .none⟩ = false ∧ wr.frozen? ⟨w.heap.size + 1, 2, .none⟩ = false ∧ wr.frozen? ⟨w.heap.size + 1, 3, .none⟩ = false) ∧
    (wr.cell? ⟨w.heap.size, 0, .none⟩ = some (.int .i64 0) ∧ wr.cell? ⟨w.heap.size, 1, .none⟩ = some (.int .u64 0) ∧ wr.cell? ⟨w.heap.size, 2, .none⟩ = some (.slice .none 0 0) ∧ wr.cell? ⟨w.heap.size, 3, .none⟩ = some (.string ⟨#[]⟩)) ∧
    (wr.frozen? ⟨w.heap.size, 0, .none⟩ = false ∧ wr.frozen? ⟨w.heap.size, 1, .none⟩ = false ∧ wr.frozen? ⟨w.heap.size, 2, .none⟩ = false ∧ wr.frozen? ⟨w.heap.size, 3, .none⟩ = false) :=
  ⟨⟨box_cell h.b1 rfl, box_cell h.b1 rfl, box_cell h.b1 rfl, box_cell h.b1 rfl⟩, ⟨box_frozen h.b1, box_frozen h.b1, box_frozen h.b1, box_frozen h.b1⟩,
   ⟨box_cell h.b0 rfl, box_cell h.b0 rfl, box_cell h.b0 rfl, box_cell h.b0 rfl⟩, ⟨box_frozen h.b0, box_frozen h.b0, box_frozen h.b0, box_frozen h.b0⟩⟩
theorem KSt.set0 (h : KSt w p b A c t sq v ls x s wr) (hp : p < w.heap.size) (t' : Int) : KSt w p b A c t' sq v ls x s (wr.setCell ⟨w.heap.size + 1, 0, .none⟩ (.int .i64 t')) :=
  ⟨(Below.heap_setCell _ _ _ _ (by simp)).trans h.b0, (heap_setCell_same _ _ _ _ _ _ h.b1).trans rfl, ownsRow_setCell_below h.own (by simp) _, h.rb.other (by show p < w.heap.size + 1; omega) _, grown_other h.gr (by simp) _⟩
theorem KSt.set1 (h : KSt w p b A c t sq v ls x s wr) (hp : p < w.heap.size) (s1 : Nat) : KSt w p b A c t s1 v ls x s (wr.setCell ⟨w.heap.size + 1, 1, .none⟩ (.int .u64 (s1 : Int))) :=
  ⟨(Below.heap_setCell _ _ _ _ (by simp)).trans h.b0, (heap_setCell_same _ _ _ _ _ _ h.b1).trans rfl, ownsRow_setCell_below h.own (by simp) _, h.rb.other (by show p < w.heap.size + 1; omega) _, grown_other h.gr (by simp) _⟩
theorem KSt.set2 (h : KSt w p b A c t sq v ls x s wr) (hp : p < w.heap.size) {v' : Value} {l' : List Lab} (ho : wr.ownsRow (w.heap.size + 2) 46 2 v' l'.length (flat l')) : KSt w p b A c t sq v' l' x s (wr.setCell ⟨w.heap.size + 1, 2, .none⟩ v') :=
  ⟨(Below.heap_setCell _ _ _ _ (by simp)).trans h.b0, (heap_setCell_same _ _ _ _ _ _ h.b1).trans rfl, ownsRow_setCell_below ho (by simp) _, h.rb.other (by show p < w.heap.size + 1; omega) _, grown_other h.gr (by simp) _⟩
theorem KSt.set3 (h : KSt w p b A c t sq v ls x s wr) (hp : p < w.heap.size) (x' : List UInt8) : KSt w p b A c t sq v ls x' s (wr.setCell ⟨w.heap.size + 1, 3, .none⟩ (.string ⟨x'.toArray⟩)) :=
  ⟨(Below.heap_setCell _ _ _ _ (by simp)).trans h.b0, (heap_setCell_same _ _ _ _ _ _ h.b1).trans rfl, ownsRow_setCell_below h.own (by simp) _, h.rb.other (by show p < w.heap.size + 1; omega) _, grown_other h.gr (by simp) _⟩
def W2 (w : World) : World := (w.alloc (.cells #[.int .i64 0, .int .u64 0, .slice .none 0 0, .string ⟨#[]⟩] 33)).alloc (.cells #[.int .i64 0, .int .u64 0, .slice .none 0 0, .string ⟨#[]⟩] 33)
theorem kst_start (h : RBox w p b A c s) : KSt w p b A c 0 0 (.slice .none 0 0) [] [] s (W2 w) := by
  have hb : Below w.heap.size w (W2 w) := by unfold W2; exact ((Below.refl _ w).alloc (Nat.le_refl _) _).alloc (by simp) _
  refine ⟨?_, ?_, World.ownsRow_nil .., h.below hb, only_of_below hb _⟩
  · unfold W2
    exact (((Below.refl _ _).alloc (Nat.le_refl _) _).block _ (by simp)).trans (heap_alloc_new w _)
  · unfold W2
    simpa using heap_alloc_new (w.alloc _) _

/-- What record leaves. -/
def KPost (w : World) (p : Nat) (b : List UInt8) (A : Option Addr) (c : Nat) (r : Rec × RS) (e : Ending) (w' : World) : Prop :=
  ∃ X nx cx, e = .returned (aggR (r.1, X, nx, cx)) ∧ w'.ownsRow w.heap.size 46 2 (.slice X nx cx) r.1.labels.length (flat r.1.labels) ∧ RBox w' p b A c r.2 ∧ w.grownBy w' (some p)

set_option maxHeartbeats 6400000 in
set_option maxRecDepth 100000 in
theorem record_any (h : RBox w p b A c s) (hi : s.2 = 0 ∨ In b s) : Calls Try.prog 40 #[.pointer (some ⟨p, 0, .none⟩)] w (KPost w p b A c (rrec b s)) := by
  have hpw := h.lt
  have HS0 := Lib.hid (kst_start h)
  have HN1 := Lib.hid (number_any HS0.out.rb)
  obtain ⟨hin1, hu64⟩ := rnum_in (b := b) (s := s) hi
  obtain ⟨T, hT⟩ : ∃ T, rrec b s = T := ⟨_, rfl⟩
  rw [hT]
  unfold rrec at hT
  have HI1 := Lib.hid hin1
  generalize rnum b s = N1 at *
  obtain ⟨u, s1⟩ := N1
  simp only at hT HN1 hu64 HI1
  have hin2 := (rnum_in (b := b) (s := s1) (.inr HI1.out)).1
  have HI2 := Lib.hid hin2
  have HR2 : Hid (∃ N, N = rnum b s1) := Lib.hid ⟨_, rfl⟩
  have HZG := fun w => Lib.hid (Zig.zag_any u w (by omega) (by omega))
  rw [zag_nat u] at HZG
  have HT := Lib.hid hT
  unfold W2 at HN1
  clear hT hin1 hin2 HR2 h hi
  go_enter Try.func40, Try.ntmps40
  go_wp2_with fail
  refine HN1.out.mono ?_
  rintro e w1 ⟨rfl, hb1, hg1⟩
  have HS1 : Hid (KSt w p b A c 0 0 (.slice .none 0 0) [] [] s1 w1) := Lib.hid (HS0.out.call hpw hg1 hb1)
  obtain ⟨⟨k0, k1, k2, k3⟩, ⟨z0, z1, z2, z3⟩, _, _⟩ := HS1.out.facts
  have HS2 := Lib.hid (HS1.out.set0 hpw (zagN u))
  have HN2 := Lib.hid (number_any HS2.out.rb)
  clear hb1 hg1 HN1 HS0
  have hT := HT.out
  generalize rnum b s1 = N2 at *
  obtain ⟨sq, s2⟩ := N2
  simp only at hT HN2 HI2
  have HL : Hid (In b (rlabs b s2).2) := Lib.hid (rlabs_in HI2.out)
  have HT2 := Lib.hid hT
  clear hT HT
  go_wp2_with fail
  refine (HZG _).out.mono ?_
  rintro e w2 ⟨rfl, rfl⟩
  go_wp2_with fail
  refine HN2.out.mono ?_
  rintro e w3 ⟨rfl, hb3, hg3⟩
  have HS3 := Lib.hid (HS2.out.call hpw hg3 hb3)
  clear hb3 hg3 HN2 HS2 HS1 k0 k1 k2 k3 z0 z1 z2 z3 HZG
  obtain ⟨⟨k0, k1, k2, k3⟩, ⟨z0, z1, z2, z3⟩, _, _⟩ := HS3.out.facts
  have HS4 := Lib.hid (HS3.out.set1 hpw sq)
  have HN3 := Lib.hid (labels_any HS4.out.rb HI2.out)
  have hT := HT2.out
  generalize rlabs b s2 = N3 at *
  obtain ⟨L, s3⟩ := N3
  simp only at hT HN3 HL
  unfold LPost at HN3
  have HT3 := Lib.hid hT
  clear hT HT2
  go_wp2_with fail
  refine HN3.out.mono ?_
  rintro e w5 ⟨X, nx, cx, rfl, hown, hb5, hg5⟩
  have HS5 := Lib.hid (HS4.out.call hpw hg5 hb5)
  have HO5 : Hid (w5.ownsRow (w.heap.size + 2) 46 2 (.slice X nx cx) L.length (flat L)) := Lib.hid (own_monoN hown (by have := HS4.out.lt; omega))
  clear hb5 hg5 HN3 HS4 HS3 k0 k1 k2 k3 z0 z1 z2 z3 hown
  obtain ⟨⟨k0, k1, k2, k3⟩, ⟨z0, z1, z2, z3⟩, _, _⟩ := HS5.out.facts
  have HS6 := Lib.hid (HS5.out.set2 hpw HO5.out)
  have HN4 := Lib.hid (text_any HS6.out.rb HL.out)
  have hT := HT3.out
  generalize rtext b s3 = N4 at *
  obtain ⟨line, s4⟩ := N4
  simp only at hT HN4
  unfold S8 at HN4
  have HT4 := Lib.hid hT
  clear hT HT3
  go_wp2_with fail
  refine HN4.out.mono ?_
  rintro e w7 ⟨rfl, hb7, hg7⟩
  have HS7 := Lib.hid (HS6.out.call hpw hg7 hb7)
  clear hb7 hg7 HN4 HS6 HS5 k0 k1 k2 k3 z0 z1 z2 z3
  have HS8 := Lib.hid (HS7.out.set3 hpw line)
  obtain ⟨⟨k0, k1, k2, k3⟩, ⟨z0, z1, z2, z3⟩, ⟨m0, m1, m2, m3⟩, ⟨y0, y1, y2, y3⟩⟩ := HS7.out.facts
  go_wp2
  refine bodyPost_ret (v := .agg #[.int .i64 (zagN u), .int .u64 (sq : Int), .slice X nx cx, .string ⟨line.toArray⟩]) ?_ rfl ?_
  · rw [results_cell1 rfl]
    go_simp
  · rw [← HT4.out]
    have h8 := HS8.out
    refine ⟨X, nx, cx, rfl, own_monoN (ownsRow_setCell_below (ownsRow_setCell_below (ownsRow_setCell_below (ownsRow_setCell_below h8.own (by simp) _) (by simp) _) (by simp) _) (by simp) _) (by omega), ?_, ?_⟩
    · exact (((h8.rb.other (by exact hpw) _).other (by exact hpw) _).other (by exact hpw) _).other (by exact hpw) _
    · exact grown_other (grown_other (grown_other (grown_other h8.gr (by simp) _) (by simp) _) (by simp) _) (by simp) _
end Go.Proofs.Ytahbaifbihpppaa.RpRec

