/- post.readEntry, readEntries of bytes that begin so: the entries in new memory, and the place behind them. Conditions: those of the statements. -/
import Derived.Test.YtfojpbbmicmooaaPgPlain
import Derived.Test.YtfojpbbmicmooaaPgCat
import Derived.Test.YtfojpbbmicmooaaGet
import Derived.Test.YtfojpbbmicmooaaPkBack
import Derived.Laws.MakeOwn
import Derived.Deep.OwnRows
namespace Go.Proofs.Ytfojpbbmicmooaa.PgRe
open Go Go.RowKit Words PkSpec PsSpec PgPlain Get PkBack PsAwake

theorem results_cell3 {fn : Func} {p u v : Tmp} {ty : TypeId} (h : fn.results = #[.cell p ty, .tmp u, .tmp v]) (tmps : Array Value) (P : Program) (w : World) :
    (results fn tmps).run P w =
      ((asAddr (tmps.getD p undef)).run P w).andThen fun a w₁ => ((loadVar ty a).run P w₁).andThen fun x w₂ => .ok (.tuple #[x, tmps.getD u undef, tmps.getD v undef]) w₂ := by
  simp only [results, h]
  simp [Sem.run_bind, Result.andThen]
def entry (y x : Nat) : Value := .agg #[.int .u64 (y : Int), .int .u64 (x : Int)]
set_option maxHeartbeats 4000000 in
theorem entry_any (b pre r : List UInt8) (y x : Nat) (A : Option Addr) (c : Nat) (w : World) (hb : b = pre ++ (Lib.uvarint y ++ (Lib.uvarint x ++ r))) (hy : y < 18446744073709551616) (hx : x < 18446744073709551616) (hr : Rd w w.heap.size A (b.map B8)) (hc : b.length ≤ c) (hm : c ≤ maxLen) :
    Calls Try.prog 30 #[.slice A b.length c, .int .i64 (pre.length : Int)] w fun e w' => e = .returned (.tuple #[entry y x, .int .i64 ((pre.length + (Lib.uvarint y ++ Lib.uvarint x).length : Nat) : Int), .bool true]) ∧ Below w.heap.size w w' := by
  have g1 := PkBack.get_at pre (Lib.uvarint x ++ r) y hy
  have g2 := PkBack.get_at (pre ++ Lib.uvarint y) r x hx
  rw [← hb] at g1
  rw [show pre ++ Lib.uvarint y ++ (Lib.uvarint x ++ r) = b by rw [hb]; simp] at g2
  have hr1 := hr.alloc (Nat.le_refl _) (.cells #[.int .u64 0, .int .u64 0] 61)
  have hb1 := (Below.refl w.heap.size w).alloc (Nat.le_refl _) (.cells #[.int .u64 0, .int .u64 0] 61)
  have c1 := get_any b A c (pre.length : Int) (w.alloc (.cells #[.int .u64 0, .int .u64 0] 61)) w.heap.size hr1 hc hm
  rw [g1.1, g1.2.1, g1.2.2] at c1
  have c2 := get_any b A c (((pre ++ Lib.uvarint y).length : Nat) : Int) (w.alloc (.cells #[.int .u64 0, .int .u64 0] 61)) w.heap.size hr1 hc hm
  rw [g2.1, g2.2.1, g2.2.2] at c2
  have e1 : pre.length + (Lib.uvarint y).length = (pre ++ Lib.uvarint y).length := by simp
  have e2 : (pre ++ Lib.uvarint y).length + (Lib.uvarint x).length = pre.length + (Lib.uvarint y ++ Lib.uvarint x).length := by simp; omega
  rw [e1] at c1
  rw [e2] at c2
  clear g1 g2 hr hr1 hb e1 e2
  generalize (pre ++ Lib.uvarint y).length = p1 at *
  generalize pre.length + (Lib.uvarint y ++ Lib.uvarint x).length = p2 at *
  generalize pre.length = p0 at *
  generalize b.length = n at *
  go_enter Try.func30, Try.ntmps30
  go_wp2_with fail
  refine c1.mono ?_
  rintro e w1 ⟨rfl, rfl⟩
  clear c1
  go_wp2_with fail
  refine c2.mono ?_
  rintro e w1 ⟨rfl, rfl⟩
  clear c2
  go_wp2
  refine bodyPost_ret (v := .tuple #[entry y x, .int .i64 (p2 : Int), .bool true]) ?_ rfl ⟨?_, ?_⟩
  · rw [results_cell3 rfl]
    unfold entry
    go_simp
  · rfl
  · exact (Below.refl w.heap.size w).alloc (Nat.le_refl _) _

/-! ### All entries -/
def lastN (l : List UInt64) (k : Nat) : Nat := (l.getD (min (32 * k + 32) l.length - 1) 0).toNat
def sizeN (l : List UInt64) (k : Nat) : Nat := (pk (ch l k)).length
theorem head_n {l : List UInt64} {k : Nat} (h : 32 * k < l.length) : headOf (ch l k) = Lib.uvarint (lastN l k) ++ Lib.uvarint (sizeN l k) := by
  rw [head_eq h]
  unfold lastN sizeN
  rw [List.getD_eq_getElem?_getD, List.getElem?_eq_getElem (by omega), Option.getD_some]
theorem heads_pre (l : List UInt64) (k : Nat) : ∀ d, ∃ t, heads l (k + d) = heads l k ++ t
  | 0 => ⟨[], by simp⟩
  | d + 1 => by
    obtain ⟨t, ht⟩ := heads_pre l k d
    exact ⟨t ++ headOf (ch l (k + d)), by rw [← Nat.add_assoc, heads_succ, ht, List.append_assoc]⟩
theorem packs_pre (l : List UInt64) (k : Nat) : ∀ d, ∃ t, packs l (k + d) = packs l k ++ t
  | 0 => ⟨[], by simp⟩
  | d + 1 => by
    obtain ⟨t, ht⟩ := packs_pre l k d
    exact ⟨t ++ pk (ch l (k + d)), by rw [← Nat.add_assoc, packs_succ, ht, List.append_assoc]⟩
/-- The entries' memory: the first k are read, all cells are there. -/
structure Ents (w : World) (g : Nat) (l : List UInt64) (k n : Nat) : Prop where
  last : ∀ j, j < k → w.cell? ⟨g, 2 * j, none⟩ = some (.int .u64 (lastN l j : Int))
  size : ∀ j, j < k → w.cell? ⟨g, 2 * j + 1, none⟩ = some (.int .u64 (sizeN l j : Int))
  all : ∀ t, t < 2 * n → (∃ v, w.cell? ⟨g, t, none⟩ = some v) ∧ w.frozen? ⟨g, t, none⟩ = false
theorem frozen_below {w w' : World} {B : Nat} (hb : Below B w w') (g t : Nat) (hg : g < B) : w'.frozen? ⟨g, t, none⟩ = w.frozen? ⟨g, t, none⟩ := by
  unfold World.frozen?
  rw [hb.block _ hg]
theorem ents_below {l : List UInt64} {w w' : World} {g k n : Nat} (h : Ents w g l k n) (hg : g < w.heap.size) (hb : Below w.heap.size w w') : Ents w' g l k n :=
  ⟨fun j hj => by rw [hb.cell (p := ⟨g, 2 * j, none⟩) hg]; exact h.last j hj, fun j hj => by rw [hb.cell (p := ⟨g, 2 * j + 1, none⟩) hg]; exact h.size j hj,
    fun t ht => ⟨by rw [hb.cell (p := ⟨g, t, none⟩) hg]; exact (h.all t ht).1, by rw [frozen_below hb g t hg]; exact (h.all t ht).2⟩⟩
theorem ents_next {l : List UInt64} {w : World} {g k n : Nat} (h : Ents w g l k n) (hk : k < n) :
    Ents ((w.setCell ⟨g, k * 2, none⟩ (.int .u64 (lastN l k : Int))).setCell ⟨g, k * 2 + 1, none⟩ (.int .u64 (sizeN l k : Int))) g l (k + 1) n := by
  obtain ⟨v0, h0⟩ := (h.all (k * 2) (by omega)).1
  obtain ⟨v1, h1⟩ := (h.all (k * 2 + 1) (by omega)).1
  have same : ∀ (w : World) (t : Nat) (u v : Value), w.cell? ⟨g, t, none⟩ = some v → (w.setCell ⟨g, t, none⟩ u).cell? ⟨g, t, none⟩ = some u := fun w t u v hv => World.cell?_setCell_same w _ _ hv
  have other : ∀ (w : World) (t s : Nat) (u : Value), t ≠ s → (w.setCell ⟨g, s, none⟩ u).cell? ⟨g, t, none⟩ = w.cell? ⟨g, t, none⟩ := fun w t s u hne => World.cell?_setCell_other w _ _ u (fun e => hne (by simp only [Addr.mk.injEq] at e; omega))
  refine ⟨fun j hj => ?_, fun j hj => ?_, fun t ht => ⟨?_, ?_⟩⟩
  · rw [other _ _ _ _ (by omega)]
    by_cases e : j = k
    · subst e; rw [Nat.mul_comm 2]; exact same _ _ _ v0 h0
    · rw [other _ _ _ _ (by omega)]; exact h.last j (by omega)
  · by_cases e : j = k
    · subst e; rw [Nat.mul_comm 2]; exact same _ _ _ v1 (by rw [other _ _ _ _ (by omega)]; exact h1)
    · rw [other _ _ _ _ (by omega), other _ _ _ _ (by omega)]; exact h.size j (by omega)
  · by_cases e1 : t = k * 2 + 1
    · subst e1; exact ⟨_, same _ _ _ v1 (by rw [other _ _ _ _ (by omega)]; exact h1)⟩
    · rw [other _ _ _ _ e1]
      by_cases e0 : t = k * 2
      · subst e0; exact ⟨_, same _ _ _ v0 h0⟩
      · rw [other _ _ _ _ e0]; exact (h.all t ht).1
  · simpa using (h.all t ht).2
theorem info_entry : (Try.prog.info? 61).map (fun i => (i.zero, i.size, i.bytes)) = some (some (.agg #[.int .u64 0, .int .u64 0]), 2, 16) := by kernel_rfl
theorem make_run (n : Nat) (hn : n ≤ 2048) (w : World) : (Instr.makeSlice 41 (.int .u64 (n : Int)) (.int .u64 (n : Int))).run Try.prog w = .ok (.slice (some ⟨w.heap.size, 0, none⟩) n n) (w.alloc (.cells (madeCells #[.int .u64 0, .int .u64 0] (n * 2)) 61)) := by
  obtain ⟨i, hi, hz⟩ := Option.map_eq_some_iff.1 info_entry
  simp only [Prod.mk.injEq] at hz
  obtain ⟨h1, h2, h3⟩ := hz
  have h := run_make (P := Try.prog) w 41 61 i _ Try.underlying41 hi h1 .u64 .u64 n n (by omega) (Int.le_refl _) (by rw [h3]; omega) (by omega)
  simp only [Int.toNat_natCast, h2] at h
  exact h
set_option maxHeartbeats 16000000 in
set_option maxRecDepth 100000 in
theorem ents_any (l : List UInt64) (r : List UInt8) (A : Option Addr) (c : Nat) (w : World) (b : List UInt8) (hb : b = Lib.uvarint (nb l) ++ heads l (nb l) ++ r) (hl : l.length ≤ 65536) (hr : Rd w w.heap.size A (b.map B8)) (hc : b.length ≤ c) (hm : c ≤ maxLen) :
    Calls Try.prog 18 #[.slice A b.length c] w fun e w' => ∃ g, e = .returned (.tuple #[.slice (some ⟨g, 0, none⟩) (nb l) (nb l), .int .i64 (((Lib.uvarint (nb l) ++ heads l (nb l)).length : Nat) : Int), .bool true]) ∧ w.heap.size ≤ g ∧ g < w'.heap.size ∧ Ents w' g l (nb l) (nb l) ∧ Below w.heap.size w w' := by
  have g1 := PkBack.get_at [] (heads l (nb l) ++ r) (nb l) (by unfold nb; omega)
  rw [List.nil_append, ← List.append_assoc, ← hb] at g1
  have c1 := get_any b A c 0 w w.heap.size hr hc hm
  rw [show (([] : List UInt8).length : Int) = 0 from rfl] at g1
  rw [g1.1, g1.2.1, g1.2.2] at c1
  have HE : Hid (∀ (k : Nat) (w' : World), Below w.heap.size w w' → k < nb l → Calls Try.prog 30 #[.slice A b.length c, .int .i64 (((Lib.uvarint (nb l) ++ heads l k).length : Nat) : Int)] w' fun e w2 =>
      e = .returned (.tuple #[entry (lastN l k) (sizeN l k), .int .i64 (((Lib.uvarint (nb l) ++ heads l (k + 1)).length : Nat) : Int), .bool true]) ∧ Below w'.heap.size w' w2) := fun k w' hB hk => by
    have hk32 : 32 * k < l.length := by unfold nb at hk; omega
    obtain ⟨t, ht⟩ := heads_pre l (k + 1) (nb l - (k + 1))
    rw [show k + 1 + (nb l - (k + 1)) = nb l by omega, heads_succ, head_n hk32] at ht
    have hsz : sizeN l k < 18446744073709551616 := by have := pk_small (ch l k) (ch_le l k); unfold sizeN; omega
    have h := entry_any b (Lib.uvarint (nb l) ++ heads l k) (t ++ r) (lastN l k) (sizeN l k) A c w' (by rw [hb, ht]; simp) (UInt64.toNat_lt _) hsz ((hr.below hB).more hB.size) hc hm
    have e1 : (Lib.uvarint (nb l) ++ heads l (k + 1)).length = (Lib.uvarint (nb l) ++ heads l k).length + (Lib.uvarint (lastN l k) ++ Lib.uvarint (sizeN l k)).length := by rw [heads_succ, head_n hk32, ← List.append_assoc, List.length_append]
    rw [e1]
    exact h
  obtain ⟨M, hM⟩ : ∃ M, M = nb l := ⟨_, rfl⟩
  have hM3 : M ≤ 2048 := by rw [hM]; unfold nb; omega
  rw [← hM] at HE c1 ⊢
  obtain ⟨P, hP⟩ : ∃ P : Nat → Nat, ∀ k, P k = (Lib.uvarint M ++ heads l k).length := ⟨_, fun _ => rfl⟩
  have HE2 : Hid (∀ (k : Nat) (w' : World), Below w.heap.size w w' → k < M → Calls Try.prog 30 #[.slice A b.length c, .int .i64 (P k : Int)] w' fun e w2 =>
      e = .returned (.tuple #[entry (lastN l k) (sizeN l k), .int .i64 (P (k + 1) : Int), .bool true]) ∧ Below w'.heap.size w' w2) := by
    show ∀ (k : Nat) (w' : World), _
    intro k w' h1 h2
    rw [hP, hP]; exact HE.out k w' h1 h2
  have hP0 : (([] : List UInt8).length + (Lib.uvarint M).length : Nat) = P 0 := by rw [hP, heads_zero, List.append_nil]; simp
  rw [hP0] at c1
  rw [← hP M]
  have HM : Hid (M = nb l) := hM
  clear HE g1 hr hb hP hP0 hc hm hM
  generalize b.length = bn at *
  go_enter Try.func18, Try.ntmps18
  go_wp2_with fail
  refine c1.mono ?_
  rintro e w1 ⟨rfl, rfl⟩
  clear c1
  have hmk := make_run M hM3 w
  have HEN : Hid (Ents (w.alloc (.cells (madeCells #[.int .u64 0, .int .u64 0] (M * 2)) 61)) w.heap.size l 0 M) := by
    refine ⟨fun j h => by omega, fun j h => by omega, fun t ht => ⟨⟨(madeCells #[.int .u64 0, .int .u64 0] (M * 2))[t]'(by rw [size_madeCells]; omega), ?_⟩, by simp⟩⟩
    have hs : t < (madeCells #[Value.int .u64 0, .int .u64 0] (M * 2)).size := by rw [size_madeCells]; omega
    simp only [World.cell?, World.alloc]
    rw [Array.getElem?_push_size]
    simp only []
    rw [Array.getElem?_eq_getElem hs]
    rfl
  have HB0 : Hid (Below w.heap.size w (w.alloc (.cells (madeCells #[.int .u64 0, .int .u64 0] (M * 2)) 61))) := (Below.refl _ _).alloc (Nat.le_refl _) _
  have hsz0 : w.heap.size < (w.alloc (.cells (madeCells #[.int .u64 0, .int .u64 0] (M * 2)) 61)).heap.size := by simp
  generalize w.alloc (.cells (madeCells #[.int .u64 0, .int .u64 0] (M * 2)) 61) = w1 at *
  go_wp2_with fail
  go_loopw [6, 27] (fun va vi wr => ∃ k : Nat, va = .int .i64 (P k : Int) ∧ vi = .int .i64 (k : Int) ∧ k ≤ M ∧ w.heap.size < wr.heap.size ∧ Hid (Ents wr w.heap.size l k M) ∧ Hid (Below w.heap.size w wr)) (fun _ vi _ => M - (match vi with | .int _ q => q.toNat | _ => 0))
  case atStart => exact ⟨0, rfl, rfl, Nat.zero_le _, hsz0, HEN, HB0⟩
  case round =>
    clear HEN HB0 hmk hsz0
    obtain ⟨k, rfl, rfl, hk, hsz, HEN, HB⟩ := hrel
    by_cases hlt : k < M
    · have hc := Lib.hid (HE2.out k wr HB.out hlt)
      go_wp2_with fail
      refine hc.out.mono ?_
      rintro e w2 ⟨rfl, hb2⟩
      obtain ⟨v0, a0, f0⟩ : ∃ v, w2.cell? ⟨w.heap.size, k * 2, none⟩ = some v ∧ w2.frozen? ⟨w.heap.size, k * 2, none⟩ = false := by
        obtain ⟨⟨v, hv⟩, hf⟩ := HEN.out.all (2 * k) (by omega)
        refine ⟨v, by rw [hb2.cell (p := ⟨w.heap.size, k * 2, none⟩) hsz, Nat.mul_comm]; exact hv, ?_⟩
        rw [Nat.mul_comm, ← hf]
        unfold World.frozen?
        rw [hb2.block _ hsz]
      obtain ⟨v1, a1, f1⟩ : ∃ v, w2.cell? ⟨w.heap.size, k * 2 + 1, none⟩ = some v ∧ w2.frozen? ⟨w.heap.size, k * 2 + 1, none⟩ = false := by
        obtain ⟨⟨v, hv⟩, hf⟩ := HEN.out.all (2 * k + 1) (by omega)
        refine ⟨v, by rw [hb2.cell (p := ⟨w.heap.size, k * 2 + 1, none⟩) hsz, Nat.mul_comm k]; exact hv, ?_⟩
        rw [Nat.mul_comm k, ← hf]
        unfold World.frozen?
        rw [hb2.block _ hsz]
      have HB2 : Hid (Below wr.heap.size wr w2) := hb2
      clear hb2
      clear hc
      unfold entry
      go_wp2_with fail
      go_roundw
      case rel =>
        refine ⟨k + 1, rfl, by go_num, by omega, ?_, ents_next (ents_below HEN.out hsz HB2.out) hlt, ?_⟩
        · have := HB2.out.size; simp; omega
        · have h1 : Below w.heap.size w w2 := HB.out.trans (HB2.out.mono HB.out.size)
          exact (h1.setCell (Nat.le_refl _) _).setCell (Nat.le_refl _) _
      case measure => simp; omega
    · obtain rfl : k = M := by omega
      go_wp2_with fail
      go_ret3
      exact ⟨w.heap.size, rfl, Nat.le_refl _, hsz, HEN.out, HB.out⟩
end Go.Proofs.Ytfojpbbmicmooaa.PgRe
