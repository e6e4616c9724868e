/- Memory for RecordKeeps: a byte row that is written over, lists of labels in rows of their own that are written over, one after another. Of no program but for its types. No conditions. -/
import Derived.Test.YtahbaifbihpppaaRpGa
import Derived.Test.YtahbaifbihpppaaRcBackW
import Derived.ArgAppend
import Derived.Lib.ConvBytes
import Derived.Deep.Upon
namespace Go.Proofs.Ytahbaifbihpppaa.RcKeepM
open Go Go.RowKit Words AppN Less LbSpec LbText LbMem LbRef LbCmp LbCanon RcSpec RcAll RcMem RcRef RcRefPut RcRefGt RcRefRd RcRefGa RcLaw RpGa UtOwn

/-! ### A row of bytes that may be written over -/
structure RoomR (B g n : Nat) (w : World) : Prop where
  ge : B ≤ g
  lt : g < w.heap.size
  cell : ∀ j, j < n → (∃ u, w.cell? ⟨g, j, .none⟩ = some u) ∧ w.frozen? ⟨g, j, .none⟩ = false
variable {w wr w1 w2 : World} {B g n : Nat}
theorem RoomR.keep (h : RoomR B g n w) (he : w1.heap[g]? = w.heap[g]?) (hs : w.heap.size ≤ w1.heap.size) : RoomR B g n w1 :=
  ⟨h.ge, Nat.lt_of_lt_of_le h.lt hs, fun j hj => by rw [World.cell?_of_block (a := ⟨g, j, .none⟩) he, World.frozen?_of_block (a := ⟨g, j, .none⟩) he]; exact h.cell j hj⟩
theorem RoomR.call (h : RoomR B g n w) (hb : Below w.heap.size w w1) : RoomR B g n w1 := h.keep (hb.block g h.lt) hb.size
theorem RoomR.set (h : RoomR B g n w) {i : Nat} (hi : i < n) (u : Value) : RoomR B g n (w.setCell ⟨g, i, .none⟩ u) :=
  ⟨h.ge, by simpa using h.lt, fun j hj => by
    obtain ⟨⟨x, hx⟩, hf⟩ := h.cell j hj
    refine ⟨?_, by rw [World.frozen?_setCell]; exact hf⟩
    by_cases e : i = j
    · subst e
      exact ⟨u, World.cell?_setCell_same' w _ u (by rw [hx]; rfl)⟩
    · exact ⟨x, by exact (World.cell?_setCell_other (w := w) (a := ⟨g, i, .none⟩) (b := ⟨g, j, .none⟩) (v := u) (fun e2 => e (by injection e2))).trans hx⟩⟩
/-- The row at its beginning: it reads as xs. -/
structure RoomX (B g : Nat) (xs : List Value) (w : World) : Prop where
  ge : B ≤ g
  lt : g < w.heap.size
  cell : ∀ j u, xs[j]? = some u → w.cell? ⟨g, j, .none⟩ = some u
  free : ∀ j, j < xs.length → w.frozen? ⟨g, j, .none⟩ = false
theorem RoomX.room {xs : List Value} (h : RoomX B g xs w) : RoomR B g xs.length w :=
  ⟨h.ge, h.lt, fun j hj => ⟨⟨xs[j], h.cell j _ (List.getElem?_eq_getElem hj)⟩, h.free j hj⟩⟩
theorem RoomX.rd {xs : List Value} (h : RoomX B g xs w) (k : Nat) : Rd w w.heap.size (some ⟨g, 0, .none⟩) (xs.take k) := fun _ =>
  ⟨g, 0, rfl, h.lt, fun j u hu => by rw [Nat.zero_add]; exact h.cell j u (by rw [List.getElem?_take] at hu; split at hu <;> simp_all)⟩
theorem RoomX.call {xs : List Value} (h : RoomX B g xs w) (hb : Below w.heap.size w w1) : RoomX B g xs w1 :=
  ⟨h.ge, Nat.lt_of_lt_of_le h.lt hb.size, fun j u hu => by rw [World.cell?_of_block (a := ⟨g, j, .none⟩) (hb.block g h.lt)]; exact h.cell j u hu, fun j hj => by rw [World.frozen?_of_block (a := ⟨g, j, .none⟩) (hb.block g h.lt)]; exact h.free j hj⟩

/-- What a conversion of a text to bytes leaves. -/
theorem below_bytes (w : World) (e : TypeId) (s : ByteArray) : Below w.heap.size w (Lib.bytesWorld w e s) := by
  refine ⟨?_, ?_, ?_, ?_, fun k hk => Lib.bytesWorld_at_old w e s k hk⟩
  · simp [Lib.bytesWorld, World.freeze]; rfl
  · simp [Lib.bytesWorld, World.freeze]
  · simp [Lib.bytesWorld, World.freeze]; rfl
  · rw [Lib.bytesWorld_size]
    exact Nat.le_succ _
theorem bytes_cap (w : World) (e : TypeId) (s : ByteArray) : (Lib.bytesCells w e s).size = s.size + (grownCap w s.size 0 e - s.size) := by
  simp [Lib.bytesCells]
theorem bytes_cell (w : World) (e : TypeId) (s : ByteArray) (l : List UInt8) (hl : s.data.toList = l) : ∀ j u, (l.map B8)[j]? = some u → (Lib.bytesWorld w e s).cell? ⟨w.heap.size, 0 + j, .none⟩ = some u := fun j u hu => by
  subst hl
  rw [Nat.zero_add]
  have hj : j < s.size := by
    have := (List.getElem?_eq_some_iff.1 hu).1
    simpa using this
  rw [Lib.bytesWorld_cell w e s j hj]
  rw [← hu]
  simp [B8, List.getD, hj]
theorem bytes_there (w : World) (e : TypeId) (s : ByteArray) {j : Nat} (hj : j < (Lib.bytesCells w e s).size) : ((Lib.bytesWorld w e s).cell? ⟨w.heap.size, j, .none⟩).isSome = true ∧ (Lib.bytesWorld w e s).frozen? ⟨w.heap.size, j, .none⟩ = false := by
  constructor
  · simp [World.cell?, Lib.bytesWorld_at_new, hj]
  · simp [World.frozen?, Lib.bytesWorld_at_new]
    omega

/-- Two bytes are appended to a row that came out of a conversion: in its room, or in a new row; what is there then reads as both. -/
theorem wpList_append_two {W : World} {ops : Array Oper} {rest : List Oper} {o : Oper} {a : Act} {Q : Exit → Act → World → Prop}
    (hg : o.guard = Option.none) (s x : Operand) (hop : o.op = Op.call { callee := Callee.builtin Builtin.append, args := #[s, x], argTypes := #[24, 24] })
    (B b n cap : Nat) (xs : List Value) (hs : a.eval s = .slice (some ⟨b, 0, .none⟩) n cap) (hxs : xs.length = n) (hB : B ≤ b) (hb : b < W.heap.size)
    (hcell : ∀ j u, xs[j]? = some u → W.cell? ⟨b, 0 + j, .none⟩ = some u) (hth : ∀ j, (j < n ∨ j < cap) → (W.cell? ⟨b, j, .none⟩).isSome = true ∧ W.frozen? ⟨b, j, .none⟩ = false)
    (ad : Addr) (y0 y1 : Value) (hx : a.eval x = .slice (some ad) 2 2) (hc : ∀ j u, [y0, y1][j]? = some u → W.cell? (ad.add j) = some u) (h0 : y0.oneCell' = true) (h1 : y1.oneCell' = true)
    (hcm : cap ≤ maxLen) (hn : n + 2 ≤ 140737488355328)
    (hK : ∀ g cr w', RoomX B g (xs ++ [y0, y1]) w' → Below B W w' → n + 2 ≤ cr → cr ≤ maxLen → wpList Try.prog ops Q rest (a.put o.dst (.slice (some ⟨g, 0, .none⟩) (n + 2) cr)) w') : wpList Try.prog ops Q (o :: rest) a W := by
  obtain ⟨i1, gi, gz0, gz1, gz2⟩ := info_parts Put.info_u8
  have hBW : B ≤ W.heap.size := by omega
  have hxs0 : ∀ j (h : j < xs.length), W.cell? ⟨b, j, .none⟩ = some xs[j] := fun j h => by
    have := hcell j _ (List.getElem?_eq_getElem h)
    rwa [Nat.zero_add] at this
  refine wpList_append_arg W hg s x 24 hop 5 i1 (.int .u8 0) 1 1 Try.underlying24 gi gz0 gz1 gz2 rfl (by omega) b 0 n cap xs hs (by rw [hxs]; omega) hcell ad 2 2 [y0, y1] hx rfl hc (by intro u hu; simp at hu; rcases hu with rfl | rfl <;> assumption) (fun hr j hj => ?_) (by unfold maxLen; omega) (by omega) (fun hr => ?_) (fun hgr v' w' ho hgb => ?_)
  · have hj2 : j < 2 := hj
    rw [Nat.zero_add, Nat.mul_one]
    exact hth _ (.inr (by omega))
  · refine hK b cap _ ?_ ?_ hr hcm
    · have e : W.setCells b (0 + n * 1) [y0, y1] = (W.setCell ⟨b, n, .none⟩ y0).setCell ⟨b, n + 1, .none⟩ y1 := by
        rw [Nat.zero_add, Nat.mul_one]
        rfl
      rw [e]
      refine ⟨hB, by simpa using hb, fun j u hu => ?_, fun j hj => ?_⟩
      · by_cases hj : j < n
        · rw [List.getElem?_append_left (by omega)] at hu
          have h2 := hcell j u hu
          rw [Nat.zero_add] at h2
          refine (World.cell?_setCell_other (w := W.setCell ⟨b, n, .none⟩ y0) (a := ⟨b, n + 1, .none⟩) (b := ⟨b, j, .none⟩) (v := y1) (fun e2 => by injection e2; omega)).trans ((World.cell?_setCell_other (w := W) (a := ⟨b, n, .none⟩) (b := ⟨b, j, .none⟩) (v := y0) (fun e2 => by injection e2; omega)).trans h2)
        · rw [List.getElem?_append_right (by omega), hxs] at hu
          have hlt := (List.getElem?_eq_some_iff.1 hu).1
          simp only [List.length_cons, List.length_nil] at hlt
          by_cases hj0 : j = n
          · subst hj0
            rw [Nat.sub_self] at hu
            cases hu
            exact (World.cell?_setCell_other (w := W.setCell ⟨b, j, .none⟩ y0) (a := ⟨b, j + 1, .none⟩) (b := ⟨b, j, .none⟩) (v := y1) (fun e2 => by injection e2; omega)).trans (World.cell?_setCell_same' W ⟨b, j, .none⟩ y0 (hth j (.inr (by omega))).1)
          · obtain rfl : j = n + 1 := by omega
            rw [show n + 1 - n = 1 by omega] at hu
            cases hu
            refine World.cell?_setCell_same' _ ⟨b, n + 1, .none⟩ y1 ?_
            rw [World.cell?_setCell_other (w := W) (a := ⟨b, n, .none⟩) (b := ⟨b, n + 1, .none⟩) (v := y0) (fun e2 => by injection e2; omega)]
            exact (hth (n + 1) (.inr (by omega))).1
      · rw [World.frozen?_setCell, World.frozen?_setCell]
        rw [List.length_append, hxs] at hj
        simp only [List.length_cons, List.length_nil] at hj
        exact (hth j (.inr (by omega))).2
    · rw [show W.setCells b (0 + n * 1) [y0, y1] = (W.setCell ⟨b, 0 + n * 1, .none⟩ y0).setCell ⟨b, 0 + n * 1 + 1, .none⟩ y1 from rfl]
      exact ((Below.refl B W).setCell hB y0).setCell hB y1
  · obtain ⟨g, cr, rfl, h2, h3, h4, hcl, hfr⟩ : ∃ g cr, v' = .slice (some ⟨g, 0, .none⟩) (n + 2) cr ∧ W.heap.size ≤ g ∧ n + 2 ≤ cr ∧ cr ≤ maxLen ∧ (∀ j u, (xs ++ [y0, y1])[j]? = some u → w'.cell? ⟨g, j, .none⟩ = some u) ∧ (∀ j, w'.frozen? ⟨g, j, .none⟩ = false) ∧ g < w'.heap.size := by
      have ho2 := ho
      rcases ho.2 with ⟨_, h0⟩ | ⟨g, cr, cur, rfl, hb', hg', h1', h2', h3', h4'⟩
      · omega
      · exact ⟨g, cr, rfl, hb', h1', h2', fun j u hu => by have := ho2.cells (g := g) rfl j u hu; rwa [add_off, Nat.zero_add] at this, fun j => ho2.frozenAt j, (Array.getElem?_eq_some_iff.1 hg').1⟩
    exact hK g cr w' ⟨by omega, hfr.2, hcl, fun j _ => hfr.1 j⟩ ⟨hgb.os, hgb.tape, hgb.output, hgb.size, fun k hk => hgb.block k (by omega) (by simp)⟩ h3 h4

/-! ### Lists of labels in rows of their own -/
def InB (ms : List RM) (k : Nat) : Prop := ∃ m ∈ ms, (slV m.2).ownBlock = some k
structure OnlyM (ms : List RM) (w wr : World) : Prop where
  os : wr.os = w.os
  tape : wr.tape = w.tape
  output : wr.output = w.output
  size : w.heap.size ≤ wr.heap.size
  block : ∀ k, k < w.heap.size → ¬ InB ms k → wr.heap[k]? = w.heap[k]?
variable {ms : List RM}
theorem OnlyM.refl (ms : List RM) (w : World) : OnlyM ms w w := ⟨rfl, rfl, rfl, Nat.le_refl _, fun _ _ _ => rfl⟩
theorem OnlyM.grown (h : OnlyM ms w wr) {r : Option Nat} (hr : ∀ k, r = some k → InB ms k ∨ w.heap.size ≤ k) (hg : wr.grownBy w1 r) : OnlyM ms w w1 :=
  ⟨hg.os.trans h.os, hg.tape.trans h.tape, hg.output.trans h.output, Nat.le_trans h.size hg.size, fun k hk hn =>
    (hg.block k (Nat.lt_of_lt_of_le hk h.size) (fun e => (hr k e.symm).elim hn (fun h => by omega))).trans (h.block k hk hn)⟩
theorem OnlyM.call (h : OnlyM ms w wr) (hb : Below wr.heap.size wr w1) : OnlyM ms w w1 :=
  ⟨hb.os.trans h.os, hb.tape.trans h.tape, hb.output.trans h.output, Nat.le_trans h.size hb.size, fun k hk hn =>
    (hb.block k (Nat.lt_of_lt_of_le hk h.size)).trans (h.block k hk hn)⟩
theorem OnlyM.below (h : OnlyM ms w wr) (hB : B ≤ w.heap.size) (hn : ∀ k, InB ms k → B ≤ k) : Below B w wr :=
  ⟨h.os, h.tape, h.output, h.size, fun k hk => h.block k (Nat.lt_of_lt_of_le hk hB) (fun hi => by have := hn k hi; omega)⟩
/-- The rows from the i-th on. -/
def RowsFrom (ms : List RM) (B i : Nat) (wr : World) : Prop := ∀ j (h : j < ms.length), i ≤ j → ∃ xs, wr.ownsRow B 46 2 (slV (ms[j]).2) (ms[j]).1.labels.length xs
theorem RowsFrom.mono {i k : Nat} (h : RowsFrom ms B i wr) (hk : i ≤ k) : RowsFrom ms B k wr := fun j hj hkj => h j hj (Nat.le_trans hk hkj)
theorem RowsFrom.call {i : Nat} (h : RowsFrom ms B i wr) (hb : Below wr.heap.size wr w1) : RowsFrom ms B i w1 := fun j hj hij => by
  obtain ⟨xs, hx⟩ := h j hj hij
  exact ⟨xs, own_keepN hx hb⟩
theorem apart_at (hp : ms.Pairwise fun a b => Apart (slV a.2) (slV b.2)) {i j : Nat} (hi : i < ms.length) (hj : j < ms.length) (hij : i < j) : (slV (ms[j]).2).ownBlock = Option.none ∨ (slV (ms[j]).2).ownBlock ≠ (slV (ms[i]).2).ownBlock := by
  have h := List.pairwise_iff_getElem.1 hp i j hi hj hij
  cases e : (slV (ms[j]).2).ownBlock with
  | none => exact .inl rfl
  | some k => exact .inr (fun e2 => h k e2.symm e)
/-- A cell of the i-th row is written. -/
theorem RowsFrom.set {i k : Nat} (h : RowsFrom ms B i wr) (hp : ms.Pairwise fun a b => Apart (slV a.2) (slV b.2)) (hi : i < ms.length) {nx cx : Nat} (hx : (ms[i]).2 = (some ⟨g, 0, .none⟩, nx, cx)) (u : Value) :
    RowsFrom ms B i (wr.setCell ⟨g, k, .none⟩ u) := fun j hj hij => by
  obtain ⟨xs, ho⟩ := h j hj hij
  by_cases e : i = j
  · subst e
    unfold slV at ho ⊢
    simp only [hx] at ho ⊢
    obtain rfl : (ms[i]).1.labels.length = nx := by
      rcases ho.2 with ⟨h1, _⟩ | ⟨_, _, _, h1, _⟩
      · cases h1
      · simp only [Value.slice.injEq] at h1
        exact h1.2.1.symm
    exact ⟨_, (ho.stored k u).1⟩
  · refine ⟨xs, ownsRow_setCell_other ho ?_ u⟩
    rcases apart_at hp hi hj (by omega) with h1 | h1
    · rw [h1]
      simp
    · intro h2
      refine h1 (h2.trans ?_)
      unfold slV
      rw [hx]
      rfl
/-- The i-th row is appended to. -/
theorem RowsFrom.app {i : Nat} (h : RowsFrom ms B i wr) (hp : ms.Pairwise fun a b => Apart (slV a.2) (slV b.2)) (hi : i < ms.length) (hg : wr.grownBy w1 (slV (ms[i]).2).ownBlock) : RowsFrom ms B (i + 1) w1 := fun j hj hij => by
  obtain ⟨xs, ho⟩ := h j hj (by omega)
  exact ⟨xs, ho.kept hg (apart_at hp hi hj (by omega))⟩
/-- Records in a row of the call's own, their labels each in a row of its own, all from the block B on. -/
structure ArO (B : Nat) (ms : List RM) (v : Value) (wr : World) : Prop where
  own : wr.ownsRow B 33 4 v ms.length (flatR ms)
  fits : ∀ m ∈ ms, Fits m.1
  each : ∀ m ∈ ms, wr.ownsRow B 46 2 (slV m.2) m.1.labels.length (flat m.1.labels)
  away : ∀ m ∈ ms, Apart v (slV m.2)
  apart : ms.Pairwise fun a b => Apart (slV a.2) (slV b.2)
variable {v : Value}
theorem ArO.of {w0 : World} (h : ArN w0 ms v wr) : ArO w0.heap.size ms v wr := ⟨h.own, h.fits, h.each, h.away, h.apart⟩
theorem ArO.call (h : ArO B ms v wr) (hb : Below wr.heap.size wr w1) : ArO B ms v w1 :=
  ⟨own_keepN h.own hb, h.fits, fun m hm => own_keepN (h.each m hm) hb, h.away, h.apart⟩
theorem ArO.grown (h : ArO B ms v wr) {r : Option Nat} (hg : wr.grownBy w1 r) (hr : ∀ k, r = some k → k < B) : ArO B ms v w1 := by
  have key : ∀ {e : TypeId} {s n : Nat} {x : Value} {xs : List Value}, wr.ownsRow B e s x n xs → w1.ownsRow B e s x n xs := fun {e s n x xs} hx => hx.kept hg (by
    cases e2 : x.ownBlock with
    | none => exact .inl rfl
    | some k => exact .inr (fun e3 => by have h1 := hr k e3.symm; have h2 := (hx.lt k e2).1; omega))
  exact ⟨key h.own, h.fits, fun m hm => key (h.each m hm), h.away, h.apart⟩
theorem ArO.only {ns : List RM} (h : ArO B ns v w) (ho : OnlyM ms w wr) (hn : ∀ k, InB ms k → k < B) : ArO B ns v wr := by
  have key : ∀ {e : TypeId} {s n : Nat} {x : Value} {xs : List Value}, w.ownsRow B e s x n xs → wr.ownsRow B e s x n xs := fun {e s n x xs} hx => by
    refine ⟨hx.1, ?_⟩
    rcases hx.2 with h1 | ⟨g, cap, cur, rfl, hb, hg, r⟩
    · exact .inl h1
    · exact .inr ⟨g, cap, cur, rfl, hb, (ho.block g (Array.getElem?_eq_some_iff.1 hg).1 (fun hi => by have := hn g hi; omega)).trans hg, r⟩
  exact ⟨key h.own, h.fits, fun m hm => key (h.each m hm), h.away, h.apart⟩
theorem ArO.inb (h : ArO B ms v wr) {k : Nat} (hk : InB ms k) : B ≤ k ∧ k < wr.heap.size := by
  obtain ⟨m, hm, e⟩ := hk
  exact (h.each m hm).lt k e
theorem ArO.rows (h : ArO B ms v wr) : RowsFrom ms B 0 wr := fun j hj _ => ⟨_, h.each _ (List.getElem_mem hj)⟩
/-- The list's own row isn't touched. -/
theorem ArO.keep (h : ArO B ms v w) (ho : OnlyM ms w wr) : wr.ownsRow B 33 4 v ms.length (flatR ms) := by
  refine ⟨h.own.1, ?_⟩
  rcases h.own.2 with h1 | ⟨g, cap, cur, rfl, hb, hg, r⟩
  · exact .inl h1
  · refine .inr ⟨g, cap, cur, rfl, hb, (ho.block g (Array.getElem?_eq_some_iff.1 hg).1 ?_).trans hg, r⟩
    rintro ⟨m, hm, e⟩
    exact h.away m hm g rfl e
theorem ArO.rl (h : ArO B ms v wr) : ∃ A c, v = .slice A ms.length c ∧ Rl wr A ms.length c ms := by
  obtain ⟨A, c, e, h1, h2, h3⟩ := own_row h.own (flatR_len ms)
  refine ⟨A, c, e, rfl, h1, h2, h3, fun m hm => ?_⟩
  obtain ⟨A1, c1, e1, hl⟩ := own_lb (h.each m hm)
  unfold slV at e1
  simp only [Value.slice.injEq] at e1
  obtain ⟨e2, e3, e4⟩ := e1
  exact ⟨by rw [e2, e3, e4]; exact hl, h.fits m hm⟩
end Go.Proofs.Ytahbaifbihpppaa.RcKeepM
