/- Words for slices.Sort at uint64: its row of numbers ('Row'), and cmp.Less. Conditions: those of each. · slices.Sort at uint64: what pdqsort's loop keeps, as plain facts on arrays; the world of its row with new blocks behind ('At'). No conditions. · slices.Sort at uint64: insertionSortOrdered sorts its part of the row. Conditions: those of the statement. · slices.Sort at uint64: reverseRangeOrdered permutes its part of the row. Conditions: those of the statement. · The contract of math/bits.Len64 at this program: it answers how many bits a number needs ('PkPlain.need'), and leaves the world alone. The library's contract, which is proved over any program, is applied; its table of numbers is this program's. Condition: 64 bits. -/
import Derived.Test.YtkgmcabamhpjhaaGreatProg
import Derived.Sort.AssemblyPlain
import Derived.Sort.Grow
import Derived.Lib.Walk
import Derived.Lib.Hide
import Derived.WalkKit
import Derived.BigGuard
import Derived.BigCall
import Derived.CellFam
import Derived.Deep.Draws
import Derived.Deep.QuietTactic
import Derived.BigQuiet
import Derived.Shelf.Strconv.Itoa0
import Derived.Test.YtkgmcabamhpjhaaGreatRows
import Derived.Test.YtkgmcabamhpjhaaGreatBase
namespace Go.Proofs.YtkgmcabamhpjhaaGreat.SoKit
open Go Go.RowKit Go.Sort

abbrev E64 : Int → Value := Value.int .u64
def natOf : Value → Nat | .int _ q => q.toNat | _ => 0
/-- The row of w, n draws on, holding d; new blocks behind. -/
def RW (w : World) (blk off n : Nat) (d : Array Int) : World := putRow E64 (Sort.ahead w n) blk off d
theorem rw_self {w : World} {blk off : Nat} {d : Array Int} (h : Holds E64 w blk off d) : RW w blk off 0 d = w := putRow_self _ _ _ _ _ h
theorem rw_drewN (w : World) (blk off n q : Nat) (d : Array Int) : (RW w blk off n d).drewN q = RW w blk off (n + q) d := by
  show Sort.ahead (putRow E64 (Sort.ahead w n) blk off d) q = putRow E64 (Sort.ahead w (n + q)) blk off d
  rw [putRow_ahead E64 w n, ahead_ahead, ← putRow_ahead]
theorem rw_drew (w : World) (blk off n : Nat) (d : Array Int) : (RW w blk off n d).drew = RW w blk off (n + 1) d := rw_drewN w blk off n 1 d
theorem rw_rw (w : World) (blk off n m : Nat) (d d' : Array Int) (h : d'.size = d.size) : RW (RW w blk off n d) blk off m d' = RW w blk off (n + m) d' := putRow_ahead_putRow _ _ _ _ _ _ _ _ h
theorem rw_holds {w : World} {blk off n : Nat} {d d' : Array Int} (h : Holds E64 w blk off d) (hs : d'.size = d.size) : Holds E64 (RW w blk off n d') blk off d' :=
  holds_putRow _ _ _ _ d d' (holds_ahead _ _ _ _ _ _ h) hs
theorem rw_swap (w : World) (blk off n : Nat) (d : Array Int) (j k : Nat) (hj : j < d.size) (hk : k < d.size) :
    ((RW w blk off n d).setCell ⟨blk, off + j, none⟩ (.int .u64 d[k]!)).setCell ⟨blk, off + k, none⟩ (.int .u64 d[j]!) = RW w blk off n (swp d j k) := putRow_swp _ _ _ _ _ _ _ hj hk
theorem rw_size (w : World) (blk off n : Nat) (d : Array Int) : (RW w blk off n d).heap.size = w.heap.size := size_putRow _ _ _ _ _
/-- A row's places as a function: what the walk loads and stores. -/
structure Fam (w : World) (blk off n : Nat) (d : Array Int) (G : Nat → Int) : Prop where
  cell : ∀ t, t < n → w.cell? ⟨blk, off + t, none⟩ = some (.int .u64 (G t))
  froz : ∀ t, t < n → w.frozen? ⟨blk, off + t, none⟩ = false
  is : ∀ t, G t = d[t]!
theorem fam {w : World} {blk off : Nat} {d : Array Int} (h : Holds E64 w blk off d) : ∃ G, Fam w blk off d.size d G :=
  ⟨fun t => d[t]!, fun t ht => (h t ht).1, fun t ht => (h t ht).2, fun _ => rfl⟩
theorem rfam {w wr : World} {blk off n N : Nat} {d dj : Array Int} (h : Holds E64 w blk off d) (hn : d.size = N) (hs : dj.size = d.size) (hw : wr = RW w blk off n dj) : ∃ G, Fam wr blk off N dj G := by
  subst hn hw
  obtain ⟨G, hG⟩ := fam (rw_holds (n := n) h hs)
  exact ⟨G, fun t ht => hG.cell t (by omega), fun t ht => hG.froz t (by omega), hG.is⟩
theorem rcells {w wr : World} {blk off n N : Nat} {d dj : Array Int} {G : Nat → Int} (h : Holds E64 w blk off d) (hn : d.size = N) (hs : dj.size = d.size) (hw : wr = RW w blk off n dj) (hG : ∀ t, G t = dj[t]!) :
    (∀ t, t < N → wr.cell? ⟨blk, off + t, none⟩ = some (.int .u64 (G t))) ∧ ∀ t, t < N → wr.frozen? ⟨blk, off + t, none⟩ = false := by
  obtain ⟨G', h'⟩ := rfam h hn hs hw
  exact ⟨fun t ht => by rw [h'.cell t ht, h'.is, hG], fun t ht => h'.froz t ht⟩
theorem of_beq_int {x y : Int} (h : (x == y) = true) : x = y := by simpa using h
theorem of_bne_int {x y : Int} (h : (x == y) = false) : x ≠ y := by simpa using h

set_option maxHeartbeats 1000000 in
theorem nan1 (x : Int) (w : World) : Calls Tryz.prog 76 #[.int .u64 x] w fun e w' => e = .returned (.bool false) ∧ w' = w := by
  go_enter Tryz.func76, Tryz.ntmps76
  go_wp2
  go_ret
  exact ⟨by simp, rfl⟩
set_option maxHeartbeats 1000000 in
theorem less (x y : Int) (w : World) : Calls Tryz.prog 98 #[.int .u64 x, .int .u64 y] w fun e w' => e = .returned (.bool (ltInt x y)) ∧ w' = w := by
  go_enter Tryz.func98, Tryz.ntmps98
  go_wp2_with (go_at_call 76; refine (nan1 _ _).mono ?_; rintro e w' ⟨rfl, rfl⟩)
  go_ret
  exact ⟨rfl, rfl⟩
end Go.Proofs.YtkgmcabamhpjhaaGreat.SoKit

namespace Go.Proofs.YtkgmcabamhpjhaaGreat.SoSt
open Go Go.RowKit Go.Sort SoKit

theorem lt_t {x y : Int} : ltInt x y = true ↔ x < y := by unfold ltInt; rw [decide_eq_true_iff]
theorem lt_f {x y : Int} : ltInt x y = false ↔ y ≤ x := by unfold ltInt; rw [decide_eq_false_iff_not]; omega
/-- The part that is left to be sorted, and what comes of sorting it. -/
structure St (a0 b0 : Nat) (d0 : Array Int) (a b : Nat) (dk : Array Int) : Prop where
  ge : a0 ≤ a
  le : a ≤ b
  hi : b ≤ b0
  top : b0 ≤ d0.size
  size : dk.size = d0.size
  below : Go.Sort.Below ltInt a b dk
  fin : ∀ d'', PermIn a b dk d'' → SortedIn ltInt a b d'' → PermIn a0 b0 d0 d'' ∧ SortedIn ltInt a0 b0 d''
theorem St.start {a b : Nat} {d : Array Int} (h : a ≤ b) (hb : b ≤ d.size) (hB : Go.Sort.Below ltInt a b d) : St a b d a b d := ⟨Nat.le_refl _, h, Nat.le_refl _, hb, rfl, hB, fun _ h1 h2 => ⟨h1, h2⟩⟩
theorem St.perm {a0 b0 a b : Nat} {d0 dk dn : Array Int} (h : St a0 b0 d0 a b dk) (hp : PermIn a b dk dn) : St a0 b0 d0 a b dn :=
  ⟨h.ge, h.le, h.hi, h.top, hp.1.trans h.size, h.below.permA permIn_all (by have := h.hi; have := h.top; rw [h.size]; omega) hp, fun d'' h1 h2 => h.fin d'' (permIn_trans _ _ _ _ _ hp h1) h2⟩
theorem join {a m b : Nat} {d : Array Int} (h1 : SortedIn ltInt a m d) (h2 : SortedIn ltInt (m + 1) b d) (h3 : ∀ t, a ≤ t → t < m → d[t]! ≤ d[m]!) (h4 : ∀ t, m < t → t < b → d[m]! ≤ d[t]!) : SortedIn ltInt a b d := by
  intro i j hi hij hj
  rw [lt_f]
  rcases Nat.lt_trichotomy j m with h | h | h
  · exact lt_f.1 (h1 i j hi hij h)
  · subst h; exact h3 i hi hij
  · rcases Nat.lt_trichotomy i m with g | g | g
    · have := h3 i hi g; have := h4 j h hj; omega
    · subst g; exact h4 j hij hj
    · exact lt_f.1 (h2 i j g hij hj)
/-- Equal ones are done with. -/
theorem St.eq {a0 b0 a b p mid : Nat} {d0 dk dn : Array Int} (h : St a0 b0 d0 a b dk) (ha : 0 < a) (_hp1 : a ≤ p) (_hp2 : p < b) (hl : ltInt dk[a - 1]! dk[p]! = false)
    (hm1 : a < mid) (hm2 : mid ≤ b) (hp : PermIn a b dk dn) (hlo : ∀ t, a ≤ t → t < mid → ltInt dk[p]! dn[t]! = false) (hhi : ∀ t, mid ≤ t → t < b → ltInt dk[p]! dn[t]! = true) : St a0 b0 d0 mid b dn := by
  have hs := h.size
  have h1 := h.hi
  have h2 := h.top
  have hB := (h.perm hp).below
  rw [lt_f] at hl
  have e1 : dn[a - 1]! = dk[a - 1]! := hp.2.1 _ (Or.inl (by omega))
  have hB' : ∀ i, a ≤ i → i < b → dn[a - 1]! ≤ dn[i]! := fun i h1 h2 => by
    rcases hB with h | h
    · omega
    · exact lt_f.1 (h i h1 h2)
  refine ⟨by have := h.ge; omega, hm2, h.hi, h.top, hp.1.trans hs, Or.inr fun i h3 h4 => ?_, fun d'' h3 h4 => ?_⟩
  · rw [lt_f]
    have := lt_t.1 (hhi i h3 h4)
    have := lt_f.1 (hlo (mid - 1) (by omega) (by omega))
    omega
  · have g1 : ∀ t, t < mid → d''[t]! = dn[t]! := fun t ht => h3.2.1 t (Or.inl ht)
    have g2 : ∀ t, mid ≤ t → t < b → dk[p]! < d''[t]! := permIn_all dn d'' mid b (fun x => dk[p]! < x) (by rw [hp.1, hs]; omega) h3 (fun t h5 h6 => lt_t.1 (hhi t h5 h6))
    refine h.fin d'' (permIn_trans _ _ _ _ _ hp (permIn_mono _ _ _ _ _ _ (by omega) (Nat.le_refl _) (by rw [hp.1, hs]; omega) h3)) fun i j hi hij hj => ?_
    rw [lt_f]
    by_cases hjm : j < mid
    · rw [g1 i (by omega), g1 j hjm]
      have := lt_f.1 (hlo i hi (by omega))
      have := hB' j (by omega) (by omega)
      omega
    · by_cases him : i < mid
      · rw [g1 i him]
        have := lt_f.1 (hlo i hi him)
        have := g2 j (by omega) hj
        omega
      · exact lt_f.1 (h4 i j (by omega) hij hj)
section
variable {a0 b0 a b mid : Nat} {P : Int} {d0 dk dn d1 : Array Int}
/-- Behind a partition: its left part may be sorted. -/
theorem St.belowL (h : St a0 b0 d0 a b dk) (hp : PermIn a b dk dn) (hm : mid < b) : Go.Sort.Below ltInt a mid dn := by
  rcases (h.perm hp).below with g | g
  · exact Or.inl g
  · exact Or.inr fun i h1 h2 => g i h1 (by omega)
theorem St.belowR (piv : dn[mid]! = P) (high : ∀ t, mid < t → t < b → ltInt dn[t]! P = false) : Go.Sort.Below ltInt (mid + 1) b dn :=
  Or.inr fun i h1 h2 => by rw [Nat.add_sub_cancel, piv]; exact high i (by omega) h2
/-- The left part is sorted: the right one is left. -/
theorem St.goL (h : St a0 b0 d0 a b dk) (hp : PermIn a b dk dn) (hm1 : a ≤ mid) (hm2 : mid < b) (piv : dn[mid]! = P) (low : ∀ t, a ≤ t → t < mid → ltInt dn[t]! P = true) (high : ∀ t, mid < t → t < b → ltInt dn[t]! P = false)
    (hq : PermIn a mid dn d1) (hs : SortedIn ltInt a mid d1) : St a0 b0 d0 (mid + 1) b d1 := by
  have h1 := h.hi
  have h2 := h.top
  have h3 := h.size
  have hdn : dn.size = d0.size := hp.1.trans h3
  have g1 : ∀ t, mid ≤ t → d1[t]! = dn[t]! := fun t ht => hq.2.1 t (Or.inr ht)
  have g2 : ∀ t, a ≤ t → t < mid → d1[t]! < P := permIn_all dn d1 a mid (fun x => x < P) (by omega) hq (fun t h5 h6 => lt_t.1 (low t h5 h6))
  have piv1 : d1[mid]! = P := by rw [g1 mid (Nat.le_refl _)]; exact piv
  refine ⟨by have := h.ge; omega, by omega, h.hi, h.top, hq.1.trans hdn, St.belowR piv1 fun t h5 h6 => by rw [g1 t (by omega)]; exact high t h5 h6, fun d'' h5 h6 => ?_⟩
  have g3 : ∀ t, t < mid + 1 → d''[t]! = d1[t]! := fun t ht => h5.2.1 t (Or.inl ht)
  have g4 : ∀ t, mid + 1 ≤ t → t < b → P ≤ d''[t]! := permIn_all d1 d'' (mid + 1) b (fun x => P ≤ x) (by rw [hq.1]; omega) h5 (fun t h7 h8 => by rw [g1 t (by omega)]; exact lt_f.1 (high t (by omega) h8))
  refine h.fin d'' (permIn_trans _ _ _ _ _ hp (permIn_trans _ _ _ _ _ (permIn_mono _ _ _ _ _ _ (Nat.le_refl _) (by omega) (by omega) hq) (permIn_mono _ _ _ _ _ _ (by omega) (Nat.le_refl _) (by rw [hq.1]; omega) h5))) (join (m := mid) ?_ h6 ?_ ?_)
  · intro i j hi hij hj
    rw [g3 i (by omega), g3 j (by omega)]
    exact hs i j hi hij hj
  · intro t h7 h8
    rw [g3 t (by omega), g3 mid (by omega), piv1]
    have := g2 t h7 h8; omega
  · intro t h7 h8
    rw [g3 mid (by omega), piv1]
    exact g4 t (by omega) h8
/-- The right part is sorted: the left one is left. -/
theorem St.goR (h : St a0 b0 d0 a b dk) (hp : PermIn a b dk dn) (hm1 : a ≤ mid) (hm2 : mid < b) (piv : dn[mid]! = P) (low : ∀ t, a ≤ t → t < mid → ltInt dn[t]! P = true) (high : ∀ t, mid < t → t < b → ltInt dn[t]! P = false)
    (hq : PermIn (mid + 1) b dn d1) (hs : SortedIn ltInt (mid + 1) b d1) : St a0 b0 d0 a mid d1 := by
  have h1 := h.hi
  have h2 := h.top
  have h3 := h.size
  have hdn : dn.size = d0.size := hp.1.trans h3
  have g1 : ∀ t, t < mid + 1 → d1[t]! = dn[t]! := fun t ht => hq.2.1 t (Or.inl ht)
  have g2 : ∀ t, mid + 1 ≤ t → t < b → P ≤ d1[t]! := permIn_all dn d1 (mid + 1) b (fun x => P ≤ x) (by omega) hq (fun t h5 h6 => lt_f.1 (high t (by omega) h6))
  have piv1 : d1[mid]! = P := by rw [g1 mid (by omega)]; exact piv
  refine ⟨h.ge, hm1, by omega, h.top, hq.1.trans hdn, ?_, fun d'' h5 h6 => ?_⟩
  · rcases h.belowL hp hm2 with g | g
    · exact Or.inl g
    · exact Or.inr fun i h5 h6 => by rw [g1 i (by omega), g1 (a - 1) (by omega)]; exact g i h5 h6
  have g3 : ∀ t, mid ≤ t → d''[t]! = d1[t]! := fun t ht => h5.2.1 t (Or.inr ht)
  have g4 : ∀ t, a ≤ t → t < mid → d''[t]! < P := permIn_all d1 d'' a mid (fun x => x < P) (by rw [hq.1]; omega) h5 (fun t h7 h8 => by rw [g1 t (by omega)]; exact lt_t.1 (low t h7 h8))
  refine h.fin d'' (permIn_trans _ _ _ _ _ hp (permIn_trans _ _ _ _ _ (permIn_mono _ _ _ _ _ _ (by omega) (Nat.le_refl _) (by omega) hq) (permIn_mono _ _ _ _ _ _ (Nat.le_refl _) (by omega) (by rw [hq.1]; omega) h5))) (join (m := mid) h6 ?_ ?_ ?_)
  · intro i j hi hij hj
    rw [g3 i (by omega), g3 j (by omega)]
    exact hs i j hi hij hj
  · intro t h7 h8
    rw [g3 mid (Nat.le_refl _), piv1]
    have := g4 t h7 h8; omega
  · intro t h7 h8
    rw [g3 mid (Nat.le_refl _), g3 t (by omega), piv1]
    exact g2 t (by omega) h8
end

/-! ### The world -/
/-- wr is w but for the row, which holds d, the count of draws, and new blocks. -/
def At (w : World) (blk off : Nat) (d : Array Int) (wr : World) : Prop := ∃ n os, wr = Sort.grow (RW w blk off n d) os
theorem at_self {w : World} {blk off : Nat} {d : Array Int} (h : Holds E64 w blk off d) : At w blk off d w := ⟨0, #[], by rw [rw_self h, grow_empty]⟩
theorem at_rw {w : World} {blk off n : Nat} {d : Array Int} : At w blk off d (RW w blk off n d) := ⟨n, #[], by rw [grow_empty]⟩
theorem at_trans {w w1 w2 : World} {blk off : Nat} {d d1 : Array Int} (hb : blk < w.heap.size) (hs : d1.size = d.size) (h : At w blk off d w1) (h1 : At w1 blk off d1 w2) : At w blk off d1 w2 := by
  obtain ⟨n, os, rfl⟩ := h
  obtain ⟨m, os', rfl⟩ := h1
  exact ⟨n + m, os ++ os', grow_step_grow _ _ _ _ _ _ _ _ _ _ hb hs⟩
theorem at_size {w w1 : World} {blk off : Nat} {d : Array Int} (h : At w blk off d w1) : w.heap.size ≤ w1.heap.size := by
  obtain ⟨n, os, rfl⟩ := h
  rw [size_grow, rw_size]; omega
theorem at_holds {w w1 : World} {blk off : Nat} {d0 d : Array Int} (hb : blk < w.heap.size) (hH : Holds E64 w blk off d0) (hs : d.size = d0.size) (h : At w blk off d w1) : Holds E64 w1 blk off d := by
  obtain ⟨n, os, rfl⟩ := h
  exact holds_grow _ _ _ _ _ _ (by rw [rw_size]; exact hb) (rw_holds hH hs)
theorem at_drewN {w w1 : World} {blk off : Nat} {d : Array Int} (q : Nat) (h : At w blk off d w1) : At w blk off d (w1.drewN q) := by
  obtain ⟨n, os, rfl⟩ := h
  exact ⟨n + q, os, by rw [← rw_drewN]; rfl⟩
/-- A world that only drew and grew. -/
theorem at_grown {w w1 : World} {blk off n : Nat} {d : Array Int} {os : Array Obj} (_hb : blk < w.heap.size) (h : At w blk off d w1) : At w blk off d (Sort.grow (Sort.ahead w1 n) os) := by
  obtain ⟨m, os', rfl⟩ := h
  exact ⟨m + n, os' ++ os, by rw [ahead_grow, grow_grow, ← rw_drewN]; rfl⟩
end Go.Proofs.YtkgmcabamhpjhaaGreat.SoSt

namespace Go.Proofs.YtkgmcabamhpjhaaGreat.SoIns
open Go Go.RowKit Go.Sort SoKit

theorem ins_start {a i : Nat} {d : Array Int} (h : SortedIn ltInt a i d) : Ins ltInt a i i d :=
  ⟨fun p q h1 h2 h3 h4 h5 => h p q h1 h2 (by omega), fun q h1 h2 => by omega⟩

set_option maxHeartbeats 4000000 in
theorem ins_any (blk off cap a b N : Nat) (d : Array Int) (w : World) (hH : Holds E64 w blk off d) (hN : d.size = N) (hab : a ≤ b) (hb : b ≤ N) (hsz : N < 4611686018427387904) :
    Calls Tryz.prog 92 #[.slice (some ⟨blk, off, none⟩) N cap, .int .i64 (a : Int), .int .i64 (b : Int)] w fun e w' =>
      e = .returned (.tuple #[]) ∧ ∃ n d', w' = RW w blk off n d' ∧ PermIn a b d d' ∧ SortedIn ltInt a b d' := by
  have HN : Hid (d.size = N) := hN
  clear hN
  have HH : Hid (Holds E64 w blk off d) := hH
  clear hH
  go_enter Tryz.func92, Tryz.ntmps92
  go_wp2
  go_loopw [6] (fun vi wr => ∃ (i n : Nat) (dk : Array Int), vi = .int .i64 (i : Int) ∧ a < i ∧ i ≤ b + 1 ∧ Hid (wr = RW w blk off n dk) ∧ Hid (PermIn a b d dk ∧ (i ≤ b → SortedIn ltInt a i dk) ∧ (b < i → a = b))) (fun vi _ => b + 1 - natOf vi)
  case atStart => exact ⟨a + 1, 0, d, by go_num, by omega, by omega, (rw_self HH.out).symm, permIn_refl _ _ _, fun _ i j h1 h2 h3 => by omega, fun h => by omega⟩
  case round =>
    obtain ⟨i, n, dk, rfl, hai, hib, HW, HP⟩ := hrel
    by_cases hlt : i < b
    · go_wp2_with fail
      go_loopw [7] (fun vj wr2 => ∃ (j m : Nat) (dj : Array Int), vj = .int .i64 (j : Int) ∧ a ≤ j ∧ j ≤ i ∧ Hid (wr2 = RW w blk off m dj) ∧ Hid (PermIn a b d dj ∧ Ins ltInt a j i dj)) (fun vj _ => natOf vj)
      case atStart => exact ⟨i, n, dk, rfl, by omega, Nat.le_refl _, HW, HP.out.1, ins_start (HP.out.2.1 (by omega))⟩
      case round =>
        obtain ⟨j, m, dj, rfl, haj, hji, HW2, HI⟩ := hrel
        have hds : dj.size = d.size := HI.out.1.1
        obtain ⟨G, hc, hf, hg⟩ := rfam HH.out HN.out hds HW2.out
        have HG : Hid (∀ t, G t = dj[t]!) := hg
        have HS : Hid (dj.size = N) := hds.trans HN.out
        clear hg hds
        have out : (j ≤ a ∨ ltInt dj[j]! dj[j - 1]! = false) → ∀ q, ∃ i' n' dk', Value.int .i64 ((i : Int) + 1) = .int .i64 ((i' : Nat) : Int) ∧ a < i' ∧ i' ≤ b + 1 ∧ Hid (wr.drewN q = RW w blk off n' dk') ∧ Hid (PermIn a b d dk' ∧ (i' ≤ b → SortedIn ltInt a i' dk') ∧ (b < i' → a = b)) := fun hs q =>
          ⟨i + 1, m + q, dj, by go_num, by omega, by omega, by rw [HW2.out, rw_drewN]; exact rfl, HI.out.1, fun _ => HI.out.2.stop swo_ltInt hs, fun h => by omega⟩
        have OUT : Hid _ := out
        clear out
        go_wp2
        by_cases hja : a < j
        · go_quiet (first | (go_at_call 98; refine Calls.quiet_of_same (less _ _ _)))
          go_wp2
          · have hl : ltInt (G j) (G (j - 1)) = true := by assumption
            go_region
            all_goals go_wp2
            go_roundw
            case rel =>
              refine ⟨j - 1, m + (nq + 1), swp dj j (j - 1), by congr 1; omega, by omega, by omega, ?_, ?_⟩
              · show _ = _
                rw [HW2.out, rw_drewN, HG.out, HG.out]
                exact rw_swap _ _ _ _ _ _ _ (by rw [HS.out]; omega) (by rw [HS.out]; omega)
              · have h2 := HI.out.2
                rw [show j = (j - 1) + 1 by omega] at h2 ⊢
                refine ⟨permIn_trans _ _ _ _ _ HI.out.1 (swp_permIn _ _ _ _ _ (by omega) (by omega) (by omega) (by omega) (by rw [HS.out]; omega)), ?_⟩
                refine h2.step ?_ (by omega) (by rw [HS.out]; omega)
                rw [show (j - 1) + 1 = j by omega, ← HG.out, ← HG.out]; exact hl
            case measure => simp [natOf]; omega
          · have hl : ltInt (G j) (G (j - 1)) = false := by assumption
            go_roundw
            case rel => exact OUT.out (Or.inr (by rw [← HG.out, ← HG.out]; exact hl)) nq
            case measure => simp [natOf]; omega
        · go_quiet (first | (go_at_call 98; refine Calls.quiet_of_same (less _ _ _)))
          go_wp2
          go_roundw
          case rel => exact OUT.out (Or.inl (by omega)) nq
          case measure => simp [natOf]; omega
    · go_wp2
      go_end0
      refine ⟨rfl, n, dk, HW.out, HP.out.1, ?_⟩
      by_cases he : i = b
      · subst he; exact HP.out.2.1 (Nat.le_refl _)
      · have := HP.out.2.2 (by omega)
        intro p q h1 h2 h3; omega
end Go.Proofs.YtkgmcabamhpjhaaGreat.SoIns

namespace Go.Proofs.YtkgmcabamhpjhaaGreat.SoRev
open Go Go.RowKit Go.Sort SoKit

set_option maxHeartbeats 4000000 in
theorem rev_any (blk off cap a b N : Nat) (d : Array Int) (w : World) (hH : Holds E64 w blk off d) (hN : d.size = N) (hab : a ≤ b) (hb : b ≤ N) (hsz : N < 4611686018427387904) :
    Calls Tryz.prog 96 #[.slice (some ⟨blk, off, none⟩) N cap, .int .i64 (a : Int), .int .i64 (b : Int)] w fun e w' =>
      e = .returned (.tuple #[]) ∧ ∃ n d', w' = RW w blk off n d' ∧ PermIn a b d d' := by
  have HN : Hid (d.size = N) := hN
  clear hN
  have HH : Hid (Holds E64 w blk off d) := hH
  clear hH
  go_enter Tryz.func96, Tryz.ntmps96
  go_wp2
  go_loopw [6, 7] (fun vi vj wr => ∃ (i : Nat) (j : Int) (n : Nat) (dk : Array Int), vi = .int .i64 (i : Int) ∧ vj = .int .i64 j ∧ a ≤ i ∧ j < b ∧ -1 ≤ j ∧ i ≤ b ∧ Hid (wr = RW w blk off n dk) ∧ Hid (PermIn a b d dk)) (fun vi _ _ => b - natOf vi)
  case atStart => exact ⟨a, (b : Int) - 1, 0, d, by go_num, by go_num, by omega, by omega, by omega, by omega, (rw_self HH.out).symm, permIn_refl _ _ _⟩
  case round =>
    obtain ⟨i, jz, n, dk, rfl, rfl, hai, hjb, hj1, hib, HW, HP⟩ := hrel
    by_cases hlt : (i : Int) < jz
    · obtain ⟨j, rfl⟩ : ∃ j : Nat, jz = (j : Int) := ⟨jz.toNat, by omega⟩
      have hds : dk.size = d.size := HP.out.1
      obtain ⟨G, hc, hf, hg⟩ := rfam HH.out HN.out hds HW.out
      have HG : Hid (∀ t, G t = dk[t]!) := hg
      have HS : Hid (dk.size = N) := hds.trans HN.out
      clear hg hds
      go_wp2_with fail
      go_region
      all_goals go_wp2
      go_roundw
      case rel =>
        refine ⟨i + 1, (j : Int) - 1, n + 1, swp dk i j, by go_num, by go_num, by omega, by omega, by omega, by omega, ?_, ?_⟩
        · show _ = _
          rw [HW.out, HG.out, HG.out, rw_swap w blk off n dk i j (by rw [HS.out]; omega) (by rw [HS.out]; omega), rw_drew]
        · exact permIn_trans _ _ _ _ _ HP.out (swp_permIn _ _ _ _ _ (by omega) (by omega) (by omega) (by omega) (by rw [HS.out]; omega))
      case measure => simp [natOf]; omega
    · go_wp2
      go_end0
      exact ⟨rfl, n, dk, HW.out, HP.out⟩
end Go.Proofs.YtkgmcabamhpjhaaGreat.SoRev

namespace Go.Proofs.YtkgmcabamhpjhaaGreat.Len
open Go Go.Shelf PkPlain

def ren : Go.Shelf.Ren := ⟨fun | 129 => 87 | n => n, fun | 53 => 44 | 3 => 3 | 4 => 4 | 46 => 53 | 5 => 5 | 9 => 9 | n => n, fun | n => n⟩
theorem lays : Go.Proofs.Lays.n129 Tryz.prog ren := {
  mixed := by kernel_rfl
  f129 := Tryz.func87.trans (congrArg some (by kernel_rfl))
  t3 := Tryz.underlying3
  a3 := Tryz.isAgg3
  z3 := Tryz.sizeOf3
  v3 := Tryz.zeroValue3
  t4 := Tryz.underlying4
  a4 := Tryz.isAgg4
  z4 := Tryz.sizeOf4
  v4 := Tryz.zeroValue4
  t5 := Tryz.underlying5
  a5 := Tryz.isAgg5
  z5 := Tryz.sizeOf5
  v5 := Tryz.zeroValue5
  t9 := Tryz.underlying9
  a9 := Tryz.isAgg9
  z9 := Tryz.sizeOf9
  v9 := Tryz.zeroValue9
  t46 := Tryz.underlying53
  a46 := Tryz.isAgg53
  z46 := Tryz.sizeOf53
  v46 := Tryz.zeroValue53
  t53 := Tryz.underlying44
  a53 := Tryz.isAgg44
  z53 := Tryz.sizeOf44
  v53 := Tryz.zeroValue44 }
theorem aux_need : ∀ (f x : Nat), x < 2 ^ f → Lib.bitLenAux f x = need x
  | 0, x, h => by
    obtain rfl : x = 0 := by simp at h; omega
    rfl
  | f + 1, x, h => by
    rw [Lib.bitLenAux]
    by_cases h0 : x = 0
    · subst h0; rfl
    · rw [if_neg h0, aux_need f (x / 2) (by rw [Nat.pow_succ] at h; omega), need_half x (by omega)]
      omega
/-- Len64. -/
theorem len_any (n : Nat) (w : World) (h : n < 18446744073709551616) :
    Calls Tryz.prog 87 #[.int .u64 (n : Int)] w fun e w' => e = .returned (.int .i64 ((need n : Nat) : Int)) ∧ w = w' :=
  (Any.bits_Len64 lays (n : Int) w (by omega) (by omega)).mono fun e w' ⟨h1, h2⟩ => by
    rw [show ((n : Int)).toNat = n by omega] at h1
    have e1 : Lib.bitLen n = need n := aux_need 64 n (by omega)
    rw [e1] at h1
    exact ⟨h1, h2.symm⟩
end Go.Proofs.YtkgmcabamhpjhaaGreat.Len

