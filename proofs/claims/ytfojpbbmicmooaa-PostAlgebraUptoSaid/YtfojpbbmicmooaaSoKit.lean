/- Words for slices.Sort at uint64: its row of numbers ('Row'), and cmp.Less. Conditions: those of each. -/
import Derived.Test.YtfojpbbmicmooaaProg
import Derived.Sort.AssemblyPlain
import Derived.Sort.Grow
import Derived.Lib.Walk
import Derived.Lib.Hide
import Derived.WalkKit
import Derived.BigGuard
import Derived.BigCall
import Derived.CellFam
import Derived.Deep.Draws
import Derived.Deep.QuietTactic
import Derived.BigQuiet
namespace Go.Proofs.Ytfojpbbmicmooaa.SoKit
open Go Go.RowKit Go.Sort

abbrev E64 : Int → Value := Value.int .u64
def natOf : Value → Nat | .int _ q => q.toNat | _ => 0
/-- The row of w, n draws on, holding d; new blocks behind. -/
def RW (w : World) (blk off n : Nat) (d : Array Int) : World := putRow E64 (Sort.ahead w n) blk off d
theorem rw_self {w : World} {blk off : Nat} {d : Array Int} (h : Holds E64 w blk off d) : RW w blk off 0 d = w := putRow_self _ _ _ _ _ h
theorem rw_drewN (w : World) (blk off n q : Nat) (d : Array Int) : (RW w blk off n d).drewN q = RW w blk off (n + q) d := by
  show Sort.ahead (putRow E64 (Sort.ahead w n) blk off d) q = putRow E64 (Sort.ahead w (n + q)) blk off d
  rw [putRow_ahead E64 w n, ahead_ahead, ← putRow_ahead]
theorem rw_drew (w : World) (blk off n : Nat) (d : Array Int) : (RW w blk off n d).drew = RW w blk off (n + 1) d := rw_drewN w blk off n 1 d
theorem rw_rw (w : World) (blk off n m : Nat) (d d' : Array Int) (h : d'.size = d.size) : RW (RW w blk off n d) blk off m d' = RW w blk off (n + m) d' := putRow_ahead_putRow _ _ _ _ _ _ _ _ h
theorem rw_holds {w : World} {blk off n : Nat} {d d' : Array Int} (h : Holds E64 w blk off d) (hs : d'.size = d.size) : Holds E64 (RW w blk off n d') blk off d' :=
  holds_putRow _ _ _ _ d d' (holds_ahead _ _ _ _ _ _ h) hs
theorem rw_swap (w : World) (blk off n : Nat) (d : Array Int) (j k : Nat) (hj : j < d.size) (hk : k < d.size) :
    ((RW w blk off n d).setCell ⟨blk, off + j, none⟩ (.int .u64 d[k]!)).setCell ⟨blk, off + k, none⟩ (.int .u64 d[j]!) = RW w blk off n (swp d j k) := putRow_swp _ _ _ _ _ _ _ hj hk
theorem rw_size (w : World) (blk off n : Nat) (d : Array Int) : (RW w blk off n d).heap.size = w.heap.size := size_putRow _ _ _ _ _
/-- A row's places as a function: what the walk loads and stores. -/
structure Fam (w : World) (blk off n : Nat) (d : Array Int) (G : Nat → Int) : Prop where
  cell : ∀ t, t < n → w.cell? ⟨blk, off + t, none⟩ = some (.int .u64 (G t))
  froz : ∀ t, t < n → w.frozen? ⟨blk, off + t, none⟩ = false
  is : ∀ t, G t = d[t]!
theorem fam {w : World} {blk off : Nat} {d : Array Int} (h : Holds E64 w blk off d) : ∃ G, Fam w blk off d.size d G :=
  ⟨fun t => d[t]!, fun t ht => (h t ht).1, fun t ht => (h t ht).2, fun _ => rfl⟩
theorem rfam {w wr : World} {blk off n N : Nat} {d dj : Array Int} (h : Holds E64 w blk off d) (hn : d.size = N) (hs : dj.size = d.size) (hw : wr = RW w blk off n dj) : ∃ G, Fam wr blk off N dj G := by
  subst hn hw
  obtain ⟨G, hG⟩ := fam (rw_holds (n := n) h hs)
  exact ⟨G, fun t ht => hG.cell t (by omega), fun t ht => hG.froz t (by omega), hG.is⟩
theorem rcells {w wr : World} {blk off n N : Nat} {d dj : Array Int} {G : Nat → Int} (h : Holds E64 w blk off d) (hn : d.size = N) (hs : dj.size = d.size) (hw : wr = RW w blk off n dj) (hG : ∀ t, G t = dj[t]!) :
    (∀ t, t < N → wr.cell? ⟨blk, off + t, none⟩ = some (.int .u64 (G t))) ∧ ∀ t, t < N → wr.frozen? ⟨blk, off + t, none⟩ = false := by
  obtain ⟨G', h'⟩ := rfam h hn hs hw
  exact ⟨fun t ht => by rw [h'.cell t ht, h'.is, hG], fun t ht => h'.froz t ht⟩
theorem of_beq_int {x y : Int} (h : (x == y) = true) : x = y := by simpa using h
theorem of_bne_int {x y : Int} (h : (x == y) = false) : x ≠ y := by simpa using h

set_option maxHeartbeats 1000000 in
theorem nan1 (x : Int) (w : World) : Calls Try.prog 42 #[.int .u64 x] w fun e w' => e = .returned (.bool false) ∧ w' = w := by
  go_enter Try.func42, Try.ntmps42
  go_wp2
  go_ret
  exact ⟨by simp, rfl⟩
set_option maxHeartbeats 1000000 in
theorem less (x y : Int) (w : World) : Calls Try.prog 32 #[.int .u64 x, .int .u64 y] w fun e w' => e = .returned (.bool (ltInt x y)) ∧ w' = w := by
  go_enter Try.func32, Try.ntmps32
  go_wp2_with (go_at_call 42; refine (nan1 _ _).mono ?_; rintro e w' ⟨rfl, rfl⟩)
  go_ret
  exact ⟨rfl, rfl⟩
end Go.Proofs.Ytfojpbbmicmooaa.SoKit
