/- The contract of the statements' own 'same': two equal lists of names are the same. Conditions: both slices read as the list. -/
import Derived.Test.YtfblekedgenacaaRefDisk
import Derived.Deep.QuietTactic
import Derived.BigQuiet
namespace Go.Proofs.Ytfblekedgenacaa.Same5
open Go Go.RowKit Words RefDisk

def Rel (n : Nat) (i : Value) : Prop := ∃ k : Nat, k ≤ n ∧ i = .int .i64 (k : Int)
set_option maxHeartbeats 800000 in
set_option maxRecDepth 100000 in
theorem same_any (w : World) (l : List (List UInt8)) (n : Nat) (A1 A2 : Option Addr) (c1 c2 B1 B2 : Nat) (hn : n = l.length) (h1 : Rd w B1 A1 (l.map S8)) (h2 : Rd w B2 A2 (l.map S8)) (hm1 : n ≤ c1) (hm2 : n ≤ c2) (hc1 : c1 ≤ maxLen) (hc2 : c2 ≤ maxLen) :
    Calls Try.prog 32 #[.slice A1 n c1, .slice A2 n c2] w fun e w' => e = .returned (.bool true) ∧ Below w.heap.size w w' := by
  have H1 := Lib.hid h1
  have H2 := Lib.hid h2
  have HN := Lib.hid hn
  unfold maxLen at hc1 hc2
  clear h1 h2 hn
  go_enter Try.func32, Try.ntmps32
  go_wp2
  go_loopw [5] (fun i wr => Rel n i ∧ Below w.heap.size w wr ∧ wr.heap = w.heap) (fun i _ => n - (intOf i).toNat)
  case atStart => exact ⟨⟨0, by omega, rfl⟩, Below.refl _ _, rfl⟩
  case round =>
    obtain ⟨⟨k, hk, rfl⟩, hb, hh⟩ := hrel
    have HB := Lib.hid hb
    have HH := Lib.hid hh
    clear hb hh
    by_cases hlt : k < n
    · have hlt' : k < l.length := by rw [← HN.out]; exact hlt
      obtain ⟨b1, o1, rfl, _, hc⟩ := H1.out (by simp; omega)
      obtain ⟨b2, o2, rfl, _, hd⟩ := H2.out (by simp; omega)
      have hcc : ∀ a : Addr, wr.cell? a = w.cell? a := fun a => by unfold World.cell?; rw [HH.out]
      have k1 : wr.cell? ⟨b1, o1 + k, none⟩ = some (.string ⟨l[k].toArray⟩) := (hcc _).trans (hc k (S8 l[k]) (by simp [hlt']))
      have k2 : wr.cell? ⟨b2, o2 + k, none⟩ = some (.string ⟨l[k].toArray⟩) := (hcc _).trans (hd k (S8 l[k]) (by simp [hlt']))
      generalize l[k] = nm at *
      have hne : (nm != nm) = false := by simp
      clear hc hd hcc
      go_wp2
      go_quiet (fail)
      go_wp2
      go_roundw
      case rel => exact ⟨⟨k + 1, by omega, by go_num⟩, ⟨HB.out.os, HB.out.tape, HB.out.output, HB.out.size, HB.out.block⟩, HH.out⟩
      case measure => simp [intOf]; omega
    · have hkn : k = n := by omega
      subst hkn
      go_wp2
      go_ret
      exact ⟨rfl, HB.out⟩
end Go.Proofs.Ytfblekedgenacaa.Same5
