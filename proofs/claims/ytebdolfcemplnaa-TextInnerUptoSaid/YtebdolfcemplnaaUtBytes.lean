/- The contract of the document's Bytes: a rune as UTF-8, in new memory. Condition: a rune that UTF-8 has bytes for. -/
import Derived.Test.YtebdolfcemplnaaUtOne
import Derived.Test.YtebdolfcemplnaaUtOwn
namespace Go.Proofs.Ytebdolfcemplnaa.UtBytes
open Go Go.RowKit Words App UtSpec UtShelf UtSmall UtRange UtOne UtOwn

def BPost (r : Nat) (w : World) (e : Ending) (w' : World) : Prop :=
  e = .returned (.slice (some ⟨w.heap.size, 0, none⟩) (enc r).length (enc r).length) ∧ w' = w.alloc (.cells ((enc r).map B8).toArray 5)
theorem wrap8 {x : Int} {b : UInt8} (h : (b.toNat : Int) = x) : Value.int .u8 x = B8 b := by
  unfold B8
  rw [h]
set_option maxHeartbeats 1600000 in
set_option maxRecDepth 100000 in
theorem bytes_any (r : Nat) (w : World) (hs : sc r) : Calls Try.prog 24 #[.int .i32 (r : Int)] w (BPost r w) := by
  unfold BPost
  have hs' : r ≤ 1114111 := by unfold sc at hs; omega
  rcases enc_cases hs with ⟨b0, e, h, h0⟩ | ⟨b0, b1, e, h, h', h0, h1⟩ | ⟨b0, b1, b2, e, h, h', h0, h1, h2⟩ | ⟨b0, b1, b2, b3, e, h, h', h0, h1, h2, h3⟩
  · rw [e]
    simp only [List.map_cons, List.map_nil, List.length_cons, List.length_nil, ← wrap8 (x := (r : Int)) (b := b0) (by omega)]
    clear e h0
    go_enter Try.func24, Try.ntmps24
    go_wp2
    go_ret
    exact ⟨rfl, rfl⟩
  · rw [e]
    simp only [List.map_cons, List.map_nil, List.length_cons, List.length_nil, ← wrap8 (x := 192 + (r : Int) / 64) (b := b0) (by omega), ← wrap8 (x := 128 + (r : Int) % 64) (b := b1) (by omega)]
    clear e h0 h1
    go_enter Try.func24, Try.ntmps24
    go_wp2
    go_ret
    exact ⟨rfl, rfl⟩
  · rw [e]
    simp only [List.map_cons, List.map_nil, List.length_cons, List.length_nil, ← wrap8 (x := 224 + (r : Int) / 4096) (b := b0) (by omega), ← wrap8 (x := 128 + (r : Int) / 64 % 64) (b := b1) (by omega), ← wrap8 (x := 128 + (r : Int) % 64) (b := b2) (by omega)]
    have i1 : (2048 : Int) ≤ (r : Int) := by omega
    have i2 : (r : Int) ≤ 65535 := by omega
    have d1 : decide ((r : Int) < 128) = false := by simp; omega
    have d2 : decide ((r : Int) < 2048) = false := by simp; omega
    have d3 : decide ((r : Int) < 65536) = true := by simp; omega
    clear e h0 h1 h2 h h' hs hs'
    generalize (r : Int) = x at *
    go_enter Try.func24, Try.ntmps24
    go_wp2
    go_ret
    exact ⟨rfl, rfl⟩
  · rw [e]
    simp only [List.map_cons, List.map_nil, List.length_cons, List.length_nil, ← wrap8 (x := 240 + (r : Int) / 262144) (b := b0) (by omega), ← wrap8 (x := 128 + (r : Int) / 4096 % 64) (b := b1) (by omega), ← wrap8 (x := 128 + (r : Int) / 64 % 64) (b := b2) (by omega), ← wrap8 (x := 128 + (r : Int) % 64) (b := b3) (by omega)]
    have i1 : (65536 : Int) ≤ (r : Int) := by omega
    have i2 : (r : Int) ≤ 1114111 := by omega
    have d1 : decide ((r : Int) < 128) = false := by simp; omega
    have d2 : decide ((r : Int) < 2048) = false := by simp; omega
    have d3 : decide ((r : Int) < 65536) = false := by simp; omega
    clear e h0 h1 h2 h3 h h' hs hs'
    generalize (r : Int) = x at *
    go_enter Try.func24, Try.ntmps24
    go_wp2
    go_ret
    exact ⟨rfl, rfl⟩
end Go.Proofs.Ytebdolfcemplnaa.UtBytes
