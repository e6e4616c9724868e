/- The contract of frame's own sumBytes: new memory that holds the checksum's four bytes, the lowest first; nothing that was there has changed. Conditions: those of Sum. -/
import Derived.Test.YtajphomdbdgmbaaDoorRefSum
namespace Go.Proofs.YtajphomdbdgmbaaDoor.SumB
open Go Go.RowKit Words Crc Tab Summ RefSum

/-- Sum of one part whose row was made just now. -/
theorem sum_one (l : List UInt8) (A : Option Addr) (n c : Nat) (w : World) (B g : Nat) (hn : n = l.length) (hr : Rd w B A (l.map B8)) (hB : B ≤ w.heap.size) (hc : l.length ≤ c) (hm : c ≤ maxLen) (hL : Laid w B) (hg : g = w.heap.size) :
    Calls Tryd.prog 9 #[.slice (some ⟨g, 0, none⟩) 1 1] (w.alloc (.cells #[.slice A n c] 24)) fun e w' => e = .returned (.int .u32 ((sum l : Nat) : Int)) ∧ (w.alloc (.cells #[.slice A n c] 24)) = w' := by
  subst hg hn
  have h := sum_any [⟨A, c, l⟩] (some ⟨w.heap.size, 0, none⟩) 1 (w.alloc (.cells #[.slice A l.length c] 24)) (w.heap.size + 1) B (Rd.made w #[.slice A l.length c] 24) (fun p hp => by
    obtain rfl : p = ⟨A, c, l⟩ := by simpa using hp
    exact ⟨(hr.alloc hB _).more (by omega), hc, hm⟩) (by simp) (by unfold maxLen; omega) (hL.alloc hB _)
  have e : all [⟨A, c, l⟩] = l := by simp [all]
  rw [e] at h
  exact h

set_option maxHeartbeats 800000 in
set_option maxRecDepth 100000 in
theorem sumb_any (l : List UInt8) (A : Option Addr) (n c : Nat) (w : World) (B : Nat) (hn : n = l.length) (hr : Rd w B A (l.map B8)) (hB : B ≤ w.heap.size) (hc : l.length ≤ c) (hm : c ≤ maxLen) (hL : Laid w B) :
    Calls Tryd.prog 16 #[.slice A n c] w fun e w' => ∃ A, e = .returned (.slice A 4 4) ∧ Rd w' w'.heap.size A ((four (sum l)).map B8) ∧ Below w.heap.size w w' := by
  subst hn
  have HS := Lib.hid (sum_one l A _ c w B _ rfl hr hB hc hm hL rfl)
  have hs := sum_lt l
  generalize sum l = s at *
  clear hr hc hm hL
  go_enter Tryd.func16, Tryd.ntmps16
  go_wp2_with fail
  refine HS.out.mono ?_
  rintro e w1 ⟨rfl, rfl⟩
  go_wp2
  go_ret
  have hm := Rd.made' (w.alloc (.cells #[.slice A l.length c] 24)) #[.int .u8 ((s : Int) % 256), .int .u8 ((s : Int) / 256 % 256), .int .u8 ((s : Int) / 65536 % 256), .int .u8 ((s : Int) / 16777216)] 5
  rw [show (#[Value.int .u8 ((s : Int) % 256), .int .u8 ((s : Int) / 256 % 256), .int .u8 ((s : Int) / 65536 % 256), .int .u8 ((s : Int) / 16777216)] : Array Value).toList = (four s).map B8 from (four_map s hs).symm] at hm
  have hb : Below w.heap.size w ((w.alloc (.cells #[.slice A l.length c] 24)).alloc (.cells #[.int .u8 ((s : Int) % 256), .int .u8 ((s : Int) / 256 % 256), .int .u8 ((s : Int) / 65536 % 256), .int .u8 ((s : Int) / 16777216)] 5)) := ((Below.refl _ _).alloc (Nat.le_refl _) _).alloc (by simp) _
  exact ⟨_, rfl, by simpa using hm, hb⟩
end Go.Proofs.YtajphomdbdgmbaaDoor.SumB
