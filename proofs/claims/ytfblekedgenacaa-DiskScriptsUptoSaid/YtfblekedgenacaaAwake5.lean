/- The contract of the statements' own 'awake' (the document's fixed answers are met): it answers true and changes nothing that was there. No conditions. -/
import Derived.Test.YtfblekedgenacaaPdSt
import Derived.Lib.SlBytesConst
namespace Go.Proofs.Ytfblekedgenacaa.Awake5
open Go Go.RowKit Go.Maps Words DkSpec DkLaws PdLook RefDisk PdDisk PdChange PdOps PdSync PdRen PdRead PdApp PdRes PdSt

def xy : List UInt8 := [120, 121]
def sS (l : List UInt8) (s : Nat) : DSt := ⟨[⟨na, l, s⟩], false, false, -1⟩
theorem aw1 : append na xy fresh = (0, sS xy 0) := rfl
theorem aw2 : sync na (sS xy 0) = (0, sS xy 2) := rfl
theorem aw3 : append na [122] (sS xy 2) = (0, sS [120, 121, 122] 2) := rfl
theorem aw4 : restart [0] (sS [120, 121, 122] 2) = sS xy 2 := rfl
theorem aw5 : read na (sS xy 2) = (0, xy) := rfl
theorem aw6 : append nA [] (sS xy 2) = (1, sS xy 2) := rfl

set_option maxHeartbeats 3200000 in
set_option maxRecDepth 100000 in
theorem awake_any (w : World) : Calls Try.prog 7 #[] w fun e w' => e = .returned (.bool true) ∧ Below w.heap.size w w' := by
  have kc := fun (w : World) (C : Array Value) (n c : Nat) => Lib.run_convert_bytes_const (P := Try.prog) w 30 5 C n c Try.underlying30 Try.underlying5
  have hne := eq_nil
  have H1 := Lib.hid (new_any w (fun _ => 0) 1)
  go_enter Try.func7, Try.ntmps7
  go_wp2_with fail
  refine H1.out.mono ?_
  rintro e w1 ⟨p, K1, rfl, _, hd1, ht1⟩
  have S1 := Lib.hid (St.first hd1 ht1)
  have S1' := Lib.hid (S1.out.lit (.cells #[.int .u8 120, .int .u8 121] 5 (2, 3)) 0)
  have H2 := Lib.hid (append_any _ _ 1 p fresh na xy (some ⟨w1.heap.size, 0, none⟩) 2 S1'.out.disk (by decide) (by decide) (by decide) (lit_rd w1 #[.int .u8 120, .int .u8 121] 5 (2, 3)) (fun b off e h => lit_kind (by decide) b off e h))
  clear hd1 ht1 H1
  go_wp2_with fail
  refine H2.out.mono ?_
  rw [aw1]
  rintro e w2 ⟨rfl, K2, hd2, ht2⟩
  have S2 := Lib.hid (S1'.out.step hd2 ht2)
  have H3 := Lib.hid (sync_any _ _ 1 p _ na S2.out.disk (by decide))
  clear hd2 ht2 H2
  go_wp2_with fail
  refine H3.out.mono ?_
  rw [aw2]
  rintro e w3 ⟨rfl, K3, hd3, ht3⟩
  have S3 := Lib.hid (S2.out.step hd3 ht3)
  have S3' := Lib.hid (S3.out.lit (.cells #[.int .u8 122] 5 (1, 2)) 0)
  have H4 := Lib.hid (append_any _ _ 1 p _ na [122] (some ⟨w3.heap.size, 0, none⟩) 1 S3'.out.disk (by decide) (by decide) (by decide) (lit_rd w3 #[.int .u8 122] 5 (1, 2)) (fun b off e h => lit_kind (by decide) b off e h))
  clear hd3 ht3 H3
  go_wp2_with fail
  refine H4.out.mono ?_
  rw [aw3]
  rintro e w4 ⟨rfl, K4, hd4, ht4⟩
  have S4 := Lib.hid (S3'.out.step hd4 ht4)
  have S4' := Lib.hid (S4.out.lit (.cells #[.int .i64 0] 3) 0)
  have H5 := Lib.hid (restart_any _ _ 1 p _ [0] (some ⟨w4.heap.size, 0, none⟩) 1 S4'.out.disk (by decide) (lit_rd w4 #[.int .i64 0] 3 (0, 0)) (fun b off e h => lit_kind (by decide) b off e h) (by decide) (by decide) (by unfold maxLen; omega))
  clear hd4 ht4 H4
  go_wp2_with fail
  refine H5.out.mono ?_
  rw [aw4]
  rintro e w5 ⟨rfl, K5, hd5, ht5⟩
  have S5 := Lib.hid (S4'.out.step hd5 ht5)
  have H6 := Lib.hid (read_any _ _ 1 p _ na S5.out.disk (by decide) (by decide))
  clear hd5 ht5 H5
  go_wp2_with fail
  refine H6.out.mono ?_
  rw [aw5]
  unfold RdPost
  dsimp only
  rintro e w6 ⟨v6, rfl, hown6, hb6⟩
  have S6 := Lib.hid (S5.out.new hb6 0)
  obtain ⟨A6, c6, rfl, _, _, hrd6, _⟩ := RefTake.own_rd hown6
  have s6 := run_str w6 A6 _ c6 rfl hrd6
  have H7 := Lib.hid (append_any _ _ 1 p _ nA [] none 0 S6.out.disk (by decide) (by decide) (by decide) Rd.nil_ (fun b off e => by cases e))
  clear hown6 hb6 hrd6 H6
  rw [show xy.toArray = #[120, 121] from rfl] at s6
  go_wp2_with fail
  refine H7.out.mono ?_
  rw [aw6]
  rintro e w7 ⟨rfl, K7, hd7, ht7⟩
  have S7 := Lib.hid (S6.out.step hd7 ht7)
  clear hd7 ht7 H7
  go_wp2
  go_ret
  exact ⟨rfl, S7.out.below⟩
end Go.Proofs.Ytfblekedgenacaa.Awake5
