/- The contract of the document's own Put: new memory that holds the shortest forms of the numbers, one behind the other; nothing that was there has changed. Condition: the list is so short that ten bytes a number are at most 2^47. -/
import Derived.Test.YtahbaifbihpppaaRefOne
namespace Go.Proofs.Ytahbaifbihpppaa.RefPut
open Go Go.RowKit Words Plain Put

set_option maxHeartbeats 1600000 in
set_option maxRecDepth 100000 in
theorem refput_any (l : List UInt64) (A : Option Addr) (c : Nat) (w : World) (hr : Rd w w.heap.size A (l.map B64)) (hl : 10 * l.length ≤ 140737488355328) :
    Calls Try.prog 27 #[.slice A l.length c] w fun e w' => ∃ v, e = .returned v ∧ w'.ownsRow w.heap.size 5 1 v (encs l).length ((encs l).map B8) ∧ Below w.heap.size w w' := by
  obtain ⟨i0, hi, hz0, hz1, hz2⟩ := info_parts info_u8
  go_enter Try.func27, Try.ntmps27
  go_wp2
  go_loopw [3, 4] (fun v i wr => Outer l w.heap.size w v i wr) (fun _ i _ => l.length - (intOf i).toNat)
  case atStart => exact ⟨0, by omega, rfl, by simpa [encs] using World.ownsRow_nil w w.heap.size 5 1, Below.refl _ _⟩
  case round =>
    obtain ⟨k, hk, rfl, hown, hb⟩ := hrel
    by_cases hlt : k < l.length
    · obtain ⟨b, off, rfl, hbl, hcell⟩ := hr (by simp; omega)
      have hcx := (hb.cell (p := ⟨b, off + k, none⟩) hbl).trans (cell64 hcell hlt)
      have hn64 : l[k].toNat < 18446744073709551616 := l[k].toNat_lt
      have hsn := encs_snoc hlt
      have hle := encs_length (l.take k)
      have hlk : (l.take k).length ≤ k := List.length_take_le _ _
      have hd10 : (encs (l.take k)).length ≤ 10 * k := by omega
      have hu10 := Lib.uvarint_length64 hn64
      have hup := Lib.uvarint_pos l[k].toNat
      have ON := Lib.hid (one64 l[k].toNat wr hn64)
      generalize l[k].toNat = n at *
      generalize encs (l.take k) = d at *
      generalize Lib.uvarint n = U at *
      have HS := Lib.hid hsn
      have HO := Lib.hid hown
      have HB := Lib.hid hb
      clear hsn hcell hle hlk hr hown hb
      go_wp2_with fail
      refine ON.out.mono ?_
      rintro e w1 ⟨v1, rfl, hown1, hb1⟩
      have HO1 := Lib.hid (own_keep HO.out hb1)
      have HB1 := Lib.hid (HB.out.trans (hb1.mono HB.out.size))
      obtain ⟨b1, c1, rfl, _, _, hcell1⟩ := own_addr hown1 (by omega)
      have HC := Lib.hid hcell1
      clear hcell1 hb1 hown1
      go_wp2_with (at_builtin; refine wpList_append_own _ rfl (.tmp 11) (.tmp 16) 24 rfl w.heap.size 5 i0 (.int .u8 0) 1 1 Try.underlying24 hi hz0 hz1 hz2 rfl (by decide) _ _ _ rfl HO1.out ⟨b1, 0, none⟩ U.length c1 (U.map B8) rfl (by simp) HC.out (one8 U) ?c3 ?c4 HB1.out.size ?_)
      case c3 => unfold maxLen; omega
      case c4 => omega
      intro v2 w2 hown2 hg2 _
      have hown3 := own_join hown2
      have hb3 : Below w.heap.size w w2 := HB1.out.grown hg2 HB1.out.size (own_lt HO1.out)
      rw [← HS.out] at hown3
      clear hown2 hg2
      go_wp2
      go_roundw
      case rel => exact ⟨k + 1, by omega, by go_num, hown3, hb3⟩
      case measure => simp [intOf]; omega
    · obtain rfl : k = l.length := by omega
      go_wp2
      go_ret
      rw [List.take_length] at hown
      exact ⟨_, rfl, hown, hb⟩
end Go.Proofs.Ytahbaifbihpppaa.RefPut
