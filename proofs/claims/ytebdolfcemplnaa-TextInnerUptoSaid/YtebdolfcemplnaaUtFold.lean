/- The contract of utf.Fold: the small forms of a text's runes, as UTF-8. Conditions: the text has at most 2^48 bytes, and the folded text fewer than 2^47 - 3. -/
import Derived.Test.YtebdolfcemplnaaUtRange
namespace Go.Proofs.Ytebdolfcemplnaa.UtFold
open Go Go.RowKit UtSpec UtShelf UtSmall UtRange

theorem fold_cons {s : ByteArray} {pos r n : Nat} (hr : runes (s.data.toList.drop pos) = (r, n) :: runes (s.data.toList.drop (pos + n))) :
    fold (s.data.toList.drop pos) = enc (smallN r) ++ fold (s.data.toList.drop (pos + n)) := by
  unfold fold
  rw [hr]
  rfl
theorem cells_enc (r : Nat) : Lib.runeCells (small (r : Int)) = Lib.byteCells (enc (smallN r)) := by
  rw [small_nat, ← Lib.byteCells_encodeRune]
  rfl

def FRel (s : ByteArray) (w : World) (it : Nat) (wr : World) : Prop :=
  ∃ (pos : Nat) (acc : List UInt8), Lib.IsBuilderF 50 5 w.heap.size w.heap.size (Lib.byteCells acc) wr ∧ wr.heap[it]? = some (.stringIter s pos) ∧ Below w.heap.size w wr ∧ Hid (acc ++ fold (s.data.toList.drop pos) = fold s.data.toList) ∧ pos ≤ s.size

set_option maxHeartbeats 1600000 in
set_option maxRecDepth 100000 in
/-- utf.Fold. -/
theorem fold_any (s : ByteArray) (w : World) (hs : s.size ≤ 281474976710656) (hf : (fold s.data.toList).length + 4 ≤ 140737488355328) :
    Calls Try.prog 20 #[.string s] w fun e w' => e = .returned (.string ⟨(fold s.data.toList).toArray⟩) ∧ Below w.heap.size w w' := by
  have HF := Lib.hid hf
  clear hf
  have hg := Builder_Grow_fresh w.heap.size w.heap.size s.size (w.alloc (.cells #[.pointer none, .slice none 0 0] 50)) (Nat.le_refl _) (heap_alloc_new w _) (by simp) hs
  have HG := Lib.hid hg
  clear hg
  go_enter Try.func20, Try.ntmps20
  go_wp2_with fail
  refine HG.out.mono ?_
  rintro e w1 ⟨rfl, hb1, hbw1⟩
  have HB1 : Hid (Below w.heap.size w w1) := Lib.hid (((Below.refl _ w).alloc (Nat.le_refl _) _).trans hbw1)
  have HI1 : Hid (Lib.IsBuilderF 50 5 w.heap.size w.heap.size (Lib.byteCells []) w1) := Lib.hid (Lib.IsBuilderF.of (Or.inr hb1))
  have hlt : w.heap.size < w1.heap.size := by have := hbw1.size; simp at this; omega
  clear hb1 hbw1 HG
  go_wp2
  obtain ⟨it, hit0⟩ : ∃ it, w1.heap.size = it := ⟨_, rfl⟩
  have HIT := Lib.hid hit0
  go_loopw [] (fun wr => FRel s w w1.heap.size wr) (fun wr => s.size - wr.iterPos w1.heap.size)
  case atStart => exact ⟨0, [], HI1.out.alloc _, World.iter_heap w1 s 0, HB1.out.alloc HB1.out.size _, Lib.hid (by simp), Nat.zero_le _⟩
  case round =>
    obtain ⟨pos, acc, hI, hit, hb, hc, hp'⟩ := hrel
    clear HIT hit0 HI1 HB1
    have hsz : w1.heap.size < wr.heap.size := (Array.getElem?_eq_some_iff.1 hit).1
    by_cases hp : pos < s.size
    · obtain ⟨r, n, hd⟩ : ∃ r n, Utf8.decode s pos = (r, n) := ⟨_, _, rfl⟩
      have hnx : ∀ ty, (Instr.next (.pointer (some ⟨w1.heap.size, 0, none⟩)) true ty).run Try.prog wr = _ := fun ty => Lib.run_next_any_at wr w1.heap.size s pos ty hit hp
      rw [hd] at hnx
      obtain ⟨_, hr, hn1, hn2, hr1, _⟩ := rune_step hp hd
      have hit2 := Lib.iterAt_heap wr w1.heap.size s pos (pos + n) hit
      have HI2 := Lib.hid (hI.iterAt hit (pos + n))
      have HB := Lib.hid (Lib.below_iterAt hb (k := w1.heap.size) (by omega) s (pos + n))
      have HZ : Hid (w.heap.size ≤ (wr.iterAt w1.heap.size s (pos + n)).heap.size) := Lib.hid (by rw [Lib.iterAt_size]; omega)
      have hfc := fold_cons hr
      have HC : Hid ((acc ++ enc (smallN r)) ++ fold (s.data.toList.drop (pos + n)) = fold s.data.toList) := Lib.hid (by rw [← hc.out, hfc, List.append_assoc])
      have HL : Hid (acc.length + 4 ≤ 140737488355328) := Lib.hid (by
        have h1 := congrArg List.length HC.out
        have h2 := HF.out
        simp only [List.length_append] at h1
        omega)
      obtain ⟨hsm0, hsm1⟩ := small_bound (r := (r : Int)) (by omega) (by omega)
      obtain ⟨q, hq⟩ : ∃ q, small (r : Int) = q := ⟨_, rfl⟩
      have HS := Lib.hid (small_any (r : Int) (wr.iterAt w1.heap.size s (pos + n)) (by omega) (by omega))
      have HW := Lib.hid (Builder_WriteRune_k w.heap.size w.heap.size _ q (by omega) (by omega) _ HI2.out (by rw [Lib.byteCells_length]; exact HL.out) HZ.out)
      rw [hq] at HS
      have HCE : Hid (Lib.runeCells q = Lib.byteCells (enc (smallN r))) := Lib.hid (by rw [← hq]; exact cells_enc r)
      clear hd hr hc hb hI hfc hq hsm0 hsm1
      go_wp2_with fail
      refine HS.out.mono ?_
      rintro e w' ⟨rfl, rfl⟩
      go_wp2_with fail
      refine HW.out.mono ?_
      rintro e W1 ⟨rfl, h1, b1, k1⟩
      have hit3 := k1.iter hit2 (by omega)
      have HB2 := Lib.hid (HB.out.trans b1)
      have HI3 : Hid (Lib.IsBuilderF 50 5 w.heap.size w.heap.size (Lib.byteCells (acc ++ enc (smallN r))) W1) := Lib.hid (by rw [Lib.byteCells_append, ← HCE.out]; exact Or.inr h1)
      clear h1 b1 k1 HS HW HB HI2
      go_wp2
      go_roundw
      case rel => exact ⟨pos + n, acc ++ enc (smallN r), HI3.out, hit3, HB2.out, HC, hn2⟩
      case measure =>
        simp only [World.iterPos, hit3, hit]
        omega
    · have hnx : ∀ ty, (Instr.next (.pointer (some ⟨w1.heap.size, 0, none⟩)) true ty).run Try.prog wr = _ := fun ty => Lib.run_next_end_at wr w1.heap.size s pos ty hit hp
      have HE : Hid (acc = fold s.data.toList) := Lib.hid (by
        have h := hc.out
        rw [drop_all (by omega)] at h
        simpa [fold, runes_nil] using h)
      have HST := Lib.hid (Builder_String_any_k w.heap.size w.heap.size acc _ hI (by omega))
      have HB := Lib.hid hb
      clear hc hb hI
      go_wp2_with fail
      refine HST.out.mono ?_
      rintro e W1 ⟨rfl, _, b1, _⟩
      have HB2 := Lib.hid (HB.out.trans b1)
      clear b1 HST HB
      go_wp2
      go_ret
      rw [← HE.out]
      exact ⟨rfl, HB2.out⟩
end Go.Proofs.Ytebdolfcemplnaa.UtFold
