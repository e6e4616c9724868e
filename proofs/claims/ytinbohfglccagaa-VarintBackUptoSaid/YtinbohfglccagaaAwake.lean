/- The contract of the statements' own 'awake': the document's fixed answers are met: it answers true and changes nothing that was there. No conditions. -/
import Derived.Test.YtinbohfglccagaaGet
import Derived.Test.YtinbohfglccagaaPut
import Derived.Test.YtinbohfglccagaaZig
namespace Go.Proofs.Ytinbohfglccagaa.Awake
open Go Go.RowKit Words Plain Put Get Zig

theorem e1n : getN [172, 2] 0 = 300 := by decide +kernel
theorem e1t : getTo [172, 2] 0 = 2 := by decide +kernel
theorem e1e : getE [172, 2] 0 = 0 := by decide +kernel
theorem e2e : getE [128, 0] 0 = 6 := by decide +kernel
theorem e2t : getTo [128, 0] 0 = 0 := by decide +kernel
theorem e2n : getN [128, 0] 0 = 0 := by decide +kernel
theorem u300 : Lib.uvarint 300 = [172, 2] := by
  rw [Lib.uvarint_big (by omega), Lib.uvarint_small (by omega)]; rfl
theorem e3 : encs [300, 0] = [172, 2, 0] := by
  show Lib.uvarint 300 ++ (Lib.uvarint 0 ++ []) = _
  rw [u300, Lib.uvarint_small (by omega)]; rfl
theorem z1 : zig (-1) = 1 := by decide
theorem z2 : zag 1 = -1 := by decide

/-- Get over a row of two bytes that was made just now. -/
theorem get_made (x y : UInt8) (w : World) (g : Nat) (hg : g = w.heap.size) (n t e : Int) (hn : getN [x, y] 0 = n) (ht : getTo [x, y] 0 = t) (he : getE [x, y] 0 = e) :
    Calls Try.prog 13 #[.slice (some ⟨g, 0, none⟩) 2 2, .int .i64 0] (w.alloc (.cells #[.int .u8 (x.toNat : Int), .int .u8 (y.toNat : Int)] 5)) fun ee w' => ee = .returned (.tuple #[.int .u64 n, .int .i64 t, .int .i64 e]) ∧ (w.alloc (.cells #[.int .u8 (x.toNat : Int), .int .u8 (y.toNat : Int)] 5)) = w' := by
  subst hg
  have h := get_any [x, y] (some ⟨w.heap.size, 0, none⟩) 2 0 _ _ (Rd.made w #[.int .u8 (x.toNat : Int), .int .u8 (y.toNat : Int)] 5) (by simp) (by unfold maxLen; omega)
  rw [hn, ht, he] at h
  exact h

theorem put_made (w : World) (g : Nat) (hg : g = w.heap.size) :
    Calls Try.prog 10 #[.slice (some ⟨g, 0, none⟩) 2 2] (w.alloc (.cells #[.int .u64 300, .int .u64 0] 29)) fun ee w' => ∃ A c, ee = .returned (.slice A 3 c) ∧ Rd w' w'.heap.size A ([172, 2, 0].map B8) ∧ Below (w.heap.size + 1) (w.alloc (.cells #[.int .u64 300, .int .u64 0] 29)) w' := by
  subst hg
  have h := put_any [300, 0] (some ⟨w.heap.size, 0, none⟩) 2 _ ((Rd.made w #[.int .u64 300, .int .u64 0] 29).more (by simp)) (by simp)
  refine h.mono ?_
  rintro e w' ⟨v, rfl, hown, hb⟩
  rw [e3] at hown
  obtain ⟨A, c, rfl, _, _, _⟩ := own_slice hown
  exact ⟨A, c, rfl, Rd.of_own hown, hb.mono (by simp)⟩

set_option maxHeartbeats 800000 in
theorem awake_any (w : World) : Calls Try.prog 9 #[] w fun e w' => e = .returned (.bool true) ∧ Below w.heap.size w w' := by
  go_enter Try.func9, Try.ntmps9
  go_wp2_with fail
  refine (get_made 172 2 _ _ rfl 300 2 0 e1n e1t e1e).mono ?_
  rintro e w1 ⟨rfl, rfl⟩
  go_wp2_with fail
  refine (get_made 128 0 _ _ (by simp) 0 0 6 e2n e2t e2e).mono ?_
  rintro e w1 ⟨rfl, rfl⟩
  go_wp2_with fail
  refine (put_made _ _ (by simp)).mono ?_
  rintro e w1 ⟨A, c, rfl, hrd, hb⟩
  have hcv := run_bytes (P := Try.prog) w1 24 9 5 Try.underlying24 Try.underlying5 Try.underlying9 A [172, 2, 0] c _ hrd
  have HB := Lib.hid hb
  clear hrd hb
  simp only [List.length_cons, List.length_nil, Nat.zero_add, Nat.reduceAdd] at hcv
  go_wp2_with (first | (go_at_call 14; refine (zig_any _ _ (by omega) (by omega)).mono ?_; rintro e w' ⟨rfl, rfl⟩; rw [z1]) | (go_at_call 16; refine (zag_any _ _ (by omega) (by omega)).mono ?_; rintro e w' ⟨rfl, rfl⟩; rw [z2]))
  go_ret
  exact ⟨rfl, ((((Below.refl _ _).alloc (Nat.le_refl _) _).alloc (by simp) _).alloc (by simp; omega) _).trans (HB.out.mono (by simp; omega))⟩

/-- Put of one number that lies in a row that was made just now. -/
theorem put_one (n : UInt64) (w : World) (g : Nat) (hg : g = w.heap.size) :
    Calls Try.prog 10 #[.slice (some ⟨g, 0, none⟩) 1 1] (w.alloc (.cells #[.int .u64 (n.toNat : Int)] 29)) fun ee w' => ∃ b off c, ee = .returned (.slice (some ⟨b, off, none⟩) (Lib.uvarint n.toNat).length c) ∧
      (Lib.uvarint n.toNat).length ≤ c ∧ c ≤ maxLen ∧ b < w'.heap.size ∧ w.heap.size < b ∧ (∀ j u, ((Lib.uvarint n.toNat).map B8)[j]? = some u → w'.cell? ⟨b, off + j, none⟩ = some u) ∧ Below (w.heap.size + 1) (w.alloc (.cells #[.int .u64 (n.toNat : Int)] 29)) w' := by
  subst hg
  have h := put_any [n] (some ⟨w.heap.size, 0, none⟩) 1 _ ((Rd.made w #[.int .u64 (n.toNat : Int)] 29).more (by simp)) (by simp)
  refine h.mono ?_
  rintro e w' ⟨v, rfl, hown, hb⟩
  rw [encs_one] at hown
  obtain ⟨A, c, rfl, h1, h2, h3⟩ := own_slice hown
  have hp := Lib.uvarint_pos n.toNat
  have hlt := hown.lt
  obtain ⟨b, off, rfl, hbb, hc⟩ := Rd.of_own hown (by simp; omega)
  exact ⟨b, off, c, rfl, h1, h2, hbb, by have := (hlt b rfl).1; simp at this; omega, hc, hb.mono (by simp)⟩

end Go.Proofs.Ytinbohfglccagaa.Awake
