/- What the library tells of strings.Builder (Grow, WriteRune, String), of utf8.ValidRune and of strings.HasPrefix, at this program: each an application of a contract that is proved over any program; the tables of numbers are this program's. Conditions: those that stand at each. · The contracts of utf.in, utf.Small, utf.Word and of the document's Small and Word: small forms and word runes. Conditions: 32 bits, where the small form is asked for. · The contracts of utf.Valid and utf.Count: whether a text is valid UTF-8, and how many runes it has. Condition: a text of a length that the model has. -/
import Derived.Shelf.Small.Utf8
import Derived.Shelf.Strings.Prefix
import Derived.Test.YtdmbgjpidlllcaaProg
import Derived.Test.YtdmbgjpidlllcaaRows
import Derived.Test.YtdmbgjpidlllcaaRxSpecs
import Derived.WalkKit
import Derived.IntWalk
import Derived.Outline
import Derived.BigCall
import Derived.Lib.Hide
import Derived.Lib.IndexBytes
import Derived.Lib.OthersKept
namespace Go.Proofs.Ytdmbgjpidlllcaa.UtShelf
open Go Go.Proofs Go.Shelf Go.RowKit Go.Lib
def lays119_ren : Go.Shelf.Ren := ⟨fun | 119 => 66 | n => n, fun | 21 => 21 | 4 => 4 | n => n, fun | n => n⟩
theorem lays119 : Go.Proofs.Lays.n119 Try.prog lays119_ren := {
  mixed := by kernel_rfl
  f119 := Try.func66.trans (congrArg some (by kernel_rfl))
  t4 := Try.underlying4
  a4 := Try.isAgg4
  z4 := Try.sizeOf4
  v4 := Try.zeroValue4
  t21 := Try.underlying21
  a21 := Try.isAgg21
  z21 := Try.sizeOf21
  v21 := Try.zeroValue21 }
theorem utf8_ValidRune (r : Int) (w : World) :
    Calls Try.prog 66 #[.int .i32 r] w fun e w' => e = .returned (.bool (Lib.validRune r)) ∧ w' = w := Any.utf8_ValidRune lays119 r w
def lays99_ren : Go.Shelf.Ren := ⟨fun | 99 => 23 | 206 => 32 | n => n, fun | 9 => 9 | 4 => 4 | 3 => 3 | n => n, fun | n => n⟩
theorem lays99 : Go.Proofs.Lays.n99 Try.prog lays99_ren := {
  mixed := by kernel_rfl
  f99 := Try.func23.trans (congrArg some (by kernel_rfl))
  f206 := Try.func32.trans (congrArg some (by kernel_rfl))
  t3 := Try.underlying3
  a3 := Try.isAgg3
  z3 := Try.sizeOf3
  v3 := Try.zeroValue3
  t4 := Try.underlying4
  a4 := Try.isAgg4
  z4 := Try.sizeOf4
  v4 := Try.zeroValue4
  t9 := Try.underlying9
  a9 := Try.isAgg9
  z9 := Try.sizeOf9
  v9 := Try.zeroValue9 }
theorem strings_HasPrefix (s p : ByteArray) (w : World) :
    Calls Try.prog 23 #[.string s, .string p] w fun e w' => e = .returned (.bool (Lib.hasPrefix s.data.toList p.data.toList)) ∧ w' = w := Any.strings_HasPrefix lays99 s p w
end Go.Proofs.Ytdmbgjpidlllcaa.UtShelf

namespace Go.Proofs.Ytdmbgjpidlllcaa.UtSmall
open Go Go.RowKit UtSpec UtShelf

theorem ret_int {k : IntKind} {a b : Int} (h : a = b) : Ending.returned (.int k a) = .returned (.int k b) := by rw [h]
theorem ret_bool {a b : Bool} (h : a = b) : Ending.returned (.bool a) = .returned (.bool b) := by rw [h]

end Go.Proofs.Ytdmbgjpidlllcaa.UtSmall

namespace Go.Proofs.Ytdmbgjpidlllcaa.UtRange
open Go Go.RowKit UtSpec UtShelf UtSmall

theorem drop_ne {s : ByteArray} {pos : Nat} (h : pos < s.size) : s.data.toList.drop pos ≠ [] := by
  intro e
  have := congrArg List.length e
  have e2 : s.data.size = s.size := rfl
  simp at this
  omega
/-- One rune on. -/
theorem rune_step {s : ByteArray} {pos r n : Nat} (h : pos < s.size) (hd : Utf8.decode s pos = (r, n)) :
    dec (s.data.toList.drop pos) = (r, n) ∧ runes (s.data.toList.drop pos) = (r, n) :: runes (s.data.toList.drop (pos + n)) ∧ 1 ≤ n ∧ pos + n ≤ s.size ∧ r ≤ 0x10FFFF ∧ sc r := by
  have hne := drop_ne h
  have hl := dec_len hne
  have hr := runes_cons hne
  have e2 : s.data.size = s.size := rfl
  rw [← decode_dec, hd] at hl hr
  rw [List.drop_drop] at hr
  rw [List.length_drop] at hl
  simp at hl
  refine ⟨by rw [← decode_dec, hd], hr, hl.1, by omega, ?_, hl.2.2⟩
  have := hl.2.2
  unfold sc at this
  omega
theorem drop_all {s : ByteArray} {pos : Nat} (h : s.size ≤ pos) : s.data.toList.drop pos = [] := by
  have e2 : s.data.size = s.size := rfl
  exact List.drop_eq_nil_of_le (by simp; omega)

/-- The program's look for the rune of broken bytes at a place. -/
theorem pref_any (s : ByteArray) (pos : Nat) (_hp : pos ≤ s.size) (w : World) :
    Calls Try.prog 23 #[.string (s.extract pos s.size), .string { data := #[239, 191, 189] }] w fun e w' => e = .returned (.bool (Lib.hasPrefix (s.data.toList.drop pos) [239, 191, 189])) ∧ w = w' := by
  refine (strings_HasPrefix _ _ w).mono ?_
  rintro e w' ⟨rfl, rfl⟩
  rw [Lib.extract_to_end]
  exact ⟨rfl, rfl⟩

def VRel (s : ByteArray) (w : World) (wr : World) : Prop :=
  ∃ pos : Nat, wr.heap[w.heap.size]? = some (.stringIter s pos) ∧ Below w.heap.size w wr ∧ Hid (vals (s.data.toList.drop pos) = vals s.data.toList) ∧ pos ≤ s.size

theorem vals_step {s : ByteArray} {pos r n : Nat} (hr : runes (s.data.toList.drop pos) = (r, n) :: runes (s.data.toList.drop (pos + n))) :
    vals (s.data.toList.drop pos) = (!bad (r, n) && vals (s.data.toList.drop (pos + n))) := by
  unfold vals
  rw [hr, List.all_cons]

set_option maxHeartbeats 1600000 in
/-- utf.Valid. -/
theorem valid_any (s : ByteArray) (w : World) (_hs : s.size ≤ maxLen) : Calls Try.prog 15 #[.string s] w fun e w' => e = .returned (.bool (vals s.data.toList)) ∧ Below w.heap.size w w' := by
  unfold maxLen at _hs
  go_enter Try.func15, Try.ntmps15
  go_wp2
  go_loopw [] (fun wr => VRel s w wr) (fun wr => s.size - wr.iterPos w.heap.size)
  case atStart => exact ⟨0, World.iter_heap w s 0, (Below.refl _ w).alloc (Nat.le_refl _) _, Lib.hid (by simp), Nat.zero_le _⟩
  case round =>
    obtain ⟨pos, hit, hb, hc, hp'⟩ := hrel
    by_cases hp : pos < s.size
    · obtain ⟨r, n, hd⟩ : ∃ r n, Utf8.decode s pos = (r, n) := ⟨_, _, rfl⟩
      have hnx : ∀ ty, (Instr.next (.pointer (some ⟨w.heap.size, 0, none⟩)) true ty).run Try.prog wr = _ := fun ty => Lib.run_next_any_at wr w.heap.size s pos ty hit hp
      rw [hd] at hnx
      obtain ⟨hdd, hr, hn1, hn2, _, _⟩ := rune_step hp hd
      have hpb := prefix_bad (drop_ne hp)
      rw [hdd] at hpb
      have hvs := vals_step hr
      rw [hc.out] at hvs
      have hit2 := Lib.iterAt_heap wr w.heap.size s pos (pos + n) hit
      have HB := Lib.hid (Lib.below_iterAt hb (k := w.heap.size) (Nat.le_refl _) s (pos + n))
      by_cases hbad : bad (r, n) = true
      · have hr5 : ((r : Int) == 65533) = true := by rw [hbad] at hpb; simp at hpb; simp; omega
        have HP : Hid (Lib.hasPrefix (s.data.toList.drop pos) [239, 191, 189] = false) := Lib.hid (by rw [hbad] at hpb; simp at hpb; exact hpb.2)
        have HV : Hid (vals s.data.toList = false) := Lib.hid (by rw [hvs, hbad]; rfl)
        clear hd hr hc hb hpb hvs hbad hdd
        go_wp2_with (go_at_call 23; refine (pref_any s pos hp' _).mono ?_; rw [HP.out]; rintro e w' ⟨rfl, rfl⟩)
        go_ret
        exact ⟨ret_bool HV.out.symm, HB.out⟩
      · have hbad' : bad (r, n) = false := by simpa using hbad
        have HV : Hid (vals (s.data.toList.drop (pos + n)) = vals s.data.toList) := Lib.hid (by rw [hvs, hbad']; rfl)
        by_cases hr6 : r = 65533
        · have hr5 : ((r : Int) == 65533) = true := by simp; omega
          have HP : Hid (Lib.hasPrefix (s.data.toList.drop pos) [239, 191, 189] = true) := Lib.hid (by rw [hbad', hr6] at hpb; simpa using hpb)
          clear hd hr hc hb hpb hvs hbad hdd hbad' hr6
          go_wp2_with (go_at_call 23; refine (pref_any s pos hp' _).mono ?_; rw [HP.out]; rintro e w' ⟨rfl, rfl⟩)
          go_roundw
          case rel => exact ⟨pos + n, hit2, HB.out, HV, hn2⟩
          case measure =>
            simp only [World.iterPos, hit2, hit]
            omega
        · have hr5 : ((r : Int) == 65533) = false := by simp; omega
          clear hd hr hc hb hpb hvs hbad hdd hbad' hr6
          go_wp2
          go_roundw
          case rel => exact ⟨pos + n, hit2, HB.out, HV, hn2⟩
          case measure =>
            simp only [World.iterPos, hit2, hit]
            omega
    · have hnx : ∀ ty, (Instr.next (.pointer (some ⟨w.heap.size, 0, none⟩)) true ty).run Try.prog wr = _ := fun ty => Lib.run_next_end_at wr w.heap.size s pos ty hit hp
      have HE : Hid (vals s.data.toList = true) := Lib.hid (by
        have h := hc.out
        rw [drop_all (by omega)] at h
        rw [← h]
        rfl)
      have HB := Lib.hid hb
      clear hc hb
      go_wp2
      go_ret
      exact ⟨ret_bool HE.out.symm, HB.out⟩
end Go.Proofs.Ytdmbgjpidlllcaa.UtRange

