/- What the library tells of strings.Builder (Grow, WriteRune, String), of utf8.ValidRune and of strings.HasPrefix, at this program: each an application of a contract that is proved over any program; the tables of numbers are this program's. Conditions: those that stand at each. · The contracts of utf.in, utf.Small, utf.Word and of the document's Small and Word: small forms and word runes. Conditions: 32 bits, where the small form is asked for. · The contracts of utf.Valid and utf.Count: whether a text is valid UTF-8, and how many runes it has. Condition: a text of a length that the model has. -/
import Derived.Shelf.Strings.Builder1
import Derived.Shelf.Strings.Builder2
import Derived.Shelf.Small.Utf8
import Derived.Shelf.Strings.BuilderF
import Derived.Shelf.Strings.BuilderK
import Derived.Shelf.Strings.BuilderRune
import Derived.Shelf.Strings.Prefix
import Derived.Test.YtkgmcabamhpjhaaGreatProg
import Derived.Test.YtkgmcabamhpjhaaGreatRows
import Derived.Test.YtkgmcabamhpjhaaGreatUtTx
import Derived.WalkKit
import Derived.IntWalk
import Derived.Outline
import Derived.BigCall
import Derived.Lib.Hide
import Derived.Lib.IndexBytes
import Derived.Lib.OthersKept
namespace Go.Proofs.YtkgmcabamhpjhaaGreat.UtShelf
open Go Go.Proofs Go.Shelf Go.RowKit Go.Lib
def lays169_ren : Go.Shelf.Ren := ⟨fun | 169 => 129 | n => n, fun | 70 => 150 | 9 => 9 | 0 => 0 | 72 => 152 | 37 => 102 | 127 => 140 | 3 => 3 | 5 => 5 | n => n, fun | n => n⟩
theorem lays169 : Go.Proofs.Lays.n169 Tryz.prog lays169_ren := {
  mixed := by kernel_rfl
  f169 := Tryz.func129.trans (congrArg some (by kernel_rfl))
  t0 := Tryz.underlying0
  a0 := Tryz.isAgg0
  z0 := Tryz.sizeOf0
  v0 := Tryz.zeroValue0
  t3 := Tryz.underlying3
  a3 := Tryz.isAgg3
  z3 := Tryz.sizeOf3
  v3 := Tryz.zeroValue3
  t9 := Tryz.underlying9
  a9 := Tryz.isAgg9
  z9 := Tryz.sizeOf9
  v9 := Tryz.zeroValue9
  t37 := Tryz.underlying102
  a37 := Tryz.isAgg102
  z37 := Tryz.sizeOf102
  v37 := Tryz.zeroValue102
  t70 := Tryz.underlying150
  a70 := Tryz.isAgg150
  z70 := Tryz.sizeOf150
  v70 := Tryz.zeroValue150
  t72 := Tryz.underlying152
  a72 := Tryz.isAgg152
  z72 := Tryz.sizeOf152
  v72 := Tryz.zeroValue152
  t127 := Tryz.underlying140
  a127 := Tryz.isAgg140
  z127 := Tryz.sizeOf140
  v127 := Tryz.zeroValue140 }
theorem Builder_Extra_169 : Builder.Extra Tryz.prog lays169_ren := {
  sizeBuilder := by kernel_rfl
  liesBuilder := by kernel_rfl
  t5 := Tryz.underlying5
  a5 := Tryz.isAgg5
  z5 := Tryz.sizeOf5
  v5 := Tryz.zeroValue5
  infoByte := by kernel_rfl
  cellsByte := by kernel_rfl
  sizeByte := by kernel_rfl
  neB5 := by decide }
theorem Builder_String_any_k (B b : Nat) (l : List UInt8) (w : World) (h : Lib.IsBuilderF 152 5 B b (Lib.byteCells l) w) (hBw : B ≤ w.heap.size) :
    Calls Tryz.prog 129 #[.pointer (some ⟨b, 0, none⟩)] w fun e w' => e = .returned (.string ⟨l.toArray⟩) ∧ (Lib.IsBuilderF 152 5 B b (Lib.byteCells l) w' ∧ Below B w w' ∧ Lib.OthersKept 5 (some b) w w') := Any.Builder_String_any_k lays169 Builder_Extra_169 B b l w h hBw
def lays165_ren : Go.Shelf.Ren := ⟨fun | 165 => 126 | 240 => 144 | 241 => 145 | 276 => 151 | 277 => 152 | n => n, fun | 70 => 150 | 3 => 3 | 0 => 0 | 4 => 4 | 9 => 9 | 20 => 20 | 72 => 152 | 37 => 102 | 164 => 175 | 5 => 5 | n => n, fun | n => n⟩
theorem lays165 : Go.Proofs.Lays.n165 Tryz.prog lays165_ren := {
  mixed := by kernel_rfl
  f165 := Tryz.func126.trans (congrArg some (by kernel_rfl))
  f240 := Tryz.func144.trans (congrArg some (by kernel_rfl))
  f241 := Tryz.func145.trans (congrArg some (by kernel_rfl))
  f276 := Tryz.func151.trans (congrArg some (by kernel_rfl))
  f277 := Tryz.func152.trans (congrArg some (by kernel_rfl))
  t0 := Tryz.underlying0
  a0 := Tryz.isAgg0
  z0 := Tryz.sizeOf0
  v0 := Tryz.zeroValue0
  t3 := Tryz.underlying3
  a3 := Tryz.isAgg3
  z3 := Tryz.sizeOf3
  v3 := Tryz.zeroValue3
  t4 := Tryz.underlying4
  a4 := Tryz.isAgg4
  z4 := Tryz.sizeOf4
  v4 := Tryz.zeroValue4
  t9 := Tryz.underlying9
  a9 := Tryz.isAgg9
  z9 := Tryz.sizeOf9
  v9 := Tryz.zeroValue9
  t20 := Tryz.underlying20
  a20 := Tryz.isAgg20
  z20 := Tryz.sizeOf20
  v20 := Tryz.zeroValue20
  t37 := Tryz.underlying102
  a37 := Tryz.isAgg102
  z37 := Tryz.sizeOf102
  v37 := Tryz.zeroValue102
  t70 := Tryz.underlying150
  a70 := Tryz.isAgg150
  z70 := Tryz.sizeOf150
  v70 := Tryz.zeroValue150
  t72 := Tryz.underlying152
  a72 := Tryz.isAgg152
  z72 := Tryz.sizeOf152
  v72 := Tryz.zeroValue152
  t164 := Tryz.underlying175
  a164 := Tryz.isAgg175
  z164 := Tryz.sizeOf175
  v164 := Tryz.zeroValue175 }
theorem Builder_Extra_165 : Builder.Extra Tryz.prog lays165_ren := {
  sizeBuilder := by kernel_rfl
  liesBuilder := by kernel_rfl
  t5 := Tryz.underlying5
  a5 := Tryz.isAgg5
  z5 := Tryz.sizeOf5
  v5 := Tryz.zeroValue5
  infoByte := by kernel_rfl
  cellsByte := by kernel_rfl
  sizeByte := by kernel_rfl
  neB5 := by decide }
theorem Builder_Grow_fresh (B b n : Nat) (w : World) (hB : B ≤ b) (hbk : w.heap[b]? = some (.cells #[.pointer none, .slice none 0 0] 152 (0, 0))) (hBw : B ≤ w.heap.size) (hn : n ≤ 281474976710656) :
    Calls Tryz.prog 126 #[.pointer (some ⟨b, 0, none⟩), .int .i64 n] w fun e w' => e = .returned (.tuple #[]) ∧ (Lib.BuilderAt 152 5 B b (.pointer (some ⟨b, 0, none⟩)) [] w' ∧ Below B w w') := Any.Builder_Grow_fresh lays165 Builder_Extra_165 B b n w hB hbk hBw hn
def lays119_ren : Go.Shelf.Ren := ⟨fun | 119 => 125 | n => n, fun | 21 => 21 | 4 => 4 | n => n, fun | n => n⟩
theorem lays119 : Go.Proofs.Lays.n119 Tryz.prog lays119_ren := {
  mixed := by kernel_rfl
  f119 := Tryz.func125.trans (congrArg some (by kernel_rfl))
  t4 := Tryz.underlying4
  a4 := Tryz.isAgg4
  z4 := Tryz.sizeOf4
  v4 := Tryz.zeroValue4
  t21 := Tryz.underlying21
  a21 := Tryz.isAgg21
  z21 := Tryz.sizeOf21
  v21 := Tryz.zeroValue21 }
theorem utf8_ValidRune (r : Int) (w : World) :
    Calls Tryz.prog 125 #[.int .i32 r] w fun e w' => e = .returned (.bool (Lib.validRune r)) ∧ w' = w := Any.utf8_ValidRune lays119 r w
def lays168_ren : Go.Shelf.Ren := ⟨fun | 168 => 127 | 240 => 144 | 242 => 146 | 276 => 151 | 278 => 153 | n => n, fun | 0 => 0 | 3 => 3 | 4 => 4 | 5 => 5 | 9 => 9 | 20 => 20 | 21 => 21 | 37 => 102 | 46 => 53 | 51 => 122 | 70 => 150 | 72 => 152 | 75 => 155 | 80 => 158 | 164 => 175 | n => n, fun | n => n⟩
theorem lays168 : Go.Proofs.Lays.n168 Tryz.prog lays168_ren := {
  mixed := by kernel_rfl
  f168 := Tryz.func127.trans (congrArg some (by kernel_rfl))
  f240 := Tryz.func144.trans (congrArg some (by kernel_rfl))
  f242 := Tryz.func146.trans (congrArg some (by kernel_rfl))
  f276 := Tryz.func151.trans (congrArg some (by kernel_rfl))
  f278 := Tryz.func153.trans (congrArg some (by kernel_rfl))
  t0 := Tryz.underlying0
  a0 := Tryz.isAgg0
  z0 := Tryz.sizeOf0
  v0 := Tryz.zeroValue0
  t3 := Tryz.underlying3
  a3 := Tryz.isAgg3
  z3 := Tryz.sizeOf3
  v3 := Tryz.zeroValue3
  t4 := Tryz.underlying4
  a4 := Tryz.isAgg4
  z4 := Tryz.sizeOf4
  v4 := Tryz.zeroValue4
  t5 := Tryz.underlying5
  a5 := Tryz.isAgg5
  z5 := Tryz.sizeOf5
  v5 := Tryz.zeroValue5
  t9 := Tryz.underlying9
  a9 := Tryz.isAgg9
  z9 := Tryz.sizeOf9
  v9 := Tryz.zeroValue9
  t20 := Tryz.underlying20
  a20 := Tryz.isAgg20
  z20 := Tryz.sizeOf20
  v20 := Tryz.zeroValue20
  t21 := Tryz.underlying21
  a21 := Tryz.isAgg21
  z21 := Tryz.sizeOf21
  v21 := Tryz.zeroValue21
  t37 := Tryz.underlying102
  a37 := Tryz.isAgg102
  z37 := Tryz.sizeOf102
  v37 := Tryz.zeroValue102
  t46 := Tryz.underlying53
  a46 := Tryz.isAgg53
  z46 := Tryz.sizeOf53
  v46 := Tryz.zeroValue53
  t51 := Tryz.underlying122
  a51 := Tryz.isAgg122
  z51 := Tryz.sizeOf122
  v51 := Tryz.zeroValue122
  t70 := Tryz.underlying150
  a70 := Tryz.isAgg150
  z70 := Tryz.sizeOf150
  v70 := Tryz.zeroValue150
  t72 := Tryz.underlying152
  a72 := Tryz.isAgg152
  z72 := Tryz.sizeOf152
  v72 := Tryz.zeroValue152
  t75 := Tryz.underlying155
  a75 := Tryz.isAgg155
  z75 := Tryz.sizeOf155
  v75 := Tryz.zeroValue155
  t164 := Tryz.underlying175
  a164 := Tryz.isAgg175
  z164 := Tryz.sizeOf175
  v164 := Tryz.zeroValue175 }
theorem Builder_Extra_168 : Builder.Extra Tryz.prog lays168_ren := {
  sizeBuilder := by kernel_rfl
  liesBuilder := by kernel_rfl
  t5 := Tryz.underlying5
  a5 := Tryz.isAgg5
  z5 := Tryz.sizeOf5
  v5 := Tryz.zeroValue5
  infoByte := by kernel_rfl
  cellsByte := by kernel_rfl
  sizeByte := by kernel_rfl
  neB5 := by decide }
theorem Builder_WriteRune_k (B b : Nat) (bs : List Value) (r : Int) (hr0 : -2147483648 ≤ r) (hr1 : r ≤ 2147483647) (w : World) (h : Lib.IsBuilderF 152 5 B b bs w) (hlen : bs.length + 4 ≤ 140737488355328) (hBw : B ≤ w.heap.size) :
    Calls Tryz.prog 127 #[.pointer (some ⟨b, 0, none⟩), .int .i32 r] w fun e w' => e = .returned (.tuple #[.int .i64 (Lib.runeCells r).length, .nilIface]) ∧ (Lib.BuilderAtF 152 5 B b (.pointer (some ⟨b, 0, none⟩)) (bs ++ Lib.runeCells r) w' ∧ Below B w w' ∧ Lib.OthersKept 5 (some b) w w') := Any.Builder_WriteRune_k lays168 Builder_Extra_168 B b bs r hr0 hr1 w h hlen hBw
def lays99_ren : Go.Shelf.Ren := ⟨fun | 99 => 74 | 206 => 115 | n => n, fun | 9 => 9 | 4 => 4 | 3 => 3 | n => n, fun | n => n⟩
theorem lays99 : Go.Proofs.Lays.n99 Tryz.prog lays99_ren := {
  mixed := by kernel_rfl
  f99 := Tryz.func74.trans (congrArg some (by kernel_rfl))
  f206 := Tryz.func115.trans (congrArg some (by kernel_rfl))
  t3 := Tryz.underlying3
  a3 := Tryz.isAgg3
  z3 := Tryz.sizeOf3
  v3 := Tryz.zeroValue3
  t4 := Tryz.underlying4
  a4 := Tryz.isAgg4
  z4 := Tryz.sizeOf4
  v4 := Tryz.zeroValue4
  t9 := Tryz.underlying9
  a9 := Tryz.isAgg9
  z9 := Tryz.sizeOf9
  v9 := Tryz.zeroValue9 }
theorem strings_HasPrefix (s p : ByteArray) (w : World) :
    Calls Tryz.prog 74 #[.string s, .string p] w fun e w' => e = .returned (.bool (Lib.hasPrefix s.data.toList p.data.toList)) ∧ w' = w := Any.strings_HasPrefix lays99 s p w
end Go.Proofs.YtkgmcabamhpjhaaGreat.UtShelf

namespace Go.Proofs.YtkgmcabamhpjhaaGreat.UtSmall
open Go Go.RowKit UtSpec UtShelf

theorem ret_int {k : IntKind} {a b : Int} (h : a = b) : Ending.returned (.int k a) = .returned (.int k b) := by rw [h]
theorem ret_bool {a b : Bool} (h : a = b) : Ending.returned (.bool a) = .returned (.bool b) := by rw [h]

/-- utf.in. -/
theorem in_any (r a b : Int) (w : World) : Calls Tryz.prog 124 #[.int .i32 r, .int .i32 a, .int .i32 b] w fun e w' => e = .returned (.bool (inB r a b)) ∧ w = w' := by
  by_cases h1 : a ≤ r
  · by_cases h2 : r ≤ b
    · have e : inB r a b = true := by unfold inB; simp [h1, h2]
      rw [e]
      go_enter Tryz.func124, Tryz.ntmps124
      go_wp2
      go_ret
      exact ⟨rfl, rfl⟩
    · have e : inB r a b = false := by unfold inB; simp [h2]
      rw [e]
      go_enter Tryz.func124, Tryz.ntmps124
      go_wp2
      go_ret
      exact ⟨rfl, rfl⟩
  · have e : inB r a b = false := by unfold inB; simp [h1]
    rw [e]
    go_enter Tryz.func124, Tryz.ntmps124
    go_wp2
    go_ret
    exact ⟨rfl, rfl⟩

theorem inB_true {r a b : Int} (h : inB r a b = true) : a ≤ r ∧ r ≤ b := by unfold inB at h; simpa using h
theorem inB_false {r a b : Int} (h : inB r a b = false) : r < a ∨ b < r := by unfold inB at h; simp at h; omega

set_option maxHeartbeats 800000 in
/-- utf.Small. -/
theorem small_any (r : Int) (w : World) (h0 : -2147483648 ≤ r) (h1 : r ≤ 2147483647) : Calls Tryz.prog 128 #[.int .i32 r] w fun e w' => e = .returned (.int .i32 (small r)) ∧ w = w' := by
  go_enter Tryz.func128, Tryz.ntmps128
  go_wp2_with (go_at_call 124; refine (in_any _ _ _ _).mono ?_; rintro e w' ⟨rfl, rfl⟩)
  all_goals
    go_ret
    refine ⟨ret_int ?_, rfl⟩
    simp only [inB, Bool.and_eq_true, Bool.and_eq_false_iff, decide_eq_true_eq, decide_eq_false_iff_not, beq_iff_eq, beq_eq_false_iff_ne, ne_eq] at *
    try unfold wrap32
    unfold small
    repeat' split
  all_goals omega

set_option maxHeartbeats 800000 in
/-- utf.Word. -/
theorem word_any (r : Int) (w : World) : Calls Tryz.prog 101 #[.int .i32 r] w fun e w' => e = .returned (.bool (word r)) ∧ w = w' := by
  go_enter Tryz.func101, Tryz.ntmps101
  go_wp2_with (first
    | (go_at_call 124; refine (in_any _ _ _ _).mono ?_; rintro e w' ⟨rfl, rfl⟩)
    | (go_at_call 125; refine (utf8_ValidRune _ _).mono ?_; rintro e w' ⟨rfl, rfl⟩))
  all_goals
    go_ret
    refine ⟨ret_bool ?_, rfl⟩
    simp only [inB, Bool.and_eq_true, Bool.and_eq_false_iff, decide_eq_true_eq, decide_eq_false_iff_not, beq_iff_eq, beq_eq_false_iff_ne, ne_eq] at *
    unfold word
    repeat' split
  all_goals first | rfl | (exfalso; omega)

set_option maxHeartbeats 800000 in
/-- The document's Small. -/
theorem refsmall_any (r : Int) (w : World) (h0 : -2147483648 ≤ r) (h1 : r ≤ 2147483647) : Calls Tryz.prog 67 #[.int .i32 r] w fun e w' => e = .returned (.int .i32 (small r)) ∧ w = w' := by
  go_enter Tryz.func67, Tryz.ntmps67
  go_wp2
  all_goals
    go_ret
    refine ⟨ret_int ?_, rfl⟩
    try simp only [beq_iff_eq, beq_eq_false_iff_ne, ne_eq] at *
    try unfold wrap32
    unfold small
    repeat' split
  all_goals omega

set_option maxHeartbeats 1600000 in
set_option maxRecDepth 100000 in
/-- The document's Word. -/
theorem refword_any (r : Int) (w : World) : Calls Tryz.prog 65 #[.int .i32 r] w fun e w' => e = .returned (.bool (word r)) ∧ w = w' := by
  go_enter Tryz.func65, Tryz.ntmps65
  go_wp2
  all_goals
    go_ret
    refine ⟨ret_bool ?_, rfl⟩
    try simp only [beq_iff_eq, beq_eq_false_iff_ne, ne_eq] at *
    unfold word
    repeat' split
  all_goals first | rfl | (exfalso; omega) | (rw [Bool.eq_iff_iff]; simp; omega)
end Go.Proofs.YtkgmcabamhpjhaaGreat.UtSmall

namespace Go.Proofs.YtkgmcabamhpjhaaGreat.UtRange
open Go Go.RowKit UtSpec UtShelf UtSmall

theorem drop_ne {s : ByteArray} {pos : Nat} (h : pos < s.size) : s.data.toList.drop pos ≠ [] := by
  intro e
  have := congrArg List.length e
  have e2 : s.data.size = s.size := rfl
  simp at this
  omega
/-- One rune on. -/
theorem rune_step {s : ByteArray} {pos r n : Nat} (h : pos < s.size) (hd : Utf8.decode s pos = (r, n)) :
    dec (s.data.toList.drop pos) = (r, n) ∧ runes (s.data.toList.drop pos) = (r, n) :: runes (s.data.toList.drop (pos + n)) ∧ 1 ≤ n ∧ pos + n ≤ s.size ∧ r ≤ 0x10FFFF ∧ sc r := by
  have hne := drop_ne h
  have hl := dec_len hne
  have hr := runes_cons hne
  have e2 : s.data.size = s.size := rfl
  rw [← decode_dec, hd] at hl hr
  rw [List.drop_drop] at hr
  rw [List.length_drop] at hl
  simp at hl
  refine ⟨by rw [← decode_dec, hd], hr, hl.1, by omega, ?_, hl.2.2⟩
  have := hl.2.2
  unfold sc at this
  omega
theorem drop_all {s : ByteArray} {pos : Nat} (h : s.size ≤ pos) : s.data.toList.drop pos = [] := by
  have e2 : s.data.size = s.size := rfl
  exact List.drop_eq_nil_of_le (by simp; omega)

/-- The program's look for the rune of broken bytes at a place. -/
theorem pref_any (s : ByteArray) (pos : Nat) (_hp : pos ≤ s.size) (w : World) :
    Calls Tryz.prog 74 #[.string (s.extract pos s.size), .string { data := #[239, 191, 189] }] w fun e w' => e = .returned (.bool (Lib.hasPrefix (s.data.toList.drop pos) [239, 191, 189])) ∧ w = w' := by
  refine (strings_HasPrefix _ _ w).mono ?_
  rintro e w' ⟨rfl, rfl⟩
  rw [Lib.extract_to_end]
  exact ⟨rfl, rfl⟩

def VRel (s : ByteArray) (w : World) (wr : World) : Prop :=
  ∃ pos : Nat, wr.heap[w.heap.size]? = some (.stringIter s pos) ∧ Below w.heap.size w wr ∧ Hid (vals (s.data.toList.drop pos) = vals s.data.toList) ∧ pos ≤ s.size

theorem vals_step {s : ByteArray} {pos r n : Nat} (hr : runes (s.data.toList.drop pos) = (r, n) :: runes (s.data.toList.drop (pos + n))) :
    vals (s.data.toList.drop pos) = (!bad (r, n) && vals (s.data.toList.drop (pos + n))) := by
  unfold vals
  rw [hr, List.all_cons]

set_option maxHeartbeats 1600000 in
/-- utf.Valid. -/
theorem valid_any (s : ByteArray) (w : World) (_hs : s.size ≤ maxLen) : Calls Tryz.prog 48 #[.string s] w fun e w' => e = .returned (.bool (vals s.data.toList)) ∧ Below w.heap.size w w' := by
  unfold maxLen at _hs
  go_enter Tryz.func48, Tryz.ntmps48
  go_wp2
  go_loopw [] (fun wr => VRel s w wr) (fun wr => s.size - wr.iterPos w.heap.size)
  case atStart => exact ⟨0, World.iter_heap w s 0, (Below.refl _ w).alloc (Nat.le_refl _) _, Lib.hid (by simp), Nat.zero_le _⟩
  case round =>
    obtain ⟨pos, hit, hb, hc, hp'⟩ := hrel
    by_cases hp : pos < s.size
    · obtain ⟨r, n, hd⟩ : ∃ r n, Utf8.decode s pos = (r, n) := ⟨_, _, rfl⟩
      have hnx : ∀ ty, (Instr.next (.pointer (some ⟨w.heap.size, 0, none⟩)) true ty).run Tryz.prog wr = _ := fun ty => Lib.run_next_any_at wr w.heap.size s pos ty hit hp
      rw [hd] at hnx
      obtain ⟨hdd, hr, hn1, hn2, _, _⟩ := rune_step hp hd
      have hpb := prefix_bad (drop_ne hp)
      rw [hdd] at hpb
      have hvs := vals_step hr
      rw [hc.out] at hvs
      have hit2 := Lib.iterAt_heap wr w.heap.size s pos (pos + n) hit
      have HB := Lib.hid (Lib.below_iterAt hb (k := w.heap.size) (Nat.le_refl _) s (pos + n))
      by_cases hbad : bad (r, n) = true
      · have hr5 : ((r : Int) == 65533) = true := by rw [hbad] at hpb; simp at hpb; simp; omega
        have HP : Hid (Lib.hasPrefix (s.data.toList.drop pos) [239, 191, 189] = false) := Lib.hid (by rw [hbad] at hpb; simp at hpb; exact hpb.2)
        have HV : Hid (vals s.data.toList = false) := Lib.hid (by rw [hvs, hbad]; rfl)
        clear hd hr hc hb hpb hvs hbad hdd
        go_wp2_with (go_at_call 74; refine (pref_any s pos hp' _).mono ?_; rw [HP.out]; rintro e w' ⟨rfl, rfl⟩)
        go_ret
        exact ⟨ret_bool HV.out.symm, HB.out⟩
      · have hbad' : bad (r, n) = false := by simpa using hbad
        have HV : Hid (vals (s.data.toList.drop (pos + n)) = vals s.data.toList) := Lib.hid (by rw [hvs, hbad']; rfl)
        by_cases hr6 : r = 65533
        · have hr5 : ((r : Int) == 65533) = true := by simp; omega
          have HP : Hid (Lib.hasPrefix (s.data.toList.drop pos) [239, 191, 189] = true) := Lib.hid (by rw [hbad', hr6] at hpb; simpa using hpb)
          clear hd hr hc hb hpb hvs hbad hdd hbad' hr6
          go_wp2_with (go_at_call 74; refine (pref_any s pos hp' _).mono ?_; rw [HP.out]; rintro e w' ⟨rfl, rfl⟩)
          go_roundw
          case rel => exact ⟨pos + n, hit2, HB.out, HV, hn2⟩
          case measure =>
            simp only [World.iterPos, hit2, hit]
            omega
        · have hr5 : ((r : Int) == 65533) = false := by simp; omega
          clear hd hr hc hb hpb hvs hbad hdd hbad' hr6
          go_wp2
          go_roundw
          case rel => exact ⟨pos + n, hit2, HB.out, HV, hn2⟩
          case measure =>
            simp only [World.iterPos, hit2, hit]
            omega
    · have hnx : ∀ ty, (Instr.next (.pointer (some ⟨w.heap.size, 0, none⟩)) true ty).run Tryz.prog wr = _ := fun ty => Lib.run_next_end_at wr w.heap.size s pos ty hit hp
      have HE : Hid (vals s.data.toList = true) := Lib.hid (by
        have h := hc.out
        rw [drop_all (by omega)] at h
        rw [← h]
        rfl)
      have HB := Lib.hid hb
      clear hc hb
      go_wp2
      go_ret
      exact ⟨ret_bool HE.out.symm, HB.out⟩
end Go.Proofs.YtkgmcabamhpjhaaGreat.UtRange

