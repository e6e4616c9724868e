/- The contract of varint.Put: for all lists of numbers it answers new memory that holds the shortest forms of the numbers, one behind the other; nothing that was there has changed. Condition: the list is so short that ten bytes a number are at most 2^47. -/
import Derived.Test.YtfojpbbmicmooaaRows
import Derived.Test.YtfojpbbmicmooaaWords
import Derived.Test.YtfojpbbmicmooaaPlain
import Derived.WalkKit
import Derived.LoopTactic
import Derived.OwnWalk
import Derived.Lib.Hide
import Derived.Outline
namespace Go.Proofs.Ytfojpbbmicmooaa.Put
open Go Go.RowKit Words Plain

theorem info_u8 : (Try.prog.info? 5).map (fun i => (i.zero, i.size, i.bytes)) = some (some (.int .u8 0), 1, 1) := by kernel_rfl

theorem own_slice {w : World} {base n : Nat} {e : TypeId} {v : Value} {xs : List Value} (h : w.ownsRow base e 1 v n xs) : ∃ A c, v = .slice A n c ∧ n ≤ c ∧ c ≤ maxLen ∧ (n = 0 ∨ A ≠ none) := by
  rcases h.2 with ⟨rfl, rfl⟩ | ⟨g, cap, cur, rfl, _, _, h1, h2, _⟩
  · exact ⟨none, 0, rfl, by omega, by unfold maxLen; omega, .inl rfl⟩
  · exact ⟨_, _, rfl, h1, h2, .inr (by simp)⟩

theorem new1 (w : World) (u : Value) (e : TypeId) : ∀ j x, [u][j]? = some x → (w.alloc (.cells #[u] e)).cell? ((⟨w.heap.size, 0, none⟩ : Addr).add j) = some x := by
  intro j x hj
  match j, hj with
  | 0, hj => simp at hj; subst hj; simp [Addr.add]
theorem own_lt {w : World} {base n : Nat} {e : TypeId} {v : Value} {xs : List Value} (h : w.ownsRow base e 1 v n xs) : ∀ k, v.ownBlock = some k → base ≤ k := fun k hk => (h.lt k hk).1
theorem step_below {w wr w2 : World} {o : Obj} {n : Nat} {e : TypeId} {v : Value} {xs : List Value} (h : wr.ownsRow w.heap.size e 1 v n xs) (hb : Below w.heap.size w wr) (hg : (wr.alloc o).grownBy w2 v.ownBlock) : Below w.heap.size w w2 :=
  (hb.alloc hb.size o).grown hg (by have := hb.size; simp; omega) (own_lt h)
theorem own_snoc {w : World} {base : Nat} {e : TypeId} {v : Value} {d l : List UInt8} {c : UInt8} (h : w.ownsRow base e 1 v (d.length + l.length + 1) (d.map B8 ++ (l.map B8 ++ [.int .u8 (c.toNat : Int)]))) :
    w.ownsRow base e 1 v (d ++ (l ++ [c])).length ((d ++ (l ++ [c])).map B8) := by
  simpa [B8, Nat.add_assoc] using h

/-- The loop over the list: k numbers are written. -/
def Outer (l : List UInt64) (H : Nat) (w : World) (v i : Value) (wr : World) : Prop := ∃ k : Nat, k ≤ l.length ∧ i = .int .i64 k ∧
  wr.ownsRow H 5 1 v (encs (l.take k)).length ((encs (l.take k)).map B8) ∧ Below H w wr
/-- The loop over one number: 'pre' is written, x is left. -/
def Inner (n : Nat) (d : List UInt8) (H : Nat) (w : World) (v y : Value) (wr : World) : Prop := ∃ (x : Nat) (pre : List UInt8), x < 18446744073709551616 ∧ y = .int .u64 x ∧
  Hid (pre ++ Lib.uvarint x = Lib.uvarint n) ∧ wr.ownsRow H 5 1 v (d ++ pre).length ((d ++ pre).map B8) ∧ Below H w wr

set_option maxHeartbeats 1600000 in
set_option maxRecDepth 100000 in
theorem put_any (l : List UInt64) (A : Option Addr) (c : Nat) (w : World) (hr : Rd w w.heap.size A (l.map B64)) (hl : 10 * l.length ≤ 140737488355328) :
    Calls Try.prog 15 #[.slice A l.length c] w fun e w' => ∃ v, e = .returned v ∧ w'.ownsRow w.heap.size 5 1 v (encs l).length ((encs l).map B8) ∧ Below w.heap.size w w' := by
  obtain ⟨i0, hi, hz0, hz1, hz2⟩ := info_parts info_u8
  have HE := fun k => Lib.hid (encs_length (l.take k))
  go_enter Try.func15, Try.ntmps15
  go_wp2_with (refine wpList_make_own _ rfl _ _ 24 rfl w.heap.size 5 i0 (.int .u8 0) 1 Try.underlying24 hi hz0 hz1 .i64 .i64 _ l.length rfl rfl rfl (by rw [hz2]; omega) (by unfold maxLen; omega) (Nat.le_refl _) ?_; intro w1 hown1 hg1)
  have hb1 : Below w.heap.size w w1 := (Below.refl _ _).grown hg1 (Nat.le_refl _) (by simp)
  clear hg1
  go_loopw [3, 11] (fun v i wr => Outer l w.heap.size w v i wr) (fun _ i _ => l.length - (intOf i).toNat)
  case atStart => exact ⟨0, by omega, rfl, by simpa [encs] using hown1, hb1⟩
  case round =>
    obtain ⟨k, hk, rfl, hown, hb⟩ := hrel
    clear hown1 hb1 w1
    by_cases hlt : k < l.length
    · obtain ⟨b, off, rfl, hbl, hcell⟩ := hr (by simp; omega)
      have hcx := (hb.cell (p := ⟨b, off + k, none⟩) hbl).trans (cell64 hcell hlt)
      have hn64 : l[k].toNat < 18446744073709551616 := l[k].toNat_lt
      have hsn := encs_snoc hlt
      have hle := encs_length (l.take k)
      have hlk : (l.take k).length ≤ k := List.length_take_le _ _
      have hd10 : (encs (l.take k)).length ≤ 10 * k := by omega
      generalize l[k].toNat = n at *
      generalize encs (l.take k) = d at *
      have HS := Lib.hid hsn
      clear hsn hcell hle hlk hr
      go_wp2
      obtain ⟨wo, rfl⟩ : ∃ wo : World, wo = wr := ⟨_, rfl⟩
      go_loopw [3, 5] (fun v y wr => Inner n d w.heap.size w v y wr) (fun _ y _ => (intOf y).toNat)
      case atStart => exact ⟨n, [], hn64, rfl, rfl, by simpa using hown, hb⟩
      case round =>
        obtain ⟨x, pre, hx, rfl, hpre, hown, hb⟩ := hrel
        have hpl : pre.length + (Lib.uvarint x).length ≤ 10 := by
          have h1 := congrArg List.length hpre.out
          have h2 := Lib.uvarint_length64 hn64
          rw [List.length_append] at h1
          omega
        have hup := Lib.uvarint_pos x
        have hdl : (d ++ pre).length + 1 ≤ 140737488355328 := by rw [List.length_append]; omega
        have HO := Lib.hid hown
        by_cases hx128 : 128 ≤ x
        · have hbt : decide (128 ≤ (x : Int)) = true := by simp; omega
          clear hown hup hpl
          go_wp2_with (at_builtin; refine wpList_append_own _ rfl (.tmp 17) (.tmp 21) 24 rfl w.heap.size 5 i0 (.int .u8 0) 1 1 Try.underlying24 hi hz0 hz1 hz2 rfl (by decide) _ _ _ rfl (HO.out.alloc _) ⟨wr.heap.size, 0, none⟩ 1 1 [.int .u8 (bits .or .u8 ((x : Int) % 256) 128)] rfl rfl ?c1 ?c2 ?c3 ?c4 ?c5 ?_)
          case c1 => exact new1 _ _ _
          case c2 => intro u hu; simp at hu; subst hu; rfl
          case c3 => unfold maxLen; omega
          case c4 => omega
          case c5 => have := hb.size; simp; omega
          intro v' w2 hown2 hg2 _
          have hb2 := step_below HO.out hb hg2
          rw [or128'] at hown2
          have hown3 := own_snoc hown2
          clear hown2 hg2 HO hb
          go_wp2
          go_roundw
          case rel => exact ⟨x / 128, pre ++ [(x % 128 + 128).toUInt8], by omega, by go_num, by rw [List.append_assoc]; rw [Lib.uvarint_big hx128] at hpre; exact hpre, hown3, hb2⟩
          case measure => simp [intOf]; omega
        · have hbt : decide (128 ≤ (x : Int)) = false := by simp; omega
          clear hown hup hpl
          go_wp2_with (at_builtin; refine wpList_append_own _ rfl (.tmp 25) (.tmp 28) 24 rfl w.heap.size 5 i0 (.int .u8 0) 1 1 Try.underlying24 hi hz0 hz1 hz2 rfl (by decide) _ _ _ rfl (HO.out.alloc _) ⟨wr.heap.size, 0, none⟩ 1 1 [.int .u8 (x : Int)] rfl rfl ?d1 ?d2 ?d3 ?d4 ?d5 ?_)
          case d1 => exact new1 _ _ _
          case d2 => intro u hu; simp at hu; subst hu; rfl
          case d3 => unfold maxLen; omega
          case d4 => omega
          case d5 => have := hb.size; simp; omega
          intro v' w2 hown2 hg2 _
          have hb2 := step_below HO.out hb hg2
          rw [toUInt8_small x (by omega)] at hown2
          have hown3 := own_snoc hown2
          rw [← Lib.uvarint_small (by omega), hpre.out, ← HS.out] at hown3
          clear hown2 hg2 HO hb
          go_wp2
          go_roundw
          case rel => exact ⟨k + 1, by omega, by go_num, hown3, hb2⟩
          case measure => simp [intOf]; omega
    · obtain rfl : k = l.length := by omega
      go_wp2
      go_ret
      rw [List.take_length] at hown
      exact ⟨_, rfl, hown, hb⟩

end Go.Proofs.Ytfojpbbmicmooaa.Put
