/- The contract of varint.Put: for all lists of numbers it answers new memory that holds the shortest forms of the numbers, one behind the other; nothing that was there has changed. Condition: the list is so short that ten bytes a number are at most 2^47. · The contract of the document's own writing of one number: new memory that holds its shortest form; nothing that was there has changed. No conditions but 64 bits. · 'append(out, xs...)' onto a row of the call's own, the source nil, empty or not (told by 'Rd'); elements of one cell. Of no program. Condition: the new length times the element's bytes is at most 2^47. -/
import Derived.Test.YtjninegpaoblfaaGreatDoorRows
import Derived.Test.YtjninegpaoblfaaGreatDoorWords
import Derived.Test.YtjninegpaoblfaaGreatDoorPlain
import Derived.WalkKit
import Derived.LoopTactic
import Derived.OwnWalk
import Derived.Lib.Hide
import Derived.Outline
import Derived.Maps.AppendAt
import Derived.RegionTactic
namespace Go.Proofs.YtjninegpaoblfaaGreatDoor.Put
open Go Go.RowKit Words Plain

theorem info_u8 : (Tryz.prog.info? 5).map (fun i => (i.zero, i.size, i.bytes)) = some (some (.int .u8 0), 1, 1) := by kernel_rfl

theorem own_slice {w : World} {base n : Nat} {e : TypeId} {v : Value} {xs : List Value} (h : w.ownsRow base e 1 v n xs) : ∃ A c, v = .slice A n c ∧ n ≤ c ∧ c ≤ maxLen ∧ (n = 0 ∨ A ≠ none) := by
  rcases h.2 with ⟨rfl, rfl⟩ | ⟨g, cap, cur, rfl, _, _, h1, h2, _⟩
  · exact ⟨none, 0, rfl, by omega, by unfold maxLen; omega, .inl rfl⟩
  · exact ⟨_, _, rfl, h1, h2, .inr (by simp)⟩

theorem new1 (w : World) (u : Value) (e : TypeId) : ∀ j x, [u][j]? = some x → (w.alloc (.cells #[u] e)).cell? ((⟨w.heap.size, 0, none⟩ : Addr).add j) = some x := by
  intro j x hj
  match j, hj with
  | 0, hj => simp at hj; subst hj; simp [Addr.add]
theorem own_lt {w : World} {base n : Nat} {e : TypeId} {v : Value} {xs : List Value} (h : w.ownsRow base e 1 v n xs) : ∀ k, v.ownBlock = some k → base ≤ k := fun k hk => (h.lt k hk).1
theorem step_below {w wr w2 : World} {o : Obj} {n : Nat} {e : TypeId} {v : Value} {xs : List Value} (h : wr.ownsRow w.heap.size e 1 v n xs) (hb : Below w.heap.size w wr) (hg : (wr.alloc o).grownBy w2 v.ownBlock) : Below w.heap.size w w2 :=
  (hb.alloc hb.size o).grown hg (by have := hb.size; simp; omega) (own_lt h)
theorem own_snoc {w : World} {base : Nat} {e : TypeId} {v : Value} {d l : List UInt8} {c : UInt8} (h : w.ownsRow base e 1 v (d.length + l.length + 1) (d.map B8 ++ (l.map B8 ++ [.int .u8 (c.toNat : Int)]))) :
    w.ownsRow base e 1 v (d ++ (l ++ [c])).length ((d ++ (l ++ [c])).map B8) := by
  simpa [B8, Nat.add_assoc] using h

/-- The loop over the list: k numbers are written. -/
def Outer (l : List UInt64) (H : Nat) (w : World) (v i : Value) (wr : World) : Prop := ∃ k : Nat, k ≤ l.length ∧ i = .int .i64 k ∧
  wr.ownsRow H 5 1 v (encs (l.take k)).length ((encs (l.take k)).map B8) ∧ Below H w wr
/-- The loop over one number: 'pre' is written, x is left. -/
def Inner (n : Nat) (d : List UInt8) (H : Nat) (w : World) (v y : Value) (wr : World) : Prop := ∃ (x : Nat) (pre : List UInt8), x < 18446744073709551616 ∧ y = .int .u64 x ∧
  Hid (pre ++ Lib.uvarint x = Lib.uvarint n) ∧ wr.ownsRow H 5 1 v (d ++ pre).length ((d ++ pre).map B8) ∧ Below H w wr

set_option maxHeartbeats 1600000 in
set_option maxRecDepth 100000 in
theorem put_any (l : List UInt64) (A : Option Addr) (c : Nat) (w : World) (hr : Rd w w.heap.size A (l.map B64)) (hl : 10 * l.length ≤ 140737488355328) :
    Calls Tryz.prog 46 #[.slice A l.length c] w fun e w' => ∃ v, e = .returned v ∧ w'.ownsRow w.heap.size 5 1 v (encs l).length ((encs l).map B8) ∧ Below w.heap.size w w' := by
  obtain ⟨i0, hi, hz0, hz1, hz2⟩ := info_parts info_u8
  have HE := fun k => Lib.hid (encs_length (l.take k))
  go_enter Tryz.func46, Tryz.ntmps46
  go_wp2_with (refine wpList_make_own _ rfl _ _ 51 rfl w.heap.size 5 i0 (.int .u8 0) 1 Tryz.underlying51 hi hz0 hz1 .i64 .i64 _ l.length rfl rfl rfl (by rw [hz2]; omega) (by unfold maxLen; omega) (Nat.le_refl _) ?_; intro w1 hown1 hg1)
  have hb1 : Below w.heap.size w w1 := (Below.refl _ _).grown hg1 (Nat.le_refl _) (by simp)
  clear hg1
  go_loopw [3, 11] (fun v i wr => Outer l w.heap.size w v i wr) (fun _ i _ => l.length - (intOf i).toNat)
  case atStart => exact ⟨0, by omega, rfl, by simpa [encs] using hown1, hb1⟩
  case round =>
    obtain ⟨k, hk, rfl, hown, hb⟩ := hrel
    clear hown1 hb1 w1
    by_cases hlt : k < l.length
    · obtain ⟨b, off, rfl, hbl, hcell⟩ := hr (by simp; omega)
      have hcx := (hb.cell (p := ⟨b, off + k, none⟩) hbl).trans (cell64 hcell hlt)
      have hn64 : l[k].toNat < 18446744073709551616 := l[k].toNat_lt
      have hsn := encs_snoc hlt
      have hle := encs_length (l.take k)
      have hlk : (l.take k).length ≤ k := List.length_take_le _ _
      have hd10 : (encs (l.take k)).length ≤ 10 * k := by omega
      generalize l[k].toNat = n at *
      generalize encs (l.take k) = d at *
      have HS := Lib.hid hsn
      clear hsn hcell hle hlk hr
      go_wp2
      obtain ⟨wo, rfl⟩ : ∃ wo : World, wo = wr := ⟨_, rfl⟩
      go_loopw [3, 5] (fun v y wr => Inner n d w.heap.size w v y wr) (fun _ y _ => (intOf y).toNat)
      case atStart => exact ⟨n, [], hn64, rfl, rfl, by simpa using hown, hb⟩
      case round =>
        obtain ⟨x, pre, hx, rfl, hpre, hown, hb⟩ := hrel
        have hpl : pre.length + (Lib.uvarint x).length ≤ 10 := by
          have h1 := congrArg List.length hpre.out
          have h2 := Lib.uvarint_length64 hn64
          rw [List.length_append] at h1
          omega
        have hup := Lib.uvarint_pos x
        have hdl : (d ++ pre).length + 1 ≤ 140737488355328 := by rw [List.length_append]; omega
        have HO := Lib.hid hown
        by_cases hx128 : 128 ≤ x
        · have hbt : decide (128 ≤ (x : Int)) = true := by simp; omega
          clear hown hup hpl
          go_wp2_with (at_builtin; refine wpList_append_own _ rfl (.tmp 17) (.tmp 21) 51 rfl w.heap.size 5 i0 (.int .u8 0) 1 1 Tryz.underlying51 hi hz0 hz1 hz2 rfl (by decide) _ _ _ rfl (HO.out.alloc _) ⟨wr.heap.size, 0, none⟩ 1 1 [.int .u8 (bits .or .u8 ((x : Int) % 256) 128)] rfl rfl ?c1 ?c2 ?c3 ?c4 ?c5 ?_)
          case c1 => exact new1 _ _ _
          case c2 => intro u hu; simp at hu; subst hu; rfl
          case c3 => unfold maxLen; omega
          case c4 => omega
          case c5 => have := hb.size; simp; omega
          intro v' w2 hown2 hg2 _
          have hb2 := step_below HO.out hb hg2
          rw [or128'] at hown2
          have hown3 := own_snoc hown2
          clear hown2 hg2 HO hb
          go_wp2
          go_roundw
          case rel => exact ⟨x / 128, pre ++ [(x % 128 + 128).toUInt8], by omega, by go_num, by rw [List.append_assoc]; rw [Lib.uvarint_big hx128] at hpre; exact hpre, hown3, hb2⟩
          case measure => simp [intOf]; omega
        · have hbt : decide (128 ≤ (x : Int)) = false := by simp; omega
          clear hown hup hpl
          go_wp2_with (at_builtin; refine wpList_append_own _ rfl (.tmp 25) (.tmp 28) 51 rfl w.heap.size 5 i0 (.int .u8 0) 1 1 Tryz.underlying51 hi hz0 hz1 hz2 rfl (by decide) _ _ _ rfl (HO.out.alloc _) ⟨wr.heap.size, 0, none⟩ 1 1 [.int .u8 (x : Int)] rfl rfl ?d1 ?d2 ?d3 ?d4 ?d5 ?_)
          case d1 => exact new1 _ _ _
          case d2 => intro u hu; simp at hu; subst hu; rfl
          case d3 => unfold maxLen; omega
          case d4 => omega
          case d5 => have := hb.size; simp; omega
          intro v' w2 hown2 hg2 _
          have hb2 := step_below HO.out hb hg2
          rw [toUInt8_small x (by omega)] at hown2
          have hown3 := own_snoc hown2
          rw [← Lib.uvarint_small (by omega), hpre.out, ← HS.out] at hown3
          clear hown2 hg2 HO hb
          go_wp2
          go_roundw
          case rel => exact ⟨k + 1, by omega, by go_num, hown3, hb2⟩
          case measure => simp [intOf]; omega
    · obtain rfl : k = l.length := by omega
      go_wp2
      go_ret
      rw [List.take_length] at hown
      exact ⟨_, rfl, hown, hb⟩

end Go.Proofs.YtjninegpaoblfaaGreatDoor.Put

namespace Go.Proofs.YtjninegpaoblfaaGreatDoor.RefPut
open Go Go.RowKit Words Plain Put

theorem only_of_below {a w : World} (h : Below a.heap.size a w) (row : Option Nat) : a.grownBy w row := ⟨h.os, h.tape, h.output, h.size, fun i hi _ => h.block i hi⟩
/-- A row of the call's own stays while new memory is made. -/
theorem own_keep {w w' : World} {base n : Nat} {e : TypeId} {v : Value} {xs : List Value} (h : w.ownsRow base e 1 v n xs) (hb : Below w.heap.size w w') : w'.ownsRow base e 1 v n xs :=
  h.kept (only_of_below hb none) (by cases v.ownBlock <;> simp)
theorem own_mono {w : World} {base base' n : Nat} {e : TypeId} {v : Value} {xs : List Value} (h : w.ownsRow base e 1 v n xs) (hb : base' ≤ base) : w.ownsRow base' e 1 v n xs :=
  ⟨h.1, h.2.imp id fun ⟨g, cap, cur, e1, hg, r⟩ => ⟨g, cap, cur, e1, Nat.le_trans hb hg, r⟩⟩
theorem own_addr {w : World} {base n : Nat} {e : TypeId} {v : Value} {xs : List Value} (h : w.ownsRow base e 1 v n xs) (hn : 0 < n) :
    ∃ b c, v = .slice (some ⟨b, 0, none⟩) n c ∧ base ≤ b ∧ b < w.heap.size ∧ ∀ j u, xs[j]? = some u → w.cell? ((⟨b, 0, none⟩ : Addr).add j) = some u := by
  obtain ⟨g, cap, hv, hb, hlt⟩ := h.form hn
  subst hv
  exact ⟨g, cap, rfl, hb, hlt, h.cells (g := g) rfl⟩

theorem own_join {w : World} {base : Nat} {e : TypeId} {v : Value} {d l : List UInt8} (h : w.ownsRow base e 1 v (d.length + l.length) (d.map B8 ++ l.map B8)) : w.ownsRow base e 1 v (d ++ l).length ((d ++ l).map B8) := by
  simpa using h

theorem own_cons {w : World} {base : Nat} {e : TypeId} {v : Value} {l : List UInt8} {c : UInt8} {x : Int} {m : Nat} (hx : x = (c.toNat : Int)) (hm : m = 1 + l.length) (h : w.ownsRow base e 1 v m (.int .u8 x :: l.map B8)) : w.ownsRow base e 1 v (c :: l).length ((c :: l).map B8) := by
  subst hx hm
  rw [List.length_cons, Nat.add_comm]
  exact h

theorem byte_more (n : Nat) : 128 + (n : Int) % 128 = (((n % 128 + 128).toUInt8.toNat : Nat) : Int) := by
  simp
  omega

set_option maxHeartbeats 800000 in
set_option maxRecDepth 100000 in
theorem one_small (n : Nat) (w : World) (h : n < 128) :
    Calls Tryz.prog 76 #[.int .u64 (n : Int)] w fun e w' => ∃ v, e = .returned v ∧ w'.ownsRow w.heap.size 5 1 v (Lib.uvarint n).length ((Lib.uvarint n).map B8) ∧ Below w.heap.size w w' := by
  have hown := World.ownsRow_lit (base := w.heap.size) (e := 5) (size := 1) w #[.int .u8 (n : Int)] 1 (Nat.le_refl _) (by unfold maxLen; omega) rfl
  rw [Lib.uvarint_small h]
  have HO := Lib.hid hown
  clear hown
  go_enter Tryz.func76, Tryz.ntmps76
  go_wp2
  go_ret
  refine ⟨_, rfl, own_cons (l := []) (toUInt8_small n h) rfl HO.out, (Below.refl _ _).alloc (Nat.le_refl _) _⟩

set_option maxHeartbeats 800000 in
set_option maxRecDepth 100000 in
theorem one_big (n : Nat) (w : World) (h : 128 ≤ n) (hn : n < 18446744073709551616)
    (ih : ∀ w : World, Calls Tryz.prog 76 #[.int .u64 ((n : Int) / 128)] w fun e w' => ∃ v, e = .returned v ∧ w'.ownsRow w.heap.size 5 1 v (Lib.uvarint (n / 128)).length ((Lib.uvarint (n / 128)).map B8) ∧ Below w.heap.size w w') :
    Calls Tryz.prog 76 #[.int .u64 (n : Int)] w fun e w' => ∃ v, e = .returned v ∧ w'.ownsRow w.heap.size 5 1 v (Lib.uvarint n).length ((Lib.uvarint n).map B8) ∧ Below w.heap.size w w' := by
  obtain ⟨i0, hi, hz0, hz1, hz2⟩ := info_parts info_u8
  have IH := fun w => Lib.hid (ih w)
  clear ih
  rw [Lib.uvarint_big h]
  have hlen := Lib.uvarint_length64 (x := n / 128) (by omega)
  have hpos := Lib.uvarint_pos (n / 128)
  generalize Lib.uvarint (n / 128) = U at *
  go_enter Tryz.func76, Tryz.ntmps76
  go_wp2_with fail
  have hown0 := World.ownsRow_lit (base := w.heap.size) (e := 5) (size := 1) w #[.int .u8 (128 + (n : Int) % 128)] 1 (Nat.le_refl _) (by unfold maxLen; omega) rfl
  refine (IH _).out.mono ?_
  rintro e w1 ⟨v1, rfl, hown1, hb1⟩
  have HO0 := Lib.hid (own_keep hown0 hb1)
  have hb2 : Below w.heap.size w w1 := ((Below.refl _ _).alloc (Nat.le_refl _) _).trans (hb1.mono (by simp))
  obtain ⟨b, c, rfl, hbb, hbl, hcell⟩ := own_addr hown1 (by omega)
  have HC := Lib.hid hcell
  have HB := Lib.hid hb2
  clear hcell hown0 hb1 hb2 hown1
  go_wp2_with (at_builtin; refine wpList_append_own _ rfl (.tmp 12) (.tmp 15) 51 rfl w.heap.size 5 i0 (.int .u8 0) 1 1 Tryz.underlying51 hi hz0 hz1 hz2 rfl (by decide) _ _ _ rfl HO0.out ⟨b, 0, none⟩ U.length c (U.map B8) rfl (by simp) HC.out (one8 U) ?c3 ?c4 HB.out.size ?_)
  case c3 => unfold maxLen; omega
  case c4 => omega
  intro v2 w2 hown2 hg2 _
  have hown3 := own_cons (c := (n % 128 + 128).toUInt8) (byte_more n) (by rfl) hown2
  have hb3 : Below w.heap.size w w2 := HB.out.grown hg2 HB.out.size (by simp [Value.ownBlock])
  clear hown2 hg2
  go_wp2
  go_ret
  exact ⟨_, rfl, hown3, hb3⟩

theorem one_any : ∀ (k n : Nat) (w : World), n < 128 ^ (k + 1) → n < 18446744073709551616 →
    Calls Tryz.prog 76 #[.int .u64 (n : Int)] w fun e w' => ∃ v, e = .returned v ∧ w'.ownsRow w.heap.size 5 1 v (Lib.uvarint n).length ((Lib.uvarint n).map B8) ∧ Below w.heap.size w w' := by
  intro k
  induction k with
  | zero => intro n w h _; exact one_small n w (by simpa using h)
  | succ k ih =>
    intro n w h hn
    by_cases hs : n < 128
    · exact one_small n w hs
    · refine one_big n w (by omega) hn fun w' => ?_
      have h1 := ih (n / 128) w' (by rw [Nat.pow_succ] at h; exact Nat.div_lt_of_lt_mul (by rw [Nat.mul_comm]; exact h)) (by omega)
      rw [Int.natCast_ediv] at h1
      exact h1
theorem one64 (n : Nat) (w : World) (hn : n < 18446744073709551616) :
    Calls Tryz.prog 76 #[.int .u64 (n : Int)] w fun e w' => ∃ v, e = .returned v ∧ w'.ownsRow w.heap.size 5 1 v (Lib.uvarint n).length ((Lib.uvarint n).map B8) ∧ Below w.heap.size w w' :=
  one_any 9 n w (Nat.lt_of_lt_of_le hn (by decide)) hn

end Go.Proofs.YtjninegpaoblfaaGreatDoor.RefPut

namespace Go.Proofs.YtjninegpaoblfaaGreatDoor.App
open Go Go.RowKit Words

section
variable {P : Program} (w : World)

theorem run_append_nil (base : Nat) (t ty e : TypeId) (i : TypeInfo) (ht : P.underlying t = some (.slice e)) (hi : P.info? e = some i)
    (v : Value) (n : Nat) (xs : List Value) (hown : w.ownsRow base e 1 v n xs) (c : Nat) : (Builtin.append_ #[t, t] ty #[v, .slice none 0 c]).run P w = .ok v w := by
  rcases hown.2 with ⟨rfl, rfl⟩ | ⟨g, cap, cur, rfl, _, _, hnc, _⟩
  · simp [Builtin.append_, run_underlying ht, sizeOf, typeInfo, hi, Builtin.lenOf, Builtin.firstCells]
  · simp [Builtin.append_, run_underlying ht, sizeOf, typeInfo, hi, Builtin.lenOf, Builtin.firstCells, hnc, storeCells]

theorem run_append_rd (base : Nat) (t ty e : TypeId) (i : TypeInfo) (z : Value) (bytes : Nat) (ht : P.underlying t = some (.slice e)) (hi : P.info? e = some i) (hz : i.zero = some z)
    (hsize : i.size = 1) (hby : i.bytes = bytes) (hzs : z.cells.size = 1)
    (v : Value) (n : Nat) (xs : List Value) (hown : w.ownsRow base e 1 v n xs)
    (B : Nat) (A : Option Addr) (m c : Nat) (news : List Value) (hl : news.length = m) (hr : Rd w B A news) (h1 : ∀ u ∈ news, u.oneCell' = true)
    (h63 : n + m ≤ maxLen) (hbytes : (n + m) * bytes ≤ 140737488355328) (hbase : base ≤ w.heap.size) :
    ∃ v' w', (Builtin.append_ #[t, t] ty #[v, .slice A m c]).run P w = .ok v' w' ∧ w'.ownsRow base e 1 v' (n + m) (xs ++ news) ∧ w.grownBy w' v.ownBlock ∧
      (v'.ownBlock = v.ownBlock ∨ v'.ownBlock = some w.heap.size) := by
  by_cases hm : m = 0
  · subst hm
    have hn : news = [] := List.eq_nil_of_length_eq_zero hl
    subst hn
    cases A with
    | none => exact ⟨v, w, run_append_nil w base t ty e i ht hi v n xs hown c, by simpa using hown, World.grownBy.refl w _, .inl rfl⟩
    | some ad =>
      obtain ⟨v', w', hrun, h2, h3, _, h5⟩ := run_append_own_at (P := P) w base t ty e i z 1 bytes ht hi hz hsize hby hzs (by omega) v n xs hown ad 0 c [] (by simp) (by simp) h1 h63 hbytes hbase
      exact ⟨v', w', hrun, h2, h3, h5⟩
  · obtain ⟨b, off, rfl, _, _⟩ := hr (by omega)
    obtain ⟨v', w', hrun, h2, h3, _, h5⟩ := run_append_own_at (P := P) w base t ty e i z 1 bytes ht hi hz hsize hby hzs (by omega) v n xs hown ⟨b, off, none⟩ m c news (by omega) hr.add_ h1 h63 hbytes hbase
    exact ⟨v', w', hrun, h2, h3, h5⟩

theorem wp_append_rd {o : Oper} {a : Act} {K : Act → World → Prop} {Q : Exit → Act → World → Prop} (s x : Operand) (t : TypeId)
    (ho : o.op = .call { callee := .builtin .append, args := #[s, x], argTypes := #[t, t] })
    (base : Nat) (e : TypeId) (i : TypeInfo) (z : Value) (bytes : Nat) (ht : P.underlying t = some (.slice e)) (hi : P.info? e = some i) (hz : i.zero = some z)
    (hsize : i.size = 1) (hby : i.bytes = bytes) (hzs : z.cells.size = 1)
    (v : Value) (n : Nat) (xs : List Value) (hs : a.eval s = v) (hown : w.ownsRow base e 1 v n xs)
    (B : Nat) (A : Option Addr) (m c : Nat) (news : List Value) (hx : a.eval x = .slice A m c) (hl : news.length = m) (hr : Rd w B A news) (h1 : ∀ u ∈ news, u.oneCell' = true)
    (h63 : n + m ≤ maxLen) (hbytes : (n + m) * bytes ≤ 140737488355328) (hbase : base ≤ w.heap.size)
    (h : ∀ v' w', w'.ownsRow base e 1 v' (n + m) (xs ++ news) → w.grownBy w' v.ownBlock → (v'.ownBlock = v.ownBlock ∨ v'.ownBlock = some w.heap.size) → K (a.put o.dst v') w') : o.wp P a w K Q := by
  obtain ⟨v', w', hrun, h2, h3, h4⟩ := run_append_rd (P := P) w base t o.type e i z bytes ht hi hz hsize hby hzs v n xs hown B A m c news hl hr h1 h63 hbytes hbase
  unfold Oper.wp execOp
  simp only [ho, resolve, invoke, builtin, Sem.run_bind, Sem.run_pure, Result.andThen_ok, List.map_toArray, List.map_cons, List.map_nil, hs, hx, hrun]
  exact h v' w' h2 h3 h4

theorem wpList_append_rd {ops : Array Oper} {rest : List Oper} {o : Oper} {a : Act} {Q : Exit → Act → World → Prop} (hgd : o.guard = none) (s x : Operand) (t : TypeId)
    (ho : o.op = .call { callee := .builtin .append, args := #[s, x], argTypes := #[t, t] })
    (base : Nat) (e : TypeId) (i : TypeInfo) (z : Value) (bytes : Nat) (ht : P.underlying t = some (.slice e)) (hi : P.info? e = some i) (hz : i.zero = some z)
    (hsize : i.size = 1) (hby : i.bytes = bytes) (hzs : z.cells.size = 1)
    (v : Value) (n : Nat) (xs : List Value) (hs : a.eval s = v) (hown : w.ownsRow base e 1 v n xs)
    (B : Nat) (A : Option Addr) (m c : Nat) (news : List Value) (hx : a.eval x = .slice A m c) (hl : news.length = m) (hr : Rd w B A news) (h1 : ∀ u ∈ news, u.oneCell' = true)
    (h63 : n + m ≤ maxLen) (hbytes : (n + m) * bytes ≤ 140737488355328) (hbase : base ≤ w.heap.size)
    (h : ∀ v' w', w'.ownsRow base e 1 v' (n + m) (xs ++ news) → w.grownBy w' v.ownBlock → (v'.ownBlock = v.ownBlock ∨ v'.ownBlock = some w.heap.size) → wpList P ops Q rest (a.put o.dst v') w') : wpList P ops Q (o :: rest) a w :=
  wpList_plain hgd fun _ hK => wp_append_rd w s x t ho base e i z bytes ht hi hz hsize hby hzs v n xs hs hown B A m c news hx hl hr h1 h63 hbytes hbase fun v' w' h2 h3 h4 => hK _ _ (h v' w' h2 h3 h4)
end

/-- Behind an append onto a row of the call's own, all that was there when the call began is as it was. -/
theorem below_app {w0 w w' : World} {n : Nat} {e : TypeId} {v : Value} {xs : List Value} (h : w.ownsRow w0.heap.size e 1 v n xs) (hb : Below w0.heap.size w0 w) (hg : w.grownBy w' v.ownBlock) : Below w0.heap.size w0 w' :=
  hb.grown hg hb.size fun k hk => (h.lt k hk).1

end Go.Proofs.YtjninegpaoblfaaGreatDoor.App

