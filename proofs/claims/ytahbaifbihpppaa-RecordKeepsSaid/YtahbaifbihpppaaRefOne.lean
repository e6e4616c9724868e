/- The contract of the document's own writing of one number: new memory that holds its shortest form; nothing that was there has changed. No conditions but 64 bits. -/
import Derived.Test.YtahbaifbihpppaaPut
namespace Go.Proofs.Ytahbaifbihpppaa.RefPut
open Go Go.RowKit Words Plain Put

theorem only_of_below {a w : World} (h : Below a.heap.size a w) (row : Option Nat) : a.grownBy w row := ⟨h.os, h.tape, h.output, h.size, fun i hi _ => h.block i hi⟩
/-- A row of the call's own stays while new memory is made. -/
theorem own_keep {w w' : World} {base n : Nat} {e : TypeId} {v : Value} {xs : List Value} (h : w.ownsRow base e 1 v n xs) (hb : Below w.heap.size w w') : w'.ownsRow base e 1 v n xs :=
  h.kept (only_of_below hb none) (by cases v.ownBlock <;> simp)
theorem own_mono {w : World} {base base' n : Nat} {e : TypeId} {v : Value} {xs : List Value} (h : w.ownsRow base e 1 v n xs) (hb : base' ≤ base) : w.ownsRow base' e 1 v n xs :=
  ⟨h.1, h.2.imp id fun ⟨g, cap, cur, e1, hg, r⟩ => ⟨g, cap, cur, e1, Nat.le_trans hb hg, r⟩⟩
theorem own_addr {w : World} {base n : Nat} {e : TypeId} {v : Value} {xs : List Value} (h : w.ownsRow base e 1 v n xs) (hn : 0 < n) :
    ∃ b c, v = .slice (some ⟨b, 0, none⟩) n c ∧ base ≤ b ∧ b < w.heap.size ∧ ∀ j u, xs[j]? = some u → w.cell? ((⟨b, 0, none⟩ : Addr).add j) = some u := by
  obtain ⟨g, cap, hv, hb, hlt⟩ := h.form hn
  subst hv
  exact ⟨g, cap, rfl, hb, hlt, h.cells (g := g) rfl⟩

theorem own_join {w : World} {base : Nat} {e : TypeId} {v : Value} {d l : List UInt8} (h : w.ownsRow base e 1 v (d.length + l.length) (d.map B8 ++ l.map B8)) : w.ownsRow base e 1 v (d ++ l).length ((d ++ l).map B8) := by
  simpa using h

theorem own_cons {w : World} {base : Nat} {e : TypeId} {v : Value} {l : List UInt8} {c : UInt8} {x : Int} {m : Nat} (hx : x = (c.toNat : Int)) (hm : m = 1 + l.length) (h : w.ownsRow base e 1 v m (.int .u8 x :: l.map B8)) : w.ownsRow base e 1 v (c :: l).length ((c :: l).map B8) := by
  subst hx hm
  rw [List.length_cons, Nat.add_comm]
  exact h

theorem byte_more (n : Nat) : 128 + (n : Int) % 128 = (((n % 128 + 128).toUInt8.toNat : Nat) : Int) := by
  simp
  omega

set_option maxHeartbeats 800000 in
set_option maxRecDepth 100000 in
theorem one_small (n : Nat) (w : World) (h : n < 128) :
    Calls Try.prog 24 #[.int .u64 (n : Int)] w fun e w' => ∃ v, e = .returned v ∧ w'.ownsRow w.heap.size 5 1 v (Lib.uvarint n).length ((Lib.uvarint n).map B8) ∧ Below w.heap.size w w' := by
  have hown := World.ownsRow_lit (base := w.heap.size) (e := 5) (size := 1) w #[.int .u8 (n : Int)] 1 (Nat.le_refl _) (by unfold maxLen; omega) rfl
  rw [Lib.uvarint_small h]
  have HO := Lib.hid hown
  clear hown
  go_enter Try.func24, Try.ntmps24
  go_wp2
  go_ret
  refine ⟨_, rfl, own_cons (l := []) (toUInt8_small n h) rfl HO.out, (Below.refl _ _).alloc (Nat.le_refl _) _⟩

set_option maxHeartbeats 800000 in
set_option maxRecDepth 100000 in
theorem one_big (n : Nat) (w : World) (h : 128 ≤ n) (hn : n < 18446744073709551616)
    (ih : ∀ w : World, Calls Try.prog 24 #[.int .u64 ((n : Int) / 128)] w fun e w' => ∃ v, e = .returned v ∧ w'.ownsRow w.heap.size 5 1 v (Lib.uvarint (n / 128)).length ((Lib.uvarint (n / 128)).map B8) ∧ Below w.heap.size w w') :
    Calls Try.prog 24 #[.int .u64 (n : Int)] w fun e w' => ∃ v, e = .returned v ∧ w'.ownsRow w.heap.size 5 1 v (Lib.uvarint n).length ((Lib.uvarint n).map B8) ∧ Below w.heap.size w w' := by
  obtain ⟨i0, hi, hz0, hz1, hz2⟩ := info_parts info_u8
  have IH := fun w => Lib.hid (ih w)
  clear ih
  rw [Lib.uvarint_big h]
  have hlen := Lib.uvarint_length64 (x := n / 128) (by omega)
  have hpos := Lib.uvarint_pos (n / 128)
  generalize Lib.uvarint (n / 128) = U at *
  go_enter Try.func24, Try.ntmps24
  go_wp2_with fail
  have hown0 := World.ownsRow_lit (base := w.heap.size) (e := 5) (size := 1) w #[.int .u8 (128 + (n : Int) % 128)] 1 (Nat.le_refl _) (by unfold maxLen; omega) rfl
  refine (IH _).out.mono ?_
  rintro e w1 ⟨v1, rfl, hown1, hb1⟩
  have HO0 := Lib.hid (own_keep hown0 hb1)
  have hb2 : Below w.heap.size w w1 := ((Below.refl _ _).alloc (Nat.le_refl _) _).trans (hb1.mono (by simp))
  obtain ⟨b, c, rfl, hbb, hbl, hcell⟩ := own_addr hown1 (by omega)
  have HC := Lib.hid hcell
  have HB := Lib.hid hb2
  clear hcell hown0 hb1 hb2 hown1
  go_wp2_with (at_builtin; refine wpList_append_own _ rfl (.tmp 12) (.tmp 15) 24 rfl w.heap.size 5 i0 (.int .u8 0) 1 1 Try.underlying24 hi hz0 hz1 hz2 rfl (by decide) _ _ _ rfl HO0.out ⟨b, 0, none⟩ U.length c (U.map B8) rfl (by simp) HC.out (one8 U) ?c3 ?c4 HB.out.size ?_)
  case c3 => unfold maxLen; omega
  case c4 => omega
  intro v2 w2 hown2 hg2 _
  have hown3 := own_cons (c := (n % 128 + 128).toUInt8) (byte_more n) (by rfl) hown2
  have hb3 : Below w.heap.size w w2 := HB.out.grown hg2 HB.out.size (by simp [Value.ownBlock])
  clear hown2 hg2
  go_wp2
  go_ret
  exact ⟨_, rfl, hown3, hb3⟩

theorem one_any : ∀ (k n : Nat) (w : World), n < 128 ^ (k + 1) → n < 18446744073709551616 →
    Calls Try.prog 24 #[.int .u64 (n : Int)] w fun e w' => ∃ v, e = .returned v ∧ w'.ownsRow w.heap.size 5 1 v (Lib.uvarint n).length ((Lib.uvarint n).map B8) ∧ Below w.heap.size w w' := by
  intro k
  induction k with
  | zero => intro n w h _; exact one_small n w (by simpa using h)
  | succ k ih =>
    intro n w h hn
    by_cases hs : n < 128
    · exact one_small n w hs
    · refine one_big n w (by omega) hn fun w' => ?_
      have h1 := ih (n / 128) w' (by rw [Nat.pow_succ] at h; exact Nat.div_lt_of_lt_mul (by rw [Nat.mul_comm]; exact h)) (by omega)
      rw [Int.natCast_ediv] at h1
      exact h1
theorem one64 (n : Nat) (w : World) (hn : n < 18446744073709551616) :
    Calls Try.prog 24 #[.int .u64 (n : Int)] w fun e w' => ∃ v, e = .returned v ∧ w'.ownsRow w.heap.size 5 1 v (Lib.uvarint n).length ((Lib.uvarint n).map B8) ∧ Below w.heap.size w w' :=
  one_any 9 n w (Nat.lt_of_lt_of_le hn (by decide)) hn

end Go.Proofs.Ytahbaifbihpppaa.RefPut
