/- The contract of the statements' own 'one' (Unpack and the document's Unpack answer the same): it answers true and leaves what was there. Conditions: UnAny for the program; the slice's length at most its capacity, at most 2^47 - 1. -/
import Derived.Test.YtokmoodiolnfiaaPkHas
namespace Go.Proofs.Ytokmoodiolnfiaa.PkOne
open Go Go.RowKit Words Plain Put RefPut App PkPlain PkSpec UnSpec Need RefUn RefUn2 PkHas

theorem unp_len (b : List UInt8) (at_ : Int) : (unp b at_).2.1.length ≤ 65536 := by
  unfold unp
  split
  · simp
  split
  · simp
  split
  · simp
  split
  · simp
  split
  · simp
  · rename_i h1 h2 h3 h4 h5
    unfold body
    split
    · simp
    split
    · simp
    split
    · simp
    split
    · simp
    · rename_i l hl
      split
      · have := run_length hl
        rw [cuts_length] at this
        show l.length ≤ 65536
        omega
      · simp
theorem below_drewN {B : Nat} {a w : World} (h : Below B a w) (n : Nat) : Below B a (w.drewN n) := ⟨h.os, h.tape, h.output, h.size, h.block⟩

set_option maxHeartbeats 800000 in
set_option maxRecDepth 100000 in
theorem one_any (HU : UnAny) (b : List UInt8) (A : Option Addr) (n c : Nat) (at_ : Int) (w : World) (h0 : n = b.length) (hr : Rd w w.heap.size A (b.map B8)) (hc : b.length ≤ c) (hm : c ≤ maxLen) (hlen : b.length ≤ 140737488355327) :
    Calls Try.prog 12 #[.slice A n c, .int .i64 at_] w fun e w' => e = .returned (.bool true) ∧ Below w.heap.size w w' := by
  have H1 := Lib.hid (HU b A n c at_ w h0 hr hc hm hlen)
  have H2 := fun w' (hb : Below w.heap.size w w') => Lib.hid (refun_any b A n c at_ w' h0 ((hr.below hb).more hb.size) hc hm hlen)
  have HL := Lib.hid (unp_len b at_)
  clear hr hc hm hlen h0 HU
  unfold UnPost at H1 H2
  generalize unp b at_ = u at *
  obtain ⟨E, L, T⟩ := u
  dsimp only at H1 H2 HL
  go_enter Try.func12, Try.ntmps12
  go_wp2_with fail
  refine H1.out.mono ?_
  rintro e w1 ⟨v1, rfl, hown1, hb1⟩
  have HB1 := Lib.hid hb1
  have HO1 := Lib.hid hown1
  clear hown1
  go_wp2_with fail
  refine (H2 w1 hb1).out.mono ?_
  rintro e w2 ⟨v2, rfl, hown2, hb2⟩
  have HO1' := Lib.hid (own_keep HO1.out hb2)
  have HB2 := Lib.hid (HB1.out.trans (hb2.mono HB1.out.size))
  obtain ⟨A1, c1, rfl, _, _, _⟩ := own_slice HO1'.out
  obtain ⟨A2, c2, rfl, _, _, _⟩ := own_slice hown2
  have S := Lib.hid (same_eq L A1 A2 L.length L.length c1 c2 w2 _ _ rfl rfl (Rd.of_own HO1'.out) (Rd.of_own hown2) (by unfold maxLen; have := HL.out; omega))
  clear hown2 hb1 hb2 H1 H2 HO1 HO1'
  have e2 : (T == T) = true := by simp
  have e3 : (E == E) = true := by simp
  go_wp2_with fail
  refine S.out.mono ?_
  rintro e w3 ⟨rfl, nq, rfl⟩
  go_wp2
  go_ret
  exact ⟨rfl, below_drewN HB2.out _⟩
end Go.Proofs.Ytokmoodiolnfiaa.PkOne
