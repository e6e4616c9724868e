/- The contract of the document's GetText; a number's and a text's reading by places. Conditions: the bytes lie in memory. -/
import Derived.Test.YtahbaifbihpppaaRcRef
import Derived.Test.YtahbaifbihpppaaRefGet
import Derived.WalkLawsBesides
namespace Go.Proofs.Ytahbaifbihpppaa.RcRefGt
open Go Go.RowKit Words AppN Less LbSpec LbText LbMem LbRef LbCmp RcSpec RcAll RcMem RcRef UtOwn Plain

theorem dec_err : ∀ (l : List UInt8) (k acc : Nat), (dec k acc l).2.2 ≠ 0 → (dec k acc l).2.1 = 0
  | [], k, acc, _ => rfl
  | c :: r, k, acc, h => by
    rw [dec] at h ⊢
    split
    · rfl
    · split
      · rename_i h1 h2
        rw [if_neg h1, if_pos h2] at h
        exact dec_err r _ _ h
      · split
        · rfl
        · rename_i h1 h2 h3
          rw [if_neg h1, if_neg h2, if_neg h3] at h
          exact absurd rfl h
/-- A number that is read at a place: where it ends. -/
theorem num_at (b : List UInt8) (p : Nat) (hp : p ≤ b.length) : ∃ p' : Nat, p ≤ p' ∧ p' ≤ b.length ∧ (num (b.drop p)).2.2 = b.drop p' ∧
    getE b p = ((num (b.drop p)).1 : Int) ∧ getN b p = ((num (b.drop p)).2.1 : Int) ∧ getTo b p = (if (num (b.drop p)).1 = 0 then (p' : Int) else 0) ∧ (num (b.drop p)).2.1 < 18446744073709551616 := by
  have hn : ¬ ((p : Int) < 0 ∨ (b.length : Int) < (p : Int)) := by omega
  have e1 : getE b p = ((num (b.drop p)).1 : Int) := by unfold getE; rw [if_neg hn]; rfl
  have e2 : getN b p = ((num (b.drop p)).2.1 : Int) := by unfold getN; rw [if_neg hn]; rfl
  by_cases h0 : (num (b.drop p)).1 = 0
  · obtain ⟨hi1, hi2⟩ := num_inv (l := b.drop p) (r := (num (b.drop p)).2.2) (x := (num (b.drop p)).2.1) (by rw [← h0])
    have hlen := congrArg List.length hi1
    rw [List.length_append, List.length_drop] at hlen
    refine ⟨p + (dec 0 0 (b.drop p)).2.1, by omega, ?_, ?_, e1, e2, ?_, hi2⟩
    · have h5 : (num (b.drop p)).2.2.length = (b.drop p).length - (dec 0 0 (b.drop p)).2.1 := by unfold num; simp; omega
      rw [List.length_drop] at h5
      rcases Nat.lt_or_ge b.length (p + (dec 0 0 (b.drop p)).2.1) with h6 | h6
      · exfalso
        have h7 := Lib.uvarint_length64 hi2
        obtain ⟨y, f1, f2, f3, f4, _, f6⟩ := Plain.dec_back (b.drop p) 0 0 (dec 0 0 (b.drop p)).1 (dec 0 0 (b.drop p)).2.1 (by omega) (by decide) (by
          have : (dec 0 0 (b.drop p)).2.2 = 0 := h0
          obtain ⟨x, y, z, e⟩ : ∃ x y z, dec 0 0 (b.drop p) = (x, y, z) := ⟨_, _, _, rfl⟩
          rw [e] at this ⊢
          simp only at this
          rw [this])
        rw [List.length_drop] at f3
        omega
      · exact h6
    · unfold num
      rw [List.drop_drop]
    · unfold getTo
      rw [if_neg hn, if_pos h0, if_pos (show (dec 0 0 (b.drop (p : Int).toNat)).2.2 = 0 from h0)]
      simp
  · refine ⟨p, Nat.le_refl _, hp, ?_, e1, e2, ?_, ?_⟩
    · unfold num
      rw [dec_err _ _ _ h0, List.drop_zero]
    · unfold getTo
      rw [if_neg hn, if_neg h0, if_neg (show ¬ (dec 0 0 (b.drop (p : Int).toNat)).2.2 = 0 from h0)]
    · have h8 : (num (b.drop p)).2.1 = 0 := by
        have key : ∀ (l : List UInt8) (k acc : Nat), (dec k acc l).2.2 ≠ 0 → (dec k acc l).1 = 0 := by
          intro l
          induction l with
          | nil => intro k acc _; rfl
          | cons c r ih =>
            intro k acc h
            rw [dec] at h ⊢
            split
            · rfl
            · split
              · rename_i h1 h2
                rw [if_neg h1, if_pos h2] at h
                exact ih _ _ h
              · split
                · rfl
                · rename_i h1 h2 h3
                  rw [if_neg h1, if_neg h2, if_neg h3] at h
                  exact absurd rfl h
        exact key _ _ _ h0
      omega
/-- The document's Get at a place within. -/
theorem rnum_any (w : World) (b : List UInt8) (A : Option Addr) (c B p : Nat) (hr : Rd w B A (b.map B8)) (hc : b.length ≤ c) (hm : c ≤ maxLen) (hp : p ≤ b.length) : ∃ p' : Nat, p ≤ p' ∧ p' ≤ b.length ∧ (num (b.drop p)).2.2 = b.drop p' ∧ (num (b.drop p)).2.1 < 18446744073709551616 ∧
    Calls Try.prog 41 #[.slice A b.length c, .int .i64 (p : Int)] w fun e w' => e = .returned (.tuple #[.int .u64 ((num (b.drop p)).2.1 : Int), .int .i64 (if (num (b.drop p)).1 = 0 then (p' : Int) else 0), .int .i64 ((num (b.drop p)).1 : Int)]) ∧ w = w' := by
  obtain ⟨p', h1, h2, h3, h4, h5, h6, h7⟩ := num_at b p hp
  refine ⟨p', h1, h2, h3, h7, ?_⟩
  have h := RefGet.ref_any b A c p w B hr hc hm
  rw [h4, h5, h6] at h
  exact h

/-! ### GetText -/
theorem txt_of (l : List UInt8) : txt l = if (num l).1 ≠ 0 then ((num l).1, [], []) else if (num l).2.2.length < (num l).2.1 then (5, [], []) else (0, (num l).2.2.take (num l).2.1, (num l).2.2.drop (num l).2.1) := rfl

set_option maxHeartbeats 3200000 in
set_option maxRecDepth 100000 in
theorem rgettext_any (w : World) (b : List UInt8) (A : Option Addr) (c B p : Nat) (hr : Rd w B A (b.map B8)) (hc : b.length ≤ c) (hm : c ≤ maxLen) (hp : p ≤ b.length) : ∃ p' : Nat, p ≤ p' ∧ p' ≤ b.length ∧ ((txt (b.drop p)).1 = 0 → (txt (b.drop p)).2.2 = b.drop p') ∧ (txt (b.drop p)).2.1.length ≤ b.length ∧
    Calls Try.prog 43 #[.slice A b.length c, .int .i64 (p : Int)] w fun e w' => e = .returned (.tuple #[S8 (txt (b.drop p)).2.1, .int .i64 (if (txt (b.drop p)).1 = 0 then (p' : Int) else 0), .int .i64 ((txt (b.drop p)).1 : Int)]) ∧ Below w.heap.size w w' := by
  obtain ⟨q, h1, h2, h3, h4, hcall⟩ := rnum_any w b A c B p hr hc hm hp
  rw [txt_of]
  obtain ⟨N, hN⟩ : ∃ N, num (b.drop p) = N := ⟨_, rfl⟩
  rw [hN] at h3 h4 hcall
  rw [hN]
  obtain ⟨e0, n, l2⟩ := N
  simp only at h3 h4 hcall ⊢
  subst h3
  have HC := Lib.hid hcall
  have HRD := Lib.hid hr
  unfold maxLen at hm
  clear hcall hN hr
  by_cases he : e0 = 0
  · subst he
    rw [if_neg (by decide)]
    rw [if_pos rfl] at HC
    rw [List.length_drop]
    have hwl : IntKind.i64.wrap ((b.length : Int) - (q : Int)) = (b.length : Int) - (q : Int) := by rw [IntKind.wrap_i64]; omega
    have hwu : IntKind.u64.wrap ((b.length : Int) - (q : Int)) = (b.length : Int) - (q : Int) := by rw [IntKind.wrap_u64]; omega
    by_cases hs : b.length - q < n
    · rw [if_pos hs]
      have j : (b.length : Int) - (q : Int) < (n : Int) := by omega
      refine ⟨q, h1, h2, by simp, by simp, ?_⟩
      clear hs
      unfold S8
      go_enter Try.func43, Try.ntmps43
      go_wp2_with fail
      refine HC.out.mono ?_
      rintro e w1 ⟨rfl, rfl⟩
      go_wp2
      go_ret3
      exact ⟨rfl, Below.refl _ _⟩
    · rw [if_neg hs]
      have j : ¬ (b.length : Int) - (q : Int) < (n : Int) := by omega
      have hqn : q + n ≤ b.length := by omega
      have hwn : IntKind.i64.wrap (n : Int) = (n : Int) := by rw [IntKind.wrap_i64]; omega
      have hwq : IntKind.i64.wrap ((q : Int) + (n : Int)) = (q : Int) + (n : Int) := by rw [IntKind.wrap_i64]; omega
      refine ⟨q + n, by omega, hqn, fun _ => by rw [List.drop_drop], by simp; omega, ?_⟩
      have hcut := (HRD.out.cut (k := q) (cap := c) (by simpa using hc)).take n
      rw [← List.map_drop, ← List.map_take] at hcut
      obtain ⟨T, hT⟩ : ∃ T, (b.drop q).take n = T := ⟨_, rfl⟩
      rw [hT] at hcut
      have hTl : T.length = n := by rw [← hT, List.length_take, List.length_drop]; omega
      have hcv := fun cc => run_bytes (P := Try.prog) w 24 9 5 Try.underlying24 Try.underlying5 Try.underlying9 _ T cc B hcut
      rw [hTl] at hcv
      have c1 : (0 : Int) ≤ (q : Int) := by omega
      have c2 : (q : Int) ≤ (q : Int) + (n : Int) := by omega
      have c3 : (q : Int) + (n : Int) ≤ (c : Int) := by omega
      simp only [hT]
      clear hs hT hcut hTl
      unfold S8
      by_cases hcp : c = q
      · simp only [if_pos hcp] at hcv
        obtain rfl : n = 0 := by omega
        subst hcp
        clear hwq hwn c2 c3 hqn
        go_enter Try.func43, Try.ntmps43
        go_wp2_with fail
        refine HC.out.mono ?_
        rintro e w1 ⟨rfl, rfl⟩
        go_wp2
        go_ret3
        exact ⟨rfl, Below.refl _ _⟩
      · simp only [if_neg hcp] at hcv
        go_enter Try.func43, Try.ntmps43
        go_wp2_with fail
        refine HC.out.mono ?_
        rintro e w1 ⟨rfl, rfl⟩
        go_wp2
        go_ret3
        exact ⟨rfl, Below.refl _ _⟩
  · rw [if_pos he]
    have j : ((e0 : Int) != 0) = true := by simp [he]
    refine ⟨q, h1, h2, fun h => absurd h he, by simp, ?_⟩
    unfold S8
    simp only [if_neg he] at HC ⊢
    clear he
    go_enter Try.func43, Try.ntmps43
    go_wp2_with fail
    refine HC.out.mono ?_
    rintro e w1 ⟨rfl, rfl⟩
    go_wp2
    go_ret3
    exact ⟨rfl, Below.refl _ _⟩
end Go.Proofs.Ytahbaifbihpppaa.RcRefGt
