/- The contracts of the document's own Delete, Sync, Fill and Arm. Conditions: the disk lies in memory as 'RefD' says; the names' lengths are at most the model's greatest; at most 10^9 files. -/
import Derived.Test.YtfblekedgenacaaRefPut5
namespace Go.Proofs.Ytfblekedgenacaa.RefOps5
open Go Go.RowKit Words DkSpec RefDisk RefChange RefRow RefTake RefPut5

/-- What a call answers and leaves. -/
def OPost (w : World) (K : Nat → Nat) (o p : Nat) (r : Nat × DSt) (e : Ending) (w' : World) : Prop := e = .returned (.int .i64 (r.1 : Int)) ∧ ∃ K', RefD w' K' o p r.2 ∧ Turned K K' o w w'

set_option maxHeartbeats 800000 in
theorem delete_any (w : World) (K : Nat → Nat) (o p : Nat) (d : DSt) (a : List UInt8) (hd : RefD w K o p d) (ho : o ≠ 0) (ha : a.length ≤ maxLen) (hl1 : -1 ≤ d.left) (hl2 : d.left ≤ 9223372036854775807) (hn : d.files.length ≤ 1000000000) :
    Calls Try.prog 29 #[.pointer (some ⟨p, 0, none⟩), .string ⟨a.toArray⟩] w (OPost w K o p (delete a d)) := by
  have HC := Lib.hid (change_any w K o p d a a hd ho ha ha hl1 hl2)
  have HN := Lib.hid hn
  have HO := Lib.hid ho
  by_cases hr : refused a a d ≠ 0
  · have HX := Lib.hid (show delete a d = (refused a a d, d) by unfold delete; rw [if_pos hr])
    have h1 : ((refused a a d : Int) != 0) = true := by simp; omega
    unfold ChPost at HC
    rw [if_pos hr] at HC
    clear hd ha hl1 hl2 hn hr ho
    go_enter Try.func29, Try.ntmps29
    go_wp2_with fail
    refine HC.out.mono ?_
    rintro e w1 ⟨rfl, hd1, ht1⟩
    have HD1 := Lib.hid hd1
    have HT1 := Lib.hid ht1
    clear hd1 ht1
    go_wp2
    go_ret
    rw [HX.out]
    exact ⟨rfl, K, HD1.out, HT1.out⟩
  · unfold ChPost at HC
    rw [if_neg hr, show refused a a d = 0 by omega] at HC
    have hfl := stepped_files d
    obtain ⟨i, b, hib⟩ : ∃ i b, place a d.files = (i, b) := ⟨_, _, rfl⟩
    have hle := place_le a d.files
    rw [hib] at hle
    obtain ⟨_, hle2⟩ := hle
    simp only at hle2
    have HF := fun w1 h => Lib.hid (find_any w1 K o p (stepped d) a h)
    rw [hfl, hib] at HF
    cases b with
    | false =>
      have HX := Lib.hid (show delete a d = (21, stepped d) by unfold delete; rw [if_neg hr, hib]; rfl)
      clear hd ha hl1 hl2 hn hr ho hfl hib hle2
      go_enter Try.func29, Try.ntmps29
      go_wp2_with fail
      refine HC.out.mono ?_
      rintro e w1 ⟨rfl, hd1, ht1⟩
      have HD1 := Lib.hid hd1
      have HT1 := Lib.hid ht1
      have HF1 := Lib.hid (HF w1 hd1)
      clear hd1 ht1 HF
      go_wp2_with fail
      refine HF1.out.out.mono ?_
      rintro e w2 ⟨rfl, rfl⟩
      go_wp2
      go_ret
      rw [HX.out]
      exact ⟨rfl, K, HD1.out, HT1.out⟩
    | true =>
      have HX := Lib.hid (show delete a d = (0, { stepped d with files := del i d.files }) by unfold delete; rw [if_neg hr, hib]; rfl)
      have hil := (hle2 rfl).1
      have HK := fun w1 (h : RefD w1 K o p (stepped d)) => Lib.hid (take_any w1 K o p (stepped d) i h ho (by rw [hfl]; exact hil) (by rw [hfl]; exact hn))
      rw [hfl] at HK
      clear hd ha hl1 hl2 hn hr ho hfl hib hle2 hil
      go_enter Try.func29, Try.ntmps29
      go_wp2_with fail
      refine HC.out.mono ?_
      rintro e w1 ⟨rfl, hd1, ht1⟩
      have HT1 := Lib.hid ht1
      have HF1 := Lib.hid (HF w1 hd1)
      have HK1 := Lib.hid (HK w1 hd1)
      clear hd1 ht1 HF HK
      go_wp2_with fail
      refine HF1.out.out.mono ?_
      rintro e w2 ⟨rfl, rfl⟩
      go_wp2_with fail
      refine HK1.out.out.mono ?_
      rintro e w3 ⟨rfl, K', hd3, ht3⟩
      have HD3 := Lib.hid hd3
      have HT3 := Lib.hid ht3
      clear hd3 ht3
      go_wp2
      go_ret
      rw [HX.out]
      exact ⟨rfl, K', HD3.out, HT1.out.trans HT3.out⟩

theorem ne_nil (b o : Nat) (w : World) : (binOp .neq 27 (.pointer (some ⟨b, o, none⟩)) (.pointer none)).run Try.prog w = .ok (.bool true) w := by kernel_rfl
theorem nil_nil (w : World) : (binOp .neq 27 (.pointer none) (.pointer none)).run Try.prog w = .ok (.bool false) w := by kernel_rfl
theorem eq_nil (w : World) : (binOp .eql 27 (.pointer none) (.pointer none)).run Try.prog w = .ok (.bool true) w := by kernel_rfl
theorem fill_nil (w : World) (b : Bool) : Calls Try.prog 33 #[.pointer none, .bool b] w fun e w' => e = .returned (.tuple #[]) ∧ w = w' := by
  have hne := nil_nil
  go_enter Try.func33, Try.ntmps33
  go_wp2
  go_end0
  exact ⟨rfl, rfl⟩
theorem fill_any (w : World) (K : Nat → Nat) (o p : Nat) (d : DSt) (b : Bool) (hd : RefD w K o p d) (ho : o ≠ 0) :
    Calls Try.prog 33 #[.pointer (some ⟨p, 0, none⟩), .bool b] w (MPost w K o p { d with full := b }) := by
  have HS := Lib.hid (RefD.toFull hd ho b)
  obtain ⟨A, c, _, _, hp, hk, c0, c1, c2, c3, f0, f1, f2, f3, _, _⟩ := hd
  have HT := Lib.hid (turned_poke (w := w) (K := K) (o := o) (p := p) (j := 1) (u := .bool b) hk)
  clear hk c0 c2 c3 f0 f2 f3
  have hne := ne_nil p 0
  go_enter Try.func33, Try.ntmps33
  go_wp2
  go_end0
  exact ⟨rfl, K, HS.out, HT.out⟩

theorem arm_nil (w : World) (n : Int) : Calls Try.prog 34 #[.pointer none, .int .i64 n] w fun e w' => e = .returned (.tuple #[]) ∧ w = w' := by
  have hne := eq_nil
  go_enter Try.func34, Try.ntmps34
  go_wp2
  refine bodyPost_ret (results_none rfl _ _ _) rfl ?_
  exact ⟨rfl, rfl⟩
set_option maxHeartbeats 800000 in
theorem arm_any (w : World) (K : Nat → Nat) (o p : Nat) (d : DSt) (n : Int) (hd : RefD w K o p d) (ho : o ≠ 0) :
    Calls Try.prog 34 #[.pointer (some ⟨p, 0, none⟩), .int .i64 n] w (MPost w K o p (arm n d)) := by
  have HD := Lib.hid hd
  obtain ⟨A, c, _, _, hp, hk, c0, c1, c2, c3, f0, f1, f2, f3, _, _⟩ := hd
  have HK := Lib.hid hk
  clear hk c0 c1 f0 f1
  cases hoff : d.off with
  | true =>
    rw [hoff] at c2
    have HX := Lib.hid (show arm n d = d by unfold arm; rw [hoff, if_pos rfl])
    clear hoff
    go_enter Try.func34, Try.ntmps34
    go_wp2
    refine bodyPost_ret (results_none rfl _ _ _) rfl ?_
    rw [HX.out]
    exact ⟨rfl, K, HD.out, Turned.refl _ _ _⟩
  | false =>
    rw [hoff] at c2
    have HOFF := Lib.hid hoff
    clear hoff
    by_cases h1 : n < 0
    · have d1 : decide (n < 0) = true := by simpa using h1
      have d2 : (n == 0) = false := beq_eq_false_iff_ne.2 (by omega)
      have HS := Lib.hid (RefD.world (RefD.left (RefD.left HD.out ho n) ho (-1)) (d' := arm n d) (by
        have h := HOFF.out
        unfold arm
        rw [h, if_neg (by simp), if_pos h1, d2, ← h]))
      have HT := Lib.hid ((turned_poke (w := w) (K := K) (o := o) (p := p) (j := 3) (u := .int .i64 n) HK.out).trans (turned_poke (w := w.setCell ⟨p, 3, none⟩ (.int .i64 n)) (j := 3) (u := .int .i64 (-1)) HK.out))
      clear h1
      go_enter Try.func34, Try.ntmps34
      go_wp2
      go_end0
      exact ⟨rfl, K, HS.out, HT.out⟩
    · have d1 : decide (n < 0) = false := by simpa using h1
      by_cases h2 : n = 0
      · subst h2
        have HS := Lib.hid (RefD.world (RefD.toOff (RefD.left HD.out ho 0) ho true) (d' := arm 0 d) (by
          have h := HOFF.out
          unfold arm
          rw [h, if_neg (by simp), if_neg (by omega)]
          rfl))
        have HT := Lib.hid ((turned_poke (w := w) (K := K) (o := o) (p := p) (j := 3) (u := .int .i64 0) HK.out).trans (turned_poke (w := w.setCell ⟨p, 3, none⟩ (.int .i64 0)) (j := 2) (u := .bool true) HK.out))
        clear h1
        go_enter Try.func34, Try.ntmps34
        go_wp2
        go_end0
        exact ⟨rfl, K, HS.out, HT.out⟩
      · have d2 : (n == 0) = false := beq_eq_false_iff_ne.2 h2
        have HS := Lib.hid (RefD.world (RefD.left HD.out ho n) (d' := arm n d) (by
          have h := HOFF.out
          unfold arm
          rw [h, if_neg (by simp), if_neg h1, d2, ← h]))
        have HT := Lib.hid (turned_poke (w := w) (K := K) (o := o) (p := p) (j := 3) (u := .int .i64 n) HK.out)
        clear h1 h2
        go_enter Try.func34, Try.ntmps34
        go_wp2
        go_end0
        exact ⟨rfl, K, HS.out, HT.out⟩
end Go.Proofs.Ytfblekedgenacaa.RefOps5
