/- The contract of the document's own Read (of a disk): the error, or the file's bytes where they lie; the world stands. Conditions: the disk lies in memory as 'RefD' says; the name's length is at most the model's greatest. -/
import Derived.Test.YtfblekedgenacaaRefOps5
namespace Go.Proofs.Ytfblekedgenacaa.RefRead5
open Go Go.RowKit Words DkSpec RefDisk RefChange RefRow RefTake RefPut5 RefOps5

/-- What Read answers. -/
def RdPost (w : World) (K : Nat → Nat) (r : Nat × List UInt8) (e : Ending) (w' : World) : Prop := (∃ A c, e = .returned (.tuple #[.slice A r.2.length c, .int .i64 (r.1 : Int)]) ∧ r.2.length ≤ c ∧ c ≤ maxLen ∧ Rd w w.heap.size A (r.2.map B8) ∧ (∀ b off, A = some ⟨b, off, none⟩ → 0 < r.2.length → K b = 0)) ∧ w = w'
theorem rdpost_err {w : World} {K : Nat → Nat} {r : Nat × List UInt8} {n : Nat} {x : Int} (hr : r = (n, [])) (hx : x = (n : Int)) : RdPost w K r (.returned (.tuple #[.slice none 0 0, .int .i64 x])) w := by
  subst hr hx
  exact ⟨⟨none, 0, rfl, Nat.le_refl _, by unfold maxLen; omega, Rd.nil_, fun b off e => by cases e⟩, rfl⟩

theorem read_nil (w : World) (a : List UInt8) : Calls Try.prog 30 #[.pointer none, .string ⟨a.toArray⟩] w fun e w' => e = .returned (.tuple #[.slice none 0 0, .int .i64 2]) ∧ w = w' := by
  have hne := eq_nil
  go_enter Try.func30, Try.ntmps30
  go_wp2
  go_ret2
  exact ⟨rfl, rfl⟩

set_option maxHeartbeats 800000 in
theorem read_any (w : World) (K : Nat → Nat) (o p : Nat) (d : DSt) (a : List UInt8) (hd : RefD w K o p d) (ha : a.length ≤ maxLen) :
    Calls Try.prog 30 #[.pointer (some ⟨p, 0, none⟩), .string ⟨a.toArray⟩] w (RdPost w K (read a d)) := by
  have HNA := Lib.hid (name_list a w ha)
  have HFD := Lib.hid (find_any w K o p d a hd)
  obtain ⟨A, c, hc, hm, hp, hk, c0, c1, c2, c3, _, _, _, _, _, hf⟩ := hd
  have HFR := Lib.hid hf
  clear hk c1 c3 ha hf
  by_cases hna : nameOk a = true
  · rw [hna] at HNA
    cases hoff : d.off with
    | true =>
      have HX := Lib.hid (show read a d = (23, []) by unfold DkSpec.read refused; rw [hna, hoff]; rfl)
      rw [hoff] at c2
      clear hna hoff HFR HFD c0
      go_enter Try.func30, Try.ntmps30
      go_wp2_with fail
      refine HNA.out.mono ?_
      rintro e w1 ⟨rfl, rfl⟩
      go_wp2
      go_ret2
      exact rdpost_err HX.out rfl
    | false =>
      rw [hoff] at c2
      obtain ⟨i, b, hib⟩ : ∃ i b, place a d.files = (i, b) := ⟨_, _, rfl⟩
      have hle := place_le a d.files
      rw [hib] at HFD hle
      obtain ⟨_, hle2⟩ := hle
      simp only at hle2
      have h0 : ¬ refused a a d ≠ 0 := by unfold refused; rw [hna, hoff]; simp
      cases b with
      | false =>
        have HX := Lib.hid (show read a d = (21, []) by unfold DkSpec.read; rw [if_neg h0, hib]; rfl)
        clear hna hoff HFR c0 hib hle2 h0
        go_enter Try.func30, Try.ntmps30
        go_wp2_with fail
        refine HNA.out.mono ?_
        rintro e w1 ⟨rfl, rfl⟩
        go_wp2_with fail
        refine HFD.out.mono ?_
        rintro e w1 ⟨rfl, rfl⟩
        go_wp2
        go_ret2
        exact rdpost_err HX.out rfl
      | true =>
        have hil := (hle2 rfl).1
        obtain ⟨g, off, rfl, _, _, _, hcell⟩ := HFR.out (by omega)
        obtain ⟨_, ⟨A', c', k1, k1a, k1b, k1c, k1d⟩, _⟩ := hcell i (d.files[i]'hil) (List.getElem?_eq_getElem hil)
        have HX := Lib.hid (show read a d = (0, (d.files[i]'hil).data) by
          unfold DkSpec.read old
          rw [if_neg h0, hib]
          simp [List.getD, List.getElem?_eq_getElem hil])
        generalize (d.files[i]'hil) = f at *
        have H1 := Lib.hid k1a
        have H2 := Lib.hid k1b
        have H3 := Lib.hid k1c
        have H4 := Lib.hid k1d
        unfold maxLen at hm
        clear hna hoff hib hle2 h0 HFR hcell k1a k1b k1c k1d
        go_enter Try.func30, Try.ntmps30
        go_wp2_with fail
        refine HNA.out.mono ?_
        rintro e w1 ⟨rfl, rfl⟩
        go_wp2_with fail
        refine HFD.out.mono ?_
        rintro e w1 ⟨rfl, rfl⟩
        go_wp2
        go_ret2
        rw [HX.out]
        exact ⟨⟨A', c', rfl, H1.out, H2.out, H3.out, H4.out⟩, rfl⟩
  · have hna' : nameOk a = false := by simpa using hna
    have HX := Lib.hid (show read a d = (1, []) by unfold DkSpec.read refused; rw [hna']; rfl)
    rw [hna'] at HNA
    clear hna hna' HFR HFD c0 c2
    go_enter Try.func30, Try.ntmps30
    go_wp2_with fail
    refine HNA.out.mono ?_
    rintro e w1 ⟨rfl, rfl⟩
    go_wp2
    go_ret2
    exact rdpost_err HX.out rfl
end Go.Proofs.Ytfblekedgenacaa.RefRead5
