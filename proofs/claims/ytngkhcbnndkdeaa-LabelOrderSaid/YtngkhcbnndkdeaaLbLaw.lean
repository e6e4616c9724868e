/- What the statements of layer 8 ask of the program ('Lbl': contracts of label's five calls), and their own 'awake'. -/
import Derived.Test.YtngkhcbnndkdeaaLbCmp
import Derived.Test.YtngkhcbnndkdeaaLbCanon
import Derived.Test.YtngkhcbnndkdeaaLbWrite
import Derived.Test.YtngkhcbnndkdeaaMl
namespace Go.Proofs.Ytngkhcbnndkdeaa.LbLaw
open Go Go.RowKit Words AppN UtSpec Less LbSpec LbText LbMem LbRef LbCmp LbCanon LbWrite UtOwn Ml

theorem may_val {l : List Lab} (h : May l) : ∀ x ∈ l, x.2.length ≤ 140737488355328 := fun x hx => by
  have h1 := h.each x hx
  unfold lerr at h1
  rw [if_pos (lerr_name (h.each x hx))] at h1
  split at h1
  · cases h1
  · omega
def Small (l : List Lab) : Prop := ∀ x ∈ l, x.1.length ≤ maxLen ∧ x.2.length ≤ maxLen
/-- The program's five calls. -/
structure Lbl : Prop where
  canon : ∀ (w : World) (l : List Lab) (A : Option Addr) (c m : Nat), Lb w A m c l → Calls Try.prog 8 #[.slice A m c] w (CPost (canon l) w)
  find : ∀ (w : World) (l : List Lab) (A : Option Addr) (c m : Nat) (n : List UInt8), Lb w A m c l → (∀ x ∈ l, x.2.length ≤ 140737488355328) → Calls Try.prog 10 #[.slice A m c, S8 n] w fun e w' => e = .returned (.tuple #[S8 ((find l n).getD []), .bool (find l n).isSome]) ∧ Below w.heap.size w w'
  compare : ∀ (w : World) (a b : List Lab) (A B : Option Addr) (m n c d : Nat), Lb w A m c a → Lb w B n d b → Calls Try.prog 13 #[.slice A m c, .slice B n d] w fun e w' => e = .returned (.int .i64 (cmp a b)) ∧ Below w.heap.size w w'
  write : ∀ (w : World) (l : List Lab) (A : Option Addr) (c m : Nat), Lb w A m c l → (write l).length ≤ 16777216 → Calls Try.prog 15 #[.slice A m c] w fun e w' => e = .returned (S8 (write l)) ∧ Below w.heap.size w w'
  read : ∀ (w : World) (s : ByteArray), ML w → s.size ≤ 16777216 → Calls Try.prog 17 #[.string s] w (CPost (read s.data.toList) w)

/-- What a call leaves of a list, as a slice that is read; in the caller's words. -/
theorem own_lb {w : World} {base : Nat} {v : Value} {l : List Lab} (h : w.ownsRow base 37 2 v l.length (flat l)) : ∃ A c, v = .slice A l.length c ∧ Lb w A l.length c l := by
  obtain ⟨A, c, rfl, h1, h2, h3, _⟩ := own_lab h
  exact ⟨A, c, rfl, rfl, h1, h2, h3⟩
theorem lb_below {w w' : World} {A : Option Addr} {n c : Nat} {l : List Lab} (h : Lb w A n c l) (hb : Below w.heap.size w w') : Lb w' A n c l :=
  ⟨h.1, h.2.1, h.2.2.1, (h.2.2.2.below hb).more hb.size⟩
theorem lb_made (w : World) (cs : Array Value) (l : List Lab) (h : cs.toList = flat l) (n : Nat) (hn : n = l.length) (hl : n ≤ 100) : Lb (w.alloc (.cells cs 37)) (some ⟨w.heap.size, 0, none⟩) n n l := by
  refine ⟨hn, Nat.le_refl _, by unfold maxLen; omega, ?_⟩
  have := Rd.made' w cs 37
  rwa [h] at this
/-- As 'CPost', the answer as a slice. -/
def QPost (r : Nat × List Lab) (w : World) (e : Ending) (w' : World) : Prop :=
  ∃ A c, e = .returned (.tuple #[.slice A r.2.length c, .int .i64 (r.1 : Int)]) ∧ Lb w' A r.2.length c r.2 ∧ Below w.heap.size w w'
theorem cpost_q {r : Nat × List Lab} {w w' : World} {e : Ending} (h : CPost r w e w') : QPost r w e w' := by
  obtain ⟨v, rfl, ho, hb⟩ := h
  obtain ⟨A, c, rfl, hl⟩ := own_lb ho
  exact ⟨A, c, rfl, hl, hb⟩

def two : List Lab := [([98], [50]), ([97], [49])]
def srt : List Lab := [([97], [49]), ([98], [50])]
theorem aw1 : canon two = (0, srt) := by decide +kernel
theorem aw2 : read [123, 97, 61, 34, 49, 34, 44, 98, 61, 34, 50, 34, 125] = (0, srt) := by decide +kernel
theorem aw3 : read [123, 97, 61, 34, 49, 34, 44, 32, 98, 61, 34, 50, 34, 125] = (6, []) := by decide +kernel
theorem aw4 : find two [97] = some [49] := by decide +kernel
theorem aw5 : write srt = [123, 97, 61, 34, 49, 34, 44, 98, 61, 34, 50, 34, 125] := by decide +kernel
theorem aw6 : cmp srt two = -1 := by decide +kernel

set_option maxHeartbeats 3200000 in
set_option maxRecDepth 100000 in
theorem awake_any (P : Lbl) (w : World) (hM : ML w) : Calls Try.prog 7 #[] w fun e w' => e = .returned (.bool true) ∧ Below w.heap.size w w' := by
  have A1 := fun w A c m h => Lib.hid ((P.canon w two A c m h).mono fun _ _ h => cpost_q h)
  have A2 := fun w hM => Lib.hid ((P.read w ⟨#[123, 97, 61, 34, 49, 34, 44, 98, 61, 34, 50, 34, 125]⟩ hM (by decide)).mono fun _ _ h => cpost_q h)
  have A3 := fun w hM => Lib.hid ((P.read w ⟨#[123, 97, 61, 34, 49, 34, 44, 32, 98, 61, 34, 50, 34, 125]⟩ hM (by decide)).mono fun _ _ h => cpost_q h)
  have A4 := fun w A c m h => Lib.hid (P.find w two A c m [97] h (by unfold two; simp))
  have A5 := fun w A B c d h1 h2 => Lib.hid (rsame_any w srt srt A B 2 2 c d h1 h2)
  have A6 := fun w A c h => Lib.hid (P.write w srt A c 2 h (by rw [aw5]; decide))
  have A7 := fun w A B c d h1 h2 => Lib.hid (P.compare w srt two A B 2 2 c d h1 h2)
  rw [aw1] at A1
  simp only [aw2] at A2
  simp only [aw3] at A3
  rw [aw4] at A4
  rw [aw5] at A6
  rw [aw6] at A7
  rw [show (srt == srt) = true by decide +kernel] at A5
  unfold QPost S8 at *
  simp only [show srt.length = 2 from rfl, List.length_nil] at A1 A2 A3
  have HM := fun w => Lib.hid (lb_made w #[.string ⟨#[98]⟩, .string ⟨#[50]⟩, .string ⟨#[97]⟩, .string ⟨#[49]⟩] two rfl 2 rfl (by omega))
  have HB0 := Lib.hid ((Below.refl w.heap.size w).alloc (Nat.le_refl _) (.cells #[.string ⟨#[98]⟩, .string ⟨#[50]⟩, .string ⟨#[97]⟩, .string ⟨#[49]⟩] 37))
  go_enter Try.func7, Try.ntmps7
  go_wp2_with fail
  refine (A1 _ _ _ _ (HM w).out).out.mono ?_
  rintro e w1 ⟨B1, c1, rfl, hl1, hb1⟩
  have HB1 := Lib.hid (HB0.out.trans (hb1.mono (by simp)))
  have HT1 := Lib.hid (lb_below (HM w).out hb1)
  obtain ⟨g, o, rfl, hg, hcell⟩ := hl1.2.2.2 (by decide)
  have k0 : w1.cell? ⟨g, o, none⟩ = some (.string ⟨#[97]⟩) := by have h := hcell 0 _ rfl; simpa [S8] using h
  have HS1 := Lib.hid hl1
  have HK0 := Lib.hid k0
  clear hl1 hb1 hcell A1 HM HB0 k0
  go_wp2_with fail
  refine (A2 w1 (hM.below HB1.out)).out.mono ?_
  rintro e w2 ⟨B2, c2, rfl, hl2, hb2⟩
  have HB2 := Lib.hid (below_step HB1.out hb2)
  have HT2 := Lib.hid (lb_below (HT1).out hb2)
  have HS2 := Lib.hid (lb_below (HS1).out hb2)
  have HR2 := Lib.hid hl2
  have HK2 := Lib.hid ((hb2.cell (p := ⟨g, o, none⟩) hg).trans HK0.out)
  have hg2 : g < w2.heap.size := Nat.lt_of_lt_of_le hg hb2.size
  clear hl2 hb2 A2 HT1 HS1 HK0 hg
  go_wp2_with fail
  refine (A3 w2 (hM.below HB2.out)).out.mono ?_
  rintro e w3 ⟨B3, c3, rfl, _, hb3⟩
  have HB3 := Lib.hid (below_step HB2.out hb3)
  have HT3 := Lib.hid (lb_below (HT2).out hb3)
  have HS3 := Lib.hid (lb_below (HS2).out hb3)
  have HR3 := Lib.hid (lb_below (HR2).out hb3)
  have HK3 := Lib.hid ((hb3.cell (p := ⟨g, o, none⟩) hg2).trans HK2.out)
  have hg3 : g < w3.heap.size := Nat.lt_of_lt_of_le hg2 hb3.size
  clear hb3 A3 HT2 HS2 HR2 HK2 hg2
  go_wp2_with fail
  refine (A4 w3 _ _ _ HT3.out).out.mono ?_
  rintro e w4 ⟨rfl, hb4⟩
  have HB4 := Lib.hid (below_step HB3.out hb4)
  have HT4 := Lib.hid (lb_below (HT3).out hb4)
  have HS4 := Lib.hid (lb_below (HS3).out hb4)
  have HR4 := Lib.hid (lb_below (HR3).out hb4)
  have k4 : w4.cell? ⟨g, o, none⟩ = some (.string ⟨#[97]⟩) := (hb4.cell (p := ⟨g, o, none⟩) hg3).trans HK3.out
  clear hb4 A4 HT3 HS3 HR3 HK3 hg3
  simp only [Option.getD_some, Option.isSome_some]
  go_wp2_with fail
  refine (A5 w4 _ _ _ _ HS4.out HR4.out).out.mono ?_
  rintro e w5 ⟨rfl, hb5⟩
  have HB5 := Lib.hid (below_step HB4.out hb5)
  have HT5 := Lib.hid (lb_below (HT4).out hb5)
  have HS5 := Lib.hid (lb_below (HS4).out hb5)
  clear hb5 A5 HT4 HS4 HR4 k4
  go_wp2_with fail
  refine (A6 w5 _ _ HS5.out).out.mono ?_
  rintro e w6 ⟨rfl, hb6⟩
  have HB6 := Lib.hid (below_step HB5.out hb6)
  have HT6 := Lib.hid (lb_below (HT5).out hb6)
  have HS6 := Lib.hid (lb_below (HS5).out hb6)
  clear hb6 A6 HT5 HS5
  go_wp2_with fail
  refine (A7 w6 _ _ _ _ HS6.out HT6.out).out.mono ?_
  rintro e w7 ⟨rfl, hb7⟩
  have HB7 := Lib.hid (below_step HB6.out hb7)
  clear hb7 A7 HT6 HS6
  go_wp2
  go_ret
  exact ⟨rfl, HB7.out⟩
end Go.Proofs.Ytngkhcbnndkdeaa.LbLaw
