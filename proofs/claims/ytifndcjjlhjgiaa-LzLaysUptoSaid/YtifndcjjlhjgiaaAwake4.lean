/- The contract of the statements' own 'awake' (the document's fixed answers are met): it answers true and changes nothing that was there. No conditions. -/
import Derived.Test.YtifndcjjlhjgiaaComp
import Derived.Test.YtifndcjjlhjgiaaRefExp
import Derived.Lib.SlBytesConst
namespace Go.Proofs.Ytifndcjjlhjgiaa.Awake4
open Go Go.RowKit Words Plain Put Own App LaySpec CompSpec Expand RefExp Comp

theorem run_str {s : List UInt8} {B : Nat} (w : World) (A : Option Addr) (n c : Nat) (hn : n = s.length) (hr : Rd w B A (s.map B8)) : (convert 22 9 (.slice A n c)).run Try.prog w = .ok (.string ⟨s.toArray⟩) w := by
  subst hn
  exact run_bytes w 22 9 5 Try.underlying22 Try.underlying5 Try.underlying9 A s c B hr
theorem marked (w : World) (cs : Array Value) (e : TypeId) (fz : Nat × Nat) : Rd (w.alloc (.cells cs e fz)) (w.alloc (.cells cs e fz)).heap.size (some ⟨w.heap.size, 0, none⟩) cs.toList := fun _ =>
  ⟨w.heap.size, 0, rfl, by simp, fun j u hu => by
    have h : (w.alloc (.cells cs e fz)).heap[w.heap.size]? = some (.cells cs e fz) := by
      show (w.heap.push (.cells cs e fz))[w.heap.size]? = _
      simp
    unfold World.cell?
    simp only [h]
    simpa using hu⟩

def ex : List UInt8 := [6, 4, 97, 98, 9, 2]
def a6 : List UInt8 := [97, 98, 97, 98, 97, 98]
def a16 : List UInt8 := [97, 98, 97, 98, 97, 98, 97, 98, 97, 98, 97, 98, 97, 98, 97, 98]
theorem ex_exp : exp ex 9 = (0, a6) := by
  have h1 : LaySpec.part 6 [4, 97, 98, 9, 2] [] = (0, [97, 98], 3) := by decide +kernel
  have h2 : LaySpec.part 6 [9, 2] [97, 98] = (0, a6, 2) := by decide +kernel
  have h3 : exp ex 9 = lay 6 [4, 97, 98, 9, 2] [] := rfl
  rw [h3, lay_ok (by simp) h1]
  rw [show ([4, 97, 98, 9, 2] : List UInt8).drop 3 = [9, 2] from rfl, lay_ok (by simp) h2]
  rw [show ([9, 2] : List UInt8).drop 2 = [] from rfl, lay_nil]
  rfl
theorem L6 : a6.length = 6 := rfl
theorem L16 : a16.length = 16 := rfl
theorem LE6 : ex.length = 6 := rfl

set_option maxHeartbeats 1600000 in
set_option maxRecDepth 100000 in
theorem awake_any (w : World) : Calls Try.prog 8 #[] w fun e w' => e = .returned (.bool true) ∧ Below w.heap.size w w' := by
  have kc := fun (w : World) (C : Array Value) (n c : Nat) => Lib.run_convert_bytes_const (P := Try.prog) w 22 5 C n c Try.underlying22 Try.underlying5
  have H1 := Lib.hid (exp_any ex (some ⟨w.heap.size, 0, none⟩) 6 9 (w.alloc (.cells #[.int .u8 6, .int .u8 4, .int .u8 97, .int .u8 98, .int .u8 9, .int .u8 2] 5)) (Rd.made' w #[.int .u8 6, .int .u8 4, .int .u8 97, .int .u8 98, .int .u8 9, .int .u8 2] 5) (by simp [LE6]) (by unfold maxLen; omega) (by simp [LE6]))
  rw [ex_exp] at H1
  have HB0 := Lib.hid ((Below.refl w.heap.size w).alloc (Nat.le_refl _) (.cells #[.int .u8 6, .int .u8 4, .int .u8 97, .int .u8 98, .int .u8 9, .int .u8 2] 5))
  go_enter Try.func8, Try.ntmps8
  go_wp2_with fail
  refine H1.out.mono ?_
  rintro e w1 ⟨v1, rfl, hown1, hb1⟩
  have HB1 := Lib.hid (HB0.out.trans (hb1.mono (by simp)))
  obtain ⟨A1, c1, rfl, _, _, _⟩ := own_slice hown1
  have HR1 := Lib.hid (Rd.of_own hown1)
  rw [L6]
  clear hown1 hb1 H1 HB0
  have H2 := Lib.hid (comp_any a16 (some ⟨w1.heap.size, 0, none⟩) 16 (w1.alloc (.cells #[.int .u8 97, .int .u8 98, .int .u8 97, .int .u8 98, .int .u8 97, .int .u8 98, .int .u8 97, .int .u8 98, .int .u8 97, .int .u8 98, .int .u8 97, .int .u8 98, .int .u8 97, .int .u8 98, .int .u8 97, .int .u8 98] 5 (16, 17))) (marked w1 #[.int .u8 97, .int .u8 98, .int .u8 97, .int .u8 98, .int .u8 97, .int .u8 98, .int .u8 97, .int .u8 98, .int .u8 97, .int .u8 98, .int .u8 97, .int .u8 98, .int .u8 97, .int .u8 98, .int .u8 97, .int .u8 98] 5 (16, 17)) (by simp [L16]))
  have HB1' := Lib.hid (HB1.out.alloc HB1.out.size (.cells #[.int .u8 97, .int .u8 98, .int .u8 97, .int .u8 98, .int .u8 97, .int .u8 98, .int .u8 97, .int .u8 98, .int .u8 97, .int .u8 98, .int .u8 97, .int .u8 98, .int .u8 97, .int .u8 98, .int .u8 97, .int .u8 98] 5 (16, 17)))
  go_wp2_with fail
  refine H2.out.mono ?_
  rintro e w2 hpost
  rcases hpost with ⟨h, _⟩ | ⟨_, v2, rfl, hown2, hb2⟩
  · exact absurd h (by simp [L16])
  have HB2 := Lib.hid (HB1'.out.trans (hb2.mono HB1'.out.size))
  have hl2 := (comp_length (b := a16) (by simp [L16])).1
  rw [L16] at hl2
  obtain ⟨A2, c2, rfl, h21, h22, _⟩ := own_slice hown2
  have HR2 := Lib.hid (Rd.of_own hown2)
  have HR1' := Lib.hid (((HR1.out.alloc (Nat.le_refl _) (.cells #[.int .u8 97, .int .u8 98, .int .u8 97, .int .u8 98, .int .u8 97, .int .u8 98, .int .u8 97, .int .u8 98, .int .u8 97, .int .u8 98, .int .u8 97, .int .u8 98, .int .u8 97, .int .u8 98, .int .u8 97, .int .u8 98] 5 (16, 17))).more (by simp)).below hb2 |>.more hb2.size)
  have H3 := Lib.hid (refexp_any (comp a16) A2 c2 16 w2 HR2.out h21 h22 (by omega) (by omega))
  rw [exp_comp (b := a16) (by simp [L16]) (by simp [L16])] at H3
  clear hown2 hb2 H2 HB1 HB1' HR1
  generalize comp a16 = CA at *
  go_wp2_with fail
  refine H3.out.mono ?_
  rintro e w3 ⟨v3, rfl, hown3, hb3⟩
  have HB3 := Lib.hid (HB2.out.trans (hb3.mono HB2.out.size))
  obtain ⟨A3, c3, rfl, _, _, _⟩ := own_slice hown3
  have HR3 := Lib.hid (Rd.of_own hown3)
  rw [L16]
  have s1 := run_str w3 A1 6 c1 L6.symm (HR1'.out.below hb3)
  have s2 := run_str w3 A3 16 c3 L16.symm HR3.out
  clear hown3 hb3 H3 HB2 HR1' HR2
  unfold a6 at s1
  unfold a16 at s2
  go_wp2
  go_ret
  exact ⟨rfl, HB3.out⟩
end Go.Proofs.Ytifndcjjlhjgiaa.Awake4
