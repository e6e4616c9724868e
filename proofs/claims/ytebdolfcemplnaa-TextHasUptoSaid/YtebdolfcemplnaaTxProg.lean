/- The program's four calls of package text, by contracts. Conditions: texts of at most 2^30 bytes; that the library's variable that its search reads holds some number. -/
import Derived.Test.YtebdolfcemplnaaTxEach
import Derived.Test.YtebdolfcemplnaaTxOnceP
import Derived.Test.YtebdolfcemplnaaTxLaw
import Derived.Test.YtebdolfcemplnaaTxShelf
namespace Go.Proofs.Ytebdolfcemplnaa.TxProg
open Go Go.RowKit Words App UtSpec UtOwn UtSmall UtRange TxSpec TxAll Less TxOnce TxHas TxWord TxStep TxClo TxEach TxOnceP TxLaw

/-- What a call answers: a row of the call's own. -/
def RPost (ws : List (List UInt8)) (w : World) (e : Ending) (w' : World) : Prop :=
  ∃ v, e = .returned v ∧ w'.ownsRow w.heap.size 9 1 v ws.length (ws.map S8) ∧ Below w.heap.size w w'
theorem RPost.l {ws : List (List UInt8)} {w w' : World} {e : Ending} (h : RPost ws w e w') : LPost ws w e w' := by
  obtain ⟨v, rfl, ho, hb⟩ := h
  exact lpost_own ho hb
theorem made_of {s : ByteArray} {w w1 : World} (h1 : w1.heap = ((w.alloc (.cells #[.string s] 9)).alloc (.cells #[.slice none 0 0] 23)).heap) (h2 : w1.os = w.os) (h3 : w1.tape = w.tape) (h4 : w1.output = w.output) : Made s w w1 := by
  have hb : Below w.heap.size w ((w.alloc (.cells #[.string s] 9)).alloc (.cells #[.slice none 0 0] 23)) := ((Below.refl _ w).alloc (Nat.le_refl _) _).alloc (by simp) _
  refine ⟨by rw [h1]; simp, ⟨h2, h3, h4, by rw [h1]; exact hb.size, fun k hk => by rw [h1]; exact hb.block k hk⟩, ?_, ?_⟩
  · rw [h1]
    exact (Below.heap_alloc _ _ _ (by simp)).trans (heap_alloc_new w _)
  · rw [h1]
    have h := heap_alloc_new (w.alloc (.cells #[.string s] 9)) (.cells #[.slice none 0 0] 23)
    rw [show (w.alloc (.cells #[.string s] 9)).heap.size = w.heap.size + 1 by simp] at h
    exact h

set_option maxHeartbeats 1600000 in
set_option maxRecDepth 100000 in
/-- text.Words. -/
theorem words_any (s : ByteArray) (w : World) (hs : s.size ≤ 1073741824) : Calls Try.prog 11 #[.string s] w (RPost (words s.data.toList) w) := by
  have HE := fun w1 hm => Lib.hid (eachW s w w1 hm hs)
  rw [sel_words] at HE
  generalize words s.data.toList = T at *
  have k0 : ((w.alloc (.cells #[.string s] 9)).alloc (.cells #[.slice none 0 0] 23)).cell? ⟨w.heap.size, 0, none⟩ = some (.string s) := cell_of_heap (made_of (s := s) (w := w) rfl rfl rfl rfl).text rfl
  go_enter Try.func11, Try.ntmps11
  go_wp2_with fail
  refine (HE _ (made_of rfl rfl rfl rfl)).out.mono ?_
  rintro e w2 ⟨rfl, hb⟩
  obtain ⟨A, c, hl, hown⟩ := hb.list
  have HB := Lib.hid hb
  have HO := Lib.hid hown
  have k1 : w2.cell? ⟨w.heap.size + 1, 0, none⟩ = some (.slice A T.length c) := cell_of_heap hl rfl
  clear hb hl hown HE k0
  go_wp2
  go_ret
  exact ⟨_, rfl, own_mono HO.out (by omega), HB.out.below⟩

set_option maxHeartbeats 1600000 in
set_option maxRecDepth 100000 in
/-- text.Inner. -/
theorem inner_any (s : ByteArray) (w : World) (hs : s.size ≤ 1073741824) : Calls Try.prog 14 #[.string s] w (RPost (once (inners s.data.toList)) w) := by
  have HE := fun w1 hm => Lib.hid (eachI s w w1 hm hs)
  rw [sel_inners] at HE
  have hl1 := inners_len s.data.toList
  have e2 : s.data.toList.length = s.size := by simp
  rw [e2] at hl1
  generalize inners s.data.toList = T at *
  have HON := fun base v w h => Lib.hid (ponce_any T base v w h (by omega))
  have k0 : ((w.alloc (.cells #[.string s] 9)).alloc (.cells #[.slice none 0 0] 23)).cell? ⟨w.heap.size, 0, none⟩ = some (.string s) := cell_of_heap (made_of (s := s) (w := w) rfl rfl rfl rfl).text rfl
  clear e2 hl1
  go_enter Try.func14, Try.ntmps14
  go_wp2_with fail
  refine (HE _ (made_of rfl rfl rfl rfl)).out.mono ?_
  rintro e w2 ⟨rfl, hb⟩
  obtain ⟨A, c, hl, hown⟩ := hb.list
  have HB := Lib.hid hb
  have HP := HON (w.heap.size + 3) _ w2 hown
  have k1 : w2.cell? ⟨w.heap.size + 1, 0, none⟩ = some (.slice A T.length c) := cell_of_heap hl rfl
  clear hb hl hown HE k0 HON
  go_wp2_with fail
  refine HP.out.mono ?_
  rintro e w3 ⟨v3, rfl, ho3, hb3⟩
  have HO3 := Lib.hid ho3
  have HB3 := Lib.hid (hb3 w.heap.size w (by omega) HB.out.below)
  clear ho3 hb3 HP
  go_wp2
  go_ret
  exact ⟨_, rfl, own_mono HO3.out (by omega), HB3.out⟩

set_option maxHeartbeats 1600000 in
set_option maxRecDepth 100000 in
/-- text.Set. -/
theorem set_any (s : ByteArray) (w : World) (hs : s.size ≤ 1073741824) : Calls Try.prog 12 #[.string s] w (RPost (once (words s.data.toList)) w) := by
  have HW := Lib.hid (words_any s w hs)
  unfold RPost at HW
  have hl1 := words_len s.data.toList
  have e2 : s.data.toList.length = s.size := by simp
  rw [e2] at hl1
  generalize words s.data.toList = T at *
  have HON := fun base v w h => Lib.hid (ponce_any T base v w h (by omega))
  clear e2 hl1
  go_enter Try.func12, Try.ntmps12
  go_wp2_with fail
  refine HW.out.mono ?_
  rintro e w2 ⟨v2, rfl, ho2, hb2⟩
  have HP := HON w.heap.size v2 w2 ho2
  have HB2 := Lib.hid hb2
  clear ho2 hb2 HON HW
  go_wp2_with fail
  refine HP.out.mono ?_
  rintro e w3 ⟨v3, rfl, ho3, hb3⟩
  have HO3 := Lib.hid ho3
  have HB3 := Lib.hid (hb3 w.heap.size w (Nat.le_refl _) HB2.out)
  clear ho3 hb3 HP
  go_wp2
  go_ret
  exact ⟨_, rfl, HO3.out, HB3.out⟩

theorem contains_stands (l p : List UInt8) : Lib.contains l p = stands l p := by
  unfold Lib.contains
  by_cases h : ∃ i, i ≤ l.length ∧ occ l p i = true
  · have hf : ∃ i, i ≤ l.length ∧ occ l p i = true ∧ ∀ j, j < i → occ l p j = false := by
      obtain ⟨i, hi, h⟩ := h
      induction i using Nat.strongRecOn with
      | ind i ih =>
        by_cases hj : ∃ j, j < i ∧ occ l p j = true
        · obtain ⟨j, hj, h2⟩ := hj
          exact ih j hj (by omega) h2
        · refine ⟨i, hi, h, fun j hji => ?_⟩
          cases e : occ l p j with
          | false => rfl
          | true => exact absurd ⟨j, hji, e⟩ hj
    obtain ⟨i, hi, h1, h2⟩ := hf
    rw [Lib.index_first (s := l) (sub := p) hi h1 h2, stands_true hi h1]
    simp
  · have hn : ∀ i, i ≤ l.length → occ l p i = false := fun i hi => by
      cases e : occ l p i with
      | false => rfl
      | true => exact absurd ⟨i, hi, e⟩ h
    rw [Lib.index_none (s := l) (sub := p) hn, stands_false hn]
    rfl

set_option maxHeartbeats 800000 in
/-- text.Has. -/
theorem phas_any (l p : ByteArray) (w : World) (hM : ML w) (hl : l.size ≤ 1073741824) : Calls Try.prog 17 #[.string l, .string p] w fun e w' => e = .returned (.bool (stands l.data.toList p.data.toList)) ∧ Below w.heap.size w w' := by
  obtain ⟨m, hm⟩ := hM
  have HC := Lib.hid (Try.strings_Contains l p m w (by omega) hm)
  rw [contains_stands] at HC
  generalize stands l.data.toList p.data.toList = b at *
  clear hm
  go_enter Try.func17, Try.ntmps17
  go_wp2_with fail
  refine HC.out.mono ?_
  rintro e w' ⟨rfl, rfl⟩
  go_wp2
  go_ret
  exact ⟨rfl, Below.refl _ _⟩

/-- Each row's first world has it. -/
theorem ml_of {w : World} (h : w.ShapedOpen Try.prog) : ML w := Try.laysM144.s1_3 w h
theorem txt : Txt where
  words := fun s w hs => (words_any s w hs).mono fun _ _ h => h.l
  set := fun s w hs => (set_any s w hs).mono fun _ _ h => h.l
  inner := fun s w hs => (inner_any s w hs).mono fun _ _ h => h.l
  has := fun l p w hM hl _ => phas_any l p w hM hl
end Go.Proofs.Ytebdolfcemplnaa.TxProg
