/- What the statements of layer 7 ask of the program ('Txt': contracts of text's four calls), and the document's answers in the same form. -/
import Derived.Test.YtebdolfcemplnaaTxAll
import Derived.Test.YtebdolfcemplnaaTxHas
namespace Go.Proofs.Ytebdolfcemplnaa.TxLaw
open Go Go.RowKit Words App UtSpec UtOwn TxSpec Less TxSame TxOnce TxHas TxAll

/-- A list of texts is answered, in memory that lies as it did but for what is new. -/
def LPost (ws : List (List UInt8)) (w : World) (e : Ending) (w' : World) : Prop :=
  ∃ A c, e = .returned (.slice A ws.length c) ∧ ws.length ≤ c ∧ c ≤ maxLen ∧ Rd w' w'.heap.size A (ws.map S8) ∧ Below w.heap.size w w'
/-- The library's variable that its search reads holds some number (each row's first world has that). -/
def ML (w : World) : Prop := ∃ m, w.cell? ⟨0, 0, none⟩ = some (.int .i64 m)
theorem ML.below {w w' : World} (h : ML w) (hb : Below w.heap.size w w') : ML w' := by
  obtain ⟨m, hm⟩ := h
  refine ⟨m, (hb.cell (p := ⟨0, 0, none⟩) ?_).trans hm⟩
  show 0 < w.heap.size
  unfold World.cell? at hm
  cases h : w.heap[0]? with
  | none => simp [h] at hm
  | some o => exact (Array.getElem?_eq_some_iff.1 h).1
/-- The program's four calls. -/
structure Txt : Prop where
  words : ∀ (s : ByteArray) (w : World), s.size ≤ 1073741824 → Calls Try.prog 11 #[.string s] w (LPost (words s.data.toList) w)
  set : ∀ (s : ByteArray) (w : World), s.size ≤ 1073741824 → Calls Try.prog 12 #[.string s] w (LPost (once (TxSpec.words s.data.toList)) w)
  inner : ∀ (s : ByteArray) (w : World), s.size ≤ 1073741824 → Calls Try.prog 14 #[.string s] w (LPost (once (inners s.data.toList)) w)
  has : ∀ (l p : ByteArray) (w : World), ML w → l.size ≤ 1073741824 → p.size ≤ 1073741824 → Calls Try.prog 17 #[.string l, .string p] w fun e w' => e = .returned (.bool (stands l.data.toList p.data.toList)) ∧ Below w.heap.size w w'

theorem lpost_own {ws : List (List UInt8)} {w w' : World} {v : Value} (h : w'.ownsRow w.heap.size 9 1 v ws.length (ws.map S8)) (hb : Below w.heap.size w w') : LPost ws w (.returned v) w' := by
  obtain ⟨A, c, rfl, h1, h2, _⟩ := own_slice h
  exact ⟨A, c, rfl, h1, h2, Rd.of_own h, hb⟩
theorem all_words (s : ByteArray) (w : World) (hs : s.size ≤ 1099511627776) : Calls Try.prog 9 #[.string s, .bool false] w (LPost (words s.data.toList) w) :=
  (all_any s false w hs).mono fun e w' ⟨v, he, ho, hb⟩ => by
    rw [sel_words] at ho
    subst he
    exact lpost_own ho hb
theorem all_inners (s : ByteArray) (w : World) (hs : s.size ≤ 1099511627776) : Calls Try.prog 9 #[.string s, .bool true] w (LPost (inners s.data.toList) w) :=
  (all_any s true w hs).mono fun e w' ⟨v, he, ho, hb⟩ => by
    rw [sel_inners] at ho
    subst he
    exact lpost_own ho hb
theorem once_l (ws : List (List UInt8)) (w : World) (A : Option Addr) (n c : Nat) (hn : n = ws.length) (h1 : Rd w w.heap.size A (ws.map S8)) (hm : ws.length ≤ c) (hc1 : c ≤ maxLen) (hl : ws.length ≤ 1099511627776) :
    Calls Try.prog 13 #[.slice A n c] w (LPost (once ws) w) := by
  subst hn
  exact (once_any w ws A c h1 hm hc1 hl).mono fun e w' ⟨v, he, ho, hb⟩ => by
    subst he
    exact lpost_own ho hb
theorem same_eq (ws : List (List UInt8)) (w : World) (A1 A2 : Option Addr) (c1 c2 n1 n2 B1 B2 : Nat) (e1 : n1 = ws.length) (e2 : n2 = ws.length) (h1 : Rd w B1 A1 (ws.map S8)) (h2 : Rd w B2 A2 (ws.map S8)) (hm1 : ws.length ≤ c1) (hm2 : ws.length ≤ c2) (hc1 : c1 ≤ maxLen) (hc2 : c2 ≤ maxLen) :
    Calls Try.prog 10 #[.slice A1 n1 c1, .slice A2 n2 c2] w fun e w' => e = .returned (.bool true) ∧ Below w.heap.size w w' := by
  subst e1
  subst e2
  have h := same_any w ws ws A1 A2 c1 c2 B1 B2 h1 h2 hm1 hm2 hc1 hc2
  rw [show (ws == ws) = true by simp] at h
  exact h
theorem rd_keep {w w' : World} {A : Option Addr} {vs : List Value} (h : Rd w w.heap.size A vs) (hb : Below w.heap.size w w') : Rd w' w'.heap.size A vs := (h.below hb).more hb.size
theorem runsA_len (R : List Nat) : ∀ (cur : List Nat) (st : Bool), (runsA cur st R).length ≤ R.length + 1 := by
  induction R with
  | nil => intro cur st; rw [runsA]; split <;> simp
  | cons r R ih =>
    intro cur st
    rw [runsA]
    split
    · have := ih (cur ++ [r]) st; simp only [List.length_cons]; omega
    · have := ih [] true
      split <;> simp only [List.length_cons] <;> omega
theorem words_len (s : List UInt8) : (words s).length ≤ s.length + 1 := by
  unfold words
  rw [List.length_map, ← runsA_fst (rs s) [] false, List.length_map]
  have h1 := runsA_len (rs s) [] false
  have h2 := runes_len s
  have h3 : (rs s).length = (runes s).length := by unfold rs; rw [List.length_map]
  omega
theorem inners_len (s : List UInt8) : (inners s).length ≤ s.length + 1 := by
  unfold inners
  rw [List.length_map]
  have h0 := List.length_filter_le Prod.snd (runsA [] false (rs s))
  have h1 := runsA_len (rs s) [] false
  have h2 := runes_len s
  have h3 : (rs s).length = (runes s).length := by unfold rs; rw [List.length_map]
  omega

def cGet : ByteArray := { data := #[71, 69, 84, 32, 47, 97, 112, 105, 47, 118, 49, 32, 71, 69, 84] }
theorem aw1 : words cGet.data.toList = [[103, 101, 116], [97, 112, 105], [118, 49], [103, 101, 116]] := by decide +kernel
theorem aw2 : once (words [98, 32, 97, 32, 98]) = [[97], [98]] := by decide +kernel
theorem aw3 : once (inners [120, 61, 70, 111, 111, 32, 98, 97, 114]) = [[102, 111, 111]] := by decide +kernel
theorem aw4 : stands [97, 98, 99] [98, 99] = true := by decide +kernel
theorem aw5 : stands [97, 98, 99] [99, 98] = false := by decide +kernel

theorem same_made (ws : List (List UInt8)) (w0 : World) (A1 : Option Addr) (c1 n1 g k : Nat) (cs : Array Value) (hcs : cs.toList = ws.map S8) (hg : g = w0.heap.size) (hk : k = ws.length) (e1 : n1 = ws.length) (h1 : Rd w0 w0.heap.size A1 (ws.map S8)) (hm1 : ws.length ≤ c1) (hc1 : c1 ≤ maxLen) (hw : ws.length ≤ 100) :
    Calls Try.prog 10 #[.slice A1 n1 c1, .slice (some ⟨g, 0, none⟩) k k] (w0.alloc (.cells cs 9)) fun e w' => e = .returned (.bool true) ∧ Below w0.heap.size w0 w' := by
  subst hg
  subst hk
  have h2 := Rd.made w0 cs 9
  rw [hcs] at h2
  exact (same_eq ws (w0.alloc (.cells cs 9)) A1 (some ⟨w0.heap.size, 0, none⟩) c1 ws.length n1 ws.length _ _ e1 rfl (h1.alloc (Nat.le_refl _) _) h2 hm1 (Nat.le_refl _) hc1 (by unfold maxLen; omega)).mono
    fun e w' ⟨he, hb⟩ => ⟨he, ((Below.refl _ _).alloc (Nat.le_refl _) _).trans (hb.mono (by simp))⟩

set_option maxHeartbeats 3200000 in
set_option maxRecDepth 100000 in
theorem awake_any (P : Txt) (w : World) (hM : ML w) : Calls Try.prog 8 #[] w fun e w' => e = .returned (.bool true) ∧ Below w.heap.size w w' := by
  have A1 := fun w => Lib.hid (P.words cGet w (by decide))
  have A2 := fun w => Lib.hid (P.set ⟨#[98, 32, 97, 32, 98]⟩ w (by decide))
  have A3 := fun w => Lib.hid (P.inner ⟨#[120, 61, 70, 111, 111, 32, 98, 97, 114]⟩ w (by decide))
  have A4 := fun w h => Lib.hid (P.has ⟨#[97, 98, 99]⟩ ⟨#[98, 99]⟩ w h (by decide) (by decide))
  have A5 := fun w h => Lib.hid (P.has ⟨#[97, 98, 99]⟩ ⟨#[99, 98]⟩ w h (by decide) (by decide))
  have HM := Lib.hid hM
  clear hM
  rw [aw1] at A1
  simp only [aw2] at A2
  simp only [aw3] at A3
  simp only [aw4] at A4
  simp only [aw5] at A5
  unfold LPost cGet at *
  go_enter Try.func8, Try.ntmps8
  go_wp2_with fail
  refine (A1 w).out.mono ?_
  rintro e w1 ⟨v1, c1, rfl, hc1, hm1, hr1, hb1⟩
  have HB1 := Lib.hid hb1
  have H1 := fun g k hg hk => Lib.hid (same_made [[103, 101, 116], [97, 112, 105], [118, 49], [103, 101, 116]] w1 v1 c1 4 g k #[.string ⟨#[103, 101, 116]⟩, .string ⟨#[97, 112, 105]⟩, .string ⟨#[118, 49]⟩, .string ⟨#[103, 101, 116]⟩] rfl hg hk rfl hr1 hc1 hm1 (by decide))
  clear hr1 hb1 hc1 hm1 A1
  go_wp2_with fail
  refine (H1 _ _ (by simp) (by simp)).out.mono ?_
  rintro e w2 ⟨rfl, hb2⟩
  have HB2 := Lib.hid (below_step HB1.out hb2)
  clear hb2 H1
  go_wp2_with fail
  refine (A2 w2).out.mono ?_
  rintro e w3 ⟨v3, c3, rfl, hc3, hm3, hr3, hb3⟩
  have HB3 := Lib.hid (below_step HB2.out hb3)
  have H3 := fun g k hg hk => Lib.hid (same_made [[97], [98]] w3 v3 c3 2 g k #[.string ⟨#[97]⟩, .string ⟨#[98]⟩] rfl hg hk rfl hr3 hc3 hm3 (by decide))
  clear hr3 hb3 hc3 hm3 A2
  go_wp2_with fail
  refine (H3 _ _ (by simp) (by simp)).out.mono ?_
  rintro e w4 ⟨rfl, hb4⟩
  have HB4 := Lib.hid (below_step HB3.out hb4)
  clear hb4 H3
  go_wp2_with fail
  refine (A3 w4).out.mono ?_
  rintro e w5 ⟨v5, c5, rfl, hc5, hm5, hr5, hb5⟩
  have HB5 := Lib.hid (below_step HB4.out hb5)
  have H5 := fun g k hg hk => Lib.hid (same_made [[102, 111, 111]] w5 v5 c5 1 g k #[.string ⟨#[102, 111, 111]⟩] rfl hg hk rfl hr5 hc5 hm5 (by decide))
  clear hr5 hb5 hc5 hm5 A3
  go_wp2_with fail
  refine (H5 _ _ (by simp) (by simp)).out.mono ?_
  rintro e w6 ⟨rfl, hb6⟩
  have HB6 := Lib.hid (below_step HB5.out hb6)
  clear hb6 H5
  go_wp2_with fail
  refine (A4 w6 (HM.out.below HB6.out)).out.mono ?_
  rintro e w7 ⟨rfl, hb7⟩
  have HB7 := Lib.hid (below_step HB6.out hb7)
  clear hb7
  go_wp2_with fail
  refine (A5 w7 (HM.out.below HB7.out)).out.mono ?_
  rintro e w8 ⟨rfl, hb8⟩
  have HB8 := Lib.hid (below_step HB7.out hb8)
  clear hb8
  go_wp2
  go_ret
  exact ⟨rfl, HB8.out⟩
end Go.Proofs.Ytebdolfcemplnaa.TxLaw
