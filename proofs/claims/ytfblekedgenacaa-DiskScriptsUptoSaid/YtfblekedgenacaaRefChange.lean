/- The contract of the document's own 'change': whether a change is refused, and its count. Conditions: the disk lies in memory as 'RefD' says; the names' lengths are at most the model's greatest. -/
import Derived.Test.YtfblekedgenacaaRefDisk
namespace Go.Proofs.Ytfblekedgenacaa.RefChange
open Go Go.RowKit Words DkSpec RefName RefDisk

theorem name_list (l : List UInt8) (w : World) (hl : l.length ≤ maxLen) : Calls Try.prog 44 #[.string ⟨l.toArray⟩] w fun e w' => e = .returned (.bool (nameOk l)) ∧ w = w' := by
  have h := name_any ⟨l.toArray⟩ w (by show l.toArray.size ≤ _; simpa using hl)
  simpa using h

theorem FRow.poke {w : World} {K : Nat → Nat} {o p j : Nat} {u : Value} {A : Option Addr} {l : List DFile} (h : FRow w K o A l) (hA : ∀ b off, A = some ⟨b, off, none⟩ → b ≠ p) (hp : K p = o) (ho : o ≠ 0) : FRow (w.setCell ⟨p, j, none⟩ u) K o A l := fun hn => by
  obtain ⟨g, off, e, hg, hk, hgz, hcell⟩ := h hn
  have hgp := hA g off e
  have ne : ∀ (b i : Nat), b ≠ p → (w.setCell ⟨p, j, none⟩ u).cell? ⟨b, i, none⟩ = w.cell? ⟨b, i, none⟩ := fun b i hb => World.cell?_setCell_other w _ _ u (fun e => hb (by injection e with e; exact e.symm))
  refine ⟨g, off, e, by simpa using hg, hk, fun j' => by rw [World.frozen?_setCell]; exact hgz j', fun i f hi => ?_⟩
  obtain ⟨k0, ⟨A', c', k1, k1a, k1b, k1c, k1d⟩, k2⟩ := hcell i f hi
  refine ⟨(ne _ _ hgp).trans k0, ⟨A', c', (ne _ _ hgp).trans k1, k1a, k1b, fun hl => ?_, k1d⟩, (ne _ _ hgp).trans k2⟩
  obtain ⟨b2, off2, e2, hb2, hc2⟩ := k1c hl
  refine ⟨b2, off2, e2, by simpa using hb2, fun j' u' hu => (ne _ _ ?_).trans (hc2 j' u' hu)⟩
  have h0 := k1d b2 off2 e2 (by simpa using hl)
  intro e
  rw [e, hp] at h0
  exact ho h0
theorem turned_poke {w : World} {K : Nat → Nat} {o p j : Nat} {u : Value} (hp : K p = o) : Turned K K o w (w.setCell ⟨p, j, none⟩ u) := by
  refine ⟨rfl, rfl, rfl, by simp, fun i hi hk => ?_, fun _ _ => rfl⟩
  have hne : i ≠ p := fun e => hk (by rw [e]; exact hp)
  simp [World.setCell, Array.getElem?_modify, hne.symm]
section
variable {w : World} {K : Nat → Nat} {o p : Nat} {d : DSt}
theorem RefD.left (h : RefD w K o p d) (ho : o ≠ 0) (n : Int) : RefD (w.setCell ⟨p, 3, none⟩ (.int .i64 n)) K o p { d with left := n } := by
  obtain ⟨A, c, hc, hm, hp, hk, c0, c1, c2, c3, f0, f1, f2, f3, hA, hf⟩ := h
  refine ⟨A, c, hc, hm, by simpa using hp, hk, ?_, ?_, ?_, ?_, ?_, ?_, ?_, ?_, hA, RefChange.FRow.poke hf hA hk ho⟩
  · rw [World.cell?_setCell_other _ _ _ _ (by simp)]; exact c0
  · rw [World.cell?_setCell_other _ _ _ _ (by simp)]; exact c1
  · rw [World.cell?_setCell_other _ _ _ _ (by simp)]; exact c2
  · exact World.cell?_setCell_same _ _ _ c3
  all_goals rw [World.frozen?_setCell]; assumption
theorem RefD.toOff (h : RefD w K o p d) (ho : o ≠ 0) (b : Bool) : RefD (w.setCell ⟨p, 2, none⟩ (.bool b)) K o p { d with off := b } := by
  obtain ⟨A, c, hc, hm, hp, hk, c0, c1, c2, c3, f0, f1, f2, f3, hA, hf⟩ := h
  refine ⟨A, c, hc, hm, by simpa using hp, hk, ?_, ?_, ?_, ?_, ?_, ?_, ?_, ?_, hA, RefChange.FRow.poke hf hA hk ho⟩
  · rw [World.cell?_setCell_other _ _ _ _ (by simp)]; exact c0
  · rw [World.cell?_setCell_other _ _ _ _ (by simp)]; exact c1
  · exact World.cell?_setCell_same _ _ _ c2
  · rw [World.cell?_setCell_other _ _ _ _ (by simp)]; exact c3
  all_goals rw [World.frozen?_setCell]; assumption
theorem RefD.toFull (h : RefD w K o p d) (ho : o ≠ 0) (b : Bool) : RefD (w.setCell ⟨p, 1, none⟩ (.bool b)) K o p { d with full := b } := by
  obtain ⟨A, c, hc, hm, hp, hk, c0, c1, c2, c3, f0, f1, f2, f3, hA, hf⟩ := h
  refine ⟨A, c, hc, hm, by simpa using hp, hk, ?_, ?_, ?_, ?_, ?_, ?_, ?_, ?_, hA, RefChange.FRow.poke hf hA hk ho⟩
  · rw [World.cell?_setCell_other _ _ _ _ (by simp)]; exact c0
  · exact World.cell?_setCell_same _ _ _ c1
  · rw [World.cell?_setCell_other _ _ _ _ (by simp)]; exact c2
  · rw [World.cell?_setCell_other _ _ _ _ (by simp)]; exact c3
  all_goals rw [World.frozen?_setCell]; assumption
end

/-- What 'change' answers and leaves. -/
def ChPost (w : World) (K : Nat → Nat) (o p : Nat) (d : DSt) (a b : List UInt8) (e : Ending) (w' : World) : Prop :=
  e = .returned (.int .i64 (refused a b d : Int)) ∧ RefD w' K o p (if refused a b d ≠ 0 then d else stepped d) ∧ Turned K K o w w'
theorem RefD.world {w : World} {K : Nat → Nat} {o p : Nat} {d d' : DSt} (h : RefD w K o p d) (e : d = d') : RefD w K o p d' := e ▸ h

section
theorem change_nil (w : World) (a b : List UInt8) : Calls Try.prog 40 #[.pointer none, .string ⟨a.toArray⟩, .string ⟨b.toArray⟩] w fun e w' => e = .returned (.int .i64 2) ∧ w = w' := by
  go_enter Try.func40, Try.ntmps40
  go_wp2
  go_ret
  exact ⟨rfl, rfl⟩

set_option maxHeartbeats 1600000 in
set_option maxRecDepth 100000 in
theorem change_any (w : World) (K : Nat → Nat) (o p : Nat) (d : DSt) (a b : List UInt8) (hd : RefD w K o p d) (ho : o ≠ 0) (ha : a.length ≤ maxLen) (hb : b.length ≤ maxLen) (hl1 : -1 ≤ d.left) (hl2 : d.left ≤ 9223372036854775807) :
    Calls Try.prog 40 #[.pointer (some ⟨p, 0, none⟩), .string ⟨a.toArray⟩, .string ⟨b.toArray⟩] w (ChPost w K o p d a b) := by
  have HNA := Lib.hid (name_list a w ha)
  have HNB := Lib.hid (name_list b w hb)
  have HD := Lib.hid hd
  obtain ⟨A, c, _, _, hp, hk, c0, c1, c2, c3, f0, f1, f2, f3, _, _⟩ := hd
  have HK := Lib.hid hk
  clear hk ha hb c0 c1
  have HR : Hid (∀ n, refused a b d = n → n ≠ 0 → ∀ x : Int, x = (n : Int) → ChPost w K o p d a b (.returned (.int .i64 x)) w) := Lib.hid fun n hn h0 x hx => ⟨by rw [hn, hx], by rw [if_pos (by rw [hn]; exact h0)]; exact HD.out, Turned.refl _ _ _⟩
  have HREF : Hid (refused a b d = if !nameOk a || !nameOk b then 1 else if d.off then 23 else 0) := Lib.hid rfl
  by_cases hna : nameOk a = true
  · rw [hna] at HNA HREF
    by_cases hnb : nameOk b = true
    · rw [hnb] at HNB HREF
      cases hoff : d.off with
      | true =>
        rw [hoff] at c2 HREF
        clear hna hnb hoff
        go_enter Try.func40, Try.ntmps40
        go_wp2_with fail
        refine HNA.out.mono ?_
        rintro e w1 ⟨rfl, rfl⟩
        go_wp2_with fail
        refine HNB.out.mono ?_
        rintro e w1 ⟨rfl, rfl⟩
        go_wp2
        go_ret
        exact HR.out 23 HREF.out (by omega) _ rfl
      | false =>
        rw [hoff] at c2 HREF
        have HR0 : Hid (refused a b d = 0) := Lib.hid HREF.out
        have HOFF := Lib.hid hoff
        obtain ⟨L, hL⟩ : ∃ L, d.left = L := ⟨_, rfl⟩
        rw [hL] at c3 hl1 hl2
        have HL := Lib.hid hL
        clear hna hnb hoff hL HR HREF
        by_cases hz : 0 < L
        · have hd1 : decide (0 < L) = true := by simpa using hz
          by_cases h1 : L = 1
          · subst h1
            have HF := Lib.hid (turned_poke (w := w) (K := K) (o := o) (p := p) (j := 3) (u := .int .i64 0) HK.out |>.trans (turned_poke (w := w.setCell ⟨p, 3, none⟩ (.int .i64 0)) (j := 2) (u := .bool true) HK.out))
            have HS : Hid (RefD ((w.setCell ⟨p, 3, none⟩ (.int .i64 0)).setCell ⟨p, 2, none⟩ (.bool true)) K o p (stepped d)) := Lib.hid (RefD.world (RefD.toOff (RefD.left HD.out ho 0) ho true) (by unfold stepped; rw [HL.out, if_pos (by omega)]; rfl))
            go_enter Try.func40, Try.ntmps40
            go_wp2_with fail
            refine HNA.out.mono ?_
            rintro e w1 ⟨rfl, rfl⟩
            go_wp2_with fail
            refine HNB.out.mono ?_
            rintro e w1 ⟨rfl, rfl⟩
            go_wp2
            go_ret
            exact ⟨by rw [HR0.out]; rfl, by rw [if_neg (by rw [HR0.out]; simp)]; exact HS.out, HF.out⟩
          · have h2 : 2 ≤ L := by omega
            have hne : ((L - 1) == 0) = false := beq_eq_false_iff_ne.2 (by omega)
            have HF := Lib.hid (turned_poke (w := w) (K := K) (o := o) (p := p) (j := 3) (u := .int .i64 (L - 1)) HK.out)
            have HS : Hid (RefD (w.setCell ⟨p, 3, none⟩ (.int .i64 (L - 1))) K o p (stepped d)) := Lib.hid (RefD.world (RefD.left HD.out ho (L - 1)) (by
              have hq : (L == 1) = false := beq_eq_false_iff_ne.2 h1
              have ho2 := HOFF.out
              unfold stepped
              rw [HL.out, if_pos hz, hq, ← ho2]))
            clear h1 hz
            go_enter Try.func40, Try.ntmps40
            go_wp2_with fail
            refine HNA.out.mono ?_
            rintro e w1 ⟨rfl, rfl⟩
            go_wp2_with fail
            refine HNB.out.mono ?_
            rintro e w1 ⟨rfl, rfl⟩
            go_wp2
            go_ret
            exact ⟨by rw [HR0.out]; rfl, by rw [if_neg (by rw [HR0.out]; simp)]; exact HS.out, HF.out⟩
        · have hd1 : decide (0 < L) = false := by simpa using hz
          have HS : Hid (RefD w K o p (stepped d)) := Lib.hid (RefD.world HD.out (by unfold stepped; rw [HL.out, if_neg hz]))
          clear hz
          go_enter Try.func40, Try.ntmps40
          go_wp2_with fail
          refine HNA.out.mono ?_
          rintro e w1 ⟨rfl, rfl⟩
          go_wp2_with fail
          refine HNB.out.mono ?_
          rintro e w1 ⟨rfl, rfl⟩
          go_wp2
          go_ret
          exact ⟨by rw [HR0.out]; rfl, by rw [if_neg (by rw [HR0.out]; simp)]; exact HS.out, Turned.refl _ _ _⟩
    · have hnb' : nameOk b = false := by simpa using hnb
      rw [hnb'] at HNB HREF
      clear hna hnb hnb'
      go_enter Try.func40, Try.ntmps40
      go_wp2_with fail
      refine HNA.out.mono ?_
      rintro e w1 ⟨rfl, rfl⟩
      go_wp2_with fail
      refine HNB.out.mono ?_
      rintro e w1 ⟨rfl, rfl⟩
      go_wp2
      go_ret
      exact HR.out 1 HREF.out (by omega) _ rfl
  · have hna' : nameOk a = false := by simpa using hna
    rw [hna'] at HNA HREF
    clear hna hna'
    go_enter Try.func40, Try.ntmps40
    go_wp2_with fail
    refine HNA.out.mono ?_
    rintro e w1 ⟨rfl, rfl⟩
    go_wp2
    go_ret
    exact HR.out 1 HREF.out (by omega) _ rfl
end
end Go.Proofs.Ytfblekedgenacaa.RefChange
