/- The contracts of Down, refusal and change, and of New. Conditions: the disk lies in memory as 'PAt' says; the names' lengths are at most the model's greatest. -/
import Derived.Test.YtapbjmbakpopcaaGreatDoorPdDisk
namespace Go.Proofs.YtapbjmbakpopcaaGreatDoor.PdChange
open Go Go.RowKit Go.Maps Words DkSpec PdLook RefDisk PdDisk

/-- Whether a call with these names is refused ahead of all. -/
def refusedL (l : List (List UInt8)) (d : DSt) : Nat := if !l.all nameOk then 1 else if d.off then 23 else 0
theorem refused_one (a : List UInt8) (d : DSt) : refusedL [a] d = refused a a d := by unfold refusedL refused; cases h : nameOk a <;> simp [h]
theorem refused_two (a b : List UInt8) (d : DSt) : refusedL [a, b] d = refused a b d := by unfold refusedL refused; cases h1 : nameOk a <;> cases h2 : nameOk b <;> simp [h1, h2]

theorem eq_nil (b : Nat) (w : World) : (binOp .eql 25 (.pointer (some ⟨b, 0, none⟩)) (.pointer none)).run Tryz.prog w = .ok (.bool false) w := by kernel_rfl
theorem nil_nil (w : World) : (binOp .eql 25 (.pointer none) (.pointer none)).run Tryz.prog w = .ok (.bool true) w := by kernel_rfl
theorem ne_nil (b : Nat) (w : World) : (binOp .neq 25 (.pointer (some ⟨b, 0, none⟩)) (.pointer none)).run Tryz.prog w = .ok (.bool true) w := by kernel_rfl
theorem ne_none (w : World) : (binOp .neq 25 (.pointer none) (.pointer none)).run Tryz.prog w = .ok (.bool false) w := by kernel_rfl

theorem down_nil (w : World) : Calls Tryz.prog 31 #[.pointer none] w fun e w' => e = .returned (.bool false) ∧ w = w' := by
  have hne := ne_none
  go_enter Tryz.func31, Tryz.ntmps31
  go_wp2
  go_ret
  exact ⟨rfl, rfl⟩
section
variable {w : World} {K : Nat → Nat} {o p M : Nat} {D : DataW Unit} {L : Int} {G : List UInt8 → Nat} {Q : List UInt8 → Value} {d : DSt}
theorem PAt.cells (h : PAt w K o p M D L G Q d) : w.cell? ⟨p, 0, none⟩ = some (.map (some M)) ∧ w.cell? ⟨p, 1, none⟩ = some (.bool d.full) ∧ w.cell? ⟨p, 2, none⟩ = some (.int .i64 L) := by
  have hs := h.struct
  refine ⟨?_, ?_, ?_⟩ <;> (unfold World.cell?; rw [hs]; rfl)
theorem PAt.frozen (h : PAt w K o p M D L G Q d) (j : Nat) : w.frozen? ⟨p, j, none⟩ = false := by
  unfold World.frozen?
  rw [h.struct]
  simp
end
theorem down_any (w : World) (K : Nat → Nat) (o p M : Nat) (D : DataW Unit) (L : Int) (G : List UInt8 → Nat) (Q : List UInt8 → Value) (d : DSt) (h : PAt w K o p M D L G Q d) :
    Calls Tryz.prog 31 #[.pointer (some ⟨p, 0, none⟩)] w fun e w' => e = .returned (.bool d.off) ∧ w = w' := by
  obtain ⟨c0, c1, c2⟩ := PAt.cells h
  have HO := Lib.hid h.off
  have hne := ne_nil p
  clear h c0 c1
  by_cases hL : L = 0
  · have d1 : (L == 0) = true := by simp [hL]
    have HX : Hid (d.off = true) := Lib.hid (by rw [HO.out]; simp [hL])
    clear hL
    go_enter Tryz.func31, Tryz.ntmps31
    go_wp2
    go_ret
    exact ⟨by rw [HX.out]; rfl, rfl⟩
  · have d1 : (L == 0) = false := beq_eq_false_iff_ne.2 hL
    have HX : Hid (d.off = false) := Lib.hid (by rw [HO.out]; simp [hL])
    clear hL
    go_enter Tryz.func31, Tryz.ntmps31
    go_wp2
    go_ret
    exact ⟨by rw [HX.out]; rfl, rfl⟩

theorem refusal_nil (w : World) (A : Option Addr) (n c : Nat) : Calls Tryz.prog 51 #[.pointer none, .slice A n c] w fun e w' => e = .returned (.int .i64 2) ∧ w = w' := by
  have hne := nil_nil
  go_enter Tryz.func51, Tryz.ntmps51
  go_wp2
  go_ret
  exact ⟨rfl, rfl⟩
def Rel (l : List (List UInt8)) (i : Value) : Prop := ∃ k : Nat, k ≤ l.length ∧ i = .int .i64 (k : Int) ∧ Hid ((l.take k).all nameOk = true)
theorem all_no {l : List (List UInt8)} {k : Nat} (h : k < l.length) (hx : nameOk l[k] = false) : l.all nameOk = false := by
  rw [List.all_eq_false]
  exact ⟨l[k], List.getElem_mem _, by simp [hx]⟩
theorem all_more {l : List (List UInt8)} {k : Nat} (h : k < l.length) (hb : (l.take k).all nameOk = true) (hx : nameOk l[k] = true) : (l.take (k + 1)).all nameOk = true := by
  rw [List.take_succ_eq_append_getElem h, List.all_append, hb]
  simp [hx]
set_option maxHeartbeats 800000 in
set_option maxRecDepth 100000 in
theorem refusal_any (w : World) (K : Nat → Nat) (o p M : Nat) (D : DataW Unit) (L : Int) (G : List UInt8 → Nat) (Q : List UInt8 → Value) (d : DSt) (h : PAt w K o p M D L G Q d) (B : Nat) (A : Option Addr) (c : Nat) (l : List (List UInt8)) (hr : Rd w B A (l.map S8)) (hl : ∀ s ∈ l, s.length ≤ maxLen) (hc : l.length ≤ c) (hm : c ≤ maxLen) :
    Calls Tryz.prog 51 #[.pointer (some ⟨p, 0, none⟩), .slice A l.length c] w fun e w' => e = .returned (.int .i64 (refusedL l d : Int)) ∧ w = w' := by
  have HD := Lib.hid (down_any w K o p M D L G Q d h)
  have HR := Lib.hid hr
  have HL := Lib.hid hl
  unfold maxLen at hm
  have hne := eq_nil p
  have HX : Hid (∀ b, d.off = b → l.all nameOk = true → refusedL l d = if b then 23 else 0) := Lib.hid (fun b hb ha => by unfold refusedL; rw [ha, hb]; rfl)
  have HX1 : Hid (l.all nameOk = false → refusedL l d = 1) := Lib.hid (fun ha => by unfold refusedL; rw [ha]; rfl)
  generalize d.off = off at *
  clear h hr hl
  go_enter Tryz.func51, Tryz.ntmps51
  go_wp2
  go_loop [11] (fun i => Rel l i) (fun i => l.length - (intOf i).toNat)
  case atStart => exact ⟨0, by omega, rfl, Lib.hid rfl⟩
  case round =>
    obtain ⟨k, hk, rfl, hb⟩ := hrel
    by_cases hlt : k < l.length
    · obtain ⟨g, off2, rfl, _, hcell⟩ := HR.out (by simp; omega)
      have k0 := hcell k (S8 l[k]) (by simp [hlt])
      unfold S8 at k0
      have HC := fun w => Lib.hid (PdName.name_list l[k] w (HL.out _ (List.getElem_mem _)))
      have HN := Lib.hid (all_no hlt)
      have HM := Lib.hid (all_more hlt hb.out)
      clear hb hcell
      generalize l[k] = nm at *
      generalize nameOk nm = b at *
      cases b with
      | true =>
        go_wp2_with fail
        refine (HC _).out.mono ?_
        rintro e w1 ⟨rfl, rfl⟩
        go_wp2
        go_round
        case rel => exact ⟨k + 1, by omega, by go_num, Lib.hid (HM.out trivial)⟩
        case measure => simp [intOf]; omega
      | false =>
        go_wp2_with fail
        refine (HC _).out.mono ?_
        rintro e w1 ⟨rfl, rfl⟩
        go_wp2
        go_ret
        exact ⟨by rw [HX1.out (HN.out trivial)]; rfl, rfl⟩
    · have hkn : k = l.length := by omega
      have HF : Hid (l.all nameOk = true) := Lib.hid (by have := hb.out; rwa [hkn, List.take_length] at this)
      clear hb
      subst hkn
      cases off with
      | true =>
        go_wp2_with fail
        refine HD.out.mono ?_
        rintro e w1 ⟨rfl, rfl⟩
        go_wp2
        go_ret
        exact ⟨by rw [HX.out true rfl HF.out]; rfl, rfl⟩
      | false =>
        go_wp2_with fail
        refine HD.out.mono ?_
        rintro e w1 ⟨rfl, rfl⟩
        go_wp2
        go_ret
        exact ⟨by rw [HX.out false rfl HF.out]; rfl, rfl⟩

/-- What 'change' answers and leaves. -/
def ChPost (w : World) (K : Nat → Nat) (o p M : Nat) (D : DataW Unit) (G : List UInt8 → Nat) (Q : List UInt8 → Value) (d : DSt) (l : List (List UInt8)) (e : Ending) (w' : World) : Prop :=
  e = .returned (.int .i64 (refusedL l d : Int)) ∧ (∃ L', PAt w' K o p M D L' G Q (if refusedL l d ≠ 0 then d else stepped d)) ∧ Turned K K o w w'
theorem change_nil (w : World) (A : Option Addr) (n c : Nat) : Calls Tryz.prog 44 #[.pointer none, .slice A n c] w fun e w' => e = .returned (.int .i64 2) ∧ w = w' := by
  have HC := Lib.hid (refusal_nil w A n c)
  go_enter Tryz.func44, Tryz.ntmps44
  go_wp2_with fail
  refine HC.out.mono ?_
  rintro e w1 ⟨rfl, rfl⟩
  go_wp2
  go_ret
  exact ⟨rfl, rfl⟩
set_option maxHeartbeats 800000 in
set_option maxRecDepth 100000 in
theorem change_any (w : World) (K : Nat → Nat) (o p M : Nat) (D : DataW Unit) (L : Int) (G : List UInt8 → Nat) (Q : List UInt8 → Value) (d : DSt) (h : PAt w K o p M D L G Q d) (B : Nat) (A : Option Addr) (c : Nat) (l : List (List UInt8)) (hr : Rd w B A (l.map S8)) (hl : ∀ s ∈ l, s.length ≤ maxLen) (hc : l.length ≤ c) (hm : c ≤ maxLen) :
    Calls Tryz.prog 44 #[.pointer (some ⟨p, 0, none⟩), .slice A l.length c] w (ChPost w K o p M D G Q d l) := by
  have HR := Lib.hid (refusal_any w K o p M D L G Q d h B A c l hr hl hc hm)
  have HP := Lib.hid h
  obtain ⟨c0, c1, c2⟩ := PAt.cells h
  have f2 := PAt.frozen h 2
  have hlow := h.low
  have hhigh := h.high
  clear h hr hl hc hm c0 c1
  generalize hn : l.length = n at *
  clear hn
  by_cases hr : refusedL l d = 0
  · have HZ := Lib.hid hr
    have hoff : d.off = false := by
      cases ho : d.off with
      | false => rfl
      | true => unfold refusedL at hr; rw [ho] at hr; split at hr <;> simp_all
    rw [hr] at HR
    have hL0 : L ≠ 0 := fun e => by have := HP.out.off; rw [hoff, e] at this; simp at this
    by_cases hpos : 0 < L
    · have HS : Hid (PAt (w.setCell ⟨p, 2, none⟩ (.int .i64 (L - 1))) K o p M D (L - 1) G Q (stepped d)) := Lib.hid (by
        have hs := heap_setCell_same w p 2 _ _ (.int .i64 (L - 1)) HP.out.struct
        have hdl := HP.out.left (by omega)
        have hst : stepped d = { d with left := d.left - 1, off := d.left == 1 } := by unfold stepped; rw [if_pos (by omega)]
        refine HP.out.poke (b := d.full) hs (fun i hi => heap_setCell_other w _ i _ hi) (by rw [hst]) (by omega) (by omega) ?_ (fun _ => by rw [hst]; simp; omega) (fun h => by omega) (by rw [hst])
        rw [hst]
        simp only
        rw [hdl, Bool.eq_iff_iff, beq_iff_eq, decide_eq_true_eq]
        omega)
      have HT : Hid (Turned K K o w (w.setCell ⟨p, 2, none⟩ (.int .i64 (L - 1)))) := Lib.hid (turned_setCell HP.out.kp)
      have d1 : decide (0 < L) = true := by simpa using hpos
      clear hr hoff hL0
      go_enter Tryz.func44, Tryz.ntmps44
      go_wp2_with fail
      refine HR.out.mono ?_
      rintro e w1 ⟨rfl, rfl⟩
      go_wp2
      go_ret
      exact ⟨by rw [HZ.out]; rfl, ⟨L - 1, by rw [if_neg (by rw [HZ.out]; simp)]; exact HS.out⟩, HT.out⟩
    · have HS : Hid (PAt w K o p M D L G Q (stepped d)) := Lib.hid (by
        have hun := HP.out.un (by omega)
        have hst : stepped d = d := by unfold stepped; rw [if_neg (by omega)]
        rw [hst]
        exact HP.out)
      have d1 : decide (0 < L) = false := by simpa using hpos
      clear hr hoff hL0 hpos
      go_enter Tryz.func44, Tryz.ntmps44
      go_wp2_with fail
      refine HR.out.mono ?_
      rintro e w1 ⟨rfl, rfl⟩
      go_wp2
      go_ret
      exact ⟨by rw [HZ.out]; rfl, ⟨L, by rw [if_neg (by rw [HZ.out]; simp)]; exact HS.out⟩, Turned.refl _ _ _⟩
  · have HZ := Lib.hid hr
    obtain ⟨r, hrr⟩ : ∃ r, refusedL l d = r := ⟨_, rfl⟩
    rw [hrr] at HR hr
    have HQ := Lib.hid hrr
    have h2 : ((r : Int) != 0) = true := by simp; omega
    clear hr hrr
    go_enter Tryz.func44, Tryz.ntmps44
    go_wp2_with fail
    refine HR.out.mono ?_
    rintro e w1 ⟨rfl, rfl⟩
    go_wp2
    go_ret
    exact ⟨by rw [HQ.out]; rfl, ⟨L, by rw [if_pos HZ.out]; exact HP.out⟩, Turned.refl _ _ _⟩
end Go.Proofs.YtapbjmbakpopcaaGreatDoor.PdChange
