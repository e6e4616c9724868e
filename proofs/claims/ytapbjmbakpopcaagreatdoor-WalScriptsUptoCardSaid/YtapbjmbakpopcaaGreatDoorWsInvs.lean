/- What is known on the way through WalScripts ('Inv'): the program's disk and log, and beside them the document's own; what each call leaves of it. No conditions but those that the theorems name. · The calls on WalScripts' two disks, and both sides' Open, Number and Down, as 'Inv' has them. No conditions but those that the theorems name. -/
import Derived.Test.YtapbjmbakpopcaaGreatDoorWlProg
import Derived.Test.YtapbjmbakpopcaaGreatDoorWqOpens
import Derived.Test.YtapbjmbakpopcaaGreatDoorWqApps
import Derived.Test.YtapbjmbakpopcaaGreatDoorWlDrop
import Derived.Test.YtapbjmbakpopcaaGreatDoorRefRess
import Derived.Test.YtapbjmbakpopcaaGreatDoorRefOps
namespace Go.Proofs.YtapbjmbakpopcaaGreatDoor.WsInv
open Go Go.RowKit Words DkSpec PdLook RefDisk PdDisk PdRes WlSpec WlName WlHeld WlLog WlMv Parts5 WlLaw WlTot WlSt WpPlain WqMv WqOps

abbrev LogR := WpOps.LogR
def S4 (o : Nat) : Prop := o = 4 ∨ o = 5
def HalfL (w : World) (K : Nat → Nat) (p : Nat) (v : Value) : Option LSt → Prop
  | none => v = .pointer none
  | some l => ∃ g, v = .pointer (some ⟨g, 0, none⟩) ∧ LogR w g p l ∧ K g = 2
def HalfM (w : World) (K : Nat → Nat) (p : Nat) (v : Value) : Option LSt → Prop
  | none => v = .pointer none
  | some l => ∃ g, v = .pointer (some ⟨g, 0, none⟩) ∧ RLogR w g p l ∧ K g = 5
structure Inv (w0 wr : World) (K : Nat → Nat) (pd pr : Nat) (vl vm : Value) (sl sm : Option LSt) (dl dm : DSt) : Prop where
  disk : PDisk wr K 1 pd dl
  ref : RefD wr K 4 pr dm
  log : HalfL wr K pd vl sl
  rlog : HalfM wr K pr vm sm
  mv : Mv (fun _ => 0) K (fun o => o ≠ 0) w0 wr
/-- Plain bounds. -/
structure Bnd (n T : Nat) (s : Option LSt) (d : DSt) : Prop where
  good : DkSpec.Good d
  lim : Lim d
  few : d.files.length ≤ n
  small : tot d ≤ T
  num : ∀ l, s = some l → l.n ≤ most

/-! ### Plain -/
def onL (f : LSt → Nat × LSt × DSt) (s : Option LSt) (d : DSt) : Nat × Option LSt × DSt :=
  match s with
  | none => (2, none, d)
  | some l => ((f l).1, some (f l).2.1, (f l).2.2)
section
variable {n T : Nat} {s : Option LSt} {d : DSt}
theorem Bnd.more (h : Bnd n T s d) {n' T' : Nat} (hn : n ≤ n') (hT : T ≤ T') : Bnd n' T' s d := ⟨h.good, h.lim, Nat.le_trans h.few hn, Nat.le_trans h.small hT, h.num⟩
theorem Bnd.fit (h : Bnd n T s d) (hn : n ≤ 1000000000) (hT : T ≤ 1099511627776) : Fit d := ⟨Nat.le_trans h.few hn, Nat.le_trans h.small hT⟩
theorem lim_append {a data : List UInt8} (h : Lim d) : Lim (append a data d).2 := by
  unfold append
  split
  · exact h
  · split
    · exact WqDrop.lim_stepped h
    · exact WqDrop.lim_stepped h
theorem lim_sync {a : List UInt8} (h : Lim d) : Lim (sync a d).2 := by
  unfold sync
  split
  · exact h
  · split
    · exact WqDrop.lim_stepped h
    · exact WqDrop.lim_stepped h
theorem tot_del (a : List UInt8) (d : DSt) : tot (delete a d).2 ≤ tot d := by
  unfold delete
  split
  · exact Nat.le_refl _
  · split
    · exact Nat.le_of_eq (fit_stepped d).1
    · unfold tot del
      simp only
      conv => rhs; rw [sum_split d.files (place a d.files).1]
      rw [List.map_append, List.sum_append]
      have h : d.files.drop ((place a d.files).1 + 1) = (d.files.drop (place a d.files).1).drop 1 := by rw [List.drop_drop]
      rw [h]
      cases d.files.drop (place a d.files).1 with
      | nil => simp
      | cons x r => simp
theorem Bnd.append (h : Bnd n T s d) (b : List UInt8) : Bnd (n + 1) (T + b.length + 14) (onL (fun l => appendL b l d) s d).2.1 (onL (fun l => appendL b l d) s d).2.2 := by
  cases s with
  | none => exact h.more (Nat.le_succ _) (by omega)
  | some l =>
    have ht := tot_appendL b l d
    have hn := append_n b l d
    refine ⟨?_, ?_, Nat.le_trans ht.2 (Nat.succ_le_succ h.few), by have := h.small; simp only [onL]; omega, fun l' hl => ?_⟩
    · simp only [onL]
      unfold appendL
      split
      · exact h.good
      · exact good_append h.good
    · simp only [onL]
      unfold appendL
      split
      · exact h.lim
      · exact lim_append h.lim
    · simp only [onL, Option.some.injEq] at hl
      rw [← hl, hn]
      exact h.num l rfl
theorem Bnd.sync (h : Bnd n T s d) : Bnd n T (onL (fun l => ((syncL l d).1, l, (syncL l d).2)) s d).2.1 (onL (fun l => ((syncL l d).1, l, (syncL l d).2)) s d).2.2 := by
  cases s with
  | none => exact h
  | some l =>
    have ht := tot_syncL l d
    refine ⟨?_, ?_, by simp only [onL]; rw [ht.2]; exact h.few, by simp only [onL]; rw [ht.1]; exact h.small, fun l' hl => ?_⟩
    · simp only [onL]
      unfold syncL
      split
      · exact h.good
      · exact WlSpec.good_sync h.good
    · simp only [onL]
      unfold syncL
      split
      · exact h.lim
      · exact lim_sync h.lim
    · simp only [onL, Option.some.injEq] at hl
      rw [← hl]
      exact h.num l rfl
theorem Bnd.rotate (h : Bnd n T s d) : Bnd n T (onL (fun l => ((rotateL l).1, (rotateL l).2, d)) s d).2.1 (onL (fun l => ((rotateL l).1, (rotateL l).2, d)) s d).2.2 := by
  cases s with
  | none => exact h
  | some l =>
    refine ⟨h.good, h.lim, h.few, h.small, fun l' hl => ?_⟩
    simp only [onL, Option.some.injEq] at hl
    rw [← hl]
    have := h.num l rfl
    unfold rotateL
    split
    · exact this
    · simp only
      split
      · simp only; omega
      · exact this
theorem drop_keeps : ∀ (k : Nat) (below : Int) (l : LSt) (d : DSt), DkSpec.Good d → Lim d → DkSpec.Good (dropL k below l d).2.2 ∧ Lim (dropL k below l d).2.2 ∧ (dropL k below l d).2.2.files.length ≤ d.files.length ∧ tot (dropL k below l d).2.2 ≤ tot d ∧ (dropL k below l d).2.1.n = l.n
  | 0, _, l, d, hg, hl => ⟨hg, hl, Nat.le_refl _, Nat.le_refl _, rfl⟩
  | k + 1, below, l, d, hg, hl => by
    have g2 := good_delete (name := name l.first) hg
    have l2 := WqDrop.lim_delete hl (a := name l.first)
    have f2 := WqDrop.few_delete (name l.first) d
    have t2 := tot_del (name l.first) d
    rw [dropL]
    split
    · split
      · exact ⟨g2, l2, f2, t2, rfl⟩
      · obtain ⟨h1, h2, h3, h4, h5⟩ := drop_keeps k below { l with first := l.first + 1 } (delete (name l.first) d).2 g2 l2
        exact ⟨h1, h2, Nat.le_trans h3 f2, Nat.le_trans h4 t2, h5⟩
    · exact ⟨hg, hl, Nat.le_refl _, Nat.le_refl _, rfl⟩
theorem Bnd.drop (h : Bnd n T s d) (below : Int) : Bnd n T (onL (fun l => dropL (l.n - l.first) below l d) s d).2.1 (onL (fun l => dropL (l.n - l.first) below l d) s d).2.2 := by
  cases s with
  | none => exact h
  | some l =>
    obtain ⟨h1, h2, h3, h4, h5⟩ := drop_keeps (l.n - l.first) below l d h.good h.lim
    refine ⟨h1, h2, Nat.le_trans h3 h.few, Nat.le_trans h4 h.small, fun l' hl => ?_⟩
    simp only [onL, Option.some.injEq] at hl
    rw [← hl, h5]
    exact h.num l rfl
theorem Bnd.fill (h : Bnd n T s d) (b : Bool) : Bnd n T s { d with full := b } := ⟨h.good, h.lim, h.few, h.small, h.num⟩
theorem Bnd.arm (h : Bnd n T s d) {k : Int} (hk : In64 k) : Bnd n T s (arm k d) := by
  have ht := tot_arm k d
  refine ⟨?_, ?_, by rw [ht.2]; exact h.few, by rw [ht.1]; exact h.small, h.num⟩
  · unfold DkSpec.arm; split
    · exact h.good
    · exact h.good
  · unfold DkSpec.arm; split
    · exact h.lim
    · unfold Lim; simp only; unfold In64 at hk; split <;> omega
theorem Bnd.restart (h : Bnd n T s d) (ks : List Int) (s' : Option LSt) (hs : ∀ l, s' = some l → l.n ≤ most) : Bnd n T s' (restart ks d) := by
  have ht := tot_restart ks d
  exact ⟨good_restart h.good, ⟨by unfold DkSpec.restart; simp, by unfold DkSpec.restart; simp⟩, by rw [ht.2]; exact h.few, Nat.le_trans ht.1 h.small, hs⟩
theorem Bnd.dapp (h : Bnd n T s d) (a b : List UInt8) : Bnd (n + 1) (T + b.length + 14) s (DkSpec.append a b d).2 := by
  have ht := tot_append a b d
  exact ⟨good_append h.good, lim_append h.lim, Nat.le_trans ht.2 (Nat.succ_le_succ h.few), by have := h.small; omega, h.num⟩
theorem Bnd.ddel (h : Bnd n T s d) (a : List UInt8) : Bnd n T s (delete a d).2 :=
  ⟨good_delete h.good, WqDrop.lim_delete h.lim, Nat.le_trans (WqDrop.few_delete a d) h.few, Nat.le_trans (tot_del a d) h.small, h.num⟩
theorem scan_num : ∀ (k n : Nat), n + k = most + 1 → (scan d k n).1 = 0 → (scan d k n).2.2 ≤ most
  | 0, n, _, h => by simp [scan] at h
  | k + 1, n, hn, h => by
    rw [scan] at h ⊢
    split at h
    · rename_i h0
      rw [if_pos h0]
      exact scan_num k (n + 1) (by omega) h
    · rename_i h0
      rw [if_neg h0]
      split at h
      · rename_i h1
        rw [if_pos h1]
        show n ≤ most
        omega
      · rename_i h1
        rw [if_neg h1]
        exact absurd h h0
theorem open_num (d : DSt) (first : Int) : ∀ l, (openL d first).2.2 = some l → l.n ≤ most := fun l hl => by
  unfold openL at hl
  split at hl
  · cases hl
  · rename_i hr
    split at hl
    · cases hl
    · rename_i h0
      simp only [Option.some.injEq] at hl
      rw [← hl]
      exact scan_num _ _ (by omega) (by omega)
end

/-! ### In memory -/
theorem not_S2 : ¬ S2 4 ∧ ¬ S2 0 ∧ ¬ S2 3 ∧ ¬ S2 5 := by unfold S2; omega
theorem not_S4 : ¬ S4 1 ∧ ¬ S4 0 ∧ ¬ S4 3 ∧ ¬ S4 2 := by unfold S4; omega
section
variable {w0 w w' : World} {K K' : Nat → Nat} {S : Nat → Prop} {p pd pr : Nat} {v vl vm : Value} {s sl sm : Option LSt} {dl dm : DSt}
theorem HalfL.mv (h : HalfL w K p v s) (hm : Mv K K' S w w') (h2 : ¬ S 2) : HalfL w' K' p v s := by
  cases s with
  | none => exact h
  | some l =>
    obtain ⟨g, hv, hl, hk⟩ := h
    exact ⟨g, hv, hl.keep (hm.block g hl.lt (by rw [hk]; exact h2)), (hm.kind g hl.lt).trans hk⟩
theorem HalfM.mv (h : HalfM w K p v s) (hm : Mv K K' S w w') (h2 : ¬ S 5) : HalfM w' K' p v s := by
  cases s with
  | none => exact h
  | some l =>
    obtain ⟨g, hv, hl, hk⟩ := h
    exact ⟨g, hv, hl.keep (hm.block g hl.lt (by rw [hk]; exact h2)), (hm.kind g hl.lt).trans hk⟩
theorem Inv.below (h : Inv w0 w K pd pr vl vm sl sm dl dm) : Below w0.heap.size w0 w := h.mv.below (fun i _ hn => hn rfl)
theorem Inv.new (h : Inv w0 w K pd pr vl vm sl sm dl dm) (hb : Below w.heap.size w w') (m : Nat) : Inv w0 w' (kmark K w.heap.size m) pd pr vl vm sl sm dl dm :=
  have hm : ∀ S : Nat → Prop, Mv K (kmark K w.heap.size m) S w w' := fun S => Mv.new hb m
  ⟨PDisk.mv h.disk (hm fun _ => False) (fun h => h), RefD.mv h.ref (hm fun _ => False) (fun h => h) (fun h => h), HalfL.mv h.log (hm fun _ => False) (fun h => h), HalfM.mv h.rlog (hm fun _ => False) (fun h => h), h.mv.trans (hm _)⟩
theorem Inv.same (h : Inv w0 w K pd pr vl vm sl sm dl dm) (hb : Below w.heap.size w w') : Inv w0 w' K pd pr vl vm sl sm dl dm :=
  have hm : ∀ S : Nat → Prop, Mv K K S w w' := fun S => Mv.same hb
  ⟨PDisk.mv h.disk (hm fun _ => False) (fun h => h), RefD.mv h.ref (hm fun _ => False) (fun h => h) (fun h => h), HalfL.mv h.log (hm fun _ => False) (fun h => h), HalfM.mv h.rlog (hm fun _ => False) (fun h => h), h.mv.trans (hm _)⟩
/-- The program's side has moved on. -/
theorem Inv.left (h : Inv w0 w K pd pr vl vm sl sm dl dm) {vl' : Value} {sl' : Option LSt} {dl' : DSt} (hm : Mv K K' S2 w w') (hd : PDisk w' K' 1 pd dl') (hl : HalfL w' K' pd vl' sl') : Inv w0 w' K' pd pr vl' vm sl' sm dl' dm :=
  ⟨hd, RefD.mv h.ref hm not_S2.2.1 not_S2.1, hl, HalfM.mv h.rlog hm not_S2.2.2.2, h.mv.trans (hm.widen fun o e => by unfold S2 at e; omega)⟩
/-- The document's side has moved on. -/
theorem Inv.right (h : Inv w0 w K pd pr vl vm sl sm dl dm) {vm' : Value} {sm' : Option LSt} {dm' : DSt} (hm : Mv K K' S4 w w') (hd : RefD w' K' 4 pr dm') (hl : HalfM w' K' pr vm' sm') : Inv w0 w' K' pd pr vl vm' sl sm' dl dm' :=
  ⟨PDisk.mv h.disk hm not_S4.1, hd, HalfL.mv h.log hm not_S4.2.2.2, hl, h.mv.trans (hm.widen fun o e => by unfold S4 at e; omega)⟩
theorem Inv.arg (h : Inv w0 w K pd pr vl vm sl sm dl dm) {A : Option Addr} {vs : List Value} (hr : Rd w0 w0.heap.size A vs) : Rd w w.heap.size A vs ∧ ∀ b off, A = some ⟨b, off, none⟩ → 0 < vs.length → K b = 0 :=
  rd_mv h.mv (by omega) hr (fun b off _ _ => rfl)
theorem Inv.lays (h : Inv w0 w K pd pr vl vm sl sm dl dm) (hL : WlTab.Lays w0 w0.heap.size) : WlTab.Lays w w.heap.size ∧ WlTab.Out K :=
  ⟨WpOps.lays_keep hL h.below, hL.out fun i hi => by rw [h.mv.kind i hi]; omega⟩
/-- A box of the statement's own. -/
theorem box_mv {b : Nat} {cs : Array Value} {t : TypeId} (hb : w.heap[b]? = some (.cells cs t (0, 0))) (hk : K b = 3) (hm : Mv K K' S w w') (h3 : ¬ S 3) : w'.heap[b]? = some (.cells cs t (0, 0)) ∧ K' b = 3 := by
  have hl := lt_of hb
  exact ⟨(hm.block b hl (by rw [hk]; exact h3)).trans hb, (hm.kind b hl).trans hk⟩
end

/-! ### The calls -/
/-- What a call on the program's side leaves. -/
def LPost (w0 w : World) (K : Nat → Nat) (pd pr : Nat) (vl vm : Value) (r : Nat × Option LSt × DSt) (sm : Option LSt) (dm : DSt) (e : Ending) (w' : World) : Prop :=
  e = .returned (.int .i64 (r.1 : Int)) ∧ ∃ K', Inv w0 w' K' pd pr vl vm r.2.1 sm r.2.2 dm ∧ Mv K K' S2 w w'
def MPost (w0 w : World) (K : Nat → Nat) (pd pr : Nat) (vl vm : Value) (r : Nat × Option LSt × DSt) (sl : Option LSt) (dl : DSt) (e : Ending) (w' : World) : Prop :=
  e = .returned (.int .i64 (r.1 : Int)) ∧ ∃ K', Inv w0 w' K' pd pr vl vm sl r.2.1 dl r.2.2 ∧ Mv K K' S4 w w'
/-- .. of a call without an answer. -/
def LPost0 (w0 w : World) (K : Nat → Nat) (pd pr : Nat) (vl vm : Value) (sl : Option LSt) (dl : DSt) (sm : Option LSt) (dm : DSt) (e : Ending) (w' : World) : Prop :=
  e = .returned (.tuple #[]) ∧ ∃ K', Inv w0 w' K' pd pr vl vm sl sm dl dm ∧ Mv K K' S2 w w'
def MPost0 (w0 w : World) (K : Nat → Nat) (pd pr : Nat) (vl vm : Value) (sl : Option LSt) (dl : DSt) (sm : Option LSt) (dm : DSt) (e : Ending) (w' : World) : Prop :=
  e = .returned (.tuple #[]) ∧ ∃ K', Inv w0 w' K' pd pr vl vm sl sm dl dm ∧ Mv K K' S4 w w'
theorem leq_nil (w : World) : (binOp .eql 29 (.pointer none) (.pointer none)).run Tryz.prog w = .ok (.bool true) w := by kernel_rfl
theorem meq_nil (w : World) : (binOp .eql 34 (.pointer none) (.pointer none)).run Tryz.prog w = .ok (.bool true) w := by kernel_rfl
theorem append_nil (w : World) (A : Option Addr) (n c : Nat) : Calls Tryz.prog 12 #[.pointer none, .slice A n c] w fun e w' => e = .returned (.int .i64 2) ∧ w = w' := by
  have hne := leq_nil
  go_enter Tryz.func12, Tryz.ntmps12
  go_wp2
  go_ret
  exact ⟨rfl, rfl⟩
theorem sync_nil (w : World) : Calls Tryz.prog 14 #[.pointer none] w fun e w' => e = .returned (.int .i64 2) ∧ w = w' := by
  have hne := leq_nil
  go_enter Tryz.func14, Tryz.ntmps14
  go_wp2
  go_ret
  exact ⟨rfl, rfl⟩
theorem rotate_nil (w : World) : Calls Tryz.prog 16 #[.pointer none] w fun e w' => e = .returned (.int .i64 2) ∧ w = w' := by
  have hne := leq_nil
  go_enter Tryz.func16, Tryz.ntmps16
  go_wp2
  go_ret
  exact ⟨rfl, rfl⟩
theorem drop_nil (w : World) (n : Int) : Calls Tryz.prog 18 #[.pointer none, .int .i64 n] w fun e w' => e = .returned (.int .i64 2) ∧ w = w' := by
  have hne := leq_nil
  go_enter Tryz.func18, Tryz.ntmps18
  go_wp2
  go_ret
  exact ⟨rfl, rfl⟩
theorem number_nil (w : World) : Calls Tryz.prog 30 #[.pointer none] w fun e w' => e = .returned (.int .i64 0) ∧ w' = w := by
  have hne := leq_nil
  go_enter Tryz.func30, Tryz.ntmps30
  go_wp2
  go_ret
  exact ⟨rfl, rfl⟩
theorem number_same (w : World) (p g : Nat) (l : LSt) (h : LogR w g p l) : Calls Tryz.prog 30 #[.pointer (some ⟨g, 0, none⟩)] w fun e w' => e = .returned (.int .i64 (l.n : Int)) ∧ w' = w := by
  obtain ⟨_, _, c2, _⟩ := h.cells
  have hne := WpOps.eq_nil g
  obtain ⟨n, f, b⟩ := l
  simp only at c2 ⊢
  clear h
  go_enter Tryz.func30, Tryz.ntmps30
  go_wp2
  go_ret
  exact ⟨rfl, rfl⟩
theorem rappend_nil (w : World) (A : Option Addr) (n c : Nat) : Calls Tryz.prog 13 #[.pointer none, .slice A n c] w fun e w' => e = .returned (.int .i64 2) ∧ w = w' := by
  have hne := meq_nil
  go_enter Tryz.func13, Tryz.ntmps13
  go_wp2
  go_ret
  exact ⟨rfl, rfl⟩
theorem rsync_nil (w : World) : Calls Tryz.prog 15 #[.pointer none] w fun e w' => e = .returned (.int .i64 2) ∧ w = w' := by
  have hne := meq_nil
  go_enter Tryz.func15, Tryz.ntmps15
  go_wp2
  go_ret
  exact ⟨rfl, rfl⟩
theorem rrotate_nil (w : World) : Calls Tryz.prog 17 #[.pointer none] w fun e w' => e = .returned (.int .i64 2) ∧ w = w' := by
  have hne := meq_nil
  go_enter Tryz.func17, Tryz.ntmps17
  go_wp2
  go_ret
  exact ⟨rfl, rfl⟩
theorem rdrop_nil (w : World) (n : Int) : Calls Tryz.prog 19 #[.pointer none, .int .i64 n] w fun e w' => e = .returned (.int .i64 2) ∧ w = w' := by
  have hne := meq_nil
  go_enter Tryz.func19, Tryz.ntmps19
  go_wp2
  go_ret
  exact ⟨rfl, rfl⟩
section
variable {w0 w w' : World} {K : Nat → Nat} {pd pr n T : Nat} {vl vm : Value} {sl sm : Option LSt} {dl dm : DSt} {e : Ending}
theorem l_nil (h : Inv w0 w K pd pr vl vm none sm dl dm) (he : e = .returned (.int .i64 2) ∧ w = w') (f : LSt → Nat × LSt × DSt) : LPost w0 w K pd pr vl vm (onL f none dl) sm dm e w' := by
  obtain ⟨rfl, rfl⟩ := he
  exact ⟨rfl, K, h, Mv.refl _ _ _⟩
theorem m_nil (h : Inv w0 w K pd pr vl vm sl none dl dm) (he : e = .returned (.int .i64 2) ∧ w = w') (f : LSt → Nat × LSt × DSt) : MPost w0 w K pd pr vl vm (onL f none dm) sl dl e w' := by
  obtain ⟨rfl, rfl⟩ := he
  exact ⟨rfl, K, h, Mv.refl _ _ _⟩
theorem l_some {l : LSt} {g : Nat} (h : Inv w0 w K pd pr (.pointer (some ⟨g, 0, none⟩)) vm (some l) sm dl dm) (hl : LogR w g pd l) (hk : K g = 2) {r : Nat × LSt × DSt} (hp : LgPost LogR w K pd g r e w') :
    LPost w0 w K pd pr (.pointer (some ⟨g, 0, none⟩)) vm (r.1, some r.2.1, r.2.2) sm dm e w' := by
  obtain ⟨he, K', h1, h2, h3⟩ := hp
  exact ⟨he, K', h.left h3 h1 ⟨g, rfl, h2, (h3.kind g hl.lt).trans hk⟩, h3⟩
theorem m_some {l : LSt} {g : Nat} (h : Inv w0 w K pd pr vl (.pointer (some ⟨g, 0, none⟩)) sl (some l) dl dm) (hl : RLogR w g pr l) (hk : K g = 5) {r : Nat × LSt × DSt} (hp : RgPost RLogR w K pr g r e w') :
    MPost w0 w K pd pr vl (.pointer (some ⟨g, 0, none⟩)) (r.1, some r.2.1, r.2.2) sl dl e w' := by
  obtain ⟨he, K', h1, h2, h3⟩ := hp
  exact ⟨he, K', h.right h3 h1 ⟨g, rfl, h2, (h3.kind g hl.lt).trans hk⟩, h3⟩
theorem p_append (h : Inv w0 w K pd pr vl vm sl sm dl dm) (hb : Bnd n T sl dl) (hn : n ≤ 1000000000) (b : List UInt8) (hT : T + b.length + 100 ≤ 1099511627776) (hL : WlTab.Lays w0 w0.heap.size) {A : Option Addr} {c : Nat} (hr : Rd w0 w0.heap.size A (b.map B8)) (hc : b.length ≤ c) (hm : c ≤ maxLen) :
    Calls Tryz.prog 12 #[vl, .slice A b.length c] w (LPost w0 w K pd pr vl vm (onL (fun l => appendL b l dl) sl dl) sm dm) := by
  cases sl with
  | none =>
    obtain rfl : vl = .pointer none := h.log
    exact (append_nil w A _ c).mono fun e w' he => l_nil h he _
  | some l =>
    obtain ⟨g, rfl, hl, hk⟩ := h.log
    obtain ⟨r1, r2⟩ := h.arg hr
    refine (WpApp.append_any w K pd g dl l b A c h.disk hl hk hb.good (hb.fit hn (by omega)) (by have := hb.small; omega) (hb.num l rfl) (h.lays hL).1 r1 hc hm (fun o off e hlen => ?_)).mono fun e w' hp => l_some h hl hk hp
    rw [r2 o off e (by simpa using hlen)]
    exact ⟨by decide, by decide⟩
theorem r_append (h : Inv w0 w K pd pr vl vm sl sm dl dm) (hb : Bnd n T sm dm) (hn : n ≤ 1000000000) (b : List UInt8) (hT : T + b.length + 100 ≤ 1099511627776) {A : Option Addr} {c : Nat} (hr : Rd w0 w0.heap.size A (b.map B8)) (hc : b.length ≤ c) (hm : c ≤ maxLen) :
    Calls Tryz.prog 13 #[vm, .slice A b.length c] w (MPost w0 w K pd pr vl vm (onL (fun l => appendL b l dm) sm dm) sl dl) := by
  cases sm with
  | none =>
    obtain rfl : vm = .pointer none := h.rlog
    exact (rappend_nil w A _ c).mono fun e w' he => m_nil h he _
  | some l =>
    obtain ⟨g, rfl, hl, hk⟩ := h.rlog
    obtain ⟨r1, r2⟩ := h.arg hr
    refine (WqApp.append_any w K pr g dm l b A c h.ref hl hk hb.good (hb.fit hn (by omega)) (by have := hb.small; omega) (hb.num l rfl) hb.lim r1 hc hm (fun o off e hlen => ?_)).mono fun e w' hp => m_some h hl hk hp
    rw [r2 o off e (by simpa using hlen)]
    exact ⟨by decide, by decide⟩
theorem p_sync (h : Inv w0 w K pd pr vl vm sl sm dl dm) (hb : Bnd n T sl dl) (hL : WlTab.Lays w0 w0.heap.size) :
    Calls Tryz.prog 14 #[vl] w (LPost w0 w K pd pr vl vm (onL (fun l => ((syncL l dl).1, l, (syncL l dl).2)) sl dl) sm dm) := by
  cases sl with
  | none =>
    obtain rfl : vl = .pointer none := h.log
    exact (sync_nil w).mono fun e w' he => l_nil h he _
  | some l =>
    obtain ⟨g, rfl, hl, hk⟩ := h.log
    exact (WpOps.sync_any w K pd g dl l h.disk hl hk hb.good (hb.num l rfl) (h.lays hL).1).mono fun e w' hp => l_some h hl hk hp
theorem r_sync (h : Inv w0 w K pd pr vl vm sl sm dl dm) (hb : Bnd n T sm dm) :
    Calls Tryz.prog 15 #[vm] w (MPost w0 w K pd pr vl vm (onL (fun l => ((syncL l dm).1, l, (syncL l dm).2)) sm dm) sl dl) := by
  cases sm with
  | none =>
    obtain rfl : vm = .pointer none := h.rlog
    exact (rsync_nil w).mono fun e w' he => m_nil h he _
  | some l =>
    obtain ⟨g, rfl, hl, hk⟩ := h.rlog
    exact (WqOps.sync_any w K pr g dm l h.ref hl hk hb.good (hb.num l rfl) hb.lim).mono fun e w' hp => m_some h hl hk hp
theorem p_rotate (h : Inv w0 w K pd pr vl vm sl sm dl dm) (hb : Bnd n T sl dl) :
    Calls Tryz.prog 16 #[vl] w (LPost w0 w K pd pr vl vm (onL (fun l => ((rotateL l).1, (rotateL l).2, dl)) sl dl) sm dm) := by
  cases sl with
  | none =>
    obtain rfl : vl = .pointer none := h.log
    exact (rotate_nil w).mono fun e w' he => l_nil h he _
  | some l =>
    obtain ⟨g, rfl, hl, hk⟩ := h.log
    exact (WpOps.rotate_any w K pd g dl l h.disk hl hk (hb.num l rfl)).mono fun e w' hp => l_some h hl hk hp
theorem r_rotate (h : Inv w0 w K pd pr vl vm sl sm dl dm) (hb : Bnd n T sm dm) :
    Calls Tryz.prog 17 #[vm] w (MPost w0 w K pd pr vl vm (onL (fun l => ((rotateL l).1, (rotateL l).2, dm)) sm dm) sl dl) := by
  cases sm with
  | none =>
    obtain rfl : vm = .pointer none := h.rlog
    exact (rrotate_nil w).mono fun e w' he => m_nil h he _
  | some l =>
    obtain ⟨g, rfl, hl, hk⟩ := h.rlog
    exact (WqOps.rotate_any w K pr g dm l h.ref hl hk (hb.num l rfl)).mono fun e w' hp => m_some h hl hk hp
theorem p_drop (h : Inv w0 w K pd pr vl vm sl sm dl dm) (hb : Bnd n T sl dl) (hn : n ≤ 1000000000) (hT : T ≤ 1099511627776) (hL : WlTab.Lays w0 w0.heap.size) (below : Int) (h64 : In64 below) :
    Calls Tryz.prog 18 #[vl, .int .i64 below] w (LPost w0 w K pd pr vl vm (onL (fun l => dropL (l.n - l.first) below l dl) sl dl) sm dm) := by
  cases sl with
  | none =>
    obtain rfl : vl = .pointer none := h.log
    exact (drop_nil w below).mono fun e w' he => l_nil h he _
  | some l =>
    obtain ⟨g, rfl, hl, hk⟩ := h.log
    exact (WpDrop.drop_any w K pd g dl l below h64 h.disk hl hk hb.good (hb.fit hn hT) (hb.num l rfl) (h.lays hL).1 (h.lays hL).2).mono fun e w' hp => l_some h hl hk hp
theorem r_drop (h : Inv w0 w K pd pr vl vm sl sm dl dm) (hb : Bnd n T sm dm) (hn : n ≤ 1000000000) (hT : T ≤ 1099511627776) (below : Int) (h64 : In64 below) :
    Calls Tryz.prog 19 #[vm, .int .i64 below] w (MPost w0 w K pd pr vl vm (onL (fun l => dropL (l.n - l.first) below l dm) sm dm) sl dl) := by
  cases sm with
  | none =>
    obtain rfl : vm = .pointer none := h.rlog
    exact (rdrop_nil w below).mono fun e w' he => m_nil h he _
  | some l =>
    obtain ⟨g, rfl, hl, hk⟩ := h.rlog
    exact (WqDrop.drop_any w K pr g dm l below h64 h.ref hl hk hb.good (hb.fit hn hT) (hb.num l rfl) hb.lim).mono fun e w' hp => m_some h hl hk hp
end
end Go.Proofs.YtapbjmbakpopcaaGreatDoor.WsInv

namespace Go.Proofs.YtapbjmbakpopcaaGreatDoor.WsDisk
open Go Go.RowKit Words DkSpec PdLook RefDisk PdDisk PdRes WlSpec WlName WlHeld WlLog WlMv Parts5 WlLaw WlTot WlSt WpPlain WqMv WqOps WsInv

section
variable {w0 w w' : World} {K K' : Nat → Nat} {pd pr n T : Nat} {vl vm : Value} {sl sm : Option LSt} {dl dm : DSt} {e : Ending}
def ptr (p : Nat) : Value := .pointer (some ⟨p, 0, none⟩)
theorem l_turn (h : Inv w0 w K pd pr vl vm sl sm dl dm) {d' : DSt} (hd : PDisk w' K' 1 pd d') (ht : Turned K K' 1 w w') : Inv w0 w' K' pd pr vl vm sl sm d' dm ∧ Mv K K' S2 w w' := by
  have hm : Mv K K' S2 w w' := Mv.of ht (.inl rfl)
  exact ⟨h.left hm hd (HalfL.mv h.log (Mv.of (S := fun o => o = 1) ht rfl) (by decide)), hm⟩
theorem m_turn (h : Inv w0 w K pd pr vl vm sl sm dl dm) {d' : DSt} (hd : RefD w' K' 4 pr d') (ht : Turned K K' 4 w w') : Inv w0 w' K' pd pr vl vm sl sm dl d' ∧ Mv K K' S4 w w' := by
  have hm : Mv K K' S4 w w' := Mv.of ht (.inl rfl)
  exact ⟨h.right hm hd (HalfM.mv h.rlog (Mv.of (S := fun o => o = 4) ht rfl) (by decide)), hm⟩
theorem p_fill (h : Inv w0 w K pd pr vl vm sl sm dl dm) (b : Bool) : Calls Tryz.prog 20 #[.pointer (some ⟨pd, 0, none⟩), .bool b] w (LPost0 w0 w K pd pr vl vm sl { dl with full := b } sm dm) :=
  (PdOps.fill_any w K 1 pd dl b h.disk).mono fun e w' ⟨he, K', h1, h2⟩ => ⟨he, K', l_turn h h1 h2⟩
theorem r_fill (h : Inv w0 w K pd pr vl vm sl sm dl dm) (b : Bool) : Calls Tryz.prog 21 #[.pointer (some ⟨pr, 0, none⟩), .bool b] w (MPost0 w0 w K pd pr vl vm sl dl sm { dm with full := b }) :=
  (RefOps5.fill_any w K 4 pr dm b h.ref (by decide)).mono fun e w' ⟨he, K', h1, h2⟩ => ⟨he, K', m_turn h h1 h2⟩
theorem p_arm (h : Inv w0 w K pd pr vl vm sl sm dl dm) {k : Int} (hk : In64 k) : Calls Tryz.prog 22 #[.pointer (some ⟨pd, 0, none⟩), .int .i64 k] w (LPost0 w0 w K pd pr vl vm sl (arm k dl) sm dm) :=
  (PdOps.arm_any w K 1 pd dl k h.disk hk.1 hk.2).mono fun e w' ⟨he, K', h1, h2⟩ => ⟨he, K', l_turn h h1 h2⟩
theorem r_arm (h : Inv w0 w K pd pr vl vm sl sm dl dm) (k : Int) : Calls Tryz.prog 23 #[.pointer (some ⟨pr, 0, none⟩), .int .i64 k] w (MPost0 w0 w K pd pr vl vm sl dl sm (arm k dm)) :=
  (RefOps5.arm_any w K 4 pr dm k h.ref (by decide)).mono fun e w' ⟨he, K', h1, h2⟩ => ⟨he, K', m_turn h h1 h2⟩
theorem p_restart (h : Inv w0 w K pd pr vl vm sl sm dl dm) (hb : Bnd n T sl dl) (hn : n ≤ 1000000000) (ks : List Int) {A : Option Addr} {c : Nat} (hr : Rd w w.heap.size A (ks.map I64)) (hk : ∀ b off, A = some ⟨b, off, none⟩ → 0 < ks.length → K b ≠ 1) (hks : ∀ k ∈ ks, In64 k) (hc : ks.length ≤ c) (hm : c ≤ maxLen) :
    Calls Tryz.prog 24 #[.pointer (some ⟨pd, 0, none⟩), .slice A ks.length c] w (LPost0 w0 w K pd pr vl vm sl (restart ks dl) sm dm) :=
  (PdRes.restart_any w K 1 pd dl ks A c h.disk (Nat.le_trans hb.few hn) hr hk hks hc hm).mono fun e w' ⟨he, K', h1, h2⟩ => ⟨he, K', l_turn h h1 h2⟩
theorem r_restart (h : Inv w0 w K pd pr vl vm sl sm dl dm) (hb : Bnd n T sm dm) (hn : n ≤ 1000000000) (hT : T ≤ 1099511627776) (ks : List Int) {A : Option Addr} {c : Nat} (hr : Rd w w.heap.size A (ks.map I64)) (hk : ∀ b off, A = some ⟨b, off, none⟩ → 0 < ks.length → K b ≠ 4) (hks : ∀ k ∈ ks, In64 k) (hc : ks.length ≤ c) (hm : c ≤ maxLen) :
    Calls Tryz.prog 25 #[.pointer (some ⟨pr, 0, none⟩), .slice A ks.length c] w (MPost0 w0 w K pd pr vl vm sl dl sm (restart ks dm)) :=
  (RefRes5.restart_any w K 4 pr dm ks A c h.ref (by decide) (Nat.le_trans hb.few hn) (fun f hf => ⟨(hb.good.2 f hf).2, by have := data_le hf; have := hb.small; omega⟩) hr hk hks hc hm).mono fun e w' ⟨he, K', h1, h2⟩ => ⟨he, K', m_turn h h1 h2⟩
theorem p_dapp (h : Inv w0 w K pd pr vl vm sl sm dl dm) (hb : Bnd n T sl dl) (hn : n ≤ 1000000000) (a b : List UInt8) (ha : a.length ≤ 1000) (hT : T + b.length + 100 ≤ 1099511627776) {A : Option Addr} {c : Nat} (hr : Rd w0 w0.heap.size A (b.map B8)) :
    Calls Tryz.prog 26 #[.pointer (some ⟨pd, 0, none⟩), .string ⟨a.toArray⟩, .slice A b.length c] w (LPost w0 w K pd pr vl vm ((append a b dl).1, sl, (append a b dl).2) sm dm) := by
  obtain ⟨r1, r2⟩ := h.arg hr
  refine (PdApp.append_any w K 1 pd dl a b A c h.disk (by omega) (Nat.le_trans hb.few hn) (by have := WpOps.old_le a dl; have := hb.small; omega) r1 (fun o off e hl => by rw [r2 o off e (by simpa using hl)]; decide)).mono fun e w' ⟨he, K', h1, h2⟩ => ⟨he, K', l_turn h h1 h2⟩
theorem r_dapp (h : Inv w0 w K pd pr vl vm sl sm dl dm) (hb : Bnd n T sm dm) (hn : n ≤ 1000000000) (a b : List UInt8) (ha : a.length ≤ 1000) (hT : T + b.length + 100 ≤ 1099511627776) {A : Option Addr} {c : Nat} (hr : Rd w0 w0.heap.size A (b.map B8)) :
    Calls Tryz.prog 27 #[.pointer (some ⟨pr, 0, none⟩), .string ⟨a.toArray⟩, .slice A b.length c] w (MPost w0 w K pd pr vl vm ((append a b dm).1, sm, (append a b dm).2) sl dl) := by
  obtain ⟨r1, r2⟩ := h.arg hr
  refine (RefApp5.append_any w K 4 pr dm a b A c h.ref (by decide) (by unfold maxLen; omega) hb.lim.1 hb.lim.2 (Nat.le_trans hb.few hn) (by have := WpOps.old_le a dm; have := hb.small; omega) r1 (fun o off e hl => by rw [r2 o off e (by simpa using hl)]; decide)).mono fun e w' ⟨he, K', h1, h2⟩ => ⟨he, K', m_turn h h1 h2⟩
theorem p_ddel (h : Inv w0 w K pd pr vl vm sl sm dl dm) (a : List UInt8) (ha : a.length ≤ 1000) :
    Calls Tryz.prog 28 #[.pointer (some ⟨pd, 0, none⟩), .string ⟨a.toArray⟩] w (LPost w0 w K pd pr vl vm ((delete a dl).1, sl, (delete a dl).2) sm dm) :=
  (PdOps.delete_any w K 1 pd dl a h.disk (by unfold maxLen; omega)).mono fun e w' ⟨he, K', h1, h2⟩ => ⟨he, K', l_turn h h1 h2⟩
theorem r_ddel (h : Inv w0 w K pd pr vl vm sl sm dl dm) (hb : Bnd n T sm dm) (hn : n ≤ 1000000000) (a : List UInt8) (ha : a.length ≤ 1000) :
    Calls Tryz.prog 29 #[.pointer (some ⟨pr, 0, none⟩), .string ⟨a.toArray⟩] w (MPost w0 w K pd pr vl vm ((delete a dm).1, sm, (delete a dm).2) sl dl) :=
  (RefOps5.delete_any w K 4 pr dm a h.ref (by decide) (by unfold maxLen; omega) hb.lim.1 hb.lim.2 (Nat.le_trans hb.few hn)).mono fun e w' ⟨he, K', h1, h2⟩ => ⟨he, K', m_turn h h1 h2⟩
/-- What Open leaves. -/
def OPostL (w0 w : World) (K : Nat → Nat) (pd pr : Nat) (vm : Value) (r : Nat × List (List UInt8) × Option LSt) (dl : DSt) (sm : Option LSt) (dm : DSt) (e : Ending) (w' : World) : Prop :=
  ∃ (v : Value) (A : Option Addr) (c : Nat) (ps : List Part), e = .returned (.tuple #[v, .slice A ps.length c, .int .i64 (r.1 : Int)]) ∧ pays ps = r.2.1 ∧ Ps w' A ps.length c ps ∧ Below w.heap.size w w' ∧ ∃ K', Inv w0 w' K' pd pr v vm r.2.2 sm dl dm ∧ Mv K K' (fun _ => False) w w'
def OPostM (w0 w : World) (K : Nat → Nat) (pd pr : Nat) (vl : Value) (r : Nat × List (List UInt8) × Option LSt) (dm : DSt) (sl : Option LSt) (dl : DSt) (e : Ending) (w' : World) : Prop :=
  ∃ (v : Value) (A : Option Addr) (c : Nat) (ps : List Part), e = .returned (.tuple #[v, .slice A ps.length c, .int .i64 (r.1 : Int)]) ∧ pays ps = r.2.1 ∧ Ps w' A ps.length c ps ∧ Below w.heap.size w w' ∧ ∃ K', Inv w0 w' K' pd pr vl v sl r.2.2 dl dm ∧ Mv K K' (fun _ => False) w w'
def mark2 (K : Nat → Nat) (n g m : Nat) : Nat → Nat := fun b => if b < n then K b else if b = g then m else 3
theorem mark2_mv {S : Nat → Prop} (hb : Below w.heap.size w w') (g m : Nat) : Mv K (mark2 K w.heap.size g m) S w w' := ⟨hb.os, hb.tape, hb.output, hb.size, fun i hi _ => hb.block i hi, fun i hi => if_pos hi⟩
theorem mark2_g {g m : Nat} (h : w.heap.size ≤ g) : mark2 K w.heap.size g m g = m := by unfold mark2; rw [if_neg (by omega), if_pos rfl]
theorem p_open (h : Inv w0 w K pd pr vl vm sl sm dl dm) (hb : Bnd n T sl dl) (hn : n ≤ 1000000000) (hT : T ≤ 1099511627776) (hL : WlTab.Lays w0 w0.heap.size) {first : Int} (h64 : In64 first) :
    Calls Tryz.prog 9 #[.pointer (some ⟨pd, 0, none⟩), .int .i64 first] w (OPostL w0 w K pd pr vm (openL dl first) dl sm dm) := by
  refine (WpOpen.open_any w K pd dl first h64 h.disk hb.good (hb.fit hn hT) (h.lays hL).1).mono fun e w' hp => ?_
  obtain ⟨v, A, c, ps, he, h1, h2, h3, h4⟩ := hp
  cases hs : (openL dl first).2.2 with
  | none =>
    rw [hs] at h4
    have hi := h.new h3 3
    exact ⟨v, A, c, ps, he, h1, h2, h3, kmark K w.heap.size 3, by rw [hs]; exact ⟨hi.disk, hi.ref, h4.1, hi.rlog, hi.mv⟩, Mv.new h3 3⟩
  | some l =>
    rw [hs] at h4
    obtain ⟨g, hv, hg, hl, _⟩ := h4
    have hm : ∀ S : Nat → Prop, Mv K (mark2 K w.heap.size g 2) S w w' := fun S => mark2_mv h3 g 2
    exact ⟨v, A, c, ps, he, h1, h2, h3, _, by rw [hs]; exact ⟨PDisk.mv h.disk (hm fun _ => False) (fun h => h), RefD.mv h.ref (hm fun _ => False) (fun h => h) (fun h => h), ⟨g, hv, hl, mark2_g hg⟩, HalfM.mv h.rlog (hm fun _ => False) (fun h => h), h.mv.trans (hm _)⟩, hm _⟩
theorem r_open (h : Inv w0 w K pd pr vl vm sl sm dl dm) (hb : Bnd n T sm dm) (hn : n ≤ 1000000000) (hT : T ≤ 1099511627776) {first : Int} (h64 : In64 first) :
    Calls Tryz.prog 10 #[.pointer (some ⟨pr, 0, none⟩), .int .i64 first] w (OPostM w0 w K pd pr vl (openL dm first) dm sl dl) := by
  refine (WqOpen.open_any w K pr dm first h64 h.ref hb.good (hb.fit hn hT)).mono fun e w' hp => ?_
  obtain ⟨v, A, c, ps, he, h1, h2, h3, h4⟩ := hp
  cases hs : (openL dm first).2.2 with
  | none =>
    rw [hs] at h4
    have hi := h.new h3 3
    exact ⟨v, A, c, ps, he, h1, h2, h3, kmark K w.heap.size 3, by rw [hs]; exact ⟨hi.disk, hi.ref, hi.log, h4.1, hi.mv⟩, Mv.new h3 3⟩
  | some l =>
    rw [hs] at h4
    obtain ⟨g, hv, hg, hl, _⟩ := h4
    have hm : ∀ S : Nat → Prop, Mv K (mark2 K w.heap.size g 5) S w w' := fun S => mark2_mv h3 g 5
    exact ⟨v, A, c, ps, he, h1, h2, h3, _, by rw [hs]; exact ⟨PDisk.mv h.disk (hm fun _ => False) (fun h => h), RefD.mv h.ref (hm fun _ => False) (fun h => h) (fun h => h), HalfL.mv h.log (hm fun _ => False) (fun h => h), ⟨g, hv, hl, mark2_g hg⟩, h.mv.trans (hm _)⟩, hm _⟩
def numOf (s : Option LSt) : Nat := match s with | none => 0 | some l => l.n
theorem p_number (h : HalfL w K pd vl sl) (m : Nat) : Calls Tryz.prog 30 #[vl] (w.drewN m) fun e w' => e = .returned (.int .i64 (numOf sl : Int)) ∧ w' = w.drewN m := by
  cases sl with
  | none =>
    obtain rfl : vl = .pointer none := h
    exact number_nil _
  | some l =>
    obtain ⟨g, rfl, hl, _⟩ := h
    exact number_same (w.drewN m) pd g l (hl.keep rfl)
theorem p_down (h : PDisk w K 1 pd dl) (m : Nat) : Calls Tryz.prog 31 #[.pointer (some ⟨pd, 0, none⟩)] (w.drewN m) fun e w' => e = .returned (.bool dl.off) ∧ w' = w.drewN m := by
  obtain ⟨M, D, L, G, Q, hp⟩ := h.grow (w' := w.drewN m) fun _ _ => rfl
  exact (PdChange.down_any (w.drewN m) K 1 pd M D L G Q dl hp).mono fun e w' ⟨h1, h2⟩ => ⟨h1, h2.symm⟩
theorem r_off (h : RefD w K 4 pr dm) : w.cell? ⟨pr, 2, none⟩ = some (.bool dm.off) := by
  obtain ⟨A, c, _, _, _, _, _, _, c2, _⟩ := h
  exact c2
end
end Go.Proofs.YtapbjmbakpopcaaGreatDoor.WsDisk

