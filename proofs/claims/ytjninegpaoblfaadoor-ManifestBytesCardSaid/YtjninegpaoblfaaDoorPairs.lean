/- Both sides' calls, on a disk or on none: the program's ('HalfH') and the document's ('HalfW'), each as the plain disk says. Conditions: those that 'Fine' names, and the arguments' bounds. -/
import Derived.Test.YtjninegpaoblfaaDoorPdRess
import Derived.Test.YtjninegpaoblfaaDoorRefNames
import Derived.Test.YtjninegpaoblfaaDoorPdClone
namespace Go.Proofs.YtjninegpaoblfaaDoor.Pairs
open Go Go.RowKit Words DkSpec PdLook RefDisk PdDisk PdRes

/-! ### what a nil disk answers -/
theorem happend_nil (w : World) (a : List UInt8) (A : Option Addr) (n c : Nat) : Calls Tryd.prog 51 #[.pointer none, .string ⟨a.toArray⟩, .slice A n c] w fun e w' => e = .returned (.int .i64 2) ∧ w.alloc (.cells #[.string ⟨a.toArray⟩] 9) = w' := by
  have HC := Lib.hid (PdChange.change_nil (w.alloc (.cells #[.string ⟨a.toArray⟩] 9)) (some ⟨w.heap.size, 0, none⟩) 1 1)
  go_enter Tryd.func51, Tryd.ntmps51
  go_wp2_with fail
  refine HC.out.mono ?_
  rintro e w1 ⟨rfl, rfl⟩
  go_wp2
  go_ret
  exact ⟨rfl, rfl⟩
theorem hsync_nil (w : World) (a : List UInt8) : Calls Tryd.prog 52 #[.pointer none, .string ⟨a.toArray⟩] w fun e w' => e = .returned (.int .i64 2) ∧ w.alloc (.cells #[.string ⟨a.toArray⟩] 9) = w' := by
  have HC := Lib.hid (PdChange.change_nil (w.alloc (.cells #[.string ⟨a.toArray⟩] 9)) (some ⟨w.heap.size, 0, none⟩) 1 1)
  go_enter Tryd.func52, Tryd.ntmps52
  go_wp2_with fail
  refine HC.out.mono ?_
  rintro e w1 ⟨rfl, rfl⟩
  go_wp2
  go_ret
  exact ⟨rfl, rfl⟩
theorem hdelete_nil (w : World) (a : List UInt8) : Calls Tryd.prog 50 #[.pointer none, .string ⟨a.toArray⟩] w fun e w' => e = .returned (.int .i64 2) ∧ w.alloc (.cells #[.string ⟨a.toArray⟩] 9) = w' := by
  have HC := Lib.hid (PdChange.change_nil (w.alloc (.cells #[.string ⟨a.toArray⟩] 9)) (some ⟨w.heap.size, 0, none⟩) 1 1)
  go_enter Tryd.func50, Tryd.ntmps50
  go_wp2_with fail
  refine HC.out.mono ?_
  rintro e w1 ⟨rfl, rfl⟩
  go_wp2
  go_ret
  exact ⟨rfl, rfl⟩
theorem hrename_nil (w : World) (a b : List UInt8) : Calls Tryd.prog 53 #[.pointer none, .string ⟨a.toArray⟩, .string ⟨b.toArray⟩] w fun e w' => e = .returned (.int .i64 2) ∧ w.alloc (.cells #[.string ⟨a.toArray⟩, .string ⟨b.toArray⟩] 9) = w' := by
  have HC := Lib.hid (PdChange.change_nil (w.alloc (.cells #[.string ⟨a.toArray⟩, .string ⟨b.toArray⟩] 9)) (some ⟨w.heap.size, 0, none⟩) 2 2)
  go_enter Tryd.func53, Tryd.ntmps53
  go_wp2_with fail
  refine HC.out.mono ?_
  rintro e w1 ⟨rfl, rfl⟩
  go_wp2
  go_ret
  exact ⟨rfl, rfl⟩
theorem hread_nil (w : World) (a : List UInt8) : Calls Tryd.prog 38 #[.pointer none, .string ⟨a.toArray⟩] w fun e w' => e = .returned (.tuple #[.slice none 0 0, .int .i64 2]) ∧ w.alloc (.cells #[.string ⟨a.toArray⟩] 9) = w' := by
  have HC := Lib.hid (PdChange.refusal_nil (w.alloc (.cells #[.string ⟨a.toArray⟩] 9)) (some ⟨w.heap.size, 0, none⟩) 1 1)
  go_enter Tryd.func38, Tryd.ntmps38
  go_wp2_with fail
  refine HC.out.mono ?_
  rintro e w1 ⟨rfl, rfl⟩
  go_wp2
  go_ret2
  exact ⟨rfl, rfl⟩
theorem hlist_nil (w : World) : Calls Tryd.prog 37 #[.pointer none] w fun e w' => e = .returned (.tuple #[.slice none 0 0, .int .i64 2]) ∧ w = w' := by
  have HC := Lib.hid (PdChange.refusal_nil w none 0 0)
  go_enter Tryd.func37, Tryd.ntmps37
  go_wp2_with fail
  refine HC.out.mono ?_
  rintro e w1 ⟨rfl, rfl⟩
  go_wp2
  go_ret2
  exact ⟨rfl, rfl⟩

/-! ### halves -/
def HalfH (w : World) (K : Nat → Nat) (o : Nat) (v : Value) : Option DSt → Prop
  | none => v = .pointer none
  | some d => ∃ p, v = .pointer (some ⟨p, 0, none⟩) ∧ PDisk w K o p d
def HalfW (w : World) (K : Nat → Nat) (o : Nat) (v : Value) : Option DSt → Prop
  | none => v = .pointer none
  | some d => ∃ p, v = .pointer (some ⟨p, 0, none⟩) ∧ RefD w K o p d
/-- At most n files, of at most T bytes. -/
structure Fine1 (n T : Nat) (d : DSt) : Prop where
  good : DkSpec.Good d
  low : -1 ≤ d.left
  high : d.left ≤ 9223372036854775807
  few : d.files.length ≤ n
  small : ∀ f ∈ d.files, f.data.length ≤ T
def Fine (n T : Nat) (s : Option DSt) : Prop := ∀ d, s = some d → Fine1 n T d
theorem Fine1.old {n T : Nat} {d : DSt} (h : Fine1 n T d) (a : List UInt8) : (old a d.files).data.length ≤ T := by
  unfold DkSpec.old
  split
  · rename_i hp
    have hl := (place_le a d.files).2 hp
    have hg : d.files.getD (place a d.files).1 ⟨a, [], 0⟩ = d.files[(place a d.files).1] := by simp [List.getD, hl.1]
    rw [hg]
    exact h.small _ (List.getElem_mem _)
  · exact Nat.zero_le _
def errS (r : DSt → Nat × DSt) : Option DSt → Nat × Option DSt
  | none => (2, none)
  | some d => ((r d).1, some (r d).2)
def EPostH (w : World) (K : Nat → Nat) (o : Nat) (v : Value) (r : Nat × Option DSt) (e : Ending) (w' : World) : Prop := e = .returned (.int .i64 (r.1 : Int)) ∧ ∃ K', HalfH w' K' o v r.2 ∧ Turned K K' o w w'
def EPostW (w : World) (K : Nat → Nat) (o : Nat) (v : Value) (r : Nat × Option DSt) (e : Ending) (w' : World) : Prop := e = .returned (.int .i64 (r.1 : Int)) ∧ ∃ K', HalfW w' K' o v r.2 ∧ Turned K K' o w w'
def APostH (w : World) (K : Nat → Nat) (o : Nat) (v : Value) (s : Option DSt) (e : Ending) (w' : World) : Prop := e = .returned (.tuple #[]) ∧ ∃ K', HalfH w' K' o v s ∧ Turned K K' o w w'
def APostW (w : World) (K : Nat → Nat) (o : Nat) (v : Value) (s : Option DSt) (e : Ending) (w' : World) : Prop := e = .returned (.tuple #[]) ∧ ∃ K', HalfW w' K' o v s ∧ Turned K K' o w w'

section
variable {w : World} {K : Nat → Nat} {o : Nat} {v : Value} {s : Option DSt} {n T : Nat}
theorem e_nil {o2 : Nat} {x : Obj} {e : Ending} {w' : World} (h : e = .returned (.int .i64 2) ∧ w.alloc x = w') (r : DSt → Nat × DSt) : EPostH w K o2 (.pointer none) (errS r none) e w' := by
  obtain ⟨rfl, rfl⟩ := h
  exact ⟨rfl, K, rfl, PdOps.turned_alloc _⟩
theorem ew_nil {o2 : Nat} {e : Ending} {w' : World} (h : e = .returned (.int .i64 2) ∧ w = w') (r : DSt → Nat × DSt) : EPostW w K o2 (.pointer none) (errS r none) e w' := by
  obtain ⟨rfl, rfl⟩ := h
  exact ⟨rfl, K, rfl, Turned.refl _ _ _⟩
theorem e_some {p : Nat} {r : Nat × DSt} {e : Ending} {w' : World} (h : PdOps.OPost w K o p r e w') : e = .returned (.int .i64 (r.1 : Int)) ∧ ∃ K', HalfH w' K' o (.pointer (some ⟨p, 0, none⟩)) (some r.2) ∧ Turned K K' o w w' := by
  obtain ⟨h1, K', h2, h3⟩ := h
  exact ⟨h1, K', ⟨p, rfl, h2⟩, h3⟩
theorem ew_some {p : Nat} {r : Nat × DSt} {e : Ending} {w' : World} (h : RefOps5.OPost w K o p r e w') : e = .returned (.int .i64 (r.1 : Int)) ∧ ∃ K', HalfW w' K' o (.pointer (some ⟨p, 0, none⟩)) (some r.2) ∧ Turned K K' o w w' := by
  obtain ⟨h1, K', h2, h3⟩ := h
  exact ⟨h1, K', ⟨p, rfl, h2⟩, h3⟩

theorem h_append (hs : HalfH w K o v s) (hf : Fine n T s) (hn : n ≤ 1000000000) (a data : List UInt8) (A : Option Addr) (c : Nat) (ha : a.length ≤ 281474976710656) (hT : T + data.length ≤ 140737488355328) (hr : Rd w w.heap.size A (data.map B8)) (hk : ∀ b off, A = some ⟨b, off, none⟩ → 0 < data.length → K b ≠ o) :
    Calls Tryd.prog 51 #[v, .string ⟨a.toArray⟩, .slice A data.length c] w (EPostH w K o v (errS (append a data) s)) := by
  cases s with
  | none => subst hs; exact (happend_nil w a A _ c).mono fun e w' h => e_nil h _
  | some d =>
    obtain ⟨p, rfl, hd⟩ := hs
    have h1 := hf d rfl
    exact (PdApp.append_any w K o p d a data A c hd ha (Nat.le_trans h1.few hn) (by have := h1.old a; omega) hr hk).mono fun e w' h => e_some h
theorem h_sync (hs : HalfH w K o v s) (a : List UInt8) (ha : a.length ≤ 281474976710656) : Calls Tryd.prog 52 #[v, .string ⟨a.toArray⟩] w (EPostH w K o v (errS (sync a) s)) := by
  cases s with
  | none => subst hs; exact (hsync_nil w a).mono fun e w' h => e_nil h _
  | some d =>
    obtain ⟨p, rfl, hd⟩ := hs
    exact (PdSync.sync_any w K o p d a hd (by unfold maxLen; omega)).mono fun e w' h => e_some h
theorem h_delete (hs : HalfH w K o v s) (a : List UInt8) (ha : a.length ≤ 281474976710656) : Calls Tryd.prog 50 #[v, .string ⟨a.toArray⟩] w (EPostH w K o v (errS (delete a) s)) := by
  cases s with
  | none => subst hs; exact (hdelete_nil w a).mono fun e w' h => e_nil h _
  | some d =>
    obtain ⟨p, rfl, hd⟩ := hs
    exact (PdOps.delete_any w K o p d a hd (by unfold maxLen; omega)).mono fun e w' h => e_some h
theorem h_rename (hs : HalfH w K o v s) (hf : Fine n T s) (hn : n ≤ 1000000000) (a b : List UInt8) (ha : a.length ≤ 281474976710656) (hb : b.length ≤ 281474976710656) : Calls Tryd.prog 53 #[v, .string ⟨a.toArray⟩, .string ⟨b.toArray⟩] w (EPostH w K o v (errS (rename a b) s)) := by
  cases s with
  | none => subst hs; exact (hrename_nil w a b).mono fun e w' h => e_nil h _
  | some d =>
    obtain ⟨p, rfl, hd⟩ := hs
    have h1 := hf d rfl
    exact (PdRen.rename_any w K o p d a b hd ha hb (Nat.le_trans h1.few hn)).mono fun e w' h => e_some h
def readS (a : List UInt8) : Option DSt → Nat × List UInt8
  | none => (2, [])
  | some d => read a d
def listS : Option DSt → Nat × List (List UInt8)
  | none => (2, [])
  | some d => list d
theorem h_read (hs : HalfH w K o v s) (hf : Fine n T s) (hT : T ≤ 140737488355328) (a : List UInt8) (ha : a.length ≤ 281474976710656) : Calls Tryd.prog 38 #[v, .string ⟨a.toArray⟩] w (PdRead.RdPost w (readS a s)) := by
  cases s with
  | none =>
    subst hs
    refine (hread_nil w a).mono fun e w' h => ?_
    obtain ⟨rfl, rfl⟩ := h
    exact ⟨_, rfl, World.ownsRow_nil _ _ _ _, (Below.refl _ w).alloc (Nat.le_refl _) _⟩
  | some d =>
    obtain ⟨p, rfl, hd⟩ := hs
    exact PdRead.read_any w K o p d a hd (by unfold maxLen; omega) (fun f hm => Nat.le_trans ((hf d rfl).small f hm) hT)
theorem h_list (hs : HalfH w K o v s) (hf : Fine n T s) (hn : n ≤ 1000000000) : Calls Tryd.prog 37 #[v] w (PdList.LsPost w (listS s)) := by
  cases s with
  | none =>
    subst hs
    refine (hlist_nil w).mono fun e w' h => ?_
    obtain ⟨rfl, rfl⟩ := h
    exact ⟨_, rfl, World.ownsRow_nil _ _ _ _, Below.refl _ _⟩
  | some d =>
    obtain ⟨p, rfl, hd⟩ := hs
    exact PdList.list_any w K o p d hd (Nat.le_trans (hf d rfl).few hn)
theorem a_some {p : Nat} {d : DSt} {e : Ending} {w' : World} (h : PdOps.MPost w K o p d e w') : APostH w K o (.pointer (some ⟨p, 0, none⟩)) (some d) e w' := by
  obtain ⟨h1, K', h2, h3⟩ := h
  exact ⟨h1, K', ⟨p, rfl, h2⟩, h3⟩
theorem aw_some {p : Nat} {d : DSt} {e : Ending} {w' : World} (h : RefTake.MPost w K o p d e w') : APostW w K o (.pointer (some ⟨p, 0, none⟩)) (some d) e w' := by
  obtain ⟨h1, K', h2, h3⟩ := h
  exact ⟨h1, K', ⟨p, rfl, h2⟩, h3⟩
theorem a_nil {e : Ending} {w' : World} (h : e = .returned (.tuple #[]) ∧ w = w') : APostH w K o (.pointer none) none e w' := by
  obtain ⟨rfl, rfl⟩ := h
  exact ⟨rfl, K, rfl, Turned.refl _ _ _⟩
theorem aw_nil {e : Ending} {w' : World} (h : e = .returned (.tuple #[]) ∧ w = w') : APostW w K o (.pointer none) none e w' := by
  obtain ⟨rfl, rfl⟩ := h
  exact ⟨rfl, K, rfl, Turned.refl _ _ _⟩
theorem h_arm (hs : HalfH w K o v s) (x : Int) (h1 : -9223372036854775808 ≤ x) (h2 : x ≤ 9223372036854775807) : Calls Tryd.prog 35 #[v, .int .i64 x] w (APostH w K o v (s.map (arm x))) := by
  cases s with
  | none => subst hs; exact (PdOps.arm_nil w x).mono fun e w' h => a_nil h
  | some d => obtain ⟨p, rfl, hd⟩ := hs; exact (PdOps.arm_any w K o p d x hd h1 h2).mono fun e w' h => a_some h
theorem h_restart (hs : HalfH w K o v s) (hf : Fine n T s) (hn : n ≤ 1000000000) (ks : List Int) (A : Option Addr) (c : Nat) (hr : Rd w w.heap.size A (ks.map I64)) (hk0 : ∀ b off, A = some ⟨b, off, none⟩ → 0 < ks.length → K b ≠ o) (hks : ∀ k ∈ ks, -9223372036854775808 ≤ k ∧ k ≤ 9223372036854775807) (hc : ks.length ≤ c) (hm : c ≤ maxLen) :
    Calls Tryd.prog 36 #[v, .slice A ks.length c] w (APostH w K o v (s.map (restart ks))) := by
  cases s with
  | none => subst hs; exact (PdRes.restart_nil w A _ c).mono fun e w' h => a_nil h
  | some d => obtain ⟨p, rfl, hd⟩ := hs; exact (PdRes.restart_any w K o p d ks A c hd (Nat.le_trans (hf d rfl).few hn) hr hk0 hks hc hm).mono fun e w' h => a_some h
def downS : Option DSt → Bool
  | none => false
  | some d => d.off
theorem h_down (hs : HalfH w K o v s) : Calls Tryd.prog 54 #[v] w fun e w' => e = .returned (.bool (downS s)) ∧ w = w' := by
  cases s with
  | none => subst hs; exact PdChange.down_nil w
  | some d => obtain ⟨p, rfl, M, D, L, G, Q, hd⟩ := hs; exact PdChange.down_any w K o p M D L G Q d hd
/-- A clone, with a number of its own. -/
def CPostH (w : World) (K : Nat → Nat) (o2 : Nat) (s : Option DSt) (e : Ending) (w' : World) : Prop := ∃ v' K', e = .returned v' ∧ HalfH w' K' o2 v' s ∧ ∀ o', Turned K K' o' w w'
def CPostW (w : World) (K : Nat → Nat) (o2 : Nat) (s : Option DSt) (e : Ending) (w' : World) : Prop := ∃ v' K', e = .returned v' ∧ HalfW w' K' o2 v' s ∧ ∀ o', Turned K K' o' w w'
end
end Go.Proofs.YtjninegpaoblfaaDoor.Pairs
