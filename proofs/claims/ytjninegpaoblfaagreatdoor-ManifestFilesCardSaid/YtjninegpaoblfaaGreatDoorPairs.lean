/- Both sides' calls, on a disk or on none: the program's ('HalfH') and the document's ('HalfW'), each as the plain disk says. Conditions: those that 'Fine' names, and the arguments' bounds. -/
import Derived.Test.YtjninegpaoblfaaGreatDoorRefRes5
import Derived.Test.YtjninegpaoblfaaGreatDoorRefOps
import Derived.Test.YtjninegpaoblfaaGreatDoorRefRl
import Derived.Test.YtjninegpaoblfaaGreatDoorDkLaws
import Derived.Test.YtjninegpaoblfaaGreatDoorPdSt
import Derived.Test.YtjninegpaoblfaaGreatDoorPdClone
namespace Go.Proofs.YtjninegpaoblfaaGreatDoor.Pairs
open Go Go.RowKit Words DkSpec PdLook RefDisk PdDisk PdRes

/-! ### what a nil disk answers -/
theorem rdelete_nil (w : World) (a : List UInt8) : Calls Tryz.prog 33 #[.pointer none, .string ⟨a.toArray⟩] w fun e w' => e = .returned (.int .i64 2) ∧ w = w' := by
  have HC := Lib.hid (RefChange.change_nil w a a)
  go_enter Tryz.func33, Tryz.ntmps33
  go_wp2_with fail
  refine HC.out.mono ?_
  rintro e w1 ⟨rfl, rfl⟩
  go_wp2
  go_ret
  exact ⟨rfl, rfl⟩
theorem rsync_nil (w : World) (a : List UInt8) : Calls Tryz.prog 35 #[.pointer none, .string ⟨a.toArray⟩] w fun e w' => e = .returned (.int .i64 2) ∧ w = w' := by
  have HC := Lib.hid (RefChange.change_nil w a a)
  go_enter Tryz.func35, Tryz.ntmps35
  go_wp2_with fail
  refine HC.out.mono ?_
  rintro e w1 ⟨rfl, rfl⟩
  go_wp2
  go_ret
  exact ⟨rfl, rfl⟩
theorem rrename_nil (w : World) (a b : List UInt8) : Calls Tryz.prog 36 #[.pointer none, .string ⟨a.toArray⟩, .string ⟨b.toArray⟩] w fun e w' => e = .returned (.int .i64 2) ∧ w = w' := by
  have HC := Lib.hid (RefChange.change_nil w a b)
  go_enter Tryz.func36, Tryz.ntmps36
  go_wp2_with fail
  refine HC.out.mono ?_
  rintro e w1 ⟨rfl, rfl⟩
  go_wp2
  go_ret
  exact ⟨rfl, rfl⟩
theorem happend_nil (w : World) (a : List UInt8) (A : Option Addr) (n c : Nat) : Calls Tryz.prog 29 #[.pointer none, .string ⟨a.toArray⟩, .slice A n c] w fun e w' => e = .returned (.int .i64 2) ∧ w.alloc (.cells #[.string ⟨a.toArray⟩] 9) = w' := by
  have HC := Lib.hid (PdChange.change_nil (w.alloc (.cells #[.string ⟨a.toArray⟩] 9)) (some ⟨w.heap.size, 0, none⟩) 1 1)
  go_enter Tryz.func29, Tryz.ntmps29
  go_wp2_with fail
  refine HC.out.mono ?_
  rintro e w1 ⟨rfl, rfl⟩
  go_wp2
  go_ret
  exact ⟨rfl, rfl⟩
theorem hsync_nil (w : World) (a : List UInt8) : Calls Tryz.prog 30 #[.pointer none, .string ⟨a.toArray⟩] w fun e w' => e = .returned (.int .i64 2) ∧ w.alloc (.cells #[.string ⟨a.toArray⟩] 9) = w' := by
  have HC := Lib.hid (PdChange.change_nil (w.alloc (.cells #[.string ⟨a.toArray⟩] 9)) (some ⟨w.heap.size, 0, none⟩) 1 1)
  go_enter Tryz.func30, Tryz.ntmps30
  go_wp2_with fail
  refine HC.out.mono ?_
  rintro e w1 ⟨rfl, rfl⟩
  go_wp2
  go_ret
  exact ⟨rfl, rfl⟩
theorem hdelete_nil (w : World) (a : List UInt8) : Calls Tryz.prog 28 #[.pointer none, .string ⟨a.toArray⟩] w fun e w' => e = .returned (.int .i64 2) ∧ w.alloc (.cells #[.string ⟨a.toArray⟩] 9) = w' := by
  have HC := Lib.hid (PdChange.change_nil (w.alloc (.cells #[.string ⟨a.toArray⟩] 9)) (some ⟨w.heap.size, 0, none⟩) 1 1)
  go_enter Tryz.func28, Tryz.ntmps28
  go_wp2_with fail
  refine HC.out.mono ?_
  rintro e w1 ⟨rfl, rfl⟩
  go_wp2
  go_ret
  exact ⟨rfl, rfl⟩
theorem hrename_nil (w : World) (a b : List UInt8) : Calls Tryz.prog 31 #[.pointer none, .string ⟨a.toArray⟩, .string ⟨b.toArray⟩] w fun e w' => e = .returned (.int .i64 2) ∧ w.alloc (.cells #[.string ⟨a.toArray⟩, .string ⟨b.toArray⟩] 9) = w' := by
  have HC := Lib.hid (PdChange.change_nil (w.alloc (.cells #[.string ⟨a.toArray⟩, .string ⟨b.toArray⟩] 9)) (some ⟨w.heap.size, 0, none⟩) 2 2)
  go_enter Tryz.func31, Tryz.ntmps31
  go_wp2_with fail
  refine HC.out.mono ?_
  rintro e w1 ⟨rfl, rfl⟩
  go_wp2
  go_ret
  exact ⟨rfl, rfl⟩
theorem hread_nil (w : World) (a : List UInt8) : Calls Tryz.prog 21 #[.pointer none, .string ⟨a.toArray⟩] w fun e w' => e = .returned (.tuple #[.slice none 0 0, .int .i64 2]) ∧ w.alloc (.cells #[.string ⟨a.toArray⟩] 9) = w' := by
  have HC := Lib.hid (PdChange.refusal_nil (w.alloc (.cells #[.string ⟨a.toArray⟩] 9)) (some ⟨w.heap.size, 0, none⟩) 1 1)
  go_enter Tryz.func21, Tryz.ntmps21
  go_wp2_with fail
  refine HC.out.mono ?_
  rintro e w1 ⟨rfl, rfl⟩
  go_wp2
  go_ret2
  exact ⟨rfl, rfl⟩
theorem hlist_nil (w : World) : Calls Tryz.prog 19 #[.pointer none] w fun e w' => e = .returned (.tuple #[.slice none 0 0, .int .i64 2]) ∧ w = w' := by
  have HC := Lib.hid (PdChange.refusal_nil w none 0 0)
  go_enter Tryz.func19, Tryz.ntmps19
  go_wp2_with fail
  refine HC.out.mono ?_
  rintro e w1 ⟨rfl, rfl⟩
  go_wp2
  go_ret2
  exact ⟨rfl, rfl⟩

/-! ### halves -/
def HalfH (w : World) (K : Nat → Nat) (o : Nat) (v : Value) : Option DSt → Prop
  | none => v = .pointer none
  | some d => ∃ p, v = .pointer (some ⟨p, 0, none⟩) ∧ PDisk w K o p d
def HalfW (w : World) (K : Nat → Nat) (o : Nat) (v : Value) : Option DSt → Prop
  | none => v = .pointer none
  | some d => ∃ p, v = .pointer (some ⟨p, 0, none⟩) ∧ RefD w K o p d
/-- At most n files, of at most T bytes. -/
structure Fine1 (n T : Nat) (d : DSt) : Prop where
  good : DkSpec.Good d
  low : -1 ≤ d.left
  high : d.left ≤ 9223372036854775807
  few : d.files.length ≤ n
  small : ∀ f ∈ d.files, f.data.length ≤ T
def Fine (n T : Nat) (s : Option DSt) : Prop := ∀ d, s = some d → Fine1 n T d
theorem Fine1.old {n T : Nat} {d : DSt} (h : Fine1 n T d) (a : List UInt8) : (old a d.files).data.length ≤ T := by
  unfold DkSpec.old
  split
  · rename_i hp
    have hl := (place_le a d.files).2 hp
    have hg : d.files.getD (place a d.files).1 ⟨a, [], 0⟩ = d.files[(place a d.files).1] := by simp [List.getD, hl.1]
    rw [hg]
    exact h.small _ (List.getElem_mem _)
  · exact Nat.zero_le _
def errS (r : DSt → Nat × DSt) : Option DSt → Nat × Option DSt
  | none => (2, none)
  | some d => ((r d).1, some (r d).2)
def EPostH (w : World) (K : Nat → Nat) (o : Nat) (v : Value) (r : Nat × Option DSt) (e : Ending) (w' : World) : Prop := e = .returned (.int .i64 (r.1 : Int)) ∧ ∃ K', HalfH w' K' o v r.2 ∧ Turned K K' o w w'
def EPostW (w : World) (K : Nat → Nat) (o : Nat) (v : Value) (r : Nat × Option DSt) (e : Ending) (w' : World) : Prop := e = .returned (.int .i64 (r.1 : Int)) ∧ ∃ K', HalfW w' K' o v r.2 ∧ Turned K K' o w w'
def APostH (w : World) (K : Nat → Nat) (o : Nat) (v : Value) (s : Option DSt) (e : Ending) (w' : World) : Prop := e = .returned (.tuple #[]) ∧ ∃ K', HalfH w' K' o v s ∧ Turned K K' o w w'
def APostW (w : World) (K : Nat → Nat) (o : Nat) (v : Value) (s : Option DSt) (e : Ending) (w' : World) : Prop := e = .returned (.tuple #[]) ∧ ∃ K', HalfW w' K' o v s ∧ Turned K K' o w w'

section
variable {w : World} {K : Nat → Nat} {o : Nat} {v : Value} {s : Option DSt} {n T : Nat}
theorem e_nil {o2 : Nat} {x : Obj} {e : Ending} {w' : World} (h : e = .returned (.int .i64 2) ∧ w.alloc x = w') (r : DSt → Nat × DSt) : EPostH w K o2 (.pointer none) (errS r none) e w' := by
  obtain ⟨rfl, rfl⟩ := h
  exact ⟨rfl, K, rfl, PdOps.turned_alloc _⟩
theorem ew_nil {o2 : Nat} {e : Ending} {w' : World} (h : e = .returned (.int .i64 2) ∧ w = w') (r : DSt → Nat × DSt) : EPostW w K o2 (.pointer none) (errS r none) e w' := by
  obtain ⟨rfl, rfl⟩ := h
  exact ⟨rfl, K, rfl, Turned.refl _ _ _⟩
theorem e_some {p : Nat} {r : Nat × DSt} {e : Ending} {w' : World} (h : PdOps.OPost w K o p r e w') : e = .returned (.int .i64 (r.1 : Int)) ∧ ∃ K', HalfH w' K' o (.pointer (some ⟨p, 0, none⟩)) (some r.2) ∧ Turned K K' o w w' := by
  obtain ⟨h1, K', h2, h3⟩ := h
  exact ⟨h1, K', ⟨p, rfl, h2⟩, h3⟩
theorem ew_some {p : Nat} {r : Nat × DSt} {e : Ending} {w' : World} (h : RefOps5.OPost w K o p r e w') : e = .returned (.int .i64 (r.1 : Int)) ∧ ∃ K', HalfW w' K' o (.pointer (some ⟨p, 0, none⟩)) (some r.2) ∧ Turned K K' o w w' := by
  obtain ⟨h1, K', h2, h3⟩ := h
  exact ⟨h1, K', ⟨p, rfl, h2⟩, h3⟩

theorem h_append (hs : HalfH w K o v s) (hf : Fine n T s) (hn : n ≤ 1000000000) (a data : List UInt8) (A : Option Addr) (c : Nat) (ha : a.length ≤ 281474976710656) (hT : T + data.length ≤ 140737488355328) (hr : Rd w w.heap.size A (data.map B8)) (hk : ∀ b off, A = some ⟨b, off, none⟩ → 0 < data.length → K b ≠ o) :
    Calls Tryz.prog 29 #[v, .string ⟨a.toArray⟩, .slice A data.length c] w (EPostH w K o v (errS (append a data) s)) := by
  cases s with
  | none => subst hs; exact (happend_nil w a A _ c).mono fun e w' h => e_nil h _
  | some d =>
    obtain ⟨p, rfl, hd⟩ := hs
    have h1 := hf d rfl
    exact (PdApp.append_any w K o p d a data A c hd ha (Nat.le_trans h1.few hn) (by have := h1.old a; omega) hr hk).mono fun e w' h => e_some h
theorem w_append (ho : o ≠ 0) (hs : HalfW w K o v s) (hf : Fine n T s) (hn : n ≤ 1000000000) (a data : List UInt8) (A : Option Addr) (c : Nat) (ha : a.length ≤ 281474976710656) (hT : T + data.length ≤ 140737488355328) (hr : Rd w w.heap.size A (data.map B8)) (hk : ∀ b off, A = some ⟨b, off, none⟩ → 0 < data.length → K b ≠ o) :
    Calls Tryz.prog 34 #[v, .string ⟨a.toArray⟩, .slice A data.length c] w (EPostW w K o v (errS (append a data) s)) := by
  cases s with
  | none => subst hs; exact (RefApp5.append_nil w a A _ c).mono fun e w' h => ew_nil h _
  | some d =>
    obtain ⟨p, rfl, hd⟩ := hs
    have h1 := hf d rfl
    exact (RefApp5.append_any w K o p d a data A c hd ho (by unfold maxLen; omega) h1.low h1.high (Nat.le_trans h1.few hn) (by have := h1.old a; omega) hr hk).mono fun e w' h => ew_some h
theorem h_sync (hs : HalfH w K o v s) (a : List UInt8) (ha : a.length ≤ 281474976710656) : Calls Tryz.prog 30 #[v, .string ⟨a.toArray⟩] w (EPostH w K o v (errS (sync a) s)) := by
  cases s with
  | none => subst hs; exact (hsync_nil w a).mono fun e w' h => e_nil h _
  | some d =>
    obtain ⟨p, rfl, hd⟩ := hs
    exact (PdSync.sync_any w K o p d a hd (by unfold maxLen; omega)).mono fun e w' h => e_some h
theorem w_sync (ho : o ≠ 0) (hs : HalfW w K o v s) (hf : Fine n T s) (a : List UInt8) (ha : a.length ≤ 281474976710656) : Calls Tryz.prog 35 #[v, .string ⟨a.toArray⟩] w (EPostW w K o v (errS (sync a) s)) := by
  cases s with
  | none => subst hs; exact (rsync_nil w a).mono fun e w' h => ew_nil h _
  | some d =>
    obtain ⟨p, rfl, hd⟩ := hs
    have h1 := hf d rfl
    exact (RefSync5.sync_any w K o p d a hd ho (by unfold maxLen; omega) h1.low h1.high).mono fun e w' h => ew_some h
theorem h_delete (hs : HalfH w K o v s) (a : List UInt8) (ha : a.length ≤ 281474976710656) : Calls Tryz.prog 28 #[v, .string ⟨a.toArray⟩] w (EPostH w K o v (errS (delete a) s)) := by
  cases s with
  | none => subst hs; exact (hdelete_nil w a).mono fun e w' h => e_nil h _
  | some d =>
    obtain ⟨p, rfl, hd⟩ := hs
    exact (PdOps.delete_any w K o p d a hd (by unfold maxLen; omega)).mono fun e w' h => e_some h
theorem w_delete (ho : o ≠ 0) (hs : HalfW w K o v s) (hf : Fine n T s) (hn : n ≤ 1000000000) (a : List UInt8) (ha : a.length ≤ 281474976710656) : Calls Tryz.prog 33 #[v, .string ⟨a.toArray⟩] w (EPostW w K o v (errS (delete a) s)) := by
  cases s with
  | none => subst hs; exact (rdelete_nil w a).mono fun e w' h => ew_nil h _
  | some d =>
    obtain ⟨p, rfl, hd⟩ := hs
    have h1 := hf d rfl
    exact (RefOps5.delete_any w K o p d a hd ho (by unfold maxLen; omega) h1.low h1.high (Nat.le_trans h1.few hn)).mono fun e w' h => ew_some h
theorem h_rename (hs : HalfH w K o v s) (hf : Fine n T s) (hn : n ≤ 1000000000) (a b : List UInt8) (ha : a.length ≤ 281474976710656) (hb : b.length ≤ 281474976710656) : Calls Tryz.prog 31 #[v, .string ⟨a.toArray⟩, .string ⟨b.toArray⟩] w (EPostH w K o v (errS (rename a b) s)) := by
  cases s with
  | none => subst hs; exact (hrename_nil w a b).mono fun e w' h => e_nil h _
  | some d =>
    obtain ⟨p, rfl, hd⟩ := hs
    have h1 := hf d rfl
    exact (PdRen.rename_any w K o p d a b hd ha hb (Nat.le_trans h1.few hn)).mono fun e w' h => e_some h
theorem w_rename (ho : o ≠ 0) (hs : HalfW w K o v s) (hf : Fine n T s) (hn : n ≤ 1000000000) (a b : List UInt8) (ha : a.length ≤ 281474976710656) (hb : b.length ≤ 281474976710656) : Calls Tryz.prog 36 #[v, .string ⟨a.toArray⟩, .string ⟨b.toArray⟩] w (EPostW w K o v (errS (rename a b) s)) := by
  cases s with
  | none => subst hs; exact (rrename_nil w a b).mono fun e w' h => ew_nil h _
  | some d =>
    obtain ⟨p, rfl, hd⟩ := hs
    have h1 := hf d rfl
    exact (RefRen5.rename_any w K o p d a b hd ho (by unfold maxLen; omega) (by unfold maxLen; omega) h1.low h1.high (Nat.le_trans h1.few hn)).mono fun e w' h => ew_some h

def readS (a : List UInt8) : Option DSt → Nat × List UInt8
  | none => (2, [])
  | some d => read a d
def listS : Option DSt → Nat × List (List UInt8)
  | none => (2, [])
  | some d => list d
theorem h_read (hs : HalfH w K o v s) (hf : Fine n T s) (hT : T ≤ 140737488355328) (a : List UInt8) (ha : a.length ≤ 281474976710656) : Calls Tryz.prog 21 #[v, .string ⟨a.toArray⟩] w (PdRead.RdPost w (readS a s)) := by
  cases s with
  | none =>
    subst hs
    refine (hread_nil w a).mono fun e w' h => ?_
    obtain ⟨rfl, rfl⟩ := h
    exact ⟨_, rfl, World.ownsRow_nil _ _ _ _, (Below.refl _ w).alloc (Nat.le_refl _) _⟩
  | some d =>
    obtain ⟨p, rfl, hd⟩ := hs
    exact PdRead.read_any w K o p d a hd (by unfold maxLen; omega) (fun f hm => Nat.le_trans ((hf d rfl).small f hm) hT)
theorem w_read (hs : HalfW w K o v s) (a : List UInt8) (ha : a.length ≤ 281474976710656) : Calls Tryz.prog 22 #[v, .string ⟨a.toArray⟩] w (RefRead5.RdPost w K (readS a s)) := by
  cases s with
  | none =>
    subst hs
    refine (RefRead5.read_nil w a).mono fun e w' h => ?_
    obtain ⟨rfl, rfl⟩ := h
    exact RefRead5.rdpost_err (n := 2) rfl rfl
  | some d =>
    obtain ⟨p, rfl, hd⟩ := hs
    exact RefRead5.read_any w K o p d a hd (by unfold maxLen; omega)
theorem h_list (hs : HalfH w K o v s) (hf : Fine n T s) (hn : n ≤ 1000000000) : Calls Tryz.prog 19 #[v] w (PdList.LsPost w (listS s)) := by
  cases s with
  | none =>
    subst hs
    refine (hlist_nil w).mono fun e w' h => ?_
    obtain ⟨rfl, rfl⟩ := h
    exact ⟨_, rfl, World.ownsRow_nil _ _ _ _, Below.refl _ _⟩
  | some d =>
    obtain ⟨p, rfl, hd⟩ := hs
    exact PdList.list_any w K o p d hd (Nat.le_trans (hf d rfl).few hn)
theorem w_list (hs : HalfW w K o v s) (hf : Fine n T s) (hn : n ≤ 1000000000) : Calls Tryz.prog 20 #[v] w (RefList5.LsPost w (listS s)) := by
  cases s with
  | none =>
    subst hs
    refine (RefList5.list_nil w).mono fun e w' h => ?_
    obtain ⟨rfl, rfl⟩ := h
    exact ⟨_, rfl, World.ownsRow_nil _ _ _ _, Below.refl _ _⟩
  | some d =>
    obtain ⟨p, rfl, hd⟩ := hs
    exact RefList5.list_any w K o p d hd (Nat.le_trans (hf d rfl).few hn)
theorem a_some {p : Nat} {d : DSt} {e : Ending} {w' : World} (h : PdOps.MPost w K o p d e w') : APostH w K o (.pointer (some ⟨p, 0, none⟩)) (some d) e w' := by
  obtain ⟨h1, K', h2, h3⟩ := h
  exact ⟨h1, K', ⟨p, rfl, h2⟩, h3⟩
theorem aw_some {p : Nat} {d : DSt} {e : Ending} {w' : World} (h : RefTake.MPost w K o p d e w') : APostW w K o (.pointer (some ⟨p, 0, none⟩)) (some d) e w' := by
  obtain ⟨h1, K', h2, h3⟩ := h
  exact ⟨h1, K', ⟨p, rfl, h2⟩, h3⟩
theorem a_nil {e : Ending} {w' : World} (h : e = .returned (.tuple #[]) ∧ w = w') : APostH w K o (.pointer none) none e w' := by
  obtain ⟨rfl, rfl⟩ := h
  exact ⟨rfl, K, rfl, Turned.refl _ _ _⟩
theorem aw_nil {e : Ending} {w' : World} (h : e = .returned (.tuple #[]) ∧ w = w') : APostW w K o (.pointer none) none e w' := by
  obtain ⟨rfl, rfl⟩ := h
  exact ⟨rfl, K, rfl, Turned.refl _ _ _⟩
theorem h_fill (hs : HalfH w K o v s) (b : Bool) : Calls Tryz.prog 9 #[v, .bool b] w (APostH w K o v (s.map fun d => { d with full := b })) := by
  cases s with
  | none => subst hs; exact (PdOps.fill_nil w b).mono fun e w' h => a_nil h
  | some d => obtain ⟨p, rfl, hd⟩ := hs; exact (PdOps.fill_any w K o p d b hd).mono fun e w' h => a_some h
theorem w_fill (ho : o ≠ 0) (hs : HalfW w K o v s) (b : Bool) : Calls Tryz.prog 10 #[v, .bool b] w (APostW w K o v (s.map fun d => { d with full := b })) := by
  cases s with
  | none => subst hs; exact (RefOps5.fill_nil w b).mono fun e w' h => aw_nil h
  | some d => obtain ⟨p, rfl, hd⟩ := hs; exact (RefOps5.fill_any w K o p d b hd ho).mono fun e w' h => aw_some h
theorem h_arm (hs : HalfH w K o v s) (x : Int) (h1 : -9223372036854775808 ≤ x) (h2 : x ≤ 9223372036854775807) : Calls Tryz.prog 7 #[v, .int .i64 x] w (APostH w K o v (s.map (arm x))) := by
  cases s with
  | none => subst hs; exact (PdOps.arm_nil w x).mono fun e w' h => a_nil h
  | some d => obtain ⟨p, rfl, hd⟩ := hs; exact (PdOps.arm_any w K o p d x hd h1 h2).mono fun e w' h => a_some h
theorem w_arm (ho : o ≠ 0) (hs : HalfW w K o v s) (x : Int) : Calls Tryz.prog 8 #[v, .int .i64 x] w (APostW w K o v (s.map (arm x))) := by
  cases s with
  | none => subst hs; exact (RefOps5.arm_nil w x).mono fun e w' h => aw_nil h
  | some d => obtain ⟨p, rfl, hd⟩ := hs; exact (RefOps5.arm_any w K o p d x hd ho).mono fun e w' h => aw_some h
theorem h_restart (hs : HalfH w K o v s) (hf : Fine n T s) (hn : n ≤ 1000000000) (ks : List Int) (A : Option Addr) (c : Nat) (hr : Rd w w.heap.size A (ks.map I64)) (hk0 : ∀ b off, A = some ⟨b, off, none⟩ → 0 < ks.length → K b ≠ o) (hks : ∀ k ∈ ks, -9223372036854775808 ≤ k ∧ k ≤ 9223372036854775807) (hc : ks.length ≤ c) (hm : c ≤ maxLen) :
    Calls Tryz.prog 17 #[v, .slice A ks.length c] w (APostH w K o v (s.map (restart ks))) := by
  cases s with
  | none => subst hs; exact (PdRes.restart_nil w A _ c).mono fun e w' h => a_nil h
  | some d => obtain ⟨p, rfl, hd⟩ := hs; exact (PdRes.restart_any w K o p d ks A c hd (Nat.le_trans (hf d rfl).few hn) hr hk0 hks hc hm).mono fun e w' h => a_some h
theorem w_restart (ho : o ≠ 0) (hs : HalfW w K o v s) (hf : Fine n T s) (hn : n ≤ 1000000000) (hT : T ≤ 140737488355328) (ks : List Int) (A : Option Addr) (c : Nat) (hr : Rd w w.heap.size A (ks.map I64)) (hk0 : ∀ b off, A = some ⟨b, off, none⟩ → 0 < ks.length → K b ≠ o) (hks : ∀ k ∈ ks, -9223372036854775808 ≤ k ∧ k ≤ 9223372036854775807) (hc : ks.length ≤ c) (hm : c ≤ maxLen) :
    Calls Tryz.prog 18 #[v, .slice A ks.length c] w (APostW w K o v (s.map (restart ks))) := by
  cases s with
  | none => subst hs; exact (RefRes5.restart_nil w A _ c).mono fun e w' h => aw_nil h
  | some d => obtain ⟨p, rfl, hd⟩ := hs; exact (RefRes5.restart_any w K o p d ks A c hd ho (Nat.le_trans (hf d rfl).few hn) (fun f hm => ⟨((hf d rfl).good.2 f hm).2, Nat.le_trans ((hf d rfl).small f hm) hT⟩) hr hk0 hks hc hm).mono fun e w' h => aw_some h
def downS : Option DSt → Bool
  | none => false
  | some d => d.off
theorem h_down (hs : HalfH w K o v s) : Calls Tryz.prog 13 #[v] w fun e w' => e = .returned (.bool (downS s)) ∧ w = w' := by
  cases s with
  | none => subst hs; exact PdChange.down_nil w
  | some d => obtain ⟨p, rfl, M, D, L, G, Q, hd⟩ := hs; exact PdChange.down_any w K o p M D L G Q d hd
/-- A clone, with a number of its own. -/
def CPostH (w : World) (K : Nat → Nat) (o2 : Nat) (s : Option DSt) (e : Ending) (w' : World) : Prop := ∃ v' K', e = .returned v' ∧ HalfH w' K' o2 v' s ∧ ∀ o', Turned K K' o' w w'
def CPostW (w : World) (K : Nat → Nat) (o2 : Nat) (s : Option DSt) (e : Ending) (w' : World) : Prop := ∃ v' K', e = .returned v' ∧ HalfW w' K' o2 v' s ∧ ∀ o', Turned K K' o' w w'
end
end Go.Proofs.YtjninegpaoblfaaGreatDoor.Pairs
