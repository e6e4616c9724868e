/- The contracts of bytes.Clone, Read, names and List. Conditions: the disk lies in memory as 'PDisk' says; the names' lengths are at most the model's greatest; a file's bytes are at most 2^47; at most 10^9 files. -/
import Derived.Test.YtfblekedgenacaaPdOps
import Derived.Test.YtfblekedgenacaaAppend
import Derived.Test.YtfblekedgenacaaPdShelf
namespace Go.Proofs.Ytfblekedgenacaa.PdRead
open Go Go.RowKit Go.Maps Go.Sort Go.Shelf Words App DkSpec PdLook RefDisk PdDisk PdChange PdOps

theorem info_u8 : (Try.prog.info? 5).map (fun i => (i.zero, i.size, i.bytes)) = some (some (.int .u8 0), 1, 1) := by kernel_rfl
theorem one8 (l : List UInt8) : ∀ u ∈ l.map B8, u.oneCell' = true := fun u hu => by obtain ⟨c, _, rfl⟩ := List.mem_map.1 hu; rfl
theorem own_mono {w : World} {base base' n : Nat} {e : TypeId} {v : Value} {xs : List Value} (h : w.ownsRow base e 1 v n xs) (hb : base' ≤ base) : w.ownsRow base' e 1 v n xs :=
  ⟨h.1, h.2.imp id fun ⟨g, cap, cur, e1, hg, r⟩ => ⟨g, cap, cur, e1, Nat.le_trans hb hg, r⟩⟩
theorem sl_nil (c : Nat) (w : World) : (binOp .eql 30 (.slice none 0 c) (.slice none 0 0)).run Try.prog w = .ok (.bool true) w := by kernel_rfl
theorem sl_some (a : Addr) (n c : Nat) (w : World) : (binOp .eql 30 (.slice (some a) n c) (.slice none 0 0)).run Try.prog w = .ok (.bool false) w := by kernel_rfl
set_option maxHeartbeats 800000 in
theorem clone_any (l : List UInt8) (A : Option Addr) (n c : Nat) (w : World) (B : Nat) (hn : n = l.length) (hr : Rd w B A (l.map B8)) (hB : B ≤ w.heap.size) (hl : l.length ≤ 140737488355328) :
    Calls Try.prog 25 #[.slice A n c] w fun e w' => ∃ v, e = .returned v ∧ w'.ownsRow w.heap.size 5 1 v l.length (l.map B8) ∧ Below w.heap.size w w' := by
  obtain ⟨i0, hi, hz0, hz1, hz2⟩ := info_parts info_u8
  subst hn
  have HR := Lib.hid hr
  cases A with
  | none =>
    have h0 : l = [] := by
      by_cases h : l = []
      · exact h
      · obtain ⟨b, off, e, _⟩ := hr (by simp; exact List.length_pos_iff.2 h)
        cases e
    subst h0
    clear hr
    have he := sl_nil c
    go_enter Try.func25, Try.ntmps25
    go_wp2
    go_ret
    exact ⟨_, rfl, World.ownsRow_nil _ _ _ _, Below.refl _ _⟩
  | some a =>
    clear hr
    have hown0 := World.ownsRow_lit (base := w.heap.size) (e := 5) (size := 1) w #[] 0 (Nat.le_refl _) (by unfold maxLen; omega) rfl
    have HB1 := Lib.hid ((Below.refl w.heap.size w).alloc (Nat.le_refl _) (.cells #[] 5))
    have he := sl_some a l.length c
    go_enter Try.func25, Try.ntmps25
    go_wp2_with (at_builtin; refine wpList_append_rd (v := .slice (some ⟨w.heap.size, 0, none⟩) 0 0) _ rfl (.tmp 5) (.tmp 6) 30 rfl w.heap.size 5 i0 (.int .u8 0) 1 Try.underlying30 hi hz0 hz1 hz2 rfl 0 [] rfl hown0 B (some a) l.length c (l.map B8) rfl (by simp) (HR.out.alloc hB _) (one8 l) ?c1 ?c2 HB1.out.size ?_)
    case c1 => unfold maxLen; omega
    try (case c2 => omega)
    intro v2 w2 hown2 hg2 _
    have HB2 := Lib.hid (below_app hown0 HB1.out hg2)
    have hown3 : w2.ownsRow w.heap.size 5 1 v2 l.length (l.map B8) := by simpa using hown2
    have HO2 := Lib.hid hown3
    clear hown0 hown2 hown3 hg2
    go_wp2
    go_ret
    exact ⟨v2, rfl, HO2.out, HB2.out⟩

/-- What Read answers. -/
def RdPost (w : World) (r : Nat × List UInt8) (e : Ending) (w' : World) : Prop := ∃ v, e = .returned (.tuple #[v, .int .i64 (r.1 : Int)]) ∧ w'.ownsRow w.heap.size 5 1 v r.2.length (r.2.map B8) ∧ Below w.heap.size w w'
theorem rdpost_err {w w' : World} {r : Nat × List UInt8} {n : Nat} {x : Int} (hr : r = (n, [])) (hx : x = (n : Int)) (hb : Below w.heap.size w w') : RdPost w r (.returned (.tuple #[.slice none 0 0, .int .i64 x])) w' := by
  subst hr hx
  exact ⟨_, rfl, World.ownsRow_nil _ _ _ _, hb⟩
theorem refusal_nil (w : World) (A : Option Addr) (n c : Nat) : Calls Try.prog 39 #[.pointer none, .slice A n c] w fun e w' => e = .returned (.int .i64 2) ∧ w = w' := PdChange.refusal_nil w A n c
set_option maxHeartbeats 800000 in
set_option maxRecDepth 100000 in
theorem read_any (w : World) (K : Nat → Nat) (o p : Nat) (d : DSt) (a : List UInt8) (hd : PDisk w K o p d) (ha : a.length ≤ maxLen) (hz : ∀ f ∈ d.files, f.data.length ≤ 140737488355328) :
    Calls Try.prog 18 #[.pointer (some ⟨p, 0, none⟩), .string ⟨a.toArray⟩] w (RdPost w (read a d)) := by
  obtain ⟨M, D, L, G, Q, h⟩ := hd
  have HC := Lib.hid (refusal_one h a ha)
  have HB1 := Lib.hid ((Below.refl w.heap.size w).alloc (Nat.le_refl _) (.cells #[.string ⟨a.toArray⟩] 9))
  by_cases hr : refused a a d ≠ 0
  · have HX := Lib.hid (show read a d = (refused a a d, []) by unfold DkSpec.read; rw [if_pos hr])
    have h1 : ((refused a a d : Int) != 0) = true := by simp; omega
    clear h ha hr hz
    go_enter Try.func18, Try.ntmps18
    go_wp2_with fail
    refine HC.out.mono ?_
    rintro e w1 ⟨rfl, rfl⟩
    go_wp2
    go_ret2
    exact rdpost_err HX.out rfl HB1.out
  · rw [show refused a a d = 0 by omega] at HC
    have hpl := place_look (s := a) h.good.1
    have hold := old_look (s := a) h.good.1
    have HD1 := PAt.alloc h (.cells #[.string ⟨a.toArray⟩] 9)
    obtain ⟨c0, _, _⟩ := PAt.cells HD1
    cases hl : fileOf a d.files with
    | none =>
      rw [hl] at hpl
      have HX := Lib.hid (show read a d = (21, []) by unfold DkSpec.read; rw [if_neg hr, hpl]; rfl)
      have hlk := look_nil HD1 ha hl
      unfold S8 at hlk
      have hfn := fnil_nil
      clear h ha hr hpl hl hold HD1 hz
      go_enter Try.func18, Try.ntmps18
      go_wp2_with fail
      refine HC.out.mono ?_
      rintro e w1 ⟨rfl, rfl⟩
      go_wp2
      go_ret2
      exact rdpost_err HX.out rfl HB1.out
    | some f =>
      rw [hl] at hpl hold
      have HX := Lib.hid (show read a d = (0, f.data) by unfold DkSpec.read; rw [if_neg hr, hpl, hold]; rfl)
      have hlk := look_some HD1 ha hl
      unfold S8 ptr at hlk
      have hfn := feq_nil
      obtain ⟨_, hfile⟩ := HD1.at_ a f hl
      obtain ⟨k0, k1, _⟩ := FileAt.cells hfile
      obtain ⟨A, c, hv, _, _, hrd, _⟩ := RefTake.own_rd hfile.row
      rw [hv] at k0
      have HCL := Lib.hid (clone_any f.data A f.data.length c _ _ rfl hrd (Nat.le_refl _) (hz f (look_name hl).2))
      clear h ha hr hpl hl hold HD1 hz hfile hv hrd
      generalize hbs : f.data = bs at *
      go_enter Try.func18, Try.ntmps18
      go_wp2_with fail
      refine HC.out.mono ?_
      rintro e w1 ⟨rfl, rfl⟩
      go_wp2_with fail
      refine HCL.out.mono ?_
      rintro e w2 ⟨v, rfl, hown, hb2⟩
      have HO := Lib.hid hown
      have HB2 := Lib.hid hb2
      clear hown hb2
      go_wp2
      go_ret2
      refine ⟨v, by rw [HX.out]; rfl, ?_, HB1.out.trans (HB2.out.mono (by simp))⟩
      rw [HX.out]
      exact own_mono HO.out (by simp)
end Go.Proofs.Ytfblekedgenacaa.PdRead
