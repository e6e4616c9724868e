/- The contracts of the two functions that the program hands to eachRun: the word of a run is appended to the list that they share with their maker. Condition: fewer than 2^40 words. -/
import Derived.Test.YtebdolfcemplnaaTxStep
import Derived.Test.YtebdolfcemplnaaTxWord
import Derived.Test.YtebdolfcemplnaaTxOnce
import Derived.StillTailTactics
import Derived.Deep.RegionWith
import Derived.Deep.RegionLaw
import Derived.Deep.RegionHeld3
import Derived.OneCell
namespace Go.Proofs.Ytebdolfcemplnaa.TxClo
open Go Go.RowKit Words App UtSpec UtOwn TxSpec TxAll Less TxOnce TxWord TxStep

/-- An append whose run is known, in a region that draws its order. -/
theorem step_append_run {P : Program} {ops : Array Oper} {o : Oper} {a : Act} {w : World} {K : Act → World → Prop} {Q : Exit → Act → World → Prop} {E : Prop}
    (hg : o.guard = none) (s x : Operand) (t : TypeId) (hop : o.op = Op.call { callee := Callee.builtin Builtin.append, args := #[s, x], argTypes := #[t, t] })
    (v' : Value) (w' : World) (hrun : (Builtin.append_ #[t, t] o.type #[a.eval s, a.eval x]).run P w = .ok v' w') (hK : K (a.put o.dst v') w') :
    if Region.wanted o (yielded ops a.tmps) = true then Oper.wp P o a w K Q else E := by
  have hw : Region.wanted o (yielded ops a.tmps) = true := by simp [Region.wanted, hg]
  rw [if_pos hw]
  unfold Oper.wp
  simp [execOp, hop, resolve, invoke, builtin, hrun, Result.andThen]
  exact hK

/-- Behind the maker's entry: its text in block q, the list's variable in q + 1, the way's iterator in q + 2, the list's rows from q + 3 on. -/
structure Box (s : ByteArray) (w0 : World) (L : List (List UInt8)) (wr : World) : Prop where
  below : Below w0.heap.size w0 wr
  size : w0.heap.size + 3 ≤ wr.heap.size
  text : wr.heap[w0.heap.size]? = some (.cells #[.string s] 9 (0, 0))
  list : ∃ A c, wr.heap[w0.heap.size + 1]? = some (.cells #[.slice A L.length c] 23 (0, 0)) ∧ wr.ownsRow (w0.heap.size + 3) 9 1 (.slice A L.length c) L.length (L.map S8)
/-- The maker's blocks are as they were, but for the list's variable. -/
def CPost (s : ByteArray) (w0 : World) (L : List (List UInt8)) (w : World) (e : Ending) (w' : World) : Prop :=
  e = .returned (.tuple #[]) ∧ Box s w0 L w' ∧ w'.heap[w0.heap.size + 2]? = w.heap[w0.heap.size + 2]?

theorem cell_of_heap {w : World} {g j : Nat} {cs : Array Value} {t : TypeId} {u : Value} (h : w.heap[g]? = some (.cells cs t (0, 0))) (hj : cs[j]? = some u) : w.cell? ⟨g, j, none⟩ = some u := by
  unfold World.cell?
  rw [h]
  simpa using hj
theorem frozen_of_heap {w : World} {g j : Nat} {cs : Array Value} {t : TypeId} (h : w.heap[g]? = some (.cells cs t (0, 0))) : w.frozen? ⟨g, j, none⟩ = false := by
  unfold World.frozen?
  rw [h]
  simp

/-- What the statement does, told ahead: the append's run, and the maker's state behind the store. -/
theorem appends {s : ByteArray} {w0 wr : World} {L : List (List UInt8)} {A : Option Addr} {c : Nat} (hb : Box s w0 L wr) (hl : wr.heap[w0.heap.size + 1]? = some (.cells #[.slice A L.length c] 23 (0, 0)))
    (hown : wr.ownsRow (w0.heap.size + 3) 9 1 (.slice A L.length c) L.length (L.map S8)) (hL : L.length ≤ 1099511627776) (x : List UInt8) (X : ByteArray) (hX : X = ⟨x.toArray⟩)
    (W w3 : World) (e1 : W.heap = wr.heap) (e2 : W.os = wr.os) (e3 : W.tape = wr.tape) (e4 : W.output = wr.output) (hb3 : Below W.heap.size W w3) :
    ∃ A' c' w', (Builtin.append_ #[23, 23] 23 #[.slice A L.length c, .slice (some ⟨w3.heap.size, 0, none⟩) 1 1]).run Try.prog (w3.alloc (.cells #[.string X] 9)) = .ok (.slice A' (L.length + 1) c') w' ∧
      (w3.cell? ⟨w0.heap.size, 0, none⟩ = some (.string s) ∧ w3.cell? ⟨w0.heap.size + 1, 0, none⟩ = some (.slice A L.length c)) ∧
      ((w3.alloc (.cells #[.string X] 9)).cell? ⟨w0.heap.size, 0, none⟩ = some (.string s) ∧ (w3.alloc (.cells #[.string X] 9)).cell? ⟨w0.heap.size + 1, 0, none⟩ = some (.slice A L.length c)) ∧
      (w'.cell? ⟨w0.heap.size, 0, none⟩ = some (.string s) ∧ w'.cell? ⟨w0.heap.size + 1, 0, none⟩ = some (.slice A L.length c)) ∧ w'.frozen? ⟨w0.heap.size + 1, 0, none⟩ = false ∧
      Hid (Box s w0 (L ++ [x]) (w'.setCell ⟨w0.heap.size + 1, 0, none⟩ (.slice A' (L.length + 1) c')) ∧ (w'.setCell ⟨w0.heap.size + 1, 0, none⟩ (.slice A' (L.length + 1) c')).heap[w0.heap.size + 2]? = wr.heap[w0.heap.size + 2]?) := by
  obtain ⟨i1, gi, gz0, gz1, gz2⟩ := info_parts info_str
  have hb3' : Below wr.heap.size wr w3 := ⟨hb3.os.trans e2, hb3.tape.trans e3, hb3.output.trans e4, e1 ▸ hb3.size, fun k hk => (hb3.block k (by rw [e1]; exact hk)).trans (by rw [e1])⟩
  have hsz := hb.size
  have hs3 := hb3'.size
  have hown3 : w3.ownsRow (w0.heap.size + 3) 9 1 (.slice A L.length c) L.length (L.map S8) := own_keep hown hb3'
  have hown4 := hown3.alloc (.cells #[.string X] 9)
  have hM := Rd.made w3 #[.string X] 9
  obtain ⟨v', w', hrun, hown', hg, hv⟩ := run_append_rd (P := Try.prog) (w3.alloc (.cells #[.string X] 9)) (w0.heap.size + 3) 23 23 9 i1 (.string ByteArray.empty) 16 Try.underlying23 gi gz0 gz1 gz2 rfl _ _ _ hown4
    (w3.heap.size + 1) (some ⟨w3.heap.size, 0, none⟩) 1 1 [.string X] rfl hM (by intro u hu; simp at hu; subst hu; rfl) (by unfold maxLen; omega) (by omega) (by simp; omega)
  have hpre : ∀ k, k < w0.heap.size + 3 → w'.heap[k]? = wr.heap[k]? := fun k hk => by
    refine (hg.block k (by simp; omega) ?_).trans ((Below.heap_alloc w3 _ k (by omega)).trans (hb3'.block k (by omega)))
    intro e
    have := own_lt hown3 k e.symm
    omega
  have t3 : w3.heap[w0.heap.size]? = some (.cells #[.string s] 9 (0, 0)) := (hb3'.block _ (by omega)).trans hb.text
  have l3 : w3.heap[w0.heap.size + 1]? = some (.cells #[.slice A L.length c] 23 (0, 0)) := (hb3'.block _ (by omega)).trans hl
  have t4 : (w3.alloc (.cells #[.string X] 9)).heap[w0.heap.size]? = some (.cells #[.string s] 9 (0, 0)) := (Below.heap_alloc w3 _ _ (by omega)).trans t3
  have l4 : (w3.alloc (.cells #[.string X] 9)).heap[w0.heap.size + 1]? = some (.cells #[.slice A L.length c] 23 (0, 0)) := (Below.heap_alloc w3 _ _ (by omega)).trans l3
  have t5 : w'.heap[w0.heap.size]? = some (.cells #[.string s] 9 (0, 0)) := (hpre _ (by omega)).trans hb.text
  have l5 : w'.heap[w0.heap.size + 1]? = some (.cells #[.slice A L.length c] 23 (0, 0)) := (hpre _ (by omega)).trans hl
  obtain ⟨A', c', rfl, _, _, _⟩ := own_slice hown'
  have hsz5 : w3.heap.size + 1 ≤ w'.heap.size := by have := hg.size; simpa using this
  refine ⟨A', c', w', hrun, ⟨cell_of_heap t3 rfl, cell_of_heap l3 rfl⟩, ⟨cell_of_heap t4 rfl, cell_of_heap l4 rfl⟩, ⟨cell_of_heap t5 rfl, cell_of_heap l5 rfl⟩, frozen_of_heap l5, Lib.hid ⟨⟨?_, ?_, ?_, A', c', ?_, ?_⟩, ?_⟩⟩
  · have hbw : Below w0.heap.size w0 w' := (((hb.below.trans (hb3'.mono (by omega))).alloc (by omega) _).grown hg (by simp; omega) (fun k hk => by have := own_lt hown3 k hk; omega))
    exact hbw.setCell (p := ⟨w0.heap.size + 1, 0, none⟩) (by simp) _
  · simp; omega
  · exact (heap_setCell_other w' _ _ _ (by simp)).trans t5
  · have h := heap_setCell_same w' (w0.heap.size + 1) 0 _ _ (.slice A' (L.length + 1) c') l5
    rw [h]
    simp
  · have h := ownsRow_setCell_other (a := ⟨w0.heap.size + 1, 0, none⟩) hown' (fun e => by have := own_lt hown' _ e; simp at this) (.slice A' (L.length + 1) c')
    rw [List.length_append, List.map_append]
    subst hX
    exact h
  · exact (heap_setCell_other w' _ _ _ (by simp)).trans (hpre _ (by omega))

set_option maxHeartbeats 3200000 in
set_option maxRecDepth 100000 in
theorem cloW (s : ByteArray) (w0 wr : World) (L : List (List UInt8)) (f p : Nat) (cur : List Nat) (hr : Run s.data.toList f p cur) (hb : Box s w0 L wr) (hs : s.size ≤ 1073741824) (hL : L.length ≤ 1073741825) :
    Calls Try.prog 27 #[.int .i64 (f : Int), .int .i64 (p : Int), .pointer (some ⟨w0.heap.size + 1, 0, none⟩), .pointer (some ⟨w0.heap.size, 0, none⟩)] wr (CPost s w0 (L ++ adds false f p s.size cur) wr) := by
  have e2 : s.data.toList.length = s.size := by simp
  have hle := hr.le
  rw [e2] at hle
  obtain ⟨hfp, hps⟩ := hle
  obtain ⟨X, hX⟩ : ∃ X : ByteArray, X = ⟨(wof cur).toArray⟩ := ⟨_, rfl⟩
  obtain ⟨R, hR⟩ : ∃ R, s.extract f p = R := ⟨_, rfl⟩
  have HWD : Hid (∀ wx, Calls Try.prog 28 #[.string R] wx fun e w' => e = .returned (.string X) ∧ Below wx.heap.size wx w') := Lib.hid (fun wx => by
    rw [← hR, hr.part, hX]
    refine tword_any cur hr.sc wx ?_
    have := hr.len
    omega)
  obtain ⟨A, c, hl, hown⟩ := hb.list
  have HST := Lib.hid (fun (W w3 : World) e1 e2 e3 e4 hb3 => appends hb hl hown (by omega) (wof cur) X hX W w3 e1 e2 e3 e4 hb3)
  have k0 : wr.cell? ⟨w0.heap.size, 0, none⟩ = some (.string s) := cell_of_heap hb.text rfl
  have k1 : wr.cell? ⟨w0.heap.size + 1, 0, none⟩ = some (.slice A L.length c) := cell_of_heap hl rfl
  have hi1 : (0 : Int) ≤ (f : Int) := by omega
  have hi2 : (f : Int) ≤ (p : Int) := by omega
  have hi3 : (p : Int) ≤ (s.size : Int) := by omega
  have hi4 : (0 : Int) ≤ (p : Int) := by omega
  have HB := Lib.hid hb
  clear e2 hr hl hown hX hb
  have HQ : Hid (∃ q, q = w0.heap.size) := Lib.hid ⟨_, rfl⟩
  obtain ⟨q0, hq⟩ := HQ.out
  have HQ0 := Lib.hid hq
  rw [← hq] at HST k0 k1 ⊢
  clear hq HQ
  obtain ⟨n, hn⟩ : ∃ n, L.length = n := ⟨_, rfl⟩
  rw [hn] at HST k1
  clear hn hL
  go_enter Try.func27, Try.ntmps27
  go_region_law (first
    | (go_simp; go_at_call 28; refine (HWD.out _).mono ?_; rintro e w3 ⟨rfl, hb3⟩; obtain ⟨A', c', w', hrun, ⟨hs3, ht3⟩, ⟨hs4, ht4⟩, ⟨hs5, ht5⟩, hz5, hfin⟩ := HST.out wr.drew w3 rfl rfl rfl rfl hb3)
    | (refine step_append_run rfl (.tmp 6) (.tmp 12) 23 rfl _ w' hrun ?_))
  all_goals
    go_wp2
    go_end0
    exact ⟨rfl, hfin.out.1, by rw [← HQ0.out]; exact hfin.out.2⟩

set_option maxHeartbeats 3200000 in
set_option maxRecDepth 100000 in
theorem cloI (s : ByteArray) (w0 wr : World) (L : List (List UInt8)) (f p : Nat) (cur : List Nat) (hr : Run s.data.toList f p cur) (hb : Box s w0 L wr) (hs : s.size ≤ 1073741824) (hL : L.length ≤ 1073741825) :
    Calls Try.prog 30 #[.int .i64 (f : Int), .int .i64 (p : Int), .pointer (some ⟨w0.heap.size, 0, none⟩), .pointer (some ⟨w0.heap.size + 1, 0, none⟩)] wr (CPost s w0 (L ++ adds true f p s.size cur) wr) := by
  have e2 : s.data.toList.length = s.size := by simp
  have hle := hr.le
  rw [e2] at hle
  obtain ⟨hfp, hps⟩ := hle
  obtain ⟨X, hX⟩ : ∃ X : ByteArray, X = ⟨(wof cur).toArray⟩ := ⟨_, rfl⟩
  obtain ⟨R, hR⟩ : ∃ R, s.extract f p = R := ⟨_, rfl⟩
  have HWD : Hid (∀ wx, Calls Try.prog 28 #[.string R] wx fun e w' => e = .returned (.string X) ∧ Below wx.heap.size wx w') := Lib.hid (fun wx => by
    rw [← hR, hr.part, hX]
    refine tword_any cur hr.sc wx ?_
    have := hr.len
    omega)
  obtain ⟨A, c, hl, hown⟩ := hb.list
  have HST := Lib.hid (fun (W w3 : World) e1 e2 e3 e4 hb3 => appends hb hl hown (by omega) (wof cur) X hX W w3 e1 e2 e3 e4 hb3)
  have k0 : wr.cell? ⟨w0.heap.size, 0, none⟩ = some (.string s) := cell_of_heap hb.text rfl
  have k1 : wr.cell? ⟨w0.heap.size + 1, 0, none⟩ = some (.slice A L.length c) := cell_of_heap hl rfl
  have hi1 : (0 : Int) ≤ (f : Int) := by omega
  have hi2 : (f : Int) ≤ (p : Int) := by omega
  have hi3 : (p : Int) ≤ (s.size : Int) := by omega
  have hi4 : (0 : Int) ≤ (p : Int) := by omega
  have HB := Lib.hid hb
  clear e2 hr hl hown hX hb
  have HQ : Hid (∃ q, q = w0.heap.size) := Lib.hid ⟨_, rfl⟩
  obtain ⟨q0, hq⟩ := HQ.out
  have HQ0 := Lib.hid hq
  rw [← hq] at HST k0 k1 ⊢
  clear hq HQ
  obtain ⟨n, hn⟩ : ∃ n, L.length = n := ⟨_, rfl⟩
  rw [hn] at HST k1
  clear hn hL
  by_cases hin : 0 < f ∧ p < s.size
  · have ha : adds true f p s.size cur = [wof cur] := by unfold adds; simp [hin.1, hin.2]
    have j1 : (0 : Int) < (f : Int) := by omega
    have j2 : (p : Int) < (s.size : Int) := by omega
    rw [ha]
    clear ha hin
    go_enter Try.func30, Try.ntmps30
    go_wp2
    go_region_law (first
      | (go_simp; go_at_call 28; refine (HWD.out _).mono ?_; rintro e w3 ⟨rfl, hb3⟩; obtain ⟨A', c', w', hrun, ⟨hs3, ht3⟩, ⟨hs4, ht4⟩, ⟨hs5, ht5⟩, hz5, hfin⟩ := HST.out wr.drew w3 rfl rfl rfl rfl hb3)
      | (refine step_append_run rfl (.tmp 14) (.tmp 20) 23 rfl _ w' hrun ?_))
    all_goals
      go_wp2
      go_end0
      exact ⟨rfl, hfin.out.1, by rw [← HQ0.out]; exact hfin.out.2⟩
  · have ha : adds true f p s.size cur = [] := by
      unfold adds
      rw [if_neg]
      simp
      omega
    have j3 : ¬ (0 : Int) < (f : Int) ∨ ¬ (p : Int) < (s.size : Int) := by omega
    rw [ha, List.append_nil]
    have HE : Hid (CPost s w0 L wr (.returned (.tuple #[])) wr) := Lib.hid ⟨rfl, HB.out, rfl⟩
    clear ha hin HST HB
    go_enter Try.func30, Try.ntmps30
    rcases j3 with j3 | j3
    · go_wp2
      go_end0
      exact HE.out
    · by_cases j1 : (0 : Int) < (f : Int)
      · go_wp2
        go_end0
        exact HE.out
      · go_wp2
        go_end0
        exact HE.out
end Go.Proofs.Ytebdolfcemplnaa.TxClo
