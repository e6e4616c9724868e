/- The contract of the document's own Clone. -/
import Derived.Test.YtfblekedgenacaaRefNew5
import Derived.BigRegion
import Derived.StillTailTactics
import Derived.Deep.RegionWith
import Derived.Deep.RegionLaw
namespace Go.Proofs.Ytfblekedgenacaa.RefClone5
open Go Go.RowKit Words DkSpec RefDisk RefChange RefRow RefTake RefPut5 RefOps5 RefNew5 AppN

/-- An append whose run is known, in a region that draws its order. -/
theorem step_append_run {P : Program} {ops : Array Oper} {o : Oper} {a : Act} {w : World} {K : Act → World → Prop} {Q : Exit → Act → World → Prop} {E : Prop}
    (hg : o.guard = none) (s x : Operand) (t : TypeId) (hop : o.op = Op.call { callee := Callee.builtin Builtin.append, args := #[s, x], argTypes := #[t, t] })
    (v' : Value) (w' : World) (hrun : (Builtin.append_ #[t, t] o.type #[a.eval s, a.eval x]).run P w = .ok v' w') (hK : K (a.put o.dst v') w') :
    if Region.wanted o (yielded ops a.tmps) = true then Oper.wp P o a w K Q else E := by
  have hw : Region.wanted o (yielded ops a.tmps) = true := by simp [Region.wanted, hg]
  rw [if_pos hw]
  unfold Oper.wp
  simp [execOp, hop, resolve, invoke, builtin, hrun, Result.andThen]
  exact hK

set_option maxHeartbeats 1600000 in
set_option maxRecDepth 100000 in
theorem clone_any (w : World) (K : Nat → Nat) (o o2 p : Nat) (d : DSt) (hd : RefD w K o p d) (hn : d.files.length ≤ 1000000000) :
    Calls Try.prog 11 #[.pointer (some ⟨p, 0, none⟩)] w (NPost w K o2 d) := by
  obtain ⟨i0, hi, hz0, hz1, hz2⟩ := info_parts info_file
  have HD := Lib.hid hd
  obtain ⟨A, c, hc, hm, hp, hk, c0, c1, c2, c3, f0, _, _, _, hAp, hf⟩ := hd
  obtain ⟨cs, hcs, hrd⟩ := row_cells d.files hf
  have HCS := Lib.hid hcs
  have HRD := Lib.hid hrd
  have HCL := Lib.hid hcs.length
  clear hk hAp hf f0 hcs hrd
  unfold maxLen at hm
  have hh := Go.heap_alloc_new w (.cells #[.slice none 0 0, .bool d.full, .bool d.off, .int .i64 d.left] 61)
  obtain ⟨W0, hW0⟩ : ∃ W0, W0 = w.alloc (.cells #[.slice none 0 0, .bool d.full, .bool d.off, .int .i64 d.left] 61) := ⟨_, rfl⟩
  obtain ⟨W, hW⟩ : ∃ W, W = W0.drew := ⟨_, rfl⟩
  have hh' : W.heap[w.heap.size]? = some (.cells #[.slice none 0 0, .bool d.full, .bool d.off, .int .i64 d.left] 61) := by rw [hW, hW0]; exact hh
  have hsz : W.heap.size = w.heap.size + 1 := by rw [hW, hW0]; show (w.heap.push _).size = _; simp
  have hbW : ∀ j, j < w.heap.size → W.heap[j]? = w.heap[j]? := fun j hj => by rw [hW, hW0]; exact Below.heap_alloc w _ j hj
  have fz : ∀ j, W.frozen? ⟨w.heap.size, j, none⟩ = false := fun j => by
    unfold World.frozen?
    rw [hh']
    rfl
  have kc : ∀ j u, (#[Value.slice none 0 0, .bool d.full, .bool d.off, .int .i64 d.left])[j]? = some u → W.cell? ⟨w.heap.size, j, none⟩ = some u := fun j u hu => by
    have h0 : W0.cell? ⟨w.heap.size, j, none⟩ = some u := by rw [hW0]; exact (World.cell?_alloc_at _ _ _ _ rfl).trans hu
    rw [hW]
    exact h0
  have HOS : Hid (W.os = w.os ∧ W.tape = w.tape ∧ W.output = w.output) := Lib.hid ⟨by rw [hW, hW0]; rfl, by rw [hW, hW0]; rfl, by rw [hW, hW0]; rfl⟩
  have n0 := kc 0 _ rfl
  have z0 := fz 0
  have d0 : W.cell? ⟨p, 0, none⟩ = some (.slice A d.files.length c) := (cell_of (hbW p hp)).trans c0
  have HKC := Lib.hid kc
  have HFZ := Lib.hid fz
  have HBW := Lib.hid hbW
  have HSZ := Lib.hid hsz
  have HW := Lib.hid hW
  have HW0 := Lib.hid hW0
  have HN := Lib.hid hn
  have HM := Lib.hid hm
  have HC := Lib.hid hc
  clear hh hh' hsz hbW fz kc hW hW0
  go_enter Try.func11, Try.ntmps11
  go_wp2
  go_region
  rw [← HW0.out, ← HW.out]
  obtain ⟨bx, hbx⟩ : ∃ bx, w.heap.size = bx := ⟨_, rfl⟩
  rw [hbx] at n0 z0 ⊢
  have HBX := Lib.hid hbx
  clear c0 c1 c2 c3 hbx
  have hown0 := World.ownsRow_nil W.drew W.heap.size 68 3
  have hown1 := World.ownsRow_nil W W.heap.size 68 3
  have HO0 := Lib.hid hown0
  have HO1 := Lib.hid hown1
  clear hown0 hown1
  have HRW : Hid (Rd W.drew w.heap.size A cs) := Lib.hid (HRD.out.keep fun q hq => (World.cell?_of_block (HBW.out q.block hq) : W.cell? q = w.cell? q))
  obtain ⟨v', w', hrun, hown', hg', hnf⟩ := run_append_rd (P := Try.prog) W.drew W.heap.size 3 59 59 68 i0 zFile 48 Try.underlying59 hi hz0 hz1 hz2 rfl (by omega) (.slice none 0 0) 0 [] HO0.out w.heap.size A d.files.length c cs HCL.out HRW.out HCS.out.one (by unfold maxLen; omega) (by omega) (Nat.le_refl _)
  simp only [Nat.zero_add, List.nil_append] at hown'
  obtain ⟨A2, c2, rfl, hl2, hm2, hr2, hbase⟩ := own_rd hown'
  have HR2 := Lib.hid hr2
  have HBASE := Lib.hid hbase
  have HL2 := Lib.hid hl2
  have HM2 := Lib.hid hm2
  have HG := Lib.hid hg'
  have hbp : w'.heap[bx]? = W.heap[bx]? := hg'.block bx (by show bx < W.heap.size; have := HSZ.out; have := HBX.out; omega) (by simp [Value.ownBlock])
  have HBP := Lib.hid hbp
  have n1 := (cell_of (off := 0) hbp).trans n0
  have z1 : w'.frozen? ⟨bx, 0, none⟩ = false := by
    rw [← z0]
    unfold World.frozen?
    rw [hbp]
  have HN1 := Lib.hid n1
  clear hown' hg' hnf hbp hi hz0 hz1 hz2 hr2 hbase hl2 hm2
  go_wp2
  go_region_law (refine step_append_run rfl (.tmp 24) (.tmp 28) 59 rfl _ w' hrun ?_)
  all_goals
    clear hrun
    go_wp2
    go_ret
    have s1 := HBX.out
    have s2 := HSZ.out
    have s3 : W.heap.size ≤ w'.heap.size := HG.out.size
    have hbl : ∀ j, j < w.heap.size → (w'.setCell ⟨bx, 0, none⟩ (.slice A2 d.files.length c2)).heap[j]? = w.heap[j]? := fun j hj => by
      have hne : bx ≠ j := by omega
      have b4 : (w'.setCell ⟨bx, 0, none⟩ (.slice A2 d.files.length c2)).heap[j]? = w'.heap[j]? := by simp [World.setCell, Array.getElem?_modify, hne]
      exact b4.trans ((HG.out.block j (by show j < W.heap.size; omega) (by simp [Value.ownBlock])).trans (HBW.out j hj))
    have hsz5 : (w'.setCell ⟨bx, 0, none⟩ (.slice A2 d.files.length c2)).heap.size = w'.heap.size := by simp
    have hT : ∀ o', Turned K (fun b => if b < w.heap.size then K b else o2) o' w (w'.setCell ⟨bx, 0, none⟩ (.slice A2 d.files.length c2)) := fun o' =>
      ⟨HG.out.os.trans HOS.out.1, HG.out.tape.trans HOS.out.2.1, HG.out.output.trans HOS.out.2.2, by omega, fun j hj _ => hbl j hj, fun j hj => by simp [hj]⟩
    have hFC := HCS.out.turned (hT 1) (by omega)
    have ne : ∀ q : Addr, q ≠ ⟨bx, 0, none⟩ → (w'.setCell ⟨bx, 0, none⟩ (.slice A2 d.files.length c2)).cell? q = w'.cell? q := fun q hq => World.cell?_setCell_other w' _ _ _ (fun e => hq e.symm)
    have hA2 : ∀ b off, A2 = some ⟨b, off, none⟩ → w.heap.size + 1 ≤ b := fun b off e => by
      have h9 : W.heap.size ≤ b := (HBASE.out b off e).1
      omega
    have hR5 : Rd (w'.setCell ⟨bx, 0, none⟩ (.slice A2 d.files.length c2)) (w'.setCell ⟨bx, 0, none⟩ (.slice A2 d.files.length c2)).heap.size A2 cs := fun hp0 => by
      obtain ⟨b2, off2, e2, hb2, hc2⟩ := HR2.out hp0
      refine ⟨b2, off2, e2, by rw [hsz5]; exact hb2, fun j u hu => (ne _ ?_).trans (hc2 j u hu)⟩
      intro e
      have := hA2 b2 off2 e2
      injection e with e1
      omega
    have hrow := row_of (o := o2) hFC hR5 (fun b off e => by
      have := hA2 b off e
      show (if b < w.heap.size then K b else o2) = o2
      rw [if_neg (by omega)]) (fun b off e j => by rw [World.frozen?_setCell]; exact (HBASE.out b off e).2.2 j)
    have cc : ∀ j u, 0 < j → (#[Value.slice none 0 0, .bool d.full, .bool d.off, .int .i64 d.left])[j]? = some u → (w'.setCell ⟨bx, 0, none⟩ (.slice A2 d.files.length c2)).cell? ⟨bx, j, none⟩ = some u := fun j u hj hu => by
      refine (ne _ (fun e => ?_)).trans ((cell_of (off := j) HBP.out).trans ?_)
      · injection e with _ e2
        omega
      · have h9 := HKC.out j u hu
        rw [s1] at h9
        exact h9
    have ff : ∀ j, (w'.setCell ⟨bx, 0, none⟩ (.slice A2 d.files.length c2)).frozen? ⟨bx, j, none⟩ = false := fun j => by
      rw [World.frozen?_setCell]
      have h9 := HFZ.out j
      rw [s1] at h9
      rw [← h9]
      unfold World.frozen?
      rw [HBP.out]
    refine ⟨bx, fun b => if b < w.heap.size then K b else o2, rfl, by omega, ⟨A2, c2, HL2.out, HM2.out, by omega, by show (if bx < w.heap.size then K bx else o2) = o2; rw [if_neg (by omega)], World.cell?_setCell_same _ _ _ HN1.out, cc 1 _ (by omega) rfl, cc 2 _ (by omega) rfl, cc 3 _ (by omega) rfl, ff 0, ff 1, ff 2, ff 3, fun b off e => (by have := hA2 b off e; omega), hrow⟩, hT⟩
end Go.Proofs.Ytfblekedgenacaa.RefClone5
