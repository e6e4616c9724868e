/- The contract of the statements' own 'right' at its kinds 5 and 6. Conditions: those that 'Fine' and 'Args' name. -/
import Derived.Test.YtfblekedgenacaaRightK
namespace Go.Proofs.Ytfblekedgenacaa.RightL
open Go Go.RowKit Words DkSpec PdLook RefDisk PdDisk PdRes Pairs Mv Right RightK

/-- Only one block has changed. -/
structure Only (q0 : Nat) (w w' : World) : Prop where
  os : w'.os = w.os
  tape : w'.tape = w.tape
  output : w'.output = w.output
  size : w'.heap.size = w.heap.size
  block : ∀ i, i ≠ q0 → w'.heap[i]? = w.heap[i]?
theorem Only.refl (q0 : Nat) (w : World) : Only q0 w w := ⟨rfl, rfl, rfl, rfl, fun _ _ => rfl⟩
theorem Only.poke {q0 : Nat} {w w' : World} (h : Only q0 w w') (j : Nat) (u : Value) : Only q0 w (w'.setCell ⟨q0, j, none⟩ u) := ⟨h.os, h.tape, h.output, by simpa using h.size, fun i hi => (heap_setCell_other w' _ i u hi).trans (h.block i hi)⟩
theorem Only.drew {q0 : Nat} {w w' : World} (h : Only q0 w w') : Only q0 w w'.drew := ⟨h.os, h.tape, h.output, h.size, h.block⟩
theorem Only.mv {q0 : Nat} {w w' : World} {K : Nat → Nat} (h : Only q0 w w') (hk : K q0 = 7) : Mv K K (fun x => x = 7) w w' := ⟨h.os, h.tape, h.output, Nat.le_of_eq h.size.symm, fun i _ hi => h.block i (fun e => hi (by rw [e]; exact hk)), fun _ _ => rfl⟩
theorem mv_only {q0 : Nat} {w w1 w' : World} {K K1 : Nat → Nat} {S : Nat → Prop} (h : Mv K K1 S w w1) (ho : Only q0 w1 w') (hq : w.heap.size ≤ q0) : Mv K K1 S w w' :=
  ⟨ho.os.trans h.os, ho.tape.trans h.tape, ho.output.trans h.output, by rw [ho.size]; exact h.size, fun i hi hk => (ho.block i (by omega)).trans (h.block i hi hk), h.kind⟩
theorem put8 {w : World} {base n q0 c i : Nat} {xs : List UInt8} (h : w.ownsRow base 5 1 (.slice (some ⟨q0, 0, none⟩) n c) n (xs.map B8)) (hi : i < n) (y : UInt8) :
    (w.setCell ⟨q0, i, none⟩ (B8 y)).ownsRow base 5 1 (.slice (some ⟨q0, 0, none⟩) n c) n ((xs.set i y).map B8) := by
  rw [List.map_set]
  exact (h.stored i (B8 y)).1
theorem cell8_at {w : World} {base n q0 c i : Nat} {xs : List UInt8} (h : w.ownsRow base 5 1 (.slice (some ⟨q0, 0, none⟩) n c) n (xs.map B8)) (hi : i < n) : ∃ y : UInt8, xs[i]? = some y ∧ w.cell? ⟨q0, i, none⟩ = some (.int .u8 (y.toNat : Int)) ∧ w.frozen? ⟨q0, i, none⟩ = false := by
  have hl : xs.length = n := by have := h.1; simpa using this
  have hil : i < xs.length := by omega
  refine ⟨xs[i], List.getElem?_eq_getElem hil, ?_, h.frozenAt i⟩
  rw [h.cellAt i (by omega), List.getElem?_map, List.getElem?_eq_getElem hil]
  rfl
/-- The loop that writes the answered bytes. -/
def RelR (base : Nat) (w1 : World) (q0 : Nat) (v : Value) (n : Nat) (i : Value) (wr : World) : Prop := ∃ (k : Nat) (xs : List UInt8), k ≤ n ∧ i = .int .i64 (k : Int) ∧ Hid (wr.ownsRow base 5 1 v n (xs.map B8)) ∧ Hid (Only q0 w1 wr)

section
variable {w : World} {K : Nat → Nat} {oh ow : Nat} {vh vw : Value} {q : POp} {s : Option DSt} {n T : Nat} {Ad Ak : Option Addr} {cd ck : Nat}
theorem step_same (hq : q.kind = 5 ∨ q.kind = 6) (s : Option DSt) : s.map (stepD q) = s := by
  cases s with
  | none => rfl
  | some d => rcases hq with hq | hq <;> simp [stepD, hq]

set_option maxHeartbeats 1600000 in
set_option maxRecDepth 100000 in
theorem right6 (hq : q.kind = 6) (hh : HalfH w K oh vh s) (hw : HalfW w K ow vw s) (hf : Fine n T s) (hn : n ≤ 1000000000) (ha : Args w K q Ad cd Ak ck) :
    Calls Try.prog 12 #[vh, vw, .agg (opC q Ad cd Ak ck)] w (RPost w K oh ow vh vw q s) := by
  have HS := Lib.hid (opbox0 (oh := oh) (ow := ow) hh hw ha)
  obtain ⟨W, hW⟩ : ∃ W, W = w.alloc (.cells (opC q Ad cd Ak ck) 33) := ⟨_, rfl⟩
  rw [← hW] at HS
  have HC1 := Lib.hid (h_list HS.out.h hf hn)
  have HN : Hid (∀ w1, Below W.heap.size W w1 → Hid (Calls Try.prog 31 #[vw] w1 (RefList5.LsPost w1 (listS s)))) := Lib.hid (fun w1 hb =>
    Lib.hid (w_list (HalfW.mv HS.out.w_ (Mv.same (S := fun _ => False) hb) (fun h => h) (fun h => h)) hf hn))
  have HX : Hid (∀ w2, Below W.heap.size W w2 → ∃ K', HalfH w2 K' oh vh (s.map (stepD q)) ∧ HalfW w2 K' ow vw (s.map (stepD q)) ∧ Mv K K' (Two oh ow) w w2) := Lib.hid (fun w2 hb => by
    rw [step_same (.inr hq)]
    exact ⟨_, HalfH.mv HS.out.h (Mv.same (S := fun _ => False) hb) (fun h => h), HalfW.mv HS.out.w_ (Mv.same (S := fun _ => False) hb) (fun h => h) (fun h => h), HS.out.mv.trans (Mv.same hb)⟩)
  obtain ⟨c0, _⟩ := op_cells HS.out.box
  rw [hq] at c0
  unfold PdList.LsPost at HC1
  unfold RefList5.LsPost at HN
  obtain ⟨l, hl⟩ : ∃ l, (listS s).2 = l := ⟨_, rfl⟩
  obtain ⟨r, hr⟩ : ∃ r, (listS s).1 = r := ⟨_, rfl⟩
  rw [hl, hr] at HC1 HN
  have hre : ((r : Int) == (r : Int)) = true := by simp
  obtain ⟨m, hm⟩ : ∃ m, l.length = m := ⟨_, rfl⟩
  have HM := Lib.hid hm.symm
  rw [hm] at HC1 HN
  subst hW
  unfold opC at *
  clear hh hw ha hf hq hl hr hm
  go_enter Try.func12, Try.ntmps12
  go_wp2_with fail
  refine HC1.out.mono ?_
  rintro e w1 ⟨v1, rfl, hown1, hb1⟩
  have HC2 := Lib.hid (HN.out w1 hb1)
  obtain ⟨A1, c1, rfl, hm1, hx1, hrd1, _⟩ := RefTake.own_rd hown1
  have HRD1 := Lib.hid hrd1
  have HB1 := Lib.hid hb1
  clear hown1 hb1 hrd1 HC1 HN
  go_wp2_with fail
  refine HC2.out.out.mono ?_
  rintro e w2 ⟨v2, rfl, hown2, hb2⟩
  obtain ⟨A2, c2, rfl, hm2, hx2, hrd2, _⟩ := RefTake.own_rd hown2
  have HB2 := Lib.hid (HB1.out.trans (hb2.mono HB1.out.size))
  have H3 := Lib.hid (Same5.same_any w2 l m A1 A2 c1 c2 _ _ HM.out (HRD1.out.below hb2) hrd2 hm1 hm2 hx1 hx2)
  clear hown2 hb2 hrd2 HC2
  go_wp2_with fail
  refine H3.out.mono ?_
  rintro e w3 ⟨rfl, hb3⟩
  obtain ⟨K', hhe, hwe, hme⟩ := HX.out w3 (HB2.out.trans (hb3.mono HB2.out.size))
  have HE := Lib.hid (And.intro hhe (And.intro hwe hme))
  clear hb3 hhe hwe hme
  go_wp2
  go_ret
  exact ⟨rfl, K', HE.out⟩

set_option maxHeartbeats 1600000 in
set_option maxRecDepth 100000 in
theorem right5 (hq : q.kind = 5) (hh : HalfH w K oh vh s) (hw : HalfW w K ow vw s) (hf : Fine n T s) (hT : T ≤ 140737488355328) (ha : Args w K q Ad cd Ak ck) (oh7 : oh ≠ 7) (hw7 : ow ≠ 7) :
    Calls Try.prog 12 #[vh, vw, .agg (opC q Ad cd Ak ck)] w (RPost w K oh ow vh vw q s) := by
  have HS := Lib.hid (opbox0 (oh := oh) (ow := ow) hh hw ha)
  obtain ⟨W, hW⟩ : ∃ W, W = w.alloc (.cells (opC q Ad cd Ak ck) 33) := ⟨_, rfl⟩
  rw [← hW] at HS
  have HC1 := Lib.hid (h_read HS.out.h hf hT q.a ha.a)
  have HN : Hid (∀ w1, Below W.heap.size W w1 → w1.cell? ⟨w.heap.size, 3, none⟩ = some (.string ⟨q.a.toArray⟩) ∧ Hid (Calls Try.prog 30 #[vw, .string ⟨q.a.toArray⟩] w1 (RefRead5.RdPost w1 (PdSt.mark (PdSt.mark K w.heap.size 7) W.heap.size 7) (readS q.a s)))) := Lib.hid (fun w1 hb => by
    have hbx := (hb.block w.heap.size (lt_of HS.out.box)).trans HS.out.box
    exact ⟨(op_cells hbx).2.2.1, Lib.hid (w_read (HalfW.mv HS.out.w_ (Mv.new (S := fun _ => False) hb 7) (fun h => h) (fun h => h)) q.a ha.a)⟩)
  have HX : Hid (∀ w1 q0 w2, Below W.heap.size W w1 → W.heap.size ≤ q0 → Only q0 w1 w2 → ∃ K', HalfH w2 K' oh vh (s.map (stepD q)) ∧ HalfW w2 K' ow vw (s.map (stepD q)) ∧ Mv K K' (Two oh ow) w w2) := Lib.hid (fun w1 q0 w2 hb hq0 ho => by
    rw [step_same (.inl hq)]
    have h1 := HalfH.mv HS.out.h (Mv.new (S := fun _ => False) hb 7) (fun h => h)
    have h2 := HalfW.mv HS.out.w_ (Mv.new (S := fun _ => False) hb 7) (fun h => h) (fun h => h)
    have hm := ho.mv (K := PdSt.mark (PdSt.mark K w.heap.size 7) W.heap.size 7) (PdSt.mark_new hq0)
    have hsz := HS.out.mv.size
    exact ⟨_, HalfH.mv h1 hm oh7, HalfW.mv h2 hm (by decide) hw7, mv_only (HS.out.mv.trans (Mv.new hb 7)) ho (by omega)⟩)
  obtain ⟨c0, _, c3, _⟩ := op_cells HS.out.box
  rw [hq] at c0
  unfold PdRead.RdPost at HC1
  unfold RefRead5.RdPost at HN
  obtain ⟨l, hl⟩ : ∃ l, (readS q.a s).2 = l := ⟨_, rfl⟩
  obtain ⟨r, hr⟩ : ∃ r, (readS q.a s).1 = r := ⟨_, rfl⟩
  rw [hl, hr] at HC1 HN
  have hre : ((r : Int) == (r : Int)) = true := by simp
  obtain ⟨m, hm⟩ : ∃ m, l.length = m := ⟨_, rfl⟩
  have HM := Lib.hid hm.symm
  rw [hm] at HC1 HN
  subst hW
  unfold opC at *
  clear hh hw ha hf hq hl hr hm
  go_enter Try.func12, Try.ntmps12
  go_wp2_with fail
  refine HC1.out.mono ?_
  rintro e w1 ⟨v1, rfl, hown1, hb1⟩
  obtain ⟨hcell1, hc2⟩ := HN.out w1 hb1
  obtain ⟨A1, c1, rfl, hm1, hx1, hrd1, _⟩ := RefTake.own_rd hown1
  have HO1 := Lib.hid hown1
  have HB1 := Lib.hid hb1
  clear hown1 hb1 HC1 HN c3
  go_wp2_with fail
  refine hc2.out.mono ?_
  rintro e w2 ⟨⟨A2, c2, rfl, _, _, hrd2, _⟩, rfl⟩
  have s1 := PdSt.run_str (s := l) w1 A1 m c1 HM.out hrd1
  have s2 := PdSt.run_str (s := l) w1 A2 m c2 HM.out hrd2
  have hll : (l == l) = true := by simp
  unfold maxLen at hx1
  clear hrd1 hrd2 hc2 hcell1
  obtain ⟨bs, hbs⟩ : ∃ bs, bs = (w.alloc (.cells #[.int .i64 q.kind, .int .i64 q.on, .int .i64 q.n, .string ⟨q.a.toArray⟩, .string ⟨q.b.toArray⟩, .slice Ad q.data.length cd, .slice Ak q.keep.length ck] 33)).heap.size := ⟨_, rfl⟩
  rw [← hbs] at HO1 HB1 HX
  obtain ⟨q0, hq0, hA⟩ : ∃ q0, bs ≤ q0 ∧ (0 < m → A1 = some ⟨q0, 0, none⟩) := by
    rcases Nat.eq_zero_or_pos m with h0 | h0
    · exact ⟨bs, Nat.le_refl _, fun h => by omega⟩
    · obtain ⟨g, cap, hv, hb, _⟩ := HO1.out.form h0
      injection hv with hv
      exact ⟨g, hb, fun _ => hv⟩
  have HQ := Lib.hid (And.intro hq0 hA)
  clear hq0 hA hbs
  go_wp2
  go_loopw [15] (fun i wr => RelR bs w1 q0 (.slice A1 m c1) m i wr) (fun i _ => m - (intOf i).toNat)
  case atStart => exact ⟨0, l, Nat.zero_le _, rfl, HO1, Lib.hid (Only.refl _ _)⟩
  case round =>
    obtain ⟨k, xs, hk, rfl, hox, hon⟩ := hrel
    by_cases hlt : k < m
    · obtain ⟨_, hA⟩ := HQ.out
      obtain rfl := hA (by omega)
      obtain ⟨y, hy, ky, kz⟩ := cell8_at hox.out hlt
      have hput := Lib.hid (put8 hox.out hlt (y + 1))
      have HON := Lib.hid (hon.out.poke k (.int .i64 0))
      have hyy : B8 (y + 1) = .int .u8 (((y.toNat : Int) + 1) % 256) := by
        unfold B8
        have h1 : (y + 1).toNat = (y.toNat + 1) % 256 := by rw [UInt8.toNat_add]; rfl
        rw [h1]
        simp
      have hylt := y.toNat_lt
      rw [hyy] at hput
      have HON2 := Lib.hid (hon.out.poke k (.int .u8 (((y.toNat : Int) + 1) % 256)))
      clear hox hon hyy hy HON hA
      generalize y.toNat = yn at *
      go_wp2
      exact ⟨⟨k + 1, xs.set k (y + 1), by omega, by simp, hput, HON2⟩, by simp [intOf]; omega⟩
    · have hkm : k = m := by omega
      subst hkm
      obtain ⟨hq0, _⟩ := HQ.out
      have HE := Lib.hid (HX.out w1 q0 wr HB1.out hq0 hon.out)
      clear hox hon hq0
      go_wp2
      go_ret
      exact ⟨rfl, HE.out⟩
end
end Go.Proofs.Ytfblekedgenacaa.RightL
