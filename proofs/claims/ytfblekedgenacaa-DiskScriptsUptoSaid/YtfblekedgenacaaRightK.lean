/- The contract of the statements' own 'right' at its kinds 3, 4, 7, 8, 9 and the others. Written by wip/gen/right5.py. Conditions: those that 'Fine' and 'Args' name. -/
import Derived.Test.YtfblekedgenacaaRight
namespace Go.Proofs.Ytfblekedgenacaa.RightK
open Go Go.RowKit Words DkSpec PdLook RefDisk PdDisk PdRes Pairs Mv Right

theorem opbox0 {w : World} {K : Nat → Nat} {oh ow : Nat} {vh vw : Value} {q : POp} {s : Option DSt} {Ad Ak : Option Addr} {cd ck : Nat} (hh : HalfH w K oh vh s) (hw : HalfW w K ow vw s) (ha : Args w K q Ad cd Ak ck) :
    OpBox w (w.alloc (.cells (opC q Ad cd Ak ck) 33)) K oh ow vh vw q s Ad cd Ak ck := by
  have hb : Below w.heap.size w (w.alloc (.cells (opC q Ad cd Ak ck) 33)) := (Below.refl _ w).alloc (Nat.le_refl _) _
  have hm : ∀ S : Nat → Prop, Mv K (PdSt.mark K w.heap.size 7) S w (w.alloc (.cells (opC q Ad cd Ak ck) 33)) := fun S => Mv.new hb 7
  exact ⟨HalfH.mv hh (hm fun _ => False) (fun h => h), HalfW.mv hw (hm fun _ => False) (fun h => h) (fun h => h), Args.mv ha (hm fun _ => False) (fun h => h), hm _, Go.heap_alloc_new w _, PdSt.mark_new (Nat.le_refl _)⟩
section
variable {w : World} {K : Nat → Nat} {oh ow : Nat} {vh vw : Value} {q : POp} {s : Option DSt} {n T : Nat} {Ad Ak : Option Addr} {cd ck : Nat}
set_option maxHeartbeats 1600000 in
set_option maxRecDepth 100000 in
theorem right3 (hq : q.kind = 3) (hh : HalfH w K oh vh s) (hw : HalfW w K ow vw s) (hf : Fine n T s) (hn : n ≤ 1000000000) (ha : Args w K q Ad cd Ak ck) (oh7 : oh ≠ 7) (ow0 : ow ≠ 0) (hw7 : ow ≠ 7) (hhw : oh ≠ ow) (oh0 : oh ≠ 0) :
    Calls Try.prog 12 #[vh, vw, .agg (opC q Ad cd Ak ck)] w (RPost w K oh ow vh vw q s) := by
  have HS := Lib.hid (opbox1 (oh := oh) (ow := ow) hh hw ha)
  obtain ⟨W, hW⟩ : ∃ W, W = (w.alloc (.cells (opC q Ad cd Ak ck) 33)).drew := ⟨_, rfl⟩
  rw [← hW] at HS
  have HC1 := Lib.hid (h_rename HS.out.h hf hn q.a q.b ha.a ha.b)
  have HN : Hid (∀ w1 K1, Turned (PdSt.mark K w.heap.size 7) K1 oh W w1 → w1.cell? ⟨w.heap.size, 3, none⟩ = some (.string ⟨q.a.toArray⟩) ∧ w1.cell? ⟨w.heap.size, 4, none⟩ = some (.string ⟨q.b.toArray⟩) ∧ Hid (Calls Try.prog 28 #[vw, .string ⟨q.a.toArray⟩, .string ⟨q.b.toArray⟩] w1 (EPostW w1 K1 ow vw (errS (rename q.a q.b) s)))) := Lib.hid (fun w1 K1 ht1 => by
    obtain ⟨hb1, _⟩ := box_turned HS.out.box HS.out.bk oh7 ht1
    exact ⟨(op_cells hb1).2.2.1, (op_cells hb1).2.2.2.1, Lib.hid (w_rename ow0 (HalfW.mv HS.out.w_ (Mv.of (S := fun x => x = oh) ht1 rfl) (fun e => oh0 e.symm) (fun e => hhw e.symm)) hf hn q.a q.b ha.a ha.b)⟩)
  have HN2 : Hid (∀ w1 w2 K1 K2, Turned (PdSt.mark K w.heap.size 7) K1 oh W w1 → Turned K1 K2 ow w1 w2 → w2.cell? ⟨w.heap.size, 3, none⟩ = some (.string ⟨q.a.toArray⟩) ∧ w2.cell? ⟨w.heap.size, 4, none⟩ = some (.string ⟨q.b.toArray⟩)) := Lib.hid (fun w1 w2 K1 K2 ht1 ht2 => by
    obtain ⟨hb1, hk1⟩ := box_turned HS.out.box HS.out.bk oh7 ht1
    exact ⟨(op_cells (box_turned hb1 hk1 hw7 ht2).1).2.2.1, (op_cells (box_turned hb1 hk1 hw7 ht2).1).2.2.2.1⟩)
  have HX : Hid (∀ w1 K1 w2 K2, HalfH w1 K1 oh vh (errS (rename q.a q.b) s).2 → Turned (PdSt.mark K w.heap.size 7) K1 oh W w1 → HalfW w2 K2 ow vw (errS (rename q.a q.b) s).2 → Turned K1 K2 ow w1 w2 → ∃ K', HalfH w2 K' oh vh (s.map (stepD q)) ∧ HalfW w2 K' ow vw (s.map (stepD q)) ∧ Mv K K' (Two oh ow) w w2) := Lib.hid (fun w1 K1 w2 K2 h1 t1 h2 t2 => by
    have he : (errS (rename q.a q.b) s).2 = s.map (stepD q) := by cases s <;> simp [errS, stepD, hq]
    rw [he] at h1 h2
    exact ⟨K2, HalfH.mv h1 (Mv.of (S := fun x => x = ow) t2 rfl) hhw, h2, HS.out.mv.trans ((Mv.of t1 (.inl rfl)).trans (Mv.of t2 (.inr rfl)))⟩)
  obtain ⟨c0, c2, c3, c4, c5, c6⟩ := op_cells HS.out.box
  rw [hq] at c0
  have r0 : (w.alloc (.cells (opC q Ad cd Ak ck) 33)).cell? ⟨w.heap.size, 0, none⟩ = some (.int .i64 3) := by rw [hW] at c0; exact c0
  subst hW
  obtain ⟨r, hrr⟩ : ∃ r, (errS (rename q.a q.b) s).1 = r := ⟨_, rfl⟩
  have hre : ((r : Int) == (r : Int)) = true := by simp
  unfold EPostH at HC1
  unfold EPostW at HN
  rw [hrr] at HC1 HN
  unfold opC at *
  clear hh hw ha hf hq hrr c0 c2 c5 c6
  go_enter Try.func12, Try.ntmps12
  go_wp2
  go_region_held3 (fun w' => w'.cell? ⟨w.heap.size, 3, none⟩ = some (.string ⟨q.a.toArray⟩) ∧ w'.cell? ⟨w.heap.size, 4, none⟩ = some (.string ⟨q.b.toArray⟩)) (first | go_keep | assumption) (first
    | (go_at_call 20; refine HC1.out.mono ?_; rintro e w1 ⟨rfl, K1, hh1, ht1⟩; obtain ⟨hcell1, hcell1b, hc2⟩ := HN.out w1 K1 ht1)
    | (go_at_call 28; refine hc2.out.mono ?_; rintro e w2 ⟨rfl, K2, hw2, ht2⟩; obtain ⟨hcell2, hcell2b⟩ := HN2.out w1 w2 K1 K2 ht1 ht2))
  all_goals
    go_wp2
    go_ret
    exact ⟨rfl, HX.out _ _ _ _ hh1 ht1 hw2 ht2⟩
set_option maxHeartbeats 1600000 in
set_option maxRecDepth 100000 in
theorem right4 (hq : q.kind = 4) (hh : HalfH w K oh vh s) (hw : HalfW w K ow vw s) (hf : Fine n T s) (hn : n ≤ 1000000000) (ha : Args w K q Ad cd Ak ck) (oh7 : oh ≠ 7) (ow0 : ow ≠ 0) (hw7 : ow ≠ 7) (hhw : oh ≠ ow) (oh0 : oh ≠ 0) :
    Calls Try.prog 12 #[vh, vw, .agg (opC q Ad cd Ak ck)] w (RPost w K oh ow vh vw q s) := by
  have HS := Lib.hid (opbox1 (oh := oh) (ow := ow) hh hw ha)
  obtain ⟨W, hW⟩ : ∃ W, W = (w.alloc (.cells (opC q Ad cd Ak ck) 33)).drew := ⟨_, rfl⟩
  rw [← hW] at HS
  have HC1 := Lib.hid (h_delete HS.out.h q.a ha.a)
  have HN : Hid (∀ w1 K1, Turned (PdSt.mark K w.heap.size 7) K1 oh W w1 → w1.cell? ⟨w.heap.size, 3, none⟩ = some (.string ⟨q.a.toArray⟩) ∧ Hid (Calls Try.prog 29 #[vw, .string ⟨q.a.toArray⟩] w1 (EPostW w1 K1 ow vw (errS (delete q.a) s)))) := Lib.hid (fun w1 K1 ht1 => by
    obtain ⟨hb1, _⟩ := box_turned HS.out.box HS.out.bk oh7 ht1
    exact ⟨(op_cells hb1).2.2.1, Lib.hid (w_delete ow0 (HalfW.mv HS.out.w_ (Mv.of (S := fun x => x = oh) ht1 rfl) (fun e => oh0 e.symm) (fun e => hhw e.symm)) hf hn q.a ha.a)⟩)
  have HN2 : Hid (∀ w1 w2 K1 K2, Turned (PdSt.mark K w.heap.size 7) K1 oh W w1 → Turned K1 K2 ow w1 w2 → w2.cell? ⟨w.heap.size, 3, none⟩ = some (.string ⟨q.a.toArray⟩)) := Lib.hid (fun w1 w2 K1 K2 ht1 ht2 => by
    obtain ⟨hb1, hk1⟩ := box_turned HS.out.box HS.out.bk oh7 ht1
    exact (op_cells (box_turned hb1 hk1 hw7 ht2).1).2.2.1)
  have HX : Hid (∀ w1 K1 w2 K2, HalfH w1 K1 oh vh (errS (delete q.a) s).2 → Turned (PdSt.mark K w.heap.size 7) K1 oh W w1 → HalfW w2 K2 ow vw (errS (delete q.a) s).2 → Turned K1 K2 ow w1 w2 → ∃ K', HalfH w2 K' oh vh (s.map (stepD q)) ∧ HalfW w2 K' ow vw (s.map (stepD q)) ∧ Mv K K' (Two oh ow) w w2) := Lib.hid (fun w1 K1 w2 K2 h1 t1 h2 t2 => by
    have he : (errS (delete q.a) s).2 = s.map (stepD q) := by cases s <;> simp [errS, stepD, hq]
    rw [he] at h1 h2
    exact ⟨K2, HalfH.mv h1 (Mv.of (S := fun x => x = ow) t2 rfl) hhw, h2, HS.out.mv.trans ((Mv.of t1 (.inl rfl)).trans (Mv.of t2 (.inr rfl)))⟩)
  obtain ⟨c0, c2, c3, c4, c5, c6⟩ := op_cells HS.out.box
  rw [hq] at c0
  have r0 : (w.alloc (.cells (opC q Ad cd Ak ck) 33)).cell? ⟨w.heap.size, 0, none⟩ = some (.int .i64 4) := by rw [hW] at c0; exact c0
  subst hW
  obtain ⟨r, hrr⟩ : ∃ r, (errS (delete q.a) s).1 = r := ⟨_, rfl⟩
  have hre : ((r : Int) == (r : Int)) = true := by simp
  unfold EPostH at HC1
  unfold EPostW at HN
  rw [hrr] at HC1 HN
  unfold opC at *
  clear hh hw ha hf hq hrr c0 c2 c4 c5 c6
  go_enter Try.func12, Try.ntmps12
  go_wp2
  go_region_held3 (fun w' => w'.cell? ⟨w.heap.size, 3, none⟩ = some (.string ⟨q.a.toArray⟩)) (first | go_keep | assumption) (first
    | (go_at_call 24; refine HC1.out.mono ?_; rintro e w1 ⟨rfl, K1, hh1, ht1⟩; obtain ⟨hcell1, hc2⟩ := HN.out w1 K1 ht1)
    | (go_at_call 29; refine hc2.out.mono ?_; rintro e w2 ⟨rfl, K2, hw2, ht2⟩; have hcell2 := HN2.out w1 w2 K1 K2 ht1 ht2))
  all_goals
    go_wp2
    go_ret
    exact ⟨rfl, HX.out _ _ _ _ hh1 ht1 hw2 ht2⟩

set_option maxHeartbeats 1600000 in
set_option maxRecDepth 100000 in
theorem right7 (hq : q.kind = 7) (hh : HalfH w K oh vh s) (hw : HalfW w K ow vw s) (hf : Fine n T s) (hn : n ≤ 1000000000) (hT : T ≤ 140737488355328) (ha : Args w K q Ad cd Ak ck) (oh7 : oh ≠ 7) (ow0 : ow ≠ 0) (hw7 : ow ≠ 7) (hhw : oh ≠ ow) (oh0 : oh ≠ 0) :
    Calls Try.prog 12 #[vh, vw, .agg (opC q Ad cd Ak ck)] w (RPost w K oh ow vh vw q s) := by
  have HS := Lib.hid (opbox0 (oh := oh) (ow := ow) hh hw ha)
  obtain ⟨W, hW⟩ : ∃ W, W = w.alloc (.cells (opC q Ad cd Ak ck) 33) := ⟨_, rfl⟩
  rw [← hW] at HS
  have HC1 := Lib.hid (h_fill HS.out.h (Int.tmod q.n 2 != 0))
  have HN : Hid (∀ w1 K1, Turned (PdSt.mark K w.heap.size 7) K1 oh W w1 → w1.cell? ⟨w.heap.size, 2, none⟩ = some (.int .i64 q.n) ∧ Hid (Calls Try.prog 33 #[vw, .bool (Int.tmod q.n 2 != 0)] w1 (APostW w1 K1 ow vw (s.map (fun d => { d with full := Int.tmod q.n 2 != 0 }))))) := Lib.hid (fun w1 K1 ht1 => by
    obtain ⟨hb1, _⟩ := box_turned HS.out.box HS.out.bk oh7 ht1
    have hargs := Args.mv HS.out.args (Mv.of (S := fun x => x = oh) ht1 rfl) (fun e => oh0 e.symm)
    exact ⟨(op_cells hb1).2.1, Lib.hid (w_fill ow0 (HalfW.mv HS.out.w_ (Mv.of (S := fun x => x = oh) ht1 rfl) (fun e => oh0 e.symm) (fun e => hhw e.symm)) (Int.tmod q.n 2 != 0))⟩)
  have HX : Hid (∀ w1 K1 w2 K2, HalfH w1 K1 oh vh (s.map (fun d => { d with full := Int.tmod q.n 2 != 0 })) → Turned (PdSt.mark K w.heap.size 7) K1 oh W w1 → HalfW w2 K2 ow vw (s.map (fun d => { d with full := Int.tmod q.n 2 != 0 })) → Turned K1 K2 ow w1 w2 → ∃ K', HalfH w2 K' oh vh (s.map (stepD q)) ∧ HalfW w2 K' ow vw (s.map (stepD q)) ∧ Mv K K' (Two oh ow) w w2) := Lib.hid (fun w1 K1 w2 K2 h1 t1 h2 t2 => by
    have he : s.map (fun d => { d with full := Int.tmod q.n 2 != 0 }) = s.map (stepD q) := by cases s <;> simp [stepD, hq]
    rw [he] at h1 h2
    exact ⟨K2, HalfH.mv h1 (Mv.of (S := fun x => x = ow) t2 rfl) hhw, h2, HS.out.mv.trans ((Mv.of t1 (.inl rfl)).trans (Mv.of t2 (.inr rfl)))⟩)
  obtain ⟨c0, c2, c3, c4, c5, c6⟩ := op_cells HS.out.box
  rw [hq] at c0
  subst hW
  unfold opC at *
  unfold APostH at HC1
  unfold APostW at HN
  clear hh hw ha hf hq c3 c4 c5 c6
  go_enter Try.func12, Try.ntmps12
  go_wp2_with fail
  refine HC1.out.mono ?_
  rintro e w1 ⟨rfl, K1, hh1, ht1⟩
  obtain ⟨hcell1, hc2⟩ := HN.out w1 K1 ht1
  go_wp2_with fail
  refine hc2.out.mono ?_
  rintro e w2 ⟨rfl, K2, hw2, ht2⟩
  obtain ⟨K', hhe, hwe, hme⟩ := HX.out _ _ _ _ hh1 ht1 hw2 ht2
  have HD := Lib.hid (h_down hhe)
  obtain ⟨s', hs'⟩ : ∃ s', s.map (stepD q) = s' := ⟨_, rfl⟩
  have HE := Lib.hid hs'
  rw [hs'] at HD hhe hwe
  have HH := Lib.hid hhe
  have HW := Lib.hid hwe
  have HM := Lib.hid hme
  clear hs' hhe hme hh1 ht1 hw2 ht2 hcell1
  cases s' with
  | none =>
    have e2 : vw = .pointer none := hwe
    subst e2
    have h3 := RefOps5.nil_nil
    unfold downS at HD
    clear hwe
    go_wp2_with fail
    refine HD.out.mono ?_
    rintro e w5 ⟨rfl, rfl⟩
    go_wp2
    go_ret
    exact ⟨rfl, K', by rw [HE.out]; exact HH.out, by rw [HE.out]; exact HW.out, HM.out⟩
  | some d =>
    obtain ⟨p, rfl, A, c, _, _, _, _, _, _, e2, _⟩ := hwe
    have q3 := fun w => RefOps5.ne_nil p 0 w
    have HD2 : Hid (Calls Try.prog 21 #[vh] w2 fun e w' => e = .returned (.bool d.off) ∧ w2 = w') := HD
    have hoo : (d.off == d.off) = true := by cases d.off <;> rfl
    clear HD
    go_wp2_with fail
    refine HD2.out.mono ?_
    rintro e w5 ⟨rfl, rfl⟩
    go_wp2
    go_ret
    exact ⟨rfl, K', by rw [HE.out]; exact HH.out, by rw [HE.out]; exact HW.out, HM.out⟩

set_option maxHeartbeats 1600000 in
set_option maxRecDepth 100000 in
theorem right8 (hq : q.kind = 8) (hh : HalfH w K oh vh s) (hw : HalfW w K ow vw s) (hf : Fine n T s) (hn : n ≤ 1000000000) (hT : T ≤ 140737488355328) (ha : Args w K q Ad cd Ak ck) (oh7 : oh ≠ 7) (ow0 : ow ≠ 0) (hw7 : ow ≠ 7) (hhw : oh ≠ ow) (oh0 : oh ≠ 0) :
    Calls Try.prog 12 #[vh, vw, .agg (opC q Ad cd Ak ck)] w (RPost w K oh ow vh vw q s) := by
  have HS := Lib.hid (opbox0 (oh := oh) (ow := ow) hh hw ha)
  obtain ⟨W, hW⟩ : ∃ W, W = w.alloc (.cells (opC q Ad cd Ak ck) 33) := ⟨_, rfl⟩
  rw [← hW] at HS
  have HC1 := Lib.hid (h_arm HS.out.h q.n ha.n1 ha.n2)
  have HN : Hid (∀ w1 K1, Turned (PdSt.mark K w.heap.size 7) K1 oh W w1 → w1.cell? ⟨w.heap.size, 2, none⟩ = some (.int .i64 q.n) ∧ Hid (Calls Try.prog 34 #[vw, .int .i64 q.n] w1 (APostW w1 K1 ow vw (s.map (arm q.n))))) := Lib.hid (fun w1 K1 ht1 => by
    obtain ⟨hb1, _⟩ := box_turned HS.out.box HS.out.bk oh7 ht1
    have hargs := Args.mv HS.out.args (Mv.of (S := fun x => x = oh) ht1 rfl) (fun e => oh0 e.symm)
    exact ⟨(op_cells hb1).2.1, Lib.hid (w_arm ow0 (HalfW.mv HS.out.w_ (Mv.of (S := fun x => x = oh) ht1 rfl) (fun e => oh0 e.symm) (fun e => hhw e.symm)) q.n)⟩)
  have HX : Hid (∀ w1 K1 w2 K2, HalfH w1 K1 oh vh (s.map (arm q.n)) → Turned (PdSt.mark K w.heap.size 7) K1 oh W w1 → HalfW w2 K2 ow vw (s.map (arm q.n)) → Turned K1 K2 ow w1 w2 → ∃ K', HalfH w2 K' oh vh (s.map (stepD q)) ∧ HalfW w2 K' ow vw (s.map (stepD q)) ∧ Mv K K' (Two oh ow) w w2) := Lib.hid (fun w1 K1 w2 K2 h1 t1 h2 t2 => by
    have he : s.map (arm q.n) = s.map (stepD q) := by cases s <;> simp [stepD, hq]
    rw [he] at h1 h2
    exact ⟨K2, HalfH.mv h1 (Mv.of (S := fun x => x = ow) t2 rfl) hhw, h2, HS.out.mv.trans ((Mv.of t1 (.inl rfl)).trans (Mv.of t2 (.inr rfl)))⟩)
  obtain ⟨c0, c2, c3, c4, c5, c6⟩ := op_cells HS.out.box
  rw [hq] at c0
  subst hW
  unfold opC at *
  unfold APostH at HC1
  unfold APostW at HN
  clear hh hw ha hf hq c3 c4 c5 c6
  go_enter Try.func12, Try.ntmps12
  go_wp2_with fail
  refine HC1.out.mono ?_
  rintro e w1 ⟨rfl, K1, hh1, ht1⟩
  obtain ⟨hcell1, hc2⟩ := HN.out w1 K1 ht1
  go_wp2_with fail
  refine hc2.out.mono ?_
  rintro e w2 ⟨rfl, K2, hw2, ht2⟩
  obtain ⟨K', hhe, hwe, hme⟩ := HX.out _ _ _ _ hh1 ht1 hw2 ht2
  have HD := Lib.hid (h_down hhe)
  obtain ⟨s', hs'⟩ : ∃ s', s.map (stepD q) = s' := ⟨_, rfl⟩
  have HE := Lib.hid hs'
  rw [hs'] at HD hhe hwe
  have HH := Lib.hid hhe
  have HW := Lib.hid hwe
  have HM := Lib.hid hme
  clear hs' hhe hme hh1 ht1 hw2 ht2 hcell1
  cases s' with
  | none =>
    have e2 : vw = .pointer none := hwe
    subst e2
    have h3 := RefOps5.nil_nil
    unfold downS at HD
    clear hwe
    go_wp2_with fail
    refine HD.out.mono ?_
    rintro e w5 ⟨rfl, rfl⟩
    go_wp2
    go_ret
    exact ⟨rfl, K', by rw [HE.out]; exact HH.out, by rw [HE.out]; exact HW.out, HM.out⟩
  | some d =>
    obtain ⟨p, rfl, A, c, _, _, _, _, _, _, e2, _⟩ := hwe
    have q3 := fun w => RefOps5.ne_nil p 0 w
    have HD2 : Hid (Calls Try.prog 21 #[vh] w2 fun e w' => e = .returned (.bool d.off) ∧ w2 = w') := HD
    have hoo : (d.off == d.off) = true := by cases d.off <;> rfl
    clear HD
    go_wp2_with fail
    refine HD2.out.mono ?_
    rintro e w5 ⟨rfl, rfl⟩
    go_wp2
    go_ret
    exact ⟨rfl, K', by rw [HE.out]; exact HH.out, by rw [HE.out]; exact HW.out, HM.out⟩

set_option maxHeartbeats 1600000 in
set_option maxRecDepth 100000 in
theorem right9 (hq : q.kind = 9) (hh : HalfH w K oh vh s) (hw : HalfW w K ow vw s) (hf : Fine n T s) (hn : n ≤ 1000000000) (hT : T ≤ 140737488355328) (ha : Args w K q Ad cd Ak ck) (oh7 : oh ≠ 7) (ow0 : ow ≠ 0) (hw7 : ow ≠ 7) (hhw : oh ≠ ow) (oh0 : oh ≠ 0) :
    Calls Try.prog 12 #[vh, vw, .agg (opC q Ad cd Ak ck)] w (RPost w K oh ow vh vw q s) := by
  have HS := Lib.hid (opbox0 (oh := oh) (ow := ow) hh hw ha)
  obtain ⟨W, hW⟩ : ∃ W, W = w.alloc (.cells (opC q Ad cd Ak ck) 33) := ⟨_, rfl⟩
  rw [← hW] at HS
  have HC1 := Lib.hid (h_restart HS.out.h hf hn q.keep Ak ck HS.out.args.k (fun b off e h => by rw [HS.out.args.kk b off e h]; exact oh0.symm) ha.ks ha.kc ha.km)
  have HN : Hid (∀ w1 K1, Turned (PdSt.mark K w.heap.size 7) K1 oh W w1 → w1.cell? ⟨w.heap.size, 6, none⟩ = some (.slice Ak q.keep.length ck) ∧ Hid (Calls Try.prog 15 #[vw, .slice Ak q.keep.length ck] w1 (APostW w1 K1 ow vw (s.map (restart q.keep))))) := Lib.hid (fun w1 K1 ht1 => by
    obtain ⟨hb1, _⟩ := box_turned HS.out.box HS.out.bk oh7 ht1
    have hargs := Args.mv HS.out.args (Mv.of (S := fun x => x = oh) ht1 rfl) (fun e => oh0 e.symm)
    exact ⟨(op_cells hb1).2.2.2.2.2, Lib.hid (w_restart ow0 (HalfW.mv HS.out.w_ (Mv.of (S := fun x => x = oh) ht1 rfl) (fun e => oh0 e.symm) (fun e => hhw e.symm)) hf hn hT q.keep Ak ck hargs.k (fun b off e h => by rw [hargs.kk b off e h]; exact ow0.symm) ha.ks ha.kc ha.km)⟩)
  have HX : Hid (∀ w1 K1 w2 K2, HalfH w1 K1 oh vh (s.map (restart q.keep)) → Turned (PdSt.mark K w.heap.size 7) K1 oh W w1 → HalfW w2 K2 ow vw (s.map (restart q.keep)) → Turned K1 K2 ow w1 w2 → ∃ K', HalfH w2 K' oh vh (s.map (stepD q)) ∧ HalfW w2 K' ow vw (s.map (stepD q)) ∧ Mv K K' (Two oh ow) w w2) := Lib.hid (fun w1 K1 w2 K2 h1 t1 h2 t2 => by
    have he : s.map (restart q.keep) = s.map (stepD q) := by cases s <;> simp [stepD, hq]
    rw [he] at h1 h2
    exact ⟨K2, HalfH.mv h1 (Mv.of (S := fun x => x = ow) t2 rfl) hhw, h2, HS.out.mv.trans ((Mv.of t1 (.inl rfl)).trans (Mv.of t2 (.inr rfl)))⟩)
  obtain ⟨c0, c2, c3, c4, c5, c6⟩ := op_cells HS.out.box
  rw [hq] at c0
  subst hW
  unfold opC at *
  unfold APostH at HC1
  unfold APostW at HN
  clear hh hw ha hf hq c2 c3 c4 c5
  go_enter Try.func12, Try.ntmps12
  go_wp2_with fail
  refine HC1.out.mono ?_
  rintro e w1 ⟨rfl, K1, hh1, ht1⟩
  obtain ⟨hcell1, hc2⟩ := HN.out w1 K1 ht1
  go_wp2_with fail
  refine hc2.out.mono ?_
  rintro e w2 ⟨rfl, K2, hw2, ht2⟩
  obtain ⟨K', hhe, hwe, hme⟩ := HX.out _ _ _ _ hh1 ht1 hw2 ht2
  have HD := Lib.hid (h_down hhe)
  obtain ⟨s', hs'⟩ : ∃ s', s.map (stepD q) = s' := ⟨_, rfl⟩
  have HE := Lib.hid hs'
  rw [hs'] at HD hhe hwe
  have HH := Lib.hid hhe
  have HW := Lib.hid hwe
  have HM := Lib.hid hme
  clear hs' hhe hme hh1 ht1 hw2 ht2 hcell1
  cases s' with
  | none =>
    have e2 : vw = .pointer none := hwe
    subst e2
    have h3 := RefOps5.nil_nil
    unfold downS at HD
    clear hwe
    go_wp2_with fail
    refine HD.out.mono ?_
    rintro e w5 ⟨rfl, rfl⟩
    go_wp2
    go_ret
    exact ⟨rfl, K', by rw [HE.out]; exact HH.out, by rw [HE.out]; exact HW.out, HM.out⟩
  | some d =>
    obtain ⟨p, rfl, A, c, _, _, _, _, _, _, e2, _⟩ := hwe
    have q3 := fun w => RefOps5.ne_nil p 0 w
    have HD2 : Hid (Calls Try.prog 21 #[vh] w2 fun e w' => e = .returned (.bool d.off) ∧ w2 = w') := HD
    have hoo : (d.off == d.off) = true := by cases d.off <;> rfl
    clear HD
    go_wp2_with fail
    refine HD2.out.mono ?_
    rintro e w5 ⟨rfl, rfl⟩
    go_wp2
    go_ret
    exact ⟨rfl, K', by rw [HE.out]; exact HH.out, by rw [HE.out]; exact HW.out, HM.out⟩

set_option maxHeartbeats 1600000 in
set_option maxRecDepth 100000 in
theorem right_other (hq : ∀ i : Int, 1 ≤ i → i ≤ 9 → q.kind ≠ i) (hh : HalfH w K oh vh s) (hw : HalfW w K ow vw s) (ha : Args w K q Ad cd Ak ck) :
    Calls Try.prog 12 #[vh, vw, .agg (opC q Ad cd Ak ck)] w (RPost w K oh ow vh vw q s) := by
  have HS := Lib.hid (opbox0 (oh := oh) (ow := ow) hh hw ha)
  obtain ⟨w2, hW⟩ : ∃ w2, w2 = w.alloc (.cells (opC q Ad cd Ak ck) 33) := ⟨_, rfl⟩
  rw [← hW] at HS
  obtain ⟨c0, _⟩ := op_cells HS.out.box
  have x1 : (q.kind == 1) = false := beq_eq_false_iff_ne.2 (hq 1 (by omega) (by omega))
  have x2 : (q.kind == 2) = false := beq_eq_false_iff_ne.2 (hq 2 (by omega) (by omega))
  have x3 : (q.kind == 3) = false := beq_eq_false_iff_ne.2 (hq 3 (by omega) (by omega))
  have x4 : (q.kind == 4) = false := beq_eq_false_iff_ne.2 (hq 4 (by omega) (by omega))
  have x5 : (q.kind == 5) = false := beq_eq_false_iff_ne.2 (hq 5 (by omega) (by omega))
  have x6 : (q.kind == 6) = false := beq_eq_false_iff_ne.2 (hq 6 (by omega) (by omega))
  have x7 : (q.kind == 7) = false := beq_eq_false_iff_ne.2 (hq 7 (by omega) (by omega))
  have x8 : (q.kind == 8) = false := beq_eq_false_iff_ne.2 (hq 8 (by omega) (by omega))
  have x9 : (q.kind == 9) = false := beq_eq_false_iff_ne.2 (hq 9 (by omega) (by omega))
  obtain ⟨K', hhe, hwe, hme⟩ : ∃ K', HalfH w2 K' oh vh (s.map (stepD q)) ∧ HalfW w2 K' ow vw (s.map (stepD q)) ∧ Mv K K' (Two oh ow) w w2 := by
    have he : s.map (stepD q) = s := by
      cases s with
      | none => rfl
      | some d =>
        have h1 := hq 1 (by omega) (by omega)
        have h2 := hq 2 (by omega) (by omega)
        have h3 := hq 3 (by omega) (by omega)
        have h4 := hq 4 (by omega) (by omega)
        have h7 := hq 7 (by omega) (by omega)
        have h8 := hq 8 (by omega) (by omega)
        have h9 := hq 9 (by omega) (by omega)
        simp [stepD, h1, h2, h3, h4, h7, h8, h9]
    rw [he]
    exact ⟨_, HS.out.h, HS.out.w_, HS.out.mv⟩
  clear hh hw ha
  subst hW
  unfold opC at *
  have HD := Lib.hid (h_down hhe)
  obtain ⟨s', hs'⟩ : ∃ s', s.map (stepD q) = s' := ⟨_, rfl⟩
  have HE := Lib.hid hs'
  rw [hs'] at HD hhe hwe
  have HH := Lib.hid hhe
  have HW := Lib.hid hwe
  have HM := Lib.hid hme
  have HQ := Lib.hid hq
  clear hs' hhe hme hq
  go_enter Try.func12, Try.ntmps12
  cases s' with
  | none =>
    have e2 : vw = .pointer none := hwe
    subst e2
    have h3 := RefOps5.nil_nil
    unfold downS at HD
    clear hwe
    go_wp2_with fail
    refine HD.out.mono ?_
    rintro e w5 ⟨rfl, rfl⟩
    go_wp2
    go_ret
    exact ⟨rfl, K', by rw [HE.out]; exact HH.out, by rw [HE.out]; exact HW.out, HM.out⟩
  | some d =>
    obtain ⟨p, rfl, A, c, _, _, _, _, _, _, e2, _⟩ := hwe
    have q3 := fun w => RefOps5.ne_nil p 0 w
    have HD2 : Hid (Calls Try.prog 21 #[vh] (w.alloc (.cells #[.int .i64 q.kind, .int .i64 q.on, .int .i64 q.n, .string ⟨q.a.toArray⟩, .string ⟨q.b.toArray⟩, .slice Ad q.data.length cd, .slice Ak q.keep.length ck] 33)) fun e w' => e = .returned (.bool d.off) ∧ (w.alloc (.cells #[.int .i64 q.kind, .int .i64 q.on, .int .i64 q.n, .string ⟨q.a.toArray⟩, .string ⟨q.b.toArray⟩, .slice Ad q.data.length cd, .slice Ak q.keep.length ck] 33)) = w') := HD
    have hoo : (d.off == d.off) = true := by cases d.off <;> rfl
    clear HD
    go_wp2_with fail
    refine HD2.out.mono ?_
    rintro e w5 ⟨rfl, rfl⟩
    go_wp2
    go_ret
    exact ⟨rfl, K', by rw [HE.out]; exact HH.out, by rw [HE.out]; exact HW.out, HM.out⟩
end
end Go.Proofs.Ytfblekedgenacaa.RightK
