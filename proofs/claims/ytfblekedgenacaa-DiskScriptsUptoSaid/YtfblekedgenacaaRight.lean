/- The contract of the statements' own 'right': the program's and the document's disk, in the same state, answer a call alike, and are in the same state again. Conditions: those that 'Fine' and 'Args' name. -/
import Derived.Test.YtfblekedgenacaaAll5
import Derived.Test.YtfblekedgenacaaSame5
import Derived.Deep.RegionHeld3
namespace Go.Proofs.Ytfblekedgenacaa.Right
open Go Go.RowKit Words DkSpec PdLook RefDisk PdDisk PdRes Pairs Mv

def opC (q : POp) (Ad : Option Addr) (cd : Nat) (Ak : Option Addr) (ck : Nat) : Array Value := #[.int .i64 q.kind, .int .i64 q.on, .int .i64 q.n, .string ⟨q.a.toArray⟩, .string ⟨q.b.toArray⟩, .slice Ad q.data.length cd, .slice Ak q.keep.length ck]
/-- What is known of a call's arguments. -/
structure Args (w : World) (K : Nat → Nat) (q : POp) (Ad : Option Addr) (cd : Nat) (Ak : Option Addr) (ck : Nat) : Prop where
  d : Rd w w.heap.size Ad (q.data.map B8)
  dk : ∀ b off, Ad = some ⟨b, off, none⟩ → 0 < q.data.length → K b = 0
  dc : q.data.length ≤ cd
  dm : cd ≤ maxLen
  k : Rd w w.heap.size Ak (q.keep.map I64)
  kk : ∀ b off, Ak = some ⟨b, off, none⟩ → 0 < q.keep.length → K b = 0
  kc : q.keep.length ≤ ck
  km : ck ≤ maxLen
  ks : ∀ x ∈ q.keep, -9223372036854775808 ≤ x ∧ x ≤ 9223372036854775807
  n1 : -9223372036854775808 ≤ q.n
  n2 : q.n ≤ 9223372036854775807
  a : q.a.length ≤ 281474976710656
  b : q.b.length ≤ 281474976710656
  t : q.data.length ≤ 1048576
theorem Args.mv {w w' : World} {K K' : Nat → Nat} {S : Nat → Prop} {q : POp} {Ad Ak : Option Addr} {cd ck : Nat} (h : Args w K q Ad cd Ak ck) (hm : Mv K K' S w w') (h0 : ¬ S 0) : Args w' K' q Ad cd Ak ck := by
  obtain ⟨d1, d2⟩ := rd_mv hm h0 h.d (by simpa using h.dk)
  obtain ⟨k1, k2⟩ := rd_mv hm h0 h.k (by simpa using h.kk)
  exact { h with d := d1, dk := by simpa using d2, k := k1, kk := by simpa using k2 }
def Two (oh ow : Nat) (x : Nat) : Prop := x = oh ∨ x = ow
def RPost (w : World) (K : Nat → Nat) (oh ow : Nat) (vh vw : Value) (q : POp) (s : Option DSt) (e : Ending) (w' : World) : Prop := e = .returned (.bool true) ∧ ∃ K', HalfH w' K' oh vh (s.map (stepD q)) ∧ HalfW w' K' ow vw (s.map (stepD q)) ∧ Mv K K' (Two oh ow) w w'
/-- The box of the call's own. -/
theorem op_cells {w : World} {b : Nat} {q : POp} {Ad Ak : Option Addr} {cd ck : Nat} (h : w.heap[b]? = some (.cells (opC q Ad cd Ak ck) 33 (0, 0))) : w.cell? ⟨b, 0, none⟩ = some (.int .i64 q.kind) ∧ w.cell? ⟨b, 2, none⟩ = some (.int .i64 q.n) ∧ w.cell? ⟨b, 3, none⟩ = some (.string ⟨q.a.toArray⟩) ∧ w.cell? ⟨b, 4, none⟩ = some (.string ⟨q.b.toArray⟩) ∧ w.cell? ⟨b, 5, none⟩ = some (.slice Ad q.data.length cd) ∧ w.cell? ⟨b, 6, none⟩ = some (.slice Ak q.keep.length ck) := by
  refine ⟨?_, ?_, ?_, ?_, ?_, ?_⟩ <;> (unfold World.cell?; rw [h]; rfl)

/-- What stands when the box is made. -/
structure OpBox (w W : World) (K : Nat → Nat) (oh ow : Nat) (vh vw : Value) (q : POp) (s : Option DSt) (Ad : Option Addr) (cd : Nat) (Ak : Option Addr) (ck : Nat) : Prop where
  h : HalfH W (PdSt.mark K w.heap.size 7) oh vh s
  w_ : HalfW W (PdSt.mark K w.heap.size 7) ow vw s
  args : Args W (PdSt.mark K w.heap.size 7) q Ad cd Ak ck
  mv : Mv K (PdSt.mark K w.heap.size 7) (Two oh ow) w W
  box : W.heap[w.heap.size]? = some (.cells (opC q Ad cd Ak ck) 33 (0, 0))
  bk : PdSt.mark K w.heap.size 7 w.heap.size = 7
theorem opbox1 {w : World} {K : Nat → Nat} {oh ow : Nat} {vh vw : Value} {q : POp} {s : Option DSt} {Ad Ak : Option Addr} {cd ck : Nat} (hh : HalfH w K oh vh s) (hw : HalfW w K ow vw s) (ha : Args w K q Ad cd Ak ck) :
    OpBox w (w.alloc (.cells (opC q Ad cd Ak ck) 33)).drew K oh ow vh vw q s Ad cd Ak ck := by
  have hb : Below w.heap.size w (w.alloc (.cells (opC q Ad cd Ak ck) 33)).drew := ((Below.refl _ w).alloc (Nat.le_refl _) _).drew
  have hm : ∀ S : Nat → Prop, Mv K (PdSt.mark K w.heap.size 7) S w (w.alloc (.cells (opC q Ad cd Ak ck) 33)).drew := fun S => Mv.new hb 7
  exact ⟨HalfH.mv hh (hm fun _ => False) (fun h => h), HalfW.mv hw (hm fun _ => False) (fun h => h) (fun h => h), Args.mv ha (hm fun _ => False) (fun h => h), hm _, Go.heap_alloc_new w _, PdSt.mark_new (Nat.le_refl _)⟩

section
variable {w : World} {K : Nat → Nat} {oh ow : Nat} {vh vw : Value} {q : POp} {s : Option DSt} {n T : Nat} {Ad Ak : Option Addr} {cd ck : Nat}
theorem box_turned {W W' : World} {K K' : Nat → Nat} {o b : Nat} {x : Obj} (h : W.heap[b]? = some x) (hk : K b = 7) (ho : o ≠ 7) (ht : Turned K K' o W W') : W'.heap[b]? = some x ∧ K' b = 7 :=
  ⟨(ht.block b (lt_of h) (by rw [hk]; exact ho.symm)).trans h, (ht.kind b (lt_of h)).trans hk⟩

set_option maxHeartbeats 1600000 in
set_option maxRecDepth 100000 in
theorem right2 (hq : q.kind = 2) (hh : HalfH w K oh vh s) (hw : HalfW w K ow vw s) (hf : Fine n T s) (ha : Args w K q Ad cd Ak ck) (oh7 : oh ≠ 7) (ow0 : ow ≠ 0) (hw7 : ow ≠ 7) (hhw : oh ≠ ow) (oh0 : oh ≠ 0) :
    Calls Try.prog 12 #[vh, vw, .agg (opC q Ad cd Ak ck)] w (RPost w K oh ow vh vw q s) := by
  have HS := Lib.hid (opbox1 (oh := oh) (ow := ow) hh hw ha)
  obtain ⟨W, hW⟩ : ∃ W, W = (w.alloc (.cells (opC q Ad cd Ak ck) 33)).drew := ⟨_, rfl⟩
  rw [← hW] at HS
  have HC1 := Lib.hid (h_sync HS.out.h q.a ha.a)
  have HN : Hid (∀ w1 K1, Turned (PdSt.mark K w.heap.size 7) K1 oh W w1 → w1.cell? ⟨w.heap.size, 3, none⟩ = some (.string ⟨q.a.toArray⟩) ∧ Hid (Calls Try.prog 27 #[vw, .string ⟨q.a.toArray⟩] w1 (EPostW w1 K1 ow vw (errS (sync q.a) s)))) := Lib.hid (fun w1 K1 ht1 => by
    obtain ⟨hb1, _⟩ := box_turned HS.out.box HS.out.bk oh7 ht1
    exact ⟨(op_cells hb1).2.2.1, Lib.hid (w_sync ow0 (HalfW.mv HS.out.w_ (Mv.of (S := fun x => x = oh) ht1 rfl) (fun e => oh0 e.symm) (fun e => hhw e.symm)) hf q.a ha.a)⟩)
  have HN2 : Hid (∀ w1 w2 K1 K2, Turned (PdSt.mark K w.heap.size 7) K1 oh W w1 → Turned K1 K2 ow w1 w2 → w2.cell? ⟨w.heap.size, 3, none⟩ = some (.string ⟨q.a.toArray⟩)) := Lib.hid (fun w1 w2 K1 K2 ht1 ht2 => by
    obtain ⟨hb1, hk1⟩ := box_turned HS.out.box HS.out.bk oh7 ht1
    exact (op_cells (box_turned hb1 hk1 hw7 ht2).1).2.2.1)
  have HX : Hid (∀ w1 K1 w2 K2, HalfH w1 K1 oh vh (errS (sync q.a) s).2 → Turned (PdSt.mark K w.heap.size 7) K1 oh W w1 → HalfW w2 K2 ow vw (errS (sync q.a) s).2 → Turned K1 K2 ow w1 w2 → ∃ K', HalfH w2 K' oh vh (s.map (stepD q)) ∧ HalfW w2 K' ow vw (s.map (stepD q)) ∧ Mv K K' (Two oh ow) w w2) := Lib.hid (fun w1 K1 w2 K2 h1 t1 h2 t2 => by
    have he : (errS (sync q.a) s).2 = s.map (stepD q) := by cases s <;> simp [errS, stepD, hq]
    rw [he] at h1 h2
    exact ⟨K2, HalfH.mv h1 (Mv.of (S := fun x => x = ow) t2 rfl) hhw, h2, HS.out.mv.trans ((Mv.of t1 (.inl rfl)).trans (Mv.of t2 (.inr rfl)))⟩)
  obtain ⟨c0, c2, c3, c4, c5, c6⟩ := op_cells HS.out.box
  rw [hq] at c0
  have r0 : (w.alloc (.cells (opC q Ad cd Ak ck) 33)).cell? ⟨w.heap.size, 0, none⟩ = some (.int .i64 2) := by rw [hW] at c0; exact c0
  subst hW
  obtain ⟨r, hrr⟩ : ∃ r, (errS (sync q.a) s).1 = r := ⟨_, rfl⟩
  have hre : ((r : Int) == (r : Int)) = true := by simp
  unfold EPostH at HC1
  unfold EPostW at HN
  rw [hrr] at HC1 HN
  unfold opC at *
  clear hh hw ha hf hq hrr c0 c2 c4 c5 c6
  go_enter Try.func12, Try.ntmps12
  go_wp2
  go_region_held3 (fun w' => w'.cell? ⟨w.heap.size, 3, none⟩ = some (.string ⟨q.a.toArray⟩)) (first | go_keep | assumption) (first
    | (go_at_call 17; refine HC1.out.mono ?_; rintro e w1 ⟨rfl, K1, hh1, ht1⟩; obtain ⟨hcell1, hc2⟩ := HN.out w1 K1 ht1)
    | (go_at_call 27; refine hc2.out.mono ?_; rintro e w2 ⟨rfl, K2, hw2, ht2⟩; have hcell2 := HN2.out w1 w2 K1 K2 ht1 ht2))
  all_goals
    go_wp2
    go_ret
    exact ⟨rfl, HX.out _ _ _ _ hh1 ht1 hw2 ht2⟩
end
end Go.Proofs.Ytfblekedgenacaa.Right
