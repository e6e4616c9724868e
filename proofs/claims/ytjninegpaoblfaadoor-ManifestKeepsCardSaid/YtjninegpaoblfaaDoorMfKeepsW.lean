/- ManifestKeeps over the program's manifests, walked. Condition: at most 2^47 - 4096 bytes of segments. -/
import Derived.Test.YtjninegpaoblfaaDoorMfKeepsP
import Derived.Deep.CutBlock
import Derived.Shelf.RegionOpen
namespace Go.Proofs.YtjninegpaoblfaaDoor.MfKeepsW
open Go Go.RowKit Go.Shelf Words AppN MfSpec MfMem RefMf RefMw RefMr MfAwake MfLaw RegD Tab MfKeepsP

section
variable {P : Program} {md : Region.Mode} {ops : Array Oper} {Q : Exit → Act → World → Prop} {S : World → Prop} {dep : Nat → Bool}
/-- Either of two may come up. -/
theorem wpAnyD_two {i j : Nat} {oi oj : Oper} {f : Nat} {L : Array Bool} {a : Act} {w : World} (hr : Region.ready md ops L = [i, j]) (hdi : dep i = false) (hdj : dep j = false) (hi : ops[i]? = some oi) (hgi : oi.guard = none) (hj : ops[j]? = some oj) (hgj : oj.guard = none)
    (h1 : ∀ K : Act → World → Prop, Hid (∀ a' w', S w' → wpAnyD P md ops Q S dep f (L.setIfInBounds i true) a' w' → K a' w') → oi.wp P a w K Q)
    (h2 : ∀ K : Act → World → Prop, Hid (∀ a' w', S w' → wpAnyD P md ops Q S dep f (L.setIfInBounds j true) a' w' → K a' w') → oj.wp P a w K Q) : wpAnyD P md ops Q S dep (f + 1) L a w :=
  ⟨fun h0 => (by rw [hr] at h0; cases h0), fun k hk => by
    rw [hr] at hk
    rcases List.mem_cons.1 hk with rfl | hk
    · exact ⟨fun e => (by rw [hdi] at e; cases e), fun _ => wpOp_alone hi hgi (h1 _ (Lib.hid fun _ _ h1 h2 => ⟨h1, h2⟩))⟩
    · obtain rfl : k = j := by simpa using hk
      exact ⟨fun e => (by rw [hdj] at e; cases e), fun _ => wpOp_alone hj hgj (h2 _ (Lib.hid fun _ _ h1 h2 => ⟨h1, h2⟩))⟩⟩
end
theorem own_monoN' {w : World} {n size : Nat} {e : TypeId} {v : Value} {xs : List Value} {x : Obj} {W : World} (h : w.ownsRow (W.alloc x).heap.size e size v n xs) : w.ownsRow W.heap.size e size v n xs := own_monoN h (by rw [World.size_alloc]; exact Nat.le_succ _)
/-- Behind the copy: the manifest is as it was; the copy's box has the copied segments, one more behind its length. -/
structure K4 (w : World) (G1 G3 B : Nat) (wal next : Int) (seq : UInt64) (mark : Int) (segs : List Sg) (A : Option Addr) (n c : Nat) (wx : World) : Prop where
  below : Below w.heap.size w wx
  b1 : Box5 wx G1 (.int .i64 wal) (.int .i64 next) (.int .u64 (seq.toNat : Int)) (.int .i64 mark) (.slice A n c)
  l1 : G1 < B
  l3 : G3 < B
  lB : B ≤ wx.heap.size
  copy : ∃ A2 c2, Box5 wx G3 (.int .i64 wal) (.int .i64 next) (.int .u64 (seq.toNat : Int)) (.int .i64 mark) (.slice A2 n c2) ∧ wx.ownsRow B 41 4 (.slice A2 (n + 1) c2) (n + 1) (flatS (segs ++ [s77])) ∧ n + 1 ≤ c2 ∧ c2 ≤ maxLen
theorem fin_four {w W2 X : World} {G1 G3 : Nat} {wal next : Int} {seq : UInt64} {mark : Int} {segs : List Sg} {A A2 : Option Addr} {n c c2 : Nat} (hw : Below w.heap.size w W2) (h1 : Box5 W2 G1 (.int .i64 wal) (.int .i64 next) (.int .u64 (seq.toNat : Int)) (.int .i64 mark) (.slice A n c))
    (h3 : Box5 W2 G3 (.int .i64 wal) (.int .i64 next) (.int .u64 (seq.toNat : Int)) (.int .i64 mark) (.slice A n c)) (l1 : G1 < W2.heap.size) (l3 : G3 < W2.heap.size) (l13 : G1 ≠ G3) (lw : w.heap.size ≤ G3)
    (hX : Below W2.heap.size W2 X) (hO : X.ownsRow W2.heap.size 41 4 (.slice A2 (n + 1) c2) (n + 1) (flatS (segs ++ [s77]))) (hc : n + 1 ≤ c2) (hm : c2 ≤ maxLen) : K4 w G1 G3 W2.heap.size wal next seq mark segs A n c (X.setCell ⟨G3, 4, none⟩ (.slice A2 n c2)) :=
  ⟨(hw.trans (hX.mono hw.size)).setCell lw _, (heap_setCell_other _ _ _ _ l13).trans (h1.up hX l1), l1, l3, by rw [World.size_setCell]; exact hX.size, A2, c2, heap_setCell_same _ _ 4 _ _ (.slice A2 n c2) (h3.up hX l3), ownsRow_setCell_below hO l3 _, hc, hm⟩

set_option maxHeartbeats 6400000 in
set_option maxRecDepth 100000 in
theorem keeps_walk (P : Mfs) (w : World) (hL : Laid w w.heap.size) (m : MM) (hm : OkM w m) (hwt : m.1.segs.length * 32 ≤ 140737488351232) :
    Calls Tryd.prog 5 #[aggM m] w fun e w' => e = .returned (.bool true) ∧ Below w.heap.size w w' := by
  have HL := Lib.hid hL
  have HM := Lib.hid hm
  have HBA : Hid (Below w.heap.size w (w.alloc (boxM m))) := Lib.hid ((Below.refl _ w).alloc (Nat.le_refl _) _)
  have HA := Lib.hid (awake_any P (w.alloc (boxM m)) ((hL.below HBA.out).more HBA.out.size))
  have hx : Box5 (w.alloc (boxM m)) w.heap.size (.int .i64 m.1.wal) (.int .i64 m.1.next) (.int .u64 (m.1.seq.toNat : Int)) (.int .i64 m.1.mark) (.slice m.2.1 m.2.2.1 m.2.2.2) := heap_alloc_new w _
  have HX := Lib.hid hx
  have hw0 : w.heap.size < (w.alloc (boxM m)).heap.size := by simp
  obtain ⟨⟨wal, next, seq, mark, segs⟩, A, n, c⟩ := m
  have HR := Lib.hid hm.segs.rd
  have HN := Lib.hid hm.segs.len
  have hnc := hm.segs.le
  have hcm := hm.segs.cap
  unfold maxLen at hcm
  clear hL hm hx
  unfold boxM at HBA HA HX hw0
  unfold aggM slV
  simp only at HBA HA HX HR HN hnc hcm hwt hw0 ⊢
  go_enter Tryd.func5, Tryd.ntmps5
  go_wp2_with fail
  refine HA.out.mono ?_
  rintro e w1 ⟨rfl, hb1⟩
  have HB1 : Hid (Below w.heap.size w w1) := Lib.hid (HBA.out.trans (hb1.mono HBA.out.size))
  have HX1 := Lib.hid (HX.out.up hb1 hw0)
  have hw1 : w.heap.size < w1.heap.size := Nat.lt_of_lt_of_le hw0 hb1.size
  clear hb1 HA HX HBA hw0
  obtain ⟨x0, x1, x2, x3, x4⟩ := HX1.out.facts.1
  obtain ⟨W2, hW2⟩ : ∃ W2, W2 = w1.alloc (.cells #[.int .i64 wal, .int .i64 next, .int .u64 (seq.toNat : Int), .int .i64 mark, .slice A n c] 25) := ⟨_, rfl⟩
  have HBW2 : Hid (Below w.heap.size w W2) := Lib.hid (by rw [hW2]; exact HB1.out.alloc HB1.out.size _)
  have HBX1 : Hid (Box5 W2 w.heap.size (.int .i64 wal) (.int .i64 next) (.int .u64 (seq.toNat : Int)) (.int .i64 mark) (.slice A n c)) := Lib.hid (by rw [hW2]; exact (Below.heap_alloc _ _ _ hw1).trans HX1.out)
  have HBX3 : Hid (Box5 W2 w1.heap.size (.int .i64 wal) (.int .i64 next) (.int .u64 (seq.toNat : Int)) (.int .i64 mark) (.slice A n c)) := Lib.hid (by rw [hW2]; exact heap_alloc_new w1 _)
  have hsz2 : W2.heap.size = w1.heap.size + 1 := by rw [hW2]; simp
  have HW2 : Hid (w1.alloc (.cells #[.int .i64 wal, .int .i64 next, .int .u64 (seq.toNat : Int), .int .i64 mark, .slice A n c] 25) = W2) := Lib.hid hW2.symm
  clear hW2
  have hG1 : w.heap.size < W2.heap.size := by omega
  have hG3 : w1.heap.size < W2.heap.size := by omega
  have hG13 : w.heap.size ≠ w1.heap.size := by omega
  have hG3w : w.heap.size ≤ w1.heap.size := by omega
  have HS2 := Lib.hid hsz2
  go_upto_region 4 with (fail)
  rw [HW2.out]
  clear x0 x1 x2 x3 x4 hsz2
  obtain ⟨G3, hg3⟩ : ∃ G3, w1.heap.size = G3 := ⟨_, rfl⟩
  rw [hg3] at HBX3 hG3 hG13 hG3w
  rw [hg3]
  clear hg3
  have hwn : n * 32 ≤ 140737488351232 := by have := HN.out; omega
  clear hwt
  go_cut [3] from 15 to 26 (fun s3 wx => s3 = .pointer (some ⟨G3, 0, none⟩) ∧ Hid (K4 w w.heap.size G3 W2.heap.size wal next seq mark segs A n c wx))
  case first =>
    have BA : ∀ o, Below W2.heap.size W2 (W2.drew.alloc o) := fun o => (below_drew1 (Below.refl _ W2)).alloc (Nat.le_refl _) o
    have BA2 : ∀ o o', Below W2.heap.size W2 ((W2.drew.alloc o).alloc o') := fun o o' => (BA o).alloc (BA o).size o'
    have y1 := HBX1.out.facts.1.2.2.2.2
    have y4 := HBX3.out.facts.1.2.2.2.2
    have up : ∀ w', Below W2.heap.size W2 w' → w'.cell? ⟨w.heap.size, 4, none⟩ = some (.slice A n c) := fun w' hb => cell_up hb (p := ⟨w.heap.size, 4, none⟩) hG1 y1
    have T1 := Lib.hid (up W2.drew (below_drew1 (Below.refl _ W2)))
    refine wp_region_D (fun j => j == 12) (fun w' => w'.cell? ⟨w.heap.size, 4, none⟩ = some (.slice A n c)) (by kernel_rfl) ?_
    refine wpAnyD_take (i := 1) (v := ?_) rfl (by kernel_rfl) (fun _ _ _ h => h) (Or.inl ⟨by kernel_rfl, ?_⟩) T1.out ?_
    rotate_left
    · intro w9 t1
      first | (go_simp; with_reducible rfl) | go_simp
    try simp only [Act.put, List.setIfInBounds_toArray]
    refine wpAnyD_take (i := 2) (v := ?_) rfl (by kernel_rfl) (fun _ _ _ h => h) (Or.inl ⟨by kernel_rfl, ?_⟩) T1.out ?_
    rotate_left
    · intro w9 t1
      first | (go_simp; with_reducible rfl) | go_simp
    try simp only [Act.put]
    refine wpAnyD_take (i := 4) (v := ?_) rfl (by kernel_rfl) (fun _ _ _ h => h) (Or.inl ⟨by kernel_rfl, ?_⟩) T1.out ?_
    rotate_left
    · intro w9 t1
      first | (go_simp; with_reducible rfl) | go_simp
    try simp only [Act.put]
    refine wpAnyD_take (i := 7) (v := ?_) rfl (by kernel_rfl) (fun _ _ _ h => h) (Or.inl ⟨by kernel_rfl, ?_⟩) T1.out ?_
    rotate_left
    · intro w9 t1
      first | (go_simp; with_reducible rfl) | go_simp
    try simp only [Act.put]
    refine wpAnyD_take (i := 8) (v := ?_) rfl (by kernel_rfl) (fun _ _ _ h => h) (Or.inl ⟨by kernel_rfl, ?_⟩) T1.out ?_
    rotate_left
    · intro w9 t1
      first | (go_simp; with_reducible rfl) | go_simp
    try simp only [Act.put]
    refine wpAnyD_take (i := 9) (v := ?_) rfl (by kernel_rfl) (fun _ _ _ h => h) (Or.inl ⟨by kernel_rfl, ?_⟩) T1.out ?_
    rotate_left
    · intro w9 t1
      first | (go_simp; with_reducible rfl) | go_simp
    try simp only [Act.put]
    refine wpAnyD_two (i := 0) (j := 5) (by kernel_rfl) rfl rfl rfl rfl rfl rfl (fun K hK => ?_) (fun K hK => ?_)
    case refine_1 =>
      go_simp
      refine hK.out _ _ (up _ (BA _)) ?_
      clear hK K
      try simp only [Act.put, List.setIfInBounds_toArray, List.set_cons_zero, List.set_cons_succ]
      refine wpAnyD_two (i := 3) (j := 5) (by kernel_rfl) rfl rfl rfl rfl rfl rfl (fun K hK => ?_) (fun K hK => ?_)
      case refine_1 =>
        obtain ⟨v1, X2, hr1, ho1, hg1⟩ := app_one ((W2.alloc (.cells #[] 41)).drew) W2.heap.size W2.heap.size (emp_own W2.drew) (BA _).size n A c segs HN.out w.heap.size (HR.out.below (HBW2.out.trans ((BA _).mono HBW2.out.size))) hwn
        have hX2 : Below W2.heap.size W2 X2 := (BA _).grown hg1 (BA _).size (fun j hj => by cases hj; exact Nat.le_refl _)
        have hX3 : Below W2.heap.size W2 (X2.alloc (.cells #[.int .i64 77, .int .i64 0, .int .i64 0, .int .i64 0] 41)) := hX2.alloc hX2.size _
        obtain ⟨A2, c2, X4, hr2, ho2, hg2, hc2⟩ := app_two (X2.alloc (.cells #[.int .i64 77, .int .i64 0, .int .i64 0, .int .i64 0] 41)) W2.heap.size X2.heap.size segs n HN.out v1 (ho1.alloc _) hX3.size (heap_alloc_new X2 _) hwn
        have hX4 : Below W2.heap.size W2 X4 := hX3.grown hg2 hX3.size (fun j hj => (ho1.lt j hj).1)
        obtain ⟨hc2a, hc2b⟩ := hc2
        have hn2 : n ≤ c2 := by omega
        clear ho1 hg1 hg2
        refine wp_append_at (Lib.hid hr1) (.tmp 15) (.tmp 17) rfl rfl rfl rfl ?_ ?_
        · with_reducible rfl
        refine hK.out _ _ (up _ (hX2)) ?_
        clear hK K
        try simp only [Act.put, List.setIfInBounds_toArray]
        refine wpAnyD_one (j := 5) (by kernel_rfl) rfl rfl rfl (fun K hK => ?_)
        go_simp
        refine hK.out _ _ (up _ (hX3)) ?_
        clear hK K
        try simp only [Act.put, List.setIfInBounds_toArray, List.set_cons_zero, List.set_cons_succ]
        refine wpAnyD_one (j := 6) (by kernel_rfl) rfl rfl rfl (fun K hK => ?_)
        refine wp_append_at (Lib.hid hr2) (.tmp 18) (.tmp 20) rfl rfl rfl rfl ?_ ?_
        · with_reducible rfl
        refine hK.out _ _ (up _ (hX4)) ?_
        clear hK K
        try simp only [Act.put, List.setIfInBounds_toArray]
        refine wpAnyD_one (j := 10) (by kernel_rfl) rfl rfl rfl (fun K hK => ?_)
        go_simp
        refine hK.out _ _ (up _ (hX4)) ?_
        clear hK K
        try simp only [Act.put, List.setIfInBounds_toArray, List.set_cons_zero, List.set_cons_succ]
        refine wpAnyD_one (j := 11) (by kernel_rfl) rfl rfl rfl (fun K hK => ?_)
        go_simp
        refine hK.out _ _ (up _ (hX4)) ?_
        clear hK K
        try simp only [Act.put, List.setIfInBounds_toArray, List.set_cons_zero, List.set_cons_succ]
        have d3 : X4.cell? ⟨G3, 4, none⟩ = some (.slice A n c) := cell_up (hX4) (p := ⟨G3, 4, none⟩) hG3 y4
        have d4 : X4.frozen? ⟨G3, 4, none⟩ = false := RefMr.frozen_of_heap (show X4.heap[G3]? = _ from ((hX4).block _ hG3).trans HBX3.out)
        refine wpAnyD_dep (j := 12) (by kernel_rfl) rfl rfl rfl (fun K hK => ?_)
        go_simp
        refine hK.out _ _ ⟨by kernel_rfl, ?_⟩
        clear hK K
        have HEND := fin_four HBW2.out HBX1.out HBX3.out hG1 hG3 hG13 hG3w (hX4) (And.intro ho2 (And.intro hc2a hc2b)).1 (And.intro ho2 (And.intro hc2a hc2b)).2.1 (And.intro ho2 (And.intro hc2a hc2b)).2.2
        clear d3 d4
        go_wp2
        go_meet
        exact ⟨rfl, Lib.hid HEND⟩
      case refine_2 =>
        go_simp
        refine hK.out _ _ (up _ (BA2 _ _)) ?_
        clear hK K
        try simp only [Act.put, List.setIfInBounds_toArray, List.set_cons_zero, List.set_cons_succ]
        obtain ⟨v1, X3, hr1, ho1, hg1⟩ := app_one (((W2.alloc (.cells #[] 41)).alloc (.cells #[.int .i64 77, .int .i64 0, .int .i64 0, .int .i64 0] 41)).drew) W2.heap.size W2.heap.size ((emp_own W2.drew).alloc _) (BA2 _ _).size n A c segs HN.out w.heap.size (HR.out.below (HBW2.out.trans ((BA2 _ _).mono HBW2.out.size))) hwn
        have hX3 : Below W2.heap.size W2 X3 := (BA2 _ _).grown hg1 (BA2 _ _).size (fun j hj => by cases hj; exact Nat.le_refl _)
        have hgl : X3.heap[W2.heap.size + 1]? = some (.cells #[.int .i64 77, .int .i64 0, .int .i64 0, .int .i64 0] 41 (0, 0)) := (hg1.block _ (by simp) (by simp)).trans (heap_alloc2_new W2.drew _ _)
        obtain ⟨A2, c2, X4, hr2, ho2, hg2, hc2⟩ := app_two X3 W2.heap.size (W2.heap.size + 1) segs n HN.out v1 ho1 hX3.size hgl hwn
        have hX4 : Below W2.heap.size W2 X4 := hX3.grown hg2 hX3.size (fun j hj => (ho1.lt j hj).1)
        obtain ⟨hc2a, hc2b⟩ := hc2
        have hn2 : n ≤ c2 := by omega
        clear ho1 hg1 hg2 hgl
        refine wpAnyD_one (j := 3) (by kernel_rfl) rfl rfl rfl (fun K hK => ?_)
        refine wp_append_at (Lib.hid hr1) (.tmp 15) (.tmp 17) rfl rfl rfl rfl ?_ ?_
        · with_reducible rfl
        refine hK.out _ _ (up _ (hX3)) ?_
        clear hK K
        try simp only [Act.put, List.setIfInBounds_toArray]
        refine wpAnyD_one (j := 6) (by kernel_rfl) rfl rfl rfl (fun K hK => ?_)
        refine wp_append_at (Lib.hid hr2) (.tmp 18) (.tmp 20) rfl rfl rfl rfl ?_ ?_
        · with_reducible rfl
        refine hK.out _ _ (up _ (hX4)) ?_
        clear hK K
        try simp only [Act.put]
        refine wpAnyD_one (j := 10) (by kernel_rfl) rfl rfl rfl (fun K hK => ?_)
        go_simp
        refine hK.out _ _ (up _ (hX4)) ?_
        clear hK K
        try simp only [Act.put, List.setIfInBounds_toArray, List.set_cons_zero, List.set_cons_succ]
        refine wpAnyD_one (j := 11) (by kernel_rfl) rfl rfl rfl (fun K hK => ?_)
        go_simp
        refine hK.out _ _ (up _ (hX4)) ?_
        clear hK K
        try simp only [Act.put, List.setIfInBounds_toArray, List.set_cons_zero, List.set_cons_succ]
        have d3 : X4.cell? ⟨G3, 4, none⟩ = some (.slice A n c) := cell_up (hX4) (p := ⟨G3, 4, none⟩) hG3 y4
        have d4 : X4.frozen? ⟨G3, 4, none⟩ = false := RefMr.frozen_of_heap (show X4.heap[G3]? = _ from ((hX4).block _ hG3).trans HBX3.out)
        refine wpAnyD_dep (j := 12) (by kernel_rfl) rfl rfl rfl (fun K hK => ?_)
        go_simp
        refine hK.out _ _ ⟨by kernel_rfl, ?_⟩
        clear hK K
        have HEND := fin_four HBW2.out HBX1.out HBX3.out hG1 hG3 hG13 hG3w (hX4) (And.intro ho2 (And.intro hc2a hc2b)).1 (And.intro ho2 (And.intro hc2a hc2b)).2.1 (And.intro ho2 (And.intro hc2a hc2b)).2.2
        clear d3 d4
        go_wp2
        go_meet
        exact ⟨rfl, Lib.hid HEND⟩
    case refine_2 =>
      go_simp
      refine hK.out _ _ (up _ (BA _)) ?_
      clear hK K
      try simp only [Act.put, List.setIfInBounds_toArray, List.set_cons_zero, List.set_cons_succ]
      refine wpAnyD_one (j := 0) (by kernel_rfl) rfl rfl rfl (fun K hK => ?_)
      go_simp
      refine hK.out _ _ (up _ (BA2 _ _)) ?_
      clear hK K
      try simp only [Act.put, List.setIfInBounds_toArray, List.set_cons_zero, List.set_cons_succ]
      obtain ⟨v1, X3, hr1, ho1, hg1⟩ := app_one (((W2.alloc (.cells #[.int .i64 77, .int .i64 0, .int .i64 0, .int .i64 0] 41)).alloc (.cells #[] 41)).drew) W2.heap.size (W2.heap.size + 1) (by have h := own_monoN' (W := W2) (emp_own (W2.alloc (.cells #[.int .i64 77, .int .i64 0, .int .i64 0, .int .i64 0] 41))); rw [World.size_alloc] at h; exact h) (BA2 _ _).size n A c segs HN.out w.heap.size (HR.out.below (HBW2.out.trans ((BA2 _ _).mono HBW2.out.size))) hwn
      have hX3 : Below W2.heap.size W2 X3 := (BA2 _ _).grown hg1 (BA2 _ _).size (fun j hj => by cases hj; exact Nat.le_succ _)
      have hgl : X3.heap[W2.heap.size]? = some (.cells #[.int .i64 77, .int .i64 0, .int .i64 0, .int .i64 0] 41 (0, 0)) := (hg1.block _ (by simp; omega) (by simp)).trans ((Below.heap_alloc _ _ _ (by simp)).trans (heap_alloc_new W2.drew _))
      obtain ⟨A2, c2, X4, hr2, ho2, hg2, hc2⟩ := app_two X3 W2.heap.size W2.heap.size segs n HN.out v1 ho1 hX3.size hgl hwn
      have hX4 : Below W2.heap.size W2 X4 := hX3.grown hg2 hX3.size (fun j hj => (ho1.lt j hj).1)
      obtain ⟨hc2a, hc2b⟩ := hc2
      have hn2 : n ≤ c2 := by omega
      clear ho1 hg1 hg2 hgl
      refine wpAnyD_one (j := 3) (by kernel_rfl) rfl rfl rfl (fun K hK => ?_)
      refine wp_append_at (Lib.hid hr1) (.tmp 15) (.tmp 17) rfl rfl rfl rfl ?_ ?_
      · with_reducible rfl
      refine hK.out _ _ (up _ (hX3)) ?_
      clear hK K
      try simp only [Act.put, List.setIfInBounds_toArray]
      refine wpAnyD_one (j := 6) (by kernel_rfl) rfl rfl rfl (fun K hK => ?_)
      refine wp_append_at (Lib.hid hr2) (.tmp 18) (.tmp 20) rfl rfl rfl rfl ?_ ?_
      · with_reducible rfl
      refine hK.out _ _ (up _ (hX4)) ?_
      clear hK K
      try simp only [Act.put]
      refine wpAnyD_one (j := 10) (by kernel_rfl) rfl rfl rfl (fun K hK => ?_)
      go_simp
      refine hK.out _ _ (up _ (hX4)) ?_
      clear hK K
      try simp only [Act.put, List.setIfInBounds_toArray, List.set_cons_zero, List.set_cons_succ]
      refine wpAnyD_one (j := 11) (by kernel_rfl) rfl rfl rfl (fun K hK => ?_)
      go_simp
      refine hK.out _ _ (up _ (hX4)) ?_
      clear hK K
      try simp only [Act.put, List.setIfInBounds_toArray, List.set_cons_zero, List.set_cons_succ]
      have d3 : X4.cell? ⟨G3, 4, none⟩ = some (.slice A n c) := cell_up (hX4) (p := ⟨G3, 4, none⟩) hG3 y4
      have d4 : X4.frozen? ⟨G3, 4, none⟩ = false := RefMr.frozen_of_heap (show X4.heap[G3]? = _ from ((hX4).block _ hG3).trans HBX3.out)
      refine wpAnyD_dep (j := 12) (by kernel_rfl) rfl rfl rfl (fun K hK => ?_)
      go_simp
      refine hK.out _ _ ⟨by kernel_rfl, ?_⟩
      clear hK K
      have HEND := fin_four HBW2.out HBX1.out HBX3.out hG1 hG3 hG13 hG3w (hX4) (And.intro ho2 (And.intro hc2a hc2b)).1 (And.intro ho2 (And.intro hc2a hc2b)).2.1 (And.intro ho2 (And.intro hc2a hc2b)).2.2
      clear d3 d4
      go_wp2
      go_meet
      exact ⟨rfl, Lib.hid HEND⟩
  case rest =>
    obtain ⟨rfl, hk4⟩ := hcut
    obtain ⟨w4, hw4⟩ : ∃ w4, w4 = wc := ⟨_, rfl⟩
    subst hw4
    clear HBX1 HBX3 HBW2 HW2 HX1 HB1 HS2 hw1
    obtain ⟨B, hB⟩ : ∃ B, W2.heap.size = B := ⟨_, rfl⟩
    rw [hB] at hk4 hG1 hG3
    clear hB
    obtain ⟨A2, c2, hz3, hown2, hn2, hm2⟩ := hk4.out.copy
    have HO2 := Lib.hid hown2
    have HZ3 := Lib.hid hz3
    have HZ1 := Lib.hid hk4.out.b1
    have hn2' : n ≤ c2 := by omega
    have hOKM : OkM w4 (⟨wal, next, seq, mark, segs⟩, A2, n, c2) := ⟨⟨HN.out, hn2', hm2, by
      have h5 : w4.ownsRow B 41 4 (.slice A2 (n + 1) c2) (segs ++ [s77]).length (flatS (segs ++ [s77])) := by rw [List.length_append, List.length_singleton, ← HN.out]; exact hown2
      obtain ⟨A', c', e, hs, _⟩ := own_sgs h5
      injection e with e1 _ e2
      subst e1
      have h2 := hs.rd.take (n * 4)
      rw [flatS_take, List.take_left' HN.out.symm] at h2
      exact h2⟩, HM.out.ok⟩
    have HOKM := Lib.hid hOKM
    have hBw := hk4.out.lB
    have HBc := Lib.hid hk4.out.below
    have H5 := Lib.hid (P.write w4 (⟨wal, next, seq, mark, segs⟩, A2, n, c2) hOKM ((HL.out.below HBc.out).more HBc.out.size))
    unfold WPost aggM slV at H5
    simp only at H5
    obtain ⟨x0, x1, x2, x3, x4⟩ := hz3.facts.1
    clear hz3 hown2 hOKM hk4
    go_wp2_with fail
    refine H5.out.mono ?_
    rintro e w5 ⟨v5, rfl, hown5, hb5⟩
    have HB5 : Hid (Below w.heap.size w w5) := Lib.hid (HBc.out.trans (hb5.mono HBc.out.size))
    have hwc : w.heap.size < w4.heap.size ∧ G3 < w4.heap.size := by omega
    have HZ15 := Lib.hid (HZ1.out.up hb5 hwc.1)
    have HZ35 := Lib.hid (HZ3.out.up hb5 hwc.2)
    have HO25 := Lib.hid (own_keepN HO2.out hb5)
    have HO5 := Lib.hid hown5
    have HWR := Lib.hid (rfl : MfSpec.write ⟨wal, next, seq, mark, segs⟩ = MfSpec.write ⟨wal, next, seq, mark, segs⟩)
    have hs5 := hb5.size
    have HOK3 := Lib.hid (HOKM.out.below hb5)
    have HOK1 := Lib.hid (HM.out.below HB5.out)
    clear hb5 hown5 H5 HZ1 HZ3 HO2 x0 x1 x2 x3 x4 HOKM HBc
    obtain ⟨⟨we, wb⟩, hwr⟩ : ∃ r, MfSpec.write ⟨wal, next, seq, mark, segs⟩ = r := ⟨_, rfl⟩
    have HWE := Lib.hid hwr
    simp only [hwr] at HO5
    simp only [hwr]
    clear hwr HWR
    have HSM := Lib.hid (fun (W : World) (hb : Below w5.heap.size w5 W) => same_any W (⟨wal, next, seq, mark, segs⟩, A2, n, c2) (⟨wal, next, seq, mark, segs⟩, A, n, c) (HOK3.out.below hb) (HOK1.out.below hb) true (decide_eq_true rfl))
    unfold aggM slV at HSM
    simp only at HSM
    obtain ⟨y0, y1, y2, y3, y4⟩ := HZ15.out.facts.1
    obtain ⟨z0, z1, z2, z3, z4⟩ := HZ35.out.facts.1
    obtain ⟨g2, hg2⟩ : ∃ g2, A2 = some ⟨g2, 0, none⟩ := by
      rcases HO25.out.2 with ⟨h, _⟩ | ⟨g, cap, cur, hv, _⟩
      · injection h with h _ _; omega
      · injection hv with hv _ _; exact ⟨g, hv⟩
    subst hg2
    have k77 : w5.cell? ⟨g2, n * 4, none⟩ = some (.int .i64 77) := by
      have h1 := HO25.out.cells (g := g2) rfl (n * 4) (.int .i64 77) (by
        have hl : (flatS segs).length = n * 4 := by rw [flatS_len, HN.out]
        rw [flatS_append, List.getElem?_append_right (by omega), hl, Nat.sub_self]
        rfl)
      rwa [add_off, Nat.zero_add] at h1
    have hn1 : n + 1 ≤ c2 := hn2
    have hi1 : IntKind.i64.wrap ((n : Int) + 1) = (n : Int) + 1 := IntWalk.i64_in _ (by omega)
    have hI1 : (0 : Int) ≤ (n : Int) + 1 := by omega
    have hI2 : (n : Int) + 1 ≤ (c2 : Int) := by omega
    have hI3 : ((n : Int) + 1).toNat = n + 1 := by omega
    have hI4 : (n : Int) < (n : Int) + 1 := by omega
    have hI5 : (0 : Int) ≤ (n : Int) := by omega
    have u0 : ∀ d os, (Sort.grow (redrawn w5 d) os).cell? ⟨w.heap.size, 0, none⟩ = some (.int .i64 wal) := fun d os => cell_regrown y0 d os
    have u1 : ∀ d os, (Sort.grow (redrawn w5 d) os).cell? ⟨w.heap.size, 1, none⟩ = some (.int .i64 next) := fun d os => cell_regrown y1 d os
    have u2 : ∀ d os, (Sort.grow (redrawn w5 d) os).cell? ⟨w.heap.size, 2, none⟩ = some (.int .u64 (seq.toNat : Int)) := fun d os => cell_regrown y2 d os
    have u3 : ∀ d os, (Sort.grow (redrawn w5 d) os).cell? ⟨w.heap.size, 3, none⟩ = some (.int .i64 mark) := fun d os => cell_regrown y3 d os
    have u4 : ∀ d os, (Sort.grow (redrawn w5 d) os).cell? ⟨w.heap.size, 4, none⟩ = some (.slice A n c) := fun d os => cell_regrown y4 d os
    have v0 : ∀ d os, (Sort.grow (redrawn w5 d) os).cell? ⟨G3, 0, none⟩ = some (.int .i64 wal) := fun d os => cell_regrown z0 d os
    have v1 : ∀ d os, (Sort.grow (redrawn w5 d) os).cell? ⟨G3, 1, none⟩ = some (.int .i64 next) := fun d os => cell_regrown z1 d os
    have v2 : ∀ d os, (Sort.grow (redrawn w5 d) os).cell? ⟨G3, 2, none⟩ = some (.int .u64 (seq.toNat : Int)) := fun d os => cell_regrown z2 d os
    have v3 : ∀ d os, (Sort.grow (redrawn w5 d) os).cell? ⟨G3, 3, none⟩ = some (.int .i64 mark) := fun d os => cell_regrown z3 d os
    have v4 : ∀ d os, (Sort.grow (redrawn w5 d) os).cell? ⟨G3, 4, none⟩ = some (.slice (some ⟨g2, 0, none⟩) n c2) := fun d os => cell_regrown z4 d os
    have v7 : ∀ d os, (Sort.grow (redrawn w5 d) os).cell? ⟨g2, n * 4, none⟩ = some (.int .i64 77) := fun d os => cell_regrown k77 d os
    clear y0 y1 y2 y3 y4 z0 z1 z2 z3 z4 k77
    go_upto_region 6 with (fail)
    go_cut [51] from 32 to 51 (fun s51 wx => s51 = .bool false ∧ Hid (Below w5.heap.size w5 wx))
    case first =>
      refine wp_region_quiet_below (by kernel_rfl) (by kernel_rfl) ?_
      repeat (quiet_step (exact Calls.regrown_of (HSM.out _ (below_regrown _ _ _))))
      refine wpQuiet_nil ?_
      rintro w9 ⟨⟨dq, oq⟩, rfl⟩
      have hbb := below_regrown w5 dq oq
      go_wp2
      go_meet
      exact ⟨rfl, Lib.hid hbb⟩
    case rest =>
      obtain ⟨rfl, hb6⟩ := hcut
      obtain ⟨w6, hw6⟩ : ∃ w6, w6 = wc := ⟨_, rfl⟩
      subst hw6
      have HB6 : Hid (Below w.heap.size w w6) := Lib.hid (HB5.out.trans (hb6.out.mono HB5.out.size))
      have hw5 : w.heap.size < w5.heap.size := by omega
      have HZ16 := Lib.hid (HZ15.out.up hb6.out hw5)
      have HO6 := Lib.hid (own_keepN HO5.out hb6.out)
      have hs6 := hb6.out.size
      clear hb6 u0 u1 u2 u3 u4 v0 v1 v2 v3 v4 v7 HSM HOK3 HOK1 HO25 HZ35 HZ15 hI1 hI2 hI3 hI4 hI5 hi1 hn1 hn2 hn2' hG3 hG3w hG13
      by_cases hmf : may ⟨wal, next, seq, mark, segs⟩ = true
      case neg =>
        have he : (we, wb) = (1, []) := HWE.out.symm.trans (write_no hmf)
        simp only [Prod.mk.injEq] at he
        obtain ⟨rfl, rfl⟩ := he
        obtain ⟨A5, c5, rfl, _, _, _⟩ := Put.own_slice HO6.out
        clear hmf HWE
        go_wp2
        go_ret
        exact ⟨rfl, HB6.out⟩
      have he : (we, wb) = (0, mbytes ⟨wal, next, seq, mark, segs⟩) := HWE.out.symm.trans (write_ok hmf)
      simp only [Prod.mk.injEq] at he
      obtain ⟨rfl, hwb⟩ := he
      have HRD : Hid (MfSpec.read wb = (0, ⟨wal, next, seq, mark, segs⟩)) := Lib.hid (by rw [hwb]; exact read_is ⟨HM.out.ok, hmf, rfl⟩)
      have hfew : n ≤ 1024 := by have := (may_of HM.out.ok hmf).head.few; have := HN.out; simp only at *; omega
      have hwl : wb.length ≤ 41024 := by rw [hwb]; exact bytes_len (may_of HM.out.ok hmf).head
      have hpos : 0 < wb.length := by
        rw [hwb]
        unfold mbytes
        rw [Framed.frm_length]
        omega
      clear hwb hmf HWE
      obtain ⟨A5, c5, rfl, hc5, hm5, _⟩ := Put.own_slice HO6.out
      obtain ⟨g5, hg5⟩ : ∃ g5, A5 = some ⟨g5, 0, none⟩ := by
        obtain ⟨A', c', e, hh⟩ := own_shape HO6.out
        injection e with e _ _
        obtain ⟨g, hg⟩ := hh hpos
        exact ⟨g, e.trans hg⟩
      subst hg5
      have hg5l := HO6.out.lt g5 rfl
      have hq5 : w4.heap.size ≤ g5 ∧ g5 < w6.heap.size := hg5l
      have hR6 := Rd.of_own HO6.out
      have H7 := Lib.hid (fun (W : World) (hb : Below w6.heap.size w6 W) => P.read W wb (some ⟨g5, 0, none⟩) wb.length c5 rfl ((hR6.below hb).more hb.size) hc5 hm5 ((HL.out.below (HB6.out.trans (hb.mono HB6.out.size))).more (HB6.out.trans (hb.mono HB6.out.size)).size))
      rw [HRD.out] at H7
      replace H7 := Lib.hid (fun (W : World) (hb : Below w6.heap.size w6 W) => (H7.out W hb).mono fun e w' h => rpost_n (n := n) (by rw [HN.out]) h)
      simp only at H7
      have hnb9 : wb.length ≤ 9223372036854775800 := by
        have h1 := HO6.out.1
        have h2 : c5 ≤ maxLen := hm5
        have h3 : wb.length ≤ 41024 := hwl
        omega
      clear HRD hR6 hc5 hm5 hg5l hwl
      obtain ⟨nb, hnb⟩ : ∃ nb, wb.length = nb := ⟨_, rfl⟩
      rw [hnb] at HO6 hpos H7 hnb9
      rw [hnb]
      clear hnb
      go_wp2_with fail
      refine (H7.out w6 (Below.refl _ _)).mono ?_
      rintro e w7 ⟨Ax, cx, rfl, hownx, hb7⟩
      have hqx : ∀ q, (Value.slice Ax n cx).ownBlock = some q → w6.heap.size ≤ q ∧ q < w7.heap.size := hownx.lt
      obtain ⟨w8, hw8⟩ : ∃ w8, w8 = w7.alloc (.cells #[.int .i64 wal, .int .i64 next, .int .u64 (seq.toNat : Int), .int .i64 mark, .slice Ax n cx] 25) := ⟨_, rfl⟩
      have hb68 : Below w6.heap.size w6 w8 := by rw [hw8]; exact hb7.alloc hb7.size _
      have hs8 : w8.heap.size = w7.heap.size + 1 := by rw [hw8]; simp
      have HB68 := Lib.hid hb68
      have HX8 : Hid (w8.ownsRow w6.heap.size 41 4 (.slice Ax n cx) n (flatS segs)) := Lib.hid (by rw [hw8]; exact hownx.alloc _)
      have HZ68 : Hid (Box5 w8 w7.heap.size (.int .i64 wal) (.int .i64 next) (.int .u64 (seq.toNat : Int)) (.int .i64 mark) (.slice Ax n cx)) := Lib.hid (by rw [hw8]; exact heap_alloc_new w7 _)
      have HW8 : Hid (w7.alloc (.cells #[.int .i64 wal, .int .i64 next, .int .u64 (seq.toNat : Int), .int .i64 mark, .slice Ax n cx] 25) = w8) := Lib.hid hw8.symm
      have h67 := hb7.size
      clear hw8 hb68 hownx hb7
      go_wp2_with fail
      rw [HW8.out]
      refine (H7.out w8 HB68.out).mono ?_
      rintro e w9 ⟨Ay, cy, rfl, howny, hb9⟩
      have hqy : ∀ q, (Value.slice Ay n cy).ownBlock = some q → w8.heap.size ≤ q ∧ q < w9.heap.size := howny.lt
      obtain ⟨w10, hw10⟩ : ∃ w10, w10 = w9.alloc (.cells #[.int .i64 wal, .int .i64 next, .int .u64 (seq.toNat : Int), .int .i64 mark, .slice Ay n cy] 25) := ⟨_, rfl⟩
      have hb810 : Below w8.heap.size w8 w10 := by rw [hw10]; exact hb9.alloc hb9.size _
      have hs10 : w10.heap.size = w9.heap.size + 1 := by rw [hw10]; simp
      have h89 := hb9.size
      have HY10 : Hid (w10.ownsRow w8.heap.size 41 4 (.slice Ay n cy) n (flatS segs)) := Lib.hid (by rw [hw10]; exact howny.alloc _)
      have HZ7 : Hid (Box5 w10 w9.heap.size (.int .i64 wal) (.int .i64 next) (.int .u64 (seq.toNat : Int)) (.int .i64 mark) (.slice Ay n cy)) := Lib.hid (by rw [hw10]; exact heap_alloc_new w9 _)
      have HW10 : Hid (w9.alloc (.cells #[.int .i64 wal, .int .i64 next, .int .u64 (seq.toNat : Int), .int .i64 mark, .slice Ay n cy] 25) = w10) := Lib.hid hw10.symm
      have hb610 : Below w6.heap.size w6 w10 := HB68.out.trans (hb810.mono HB68.out.size)
      have HB10 : Hid (Below w.heap.size w w10) := Lib.hid (HB6.out.trans (hb610.mono HB6.out.size))
      have HX10 : Hid (w10.ownsRow w6.heap.size 41 4 (.slice Ax n cx) n (flatS segs)) := Lib.hid (own_keepN HX8.out hb810)
      have HZ6 : Hid (Box5 w10 w7.heap.size (.int .i64 wal) (.int .i64 next) (.int .u64 (seq.toNat : Int)) (.int .i64 mark) (.slice Ax n cx)) := Lib.hid (HZ68.out.up hb810 (by omega))
      have HZ1 : Hid (Box5 w10 w.heap.size (.int .i64 wal) (.int .i64 next) (.int .u64 (seq.toNat : Int)) (.int .i64 mark) (.slice A n c)) := Lib.hid (HZ16.out.up hb610 (by omega))
      have HO10 : Hid (w10.ownsRow w4.heap.size 5 1 (.slice (some ⟨g5, 0, none⟩) nb c5) nb (wb.map B8)) := Lib.hid (own_keepN HO6.out hb610)
      have hord : w.heap.size < g5 ∧ g5 < w6.heap.size ∧ w6.heap.size ≤ w7.heap.size ∧ w7.heap.size < w8.heap.size ∧ w8.heap.size ≤ w9.heap.size ∧ w9.heap.size < w10.heap.size := by omega
      clear hw10 hb810 howny hb9 hb610 HX8 HZ68 HB68 HO6 HZ16 H7 HW8 HO5 HB5 HB6
      obtain ⟨G6, hg6⟩ : ∃ G6, w7.heap.size = G6 := ⟨_, rfl⟩
      rw [hg6] at HZ6 hord hqx
      rw [hg6]
      obtain ⟨G7, hg7⟩ : ∃ G7, w9.heap.size = G7 := ⟨_, rfl⟩
      rw [hg7] at HZ7 hord hqy
      clear hs5 hs6 hs8 hs10 h67 h89 hq5 hwc hw5 hG1 hBw hg6
      go_wp2
      rw [HW10.out]
      clear hg7 HW10
      have HQX := Lib.hid hqx
      have HQY := Lib.hid hqy
      have HC1 := Lib.hid (Own1.refl HO10.out)
      clear hqx hqy HO10
      go_loopw [9] (fun i wr => ∃ k : Nat, k ≤ nb ∧ i = .int .i64 (k : Int) ∧ Hid (Own1 w10 w4.heap.size 5 1 (.slice (some ⟨g5, 0, none⟩) nb c5) nb wr)) (fun i _ => nb - (intOf i).toNat)
      case atStart => exact ⟨0, Nat.zero_le _, rfl, HC1⟩
      case round =>
        obtain ⟨k, hk, rfl, HOk⟩ := hrel
        by_cases hlt : k < nb
        · obtain ⟨⟨u, hu⟩, hfr⟩ := HOk.out.at (j := k) (by omega)
          have HOn := Lib.hid (HOk.out.set k (.int .u8 238))
          have i1 : (0 : Int) ≤ (k : Int) := by omega
          have i2 : (k : Int) < (nb : Int) := by omega
          go_wp2
          go_roundw
          case rel => exact ⟨k + 1, by omega, by go_num, HOn⟩
          case measure => simp [intOf]; omega
        · have i2 : ¬ (k : Int) < (nb : Int) := by omega
          obtain ⟨w11, hw11⟩ : ∃ w11, w11 = wr := ⟨_, rfl⟩
          subst hw11
          have HSZ : Hid (w11.heap.size = w10.heap.size) := Lib.hid HOk.out.size_
          have hoth : ∀ i, i ≠ g5 → w11.heap[i]? = w10.heap[i]? := fun i hi => HOk.out.oth i (fun e => hi (by injection e with e; exact e.symm))
          have HB11 : Hid (Below w.heap.size w w11) := Lib.hid (HB10.out.trans (HOk.out.below (fun q hq => by injection hq with hq; simp only at hq; omega)))
          have HX11 : Hid (w11.ownsRow w6.heap.size 41 4 (.slice Ax n cx) n (flatS segs)) := Lib.hid (own_same HX10.out fun q hq => hoth q (by have := HQX.out q hq; omega))
          have HY11 : Hid (w11.ownsRow w8.heap.size 41 4 (.slice Ay n cy) n (flatS segs)) := Lib.hid (own_same HY10.out fun q hq => hoth q (by have := HQY.out q hq; omega))
          have HZ1' : Hid (Box5 w11 w.heap.size (.int .i64 wal) (.int .i64 next) (.int .u64 (seq.toNat : Int)) (.int .i64 mark) (.slice A n c)) := Lib.hid ((hoth _ (by omega)).trans HZ1.out)
          have HZ6' : Hid (Box5 w11 G6 (.int .i64 wal) (.int .i64 next) (.int .u64 (seq.toNat : Int)) (.int .i64 mark) (.slice Ax n cx)) := Lib.hid ((hoth _ (by omega)).trans HZ6.out)
          have HZ7' : Hid (Box5 w11 G7 (.int .i64 wal) (.int .i64 next) (.int .u64 (seq.toNat : Int)) (.int .i64 mark) (.slice Ay n cy)) := Lib.hid ((hoth _ (by omega)).trans HZ7.out)
          have HC2 := Lib.hid (Own1.refl HX11.out)
          clear hoth HOk HZ1 HZ6 HZ7 HX10 HY10 HB10 HC1 hlt hk
          go_wp2
          go_loopw [10] (fun i wr => ∃ k : Nat, k ≤ n ∧ i = .int .i64 (k : Int) ∧ Hid (Own1 w11 w6.heap.size 41 4 (.slice Ax n cx) n wr)) (fun i _ => n - (intOf i).toNat)
          case atStart => exact ⟨0, Nat.zero_le _, rfl, HC2⟩
          case round =>
            obtain ⟨k, hk, rfl, HOk⟩ := hrel
            have hoth : ∀ i, (∀ q, (Value.slice Ax n cx).ownBlock = some q → q ≠ i) → wr.heap[i]? = w11.heap[i]? := fun i hi => HOk.out.oth i (fun e => hi i e rfl)
            have HZ6k : Hid (Box5 wr G6 (.int .i64 wal) (.int .i64 next) (.int .u64 (seq.toNat : Int)) (.int .i64 mark) (.slice Ax n cx)) := Lib.hid ((hoth _ (fun q hq => by have := HQX.out q hq; omega)).trans HZ6'.out)
            have x4 := HZ6k.out.facts.1.2.2.2.2
            by_cases hlt : k < n
            · obtain ⟨Ax', cx', hvx, hpx⟩ := own_shape HX11.out
              injection hvx with hvx _ _
              obtain ⟨gx, hgx⟩ := hpx (by omega)
              have hgx2 : Ax = some ⟨gx, 0, none⟩ := hvx.trans hgx
              clear hvx hgx hpx
              subst hgx2
              obtain ⟨⟨p0, hp0⟩, f0⟩ := HOk.out.at (j := k * 4) (by omega)
              obtain ⟨⟨p1, hp1⟩, f1⟩ := HOk.out.at (j := k * 4 + 1) (by omega)
              obtain ⟨⟨p2, hp2⟩, f2⟩ := HOk.out.at (j := k * 4 + 2) (by omega)
              obtain ⟨⟨p3, hp3⟩, f3⟩ := HOk.out.at (j := k * 4 + 3) (by omega)
              have HOn := Lib.hid ((((HOk.out.set (k * 4) (.int .i64 (-1))).set (k * 4 + 1) (.int .i64 0)).set (k * 4 + 2) (.int .i64 0)).set (k * 4 + 3) (.int .i64 0))
              have i1 : (0 : Int) ≤ (k : Int) := by omega
              have i3 : (k : Int) < (n : Int) := by omega
              go_wp2
              go_roundw
              case rel => exact ⟨k + 1, by omega, by go_num, HOn⟩
              case measure => simp [intOf]; omega
            · have i3 : ¬ (k : Int) < (n : Int) := by omega
              obtain ⟨w12, hw12⟩ : ∃ w12, w12 = wr := ⟨_, rfl⟩
              subst hw12
              have HB12 : Hid (Below w.heap.size w w12) := Lib.hid (HB11.out.trans (HOk.out.below (fun q hq => by have := HQX.out q hq; omega)))
              have HY12 : Hid (w12.ownsRow w8.heap.size 41 4 (.slice Ay n cy) n (flatS segs)) := Lib.hid (own_same HY11.out fun q hq => hoth q (fun q' hq' => by have := HQX.out q' hq'; have := HQY.out q hq; omega))
              have HZ1k : Hid (Box5 w12 w.heap.size (.int .i64 wal) (.int .i64 next) (.int .u64 (seq.toNat : Int)) (.int .i64 mark) (.slice A n c)) := Lib.hid ((hoth _ (fun q hq => by have := HQX.out q hq; omega)).trans HZ1'.out)
              have HZ7k : Hid (Box5 w12 G7 (.int .i64 wal) (.int .i64 next) (.int .u64 (seq.toNat : Int)) (.int .i64 mark) (.slice Ay n cy)) := Lib.hid ((hoth _ (fun q hq => by have := HQX.out q hq; omega)).trans HZ7'.out)
              obtain ⟨xs, hxs⟩ := HOk.out.own
              have HSZ12 : Hid (w12.heap.size = w11.heap.size) := Lib.hid HOk.out.size_
              obtain ⟨k0, ki, kz0, kz1, kz2⟩ := info_parts info_seg
              have HXA : Hid ((w12.alloc (.cells #[.int .i64 0, .int .i64 0, .int .i64 0, .int .i64 0, .int .i64 0, .int .i64 0, .int .i64 0, .int .i64 0] 41)).ownsRow w6.heap.size 41 4 (.slice Ax n cx) n xs) := Lib.hid (hxs.alloc _)
              clear hoth HOk HX11 HY11 HB11 HZ1' HZ6' HZ7' HC2 hlt hk hxs
              go_upto_region 20 with (fail)
              go_wp2_with (at_builtin; refine wpList_append_own _ rfl (.tmp 89) (.tmp 92) 23 rfl w6.heap.size 41 k0 (.agg #[.int .i64 0, .int .i64 0, .int .i64 0, .int .i64 0]) 4 32 Tryd.underlying23 ki kz0 kz1 kz2 rfl (by decide) _ _ _ rfl HXA.out ⟨w12.heap.size, 0, none⟩ 2 2 (flatS [⟨0, 0, 0, 0⟩, ⟨0, 0, 0, 0⟩]) rfl (by simp [flatS, scells]) ?c1 (flatS_ones _) ?c2 ?c3 ?c4 ?_)
              case c1 =>
                intro j u hj
                simpa [flatS, scells] using hj
              case c2 => unfold maxLen; omega
              case c3 => omega
              case c4 => have := HSZ.out; have := HSZ12.out; simp; omega
              intro v13 w13 hown13 hg13 _
              obtain ⟨Az, cz, rfl, _⟩ := own_shape hown13
              have hbA : Below w12.heap.size w12 (w12.alloc (.cells #[.int .i64 0, .int .i64 0, .int .i64 0, .int .i64 0, .int .i64 0, .int .i64 0, .int .i64 0, .int .i64 0] 41)) := (Below.refl _ w12).alloc (Nat.le_refl _) _
              have hot13 : ∀ i, i < w12.heap.size → (∀ q, (Value.slice Ax n cx).ownBlock = some q → q ≠ i) → w13.heap[i]? = w12.heap[i]? := fun i hi hq => (hg13.block i (by simp; omega) (fun e => hq i e.symm rfl)).trans (hbA.block i hi)
              have hsz13 : w12.heap.size ≤ w13.heap.size := by have := hg13.size; simp at this; omega
              have hsz12 := HSZ12.out
              have hsz11 := HSZ.out
              have HB13 : Hid (Below w.heap.size w w13) := Lib.hid (by
                have h1 : Below w.heap.size w12 w13 := ⟨hg13.os, hg13.tape, hg13.output, hsz13, fun i hi => hot13 i (by omega) (fun q hq => by have := HQX.out q hq; omega)⟩
                exact HB12.out.trans h1)
              have hY13 : w13.ownsRow w8.heap.size 41 4 (.slice Ay n cy) n (flatS segs) := own_same HY12.out fun q hq => hot13 q (HY12.out.lt q hq).2 (fun q' hq' => by have := HQX.out q' hq'; have := HQY.out q hq; omega)
              have HZ1m : Hid (Box5 w13 w.heap.size (.int .i64 wal) (.int .i64 next) (.int .u64 (seq.toNat : Int)) (.int .i64 mark) (.slice A n c)) := Lib.hid ((hot13 _ (by omega) (fun q hq => by have := HQX.out q hq; omega)).trans HZ1k.out)
              have HZ7m : Hid (Box5 w13 G7 (.int .i64 wal) (.int .i64 next) (.int .u64 (seq.toNat : Int)) (.int .i64 mark) (.slice Ay n cy)) := Lib.hid ((hot13 _ (by omega) (fun q hq => by have := HQX.out q hq; omega)).trans HZ7k.out)
              have HOKY : Hid (OkM w13 (⟨wal, next, seq, mark, segs⟩, Ay, n, cy)) := Lib.hid ⟨by
                rw [HN.out] at hY13
                obtain ⟨A', c', e, hs, _⟩ := own_sgs hY13
                injection e with e1 _ e2
                subst e1 e2
                have := HN.out
                exact ⟨this, by rw [this]; exact hs.le, hs.cap, hs.rd⟩, HM.out.ok⟩
              have HOKM := Lib.hid (HM.out.below HB13.out)
              have HSM := Lib.hid (fun (W : World) (hb : Below w13.heap.size w13 W) => same_any W (⟨wal, next, seq, mark, segs⟩, Ay, n, cy) (⟨wal, next, seq, mark, segs⟩, A, n, c) (HOKY.out.below hb) (HOKM.out.below hb) true (decide_eq_true rfl))
              unfold aggM slV at HSM
              simp only at HSM
              obtain ⟨y0, y1, y2, y3, y4⟩ := HZ1m.out.facts.1
              obtain ⟨z0, z1, z2, z3, z4⟩ := HZ7m.out.facts.1
              have q1 : IntKind.i64.wrap ((n : Int) + 2) = (n : Int) + 2 := IntWalk.i64_in _ (by omega)
              clear hbA hot13 hsz13 hsz12 hsz11 hown13 hg13 hY13 x4 HXA HZ6k HZ1k HZ7k HY12 HB12 HQX HQY HSZ HSZ12 hord
              go_wp2_with fail
              refine (HSM.out w13 (Below.refl _ _)).mono ?_
              rintro e w14 ⟨rfl, hb14⟩
              have HBF : Hid (Below w.heap.size w w14) := Lib.hid (HB13.out.trans (hb14.mono HB13.out.size))
              clear hb14 HSM
              go_wp2
              go_ret
              exact ⟨rfl, HBF.out⟩
end Go.Proofs.YtjninegpaoblfaaDoor.MfKeepsW
