/- The program's lay: a batch in order laid among the head's records in order. Conditions: the head and the batch lie in memory; at most 65536 records on each side. · The program's lay of no record. Condition: the head lies in memory; at most 65536 records. -/
import Derived.Test.YtkgmcabamhpjhaaGreatHpBacks
import Derived.Test.YtkgmcabamhpjhaaGreatHpBoxs
import Derived.Laws.CopyOwn
import Derived.Test.YtkgmcabamhpjhaaGreatHdTermsF
import Derived.BigQuiet
namespace Go.Proofs.YtkgmcabamhpjhaaGreat.HpLay
open Go Go.RowKit Go.Shelf Words AppN Less LbSpec LbMem RcAll RcMem RcRef HdMem HdKm HdSpec HpSpec HpBox HpMem HpAll HpSearch HpBack HpLayP HpRound
open HdTerms (step_append_run)
open RcSpec hiding none

attribute [local go_sem] Oper.semAt_some

theorem HM.resort {w w' : World} {J J' : Nat → Nat} {p n : Nat} {last : Option Nat} {V : List UInt8 → List Pin} {ss ss' : List Pin} {sv sv' : Value} {mv : Option Nat} {R : List UInt8 → Value} (h : HM w J p last V ss sv mv R n)
    (hm : Mo J J' (fun k => k = 1 ∨ k = 3) w w') (hbox : w'.heap[p]? = some (.cells #[sv', .map mv, .int .u64 ((last.getD 0 : Nat) : Int), .bool last.isSome] 60 (0, 0))) (hjp : J' p = 1)
    (hown : w'.ownsRow 0 64 1 sv' ss'.length (ptrs ss')) (hjs : ∀ q, sv'.ownBlock = some q → J' q = 3) (hs : ∀ x ∈ ss', PinAt w J x) (hin : ∀ i, J' i ≠ 0 → i < w'.heap.size) : HM w' J' p last V ss' sv' mv R n := by
  have n4 : ¬ ((4 : Nat) = 1 ∨ 4 = 3) := by omega
  have n2 : ¬ ((2 : Nat) = 1 ∨ 2 = 3) := by omega
  have nt : ∀ t, ¬ (tn t = 1 ∨ tn t = 3) := fun t => by have := tn_ge t; omega
  exact ⟨hbox, hjp, hown, hjs, fun x hx => (hs x hx).mo hm n4, fun t x hx => (h.vpin t x hx).mo hm n4, h.map.mo hm n2, fun t => (own_mo (h.row t) (h.jr t) hm (nt t)).1, fun t q hq => (own_mo (h.row t) (h.jr t) hm (nt t)).2 q hq, hin⟩

theorem info_ptr : (Tryz.prog.info? 64).map (fun i => (i.zero, i.size, i.bytes)) = some (some (.pointer none), 1, 8) := by kernel_rfl
/-- What the loop keeps. -/
structure LSt (W0 : World) (gs b1 : Nat) (s : Nat × List Value) (W : World) : Prop where
  os : W.os = W0.os
  tape : W.tape = W0.tape
  output : W.output = W0.output
  size : W0.heap.size ≤ W.heap.size
  oth : ∀ i, i < W0.heap.size → i ≠ gs → i ≠ b1 → W.heap[i]? = W0.heap[i]?
  left : W.heap[b1]? = some (.cells #[.int .i64 (s.1 : Int)] 3 (0, 0))
  row : W.heap[gs]? = some (.cells s.2.toArray 64 (0, 0))

theorem LSt.own {W0 : World} {gs b1 : Nat} {s : Nat × List Value} {W W' : World} {row : Option Nat} (h : LSt W0 gs b1 s W) (hg : W.grownBy W' row) (hr : ∀ q, row = some q → W0.heap.size ≤ q) (h1 : gs < W0.heap.size) (h2 : b1 < W0.heap.size) : LSt W0 gs b1 s W' := by
  have hb : ∀ i, i < W0.heap.size → W'.heap[i]? = W.heap[i]? := fun i hi => hg.block i (Nat.lt_of_lt_of_le hi h.size) (fun e => by have := hr i e.symm; omega)
  exact ⟨hg.os.trans h.os, hg.tape.trans h.tape, hg.output.trans h.output, Nat.le_trans h.size hg.size, fun i hi a b => (hb i hi).trans (h.oth i hi a b), (hb b1 h2).trans h.left, (hb gs h1).trans h.row⟩
/-- What the copy leaves. -/
structure Cp (gs : Nat) (row : List Value) (W1 w9 : World) : Prop where
  os : w9.os = W1.os
  tape : w9.tape = W1.tape
  output : w9.output = W1.output
  size : w9.heap.size = W1.heap.size
  oth : ∀ i, i ≠ gs → w9.heap[i]? = W1.heap[i]?
  row : w9.heap[gs]? = some (.cells row.toArray 64 (0, 0))
theorem splice_nil {α : Type} (L : List α) (off : Nat) : splice L off [] = L := by simp [splice]
theorem cp_none {gs lo cc left : Nat} {cu : List Value} {W1 : World} (hg : W1.heap[gs]? = some (.cells cu.toArray 64 (0, 0))) (h : left = cc) : Cp gs (splice cu lo ((cu.drop cc).take (left - cc))) W1 W1.drew := by
  subst h
  rw [Nat.sub_self, List.take_zero, splice_nil]
  exact ⟨rfl, rfl, rfl, rfl, fun _ _ => rfl, hg⟩
theorem cp_some {gs lo : Nat} {cu cs : List Value} {W1 : World} (hg : W1.heap[gs]? = some (.cells cu.toArray 64 (0, 0))) : Cp gs (splice cu lo cs) W1 (W1.drew.setRow gs (cu.toArray.toList.take lo ++ (cs ++ cu.toArray.toList.drop (lo + cs.length))).toArray) :=
  ⟨rfl, rfl, rfl, by simp [World.setRow], fun i hi => setRow_other W1.drew gs i _ hi, setRow_heap W1.drew gs _ _ 64 (0, 0) hg⟩
theorem infoS : (Tryz.prog.info? 64).map (·.size) = some 1 := by kernel_rfl
/-- One way out. -/
def onlyE (a0 : Act) (W3 : World) : Exit → Act → World → Prop
  | .normal, a, w => a = a0 ∧ w = W3
  | _, _, _ => False
def LPost (w : World) (J : Nat → Nat) (p n : Nat) (last : Option Nat) (V : List UInt8 → List Pin) (ss : List Pin) (mv : Option Nat) (R : List UInt8 → Value) (e : Ending) (w' : World) : Prop :=
  e = .returned (.tuple #[]) ∧ ∃ J' sv', HM w' J' p last V ss sv' mv R n ∧ Mo J J' (fun k => k ≠ 0) w w'

set_option maxHeartbeats 6400000 in
set_option maxRecDepth 100000 in
theorem lay_any (w : World) (J : Nat → Nat) (p n : Nat) (last : Option Nat) (V : List UInt8 → List Pin) (ss : List Pin) (sv : Value) (mv : Option Nat) (R : List UInt8 → Value) (h : HM w J p last V ss sv mv R n)
    (P : List Pin) (A : Option Addr) (c : Nat) (hP : ∀ x ∈ P, PinAt w J x) (hrow : Rd w w.heap.size A (ptrs P)) (_hc : P.length ≤ c) (_hcm : c ≤ maxLen) (hA : ∀ b off, A = some ⟨b, off, none⟩ → 0 < P.length → J b = 0)
    (hasc : HpSpec.Asc cfP ss) (hn : ss.length ≤ 65536) (hll : P.length ≤ 65536) (hpos : 0 < P.length) :
    Calls Tryz.prog 33 #[(.pointer (some ⟨p, 0, none⟩)), .slice A P.length c] w (LPost w J p n last V (merged cfP ss P) mv R) := by
  obtain ⟨i1, gi, gz0, gz1, gz2⟩ := info_parts info_ptr
  obtain ⟨Ag, cg, rfl, hcg1, hcg2, _⟩ := own_row h.srt (by rw [ptrs_len]; omega)
  have hlt := h.lt
  have c0 : w.cell? ⟨p, 0, none⟩ = some (.slice Ag ss.length cg) := HpBox.cell_of_heap h.box rfl
  -- the world behind the two boxes
  obtain ⟨W2, hW2⟩ : ∃ W2, W2 = (w.alloc (.cells #[.pointer (some ⟨p, 0, none⟩)] 24)).alloc (.cells #[.int .i64 (ss.length : Int)] 3) := ⟨_, rfl⟩
  have hs2 : W2.heap.size = w.heap.size + 1 + 1 := by rw [hW2]; simp
  have hb2 : Below w.heap.size w W2 := by rw [hW2]; exact ((Below.refl _ w).alloc (Nat.le_refl _) _).alloc (by simp) _
  have hB0 : W2.heap[w.heap.size]? = some (.cells #[.pointer (some ⟨p, 0, none⟩)] 24 (0, 0)) := by
    rw [hW2]
    exact (Below.heap_alloc _ _ _ (by simp)).trans (Go.heap_alloc_new w _)
  have hB1 : W2.heap[w.heap.size + 1]? = some (.cells #[.int .i64 (ss.length : Int)] 3 (0, 0)) := by
    rw [hW2]
    have := Go.heap_alloc_new (w.alloc (.cells #[.pointer (some ⟨p, 0, none⟩)] 24)) (.cells #[.int .i64 (ss.length : Int)] 3)
    rwa [World.size_alloc] at this
  have hm2 := h.below hb2
  have hrow2 : Rd W2 w.heap.size A (ptrs P) := hrow.below hb2
  obtain ⟨v', w', hrun, hown', hg', hv'⟩ := run_append_rd (P := Tryz.prog) W2.drew 0 1 57 57 64 i1 (.pointer none) 8 Tryz.underlying57 gi gz0 gz1 gz2 rfl (by omega) _ _ _ (show W2.drew.ownsRow 0 64 1 (.slice Ag ss.length cg) ss.length (ptrs ss) from hm2.srt)
    w.heap.size A P.length c (ptrs P) (by rw [ptrs_len]; omega) (show Rd W2.drew w.heap.size A (ptrs P) from hrow2) (by intro u hu; obtain ⟨x, _, rfl⟩ := List.mem_map.1 hu; rfl) (by unfold maxLen; omega) (by omega) (by omega)
  rcases hown'.2 with ⟨_, hz⟩ | ⟨gs, cap, cur, rfl, _, hgs, hr1, hr2, hr3, hr4⟩
  · omega
  have c0b : W2.cell? ⟨w.heap.size, 0, none⟩ = some (.pointer (some ⟨p, 0, none⟩)) := HpBox.cell_of_heap hB0 rfl
  have c0p : W2.cell? ⟨p, 0, none⟩ = some (.slice Ag ss.length cg) := HpBox.cell_of_heap hm2.box rfl
  have hold : ∀ q, (Value.slice Ag ss.length cg).ownBlock = some q → J q = 3 := h.js
  have hoq : ∀ q, (Value.slice Ag ss.length cg).ownBlock = some q → q < w.heap.size ∧ q ≠ p := fun q hq => ⟨h.in_ q (by rw [hold q hq]; omega), fun e => by
    have h1 := hold q hq
    rw [e, h.jp] at h1
    omega⟩
  have g0 : w'.heap[w.heap.size]? = W2.heap[w.heap.size]? := hg'.block w.heap.size (by show w.heap.size < W2.heap.size; omega) (fun e => by have := (hoq _ e.symm).1; omega)
  have g1 : w'.heap[w.heap.size + 1]? = W2.heap[w.heap.size + 1]? := hg'.block (w.heap.size + 1) (by show w.heap.size + 1 < W2.heap.size; omega) (fun e => by have := (hoq _ e.symm).1; omega)
  have gp : w'.heap[p]? = W2.heap[p]? := hg'.block p (by show p < W2.heap.size; omega) (fun e => (hoq _ e.symm).2 rfl)
  have d0 : w'.cell? ⟨w.heap.size, 0, none⟩ = some (.pointer (some ⟨p, 0, none⟩)) := HpBox.cell_of_heap (g0.trans hB0) rfl
  have dp : w'.cell? ⟨p, 0, none⟩ = some (.slice Ag ss.length cg) := HpBox.cell_of_heap (gp.trans hm2.box) rfl
  have df : ∀ j, w'.frozen? ⟨p, j, none⟩ = false := fun j => HpBox.frozen_of_heap (gp.trans hm2.box)
  have hgsw : gs < w'.heap.size := (Array.getElem?_eq_some_iff.1 hgs).1
  have hgs3 : gs < w.heap.size → J gs = 3 := fun hlt1 => by
    rcases hv' with hv' | hv'
    · exact hold gs hv'.symm
    · have : gs = W2.heap.size := Option.some.inj hv'
      omega
  have hgsn : gs < w.heap.size ∨ W2.heap.size ≤ gs := by
    rcases hv' with hv' | hv'
    · exact .inl (hoq gs hv'.symm).1
    · have : gs = W2.heap.size := Option.some.inj hv'
      omega
  have hgsp : gs ≠ p := fun e => by
    have h1 := hgs3 (by omega)
    rw [e, h.jp] at h1
    omega
  obtain ⟨W3, hW3⟩ : ∃ W3, W3 = w'.setCell ⟨p, 0, none⟩ (.slice (some ⟨gs, 0, none⟩) (ss.length + P.length) cap) := ⟨_, rfl⟩
  have hs3 : W3.heap.size = w'.heap.size := by rw [hW3]; simp
  have hs3b : w.heap.size + 1 + 1 ≤ w'.heap.size := by have := hg'.size; rw [← hs2]; exact this
  have hoth3 : ∀ i, i ≠ p → W3.heap[i]? = w'.heap[i]? := fun i hi => by rw [hW3, heap_setCell_other _ _ _ _ hi]
  obtain ⟨W0, hW0⟩ : ∃ W0, W0 = W3.alloc (.cells #[.slice A P.length c] 57) := ⟨_, rfl⟩
  have hs0 : W0.heap.size = W3.heap.size + 1 := by rw [hW0]; simp
  have hal : ∀ i, i < W3.heap.size → W0.heap[i]? = W3.heap[i]? := fun i hi => by rw [hW0]; exact Below.heap_alloc _ _ _ hi
  have e0 : W0.heap[w.heap.size]? = some (.cells #[.pointer (some ⟨p, 0, none⟩)] 24 (0, 0)) := ((hal _ (by omega)).trans (hoth3 _ (by omega))).trans (g0.trans hB0)
  have e1 : W0.heap[w.heap.size + 1]? = some (.cells #[.int .i64 (ss.length : Int)] 3 (0, 0)) := ((hal _ (by omega)).trans (hoth3 _ (by omega))).trans (g1.trans hB1)
  have eg : W0.heap[gs]? = some (.cells cur 64 (0, 0)) := ((hal _ (by omega)).trans (hoth3 _ hgsp)).trans hgs
  have ep : W0.heap[p]? = some (.cells #[.slice (some ⟨gs, 0, none⟩) (ss.length + P.length) cap, .map mv, .int .u64 ((last.getD 0 : Nat) : Int), .bool last.isSome] 60 (0, 0)) := by
    rw [hal p (by omega), hW3, heap_setCell_same _ p 0 _ _ _ (gp.trans hm2.box)]
    simp
  have eB : W0.heap[W3.heap.size]? = some (.cells #[.slice A P.length c] 57 (0, 0)) := by rw [hW0]; exact Go.heap_alloc_new W3 _
  have hrest : ∀ i, i < w.heap.size → i ≠ p → J i ≠ 3 → W0.heap[i]? = w.heap[i]? := fun i hi h1 h2 =>
    ((hal i (by omega)).trans (hoth3 i h1)).trans ((hg'.block i (by show i < W2.heap.size; omega) (fun e => h2 (hold i e.symm))).trans (hb2.block i hi))
  have ebase : W0.os = w.os ∧ W0.tape = w.tape ∧ W0.output = w.output := by
    rw [hW0, hW3]
    exact ⟨hg'.os.trans hb2.os, hg'.tape.trans hb2.tape, hg'.output.trans hb2.output⟩
  have hrow0 : Rd W0 W0.heap.size A (ptrs P) := fun hn0 => by
    obtain ⟨b, off, rfl, hb, hcell⟩ := hrow hn0
    have hJ := hA b off rfl hpos
    refine ⟨b, off, rfl, by omega, fun j u hu => ?_⟩
    rw [World.cell?_of_block (a := ⟨b, off + j, none⟩) (hrest b hb (fun e => by rw [e, h.jp] at hJ; omega) (by omega))]
    exact hcell j u hu
  have hbl : ∀ b off, A = some ⟨b, off, none⟩ → b < w.heap.size ∧ b ≠ gs := fun b off e => by
    obtain ⟨b', off', e', hb, _⟩ := hrow (by rw [ptrs_len]; exact hpos)
    rw [e] at e'
    cases e'
    refine ⟨hb, fun e2 => ?_⟩
    have := hA b off e hpos
    rw [e2] at this
    have := hgs3 (by omega)
    omega
  have hfine : Fine ss P.length cap (ss.length, cur.toList) := ⟨Nat.le_refl _, by simpa using hr3, hr1, by
    have h9 := congrArg (List.take ss.length) hr4
    rw [List.take_take, Nat.mul_one, Nat.min_eq_left (by omega), List.take_left' (ptrs_len ss)] at h9
    rw [List.take_length]
    exact h9⟩
  have hcurt : cur.toList.take (ss.length + P.length) = ptrs (ss ++ P) := by
    rw [ptrs_append]
    simpa using hr4
  have HST : Hid (LSt W0 gs (w.heap.size + 1) (ss.length, cur.toList) W0) := Lib.hid ⟨rfl, rfl, rfl, Nat.le_refl _, fun _ _ _ _ => rfl, e1, by simpa using eg⟩
  have hpins0 : ∀ x ∈ ss, Box W0 x := fun x hx => by
    have hx1 := h.spin x hx
    exact (hrest _ hx1.box.lt (fun e => by have h1 := hx1.kind; rw [e, h.jp] at h1; omega) (by rw [hx1.kind]; omega)).trans hx1.box
  have hpinsP : ∀ x ∈ P, Box W0 x := fun x hx => by
    have hx1 := hP x hx
    exact (hrest _ hx1.box.lt (fun e => by have h1 := hx1.kind; rw [e, h.jp] at h1; omega) (by rw [hx1.kind]; omega)).trans hx1.box
  have hpinlt : ∀ x, x ∈ ss ∨ x ∈ P → x.1 < w.heap.size ∧ x.1 ≠ gs := fun x hx => by
    have hx1 : PinAt w J x := hx.elim (h.spin x) (hP x)
    refine ⟨hx1.box.lt, fun e => ?_⟩
    have h1 := hx1.kind
    rw [e] at h1
    have := hgs3 (by have := hx1.box.lt; omega)
    omega
  have HPINS := Lib.hid (And.intro hpins0 (And.intro hpinsP hpinlt))
  have HFINE := Lib.hid hfine
  have HCURT := Lib.hid hcurt
  have HREST := Lib.hid hrest
  have HBASE := Lib.hid ebase
  have HBL := Lib.hid hbl
  have HROW0 := Lib.hid hrow0
  have HE := Lib.hid (And.intro e0 (And.intro ep eB))
  have HGS := Lib.hid (And.intro hgs3 (And.intro hgsn hgsp))
  have HH := Lib.hid h
  have HP := Lib.hid hP
  have HASC := Lib.hid hasc
  have hszw : w.heap.size + 1 + 1 < W0.heap.size ∧ gs < W0.heap.size ∧ p < w.heap.size ∧ W3.heap.size < W0.heap.size := ⟨by omega, by omega, hlt, by omega⟩
  have HGB : Hid (gs < W3.heap.size ∧ w.heap.size + 1 < W3.heap.size) := Lib.hid ⟨by omega, by omega⟩
  have hW0' : Hid (W3.alloc (.cells #[.slice A P.length c] 57) = W0) := Lib.hid hW0.symm
  have hW3' : Hid (w'.setCell ⟨p, 0, none⟩ (.slice (some ⟨gs, 0, none⟩) (ss.length + P.length) cap) = W3) := Lib.hid hW3.symm
  clear hown' hg' hv' hgs hr3 hr4 hpins0 hpinsP hpinlt hfine hcurt hrest ebase hbl hrow0 e0 e1 eg ep eB hgs3 hgsn hgsp hW0 hW3 hal hoth3 hgsw hs3 hs3b hs0 hm2 hP hasc hrow hrow2 hA h g0 g1 gp hold hoq hB0 hB1 hb2
  refine (callsIn_wide (n := 9)).1 ?_
  refine callsIn_of_wp_marks Tryz.func33 rfl trivial ?_ rfl
  simp only [Tryz.ntmps33, List.size_toArray, List.length_cons, List.length_nil, Nat.reduceAdd, Nat.reduceSub, Array.replicate_succ, Array.replicate_zero, List.push_toArray, List.append_toArray, List.nil_append, List.cons_append]
  gi_wp2
  rw [← hW2]
  clear hW2
  refine wpIn_mono (Q := onlyE { tmps := #[.pointer (some ⟨p, 0, none⟩), .slice A P.length c, .pointer (some ⟨w.heap.size, 0, none⟩), undef, .pointer (some ⟨w.heap.size + 1, 0, none⟩), undef, undef, undef, undef, .pointer (some ⟨p, 0, none⟩), .pointer (some ⟨p, 0, none⟩), .pointer (some ⟨p, 0, none⟩), .slice Ag ss.length cg, .int .i64 (ss.length : Int), .pointer (some ⟨p, 0, none⟩), .pointer (some ⟨p, 0, none⟩), .pointer (some ⟨p, 0, none⟩), .pointer (some ⟨p, 0, none⟩), .slice Ag ss.length cg, .slice A P.length c, .slice (some ⟨gs, 0, none⟩) (ss.length + P.length) cap, .pointer (some ⟨p, 0, none⟩), .pointer (some ⟨p, 0, none⟩), undef, undef, undef, undef, undef, undef, undef, undef, undef, undef, undef, undef, undef, undef, undef, undef, undef, undef, undef, undef, undef, undef, undef, undef, undef, undef, undef, undef, undef, undef, undef, undef, undef, undef, undef, undef, undef, undef, undef, undef, undef, undef], defers := [] } (w'.setCell ⟨p, 0, none⟩ (.slice (some ⟨gs, 0, none⟩) (ss.length + P.length) cap))) (wpIn_wide.2 ?_) ?_
  case refine_1 =>
    go_region_law (first
      | (refine step_append_run rfl (.tmp 18) (.tmp 19) 57 rfl _ w' hrun ?_))
    all_goals exact ⟨rfl, rfl⟩
  intro e a9 w9 h9
  cases e <;> first | exact h9.elim | skip
  obtain ⟨rfl, rfl⟩ := h9
  rw [hW3'.out]
  clear hrun c0 c0b c0p d0 dp df
  gi_wp2_with (refine ⟨trivial, ?_⟩; gi_at_call 55; refine (callsIn_wide.2 (backward_any _ _ _ _)).mono ?_; rintro e w9 ⟨rfl, rfl⟩)
  rw [hW0'.out]
  refine wpIn_rangeFunc_ownF rfl (by omega) (gf := 88) (lb := #[.pointer (some ⟨W3.heap.size, 0, none⟩)]) rfl trivial (enters_of Tryz.func88 (by kernel_rfl) rfl)
    (back_stops Fence.wide 8 trivial rfl (by omega) W3.heap.size c A P (by omega) W0 HE.out.2.2 HROW0.out) (fun h k => kpB_t h k)
    (fun W l o o' hl _ _ _ => ⟨World.putObj_heap_other (by omega), fun b off e => World.putObj_heap_other (by have := (HBL.out b off e).1; omega)⟩) (Below.refl _ _) (fun _ => rfl)
    (fun (pre : List (Ix P)) W => LSt W0 gs (w.heap.size + 1) (runL ss P (ss.length, cur.toList) (pre.map Subtype.val)) W) (fun _ _ _ => False)
    (fun s X Y row hs hg hr => LSt.own hs hg (fun q e => (hr q e).1) hszw.2.1 (by omega)) (fun _ _ _ _ _ hs _ _ => hs) HST.out
    (fun x => { tmps := #[.pointer (some ⟨p, 0, none⟩), .slice A P.length c, .pointer (some ⟨w.heap.size, 0, none⟩), undef, .pointer (some ⟨w.heap.size + 1, 0, none⟩), .int .i64 (x.1 : Int), ptr (P[x.1]'x.2).1, undef, undef, .pointer (some ⟨p, 0, none⟩), .pointer (some ⟨p, 0, none⟩), .pointer (some ⟨p, 0, none⟩), .slice Ag ss.length cg, .int .i64 (ss.length : Int), .pointer (some ⟨p, 0, none⟩), .pointer (some ⟨p, 0, none⟩), .pointer (some ⟨p, 0, none⟩), .pointer (some ⟨p, 0, none⟩), .slice Ag ss.length cg, .slice A P.length c, .slice (some ⟨gs, 0, none⟩) (ss.length + P.length) cap, .pointer (some ⟨p, 0, none⟩), .pointer (some ⟨p, 0, none⟩), .slice A P.length c, .func (.func 88) #[] #[.pointer (some ⟨W3.heap.size, 0, none⟩)], .int .i64 (x.1 : Int), ptr (P[x.1]'x.2).1, undef, undef, undef, undef, undef, undef, undef, undef, undef, undef, undef, undef, undef, undef, undef, undef, undef, undef, undef, undef, undef, undef, undef, undef, undef, undef, undef, undef, undef, undef, undef, undef, undef, undef, undef, undef, undef, undef], defers := [] }) ?assign ?body ?done ?stop
  case assign =>
    intro l x W K hK
    unfold encB ptr at *
    gi_wp2
    exact hK
  case stop =>
    rintro D c pre W _ _ h _
    exact h.elim
  case done =>
    rintro D ys W hD hys hI hK
    have hI : LSt W0 gs (w.heap.size + 1) (runL ss P (ss.length, cur.toList) (ys.map Subtype.val)) W := hI
    have hys : ys.map Subtype.val = upto P.length P.length := hys
    rw [hys] at hI
    have hall := all_turns HFINE.out HCURT.out
    have hlast := fine_run (upto P.length P.length) HFINE.out (fun b hb => by
      unfold upto at hb
      obtain ⟨t, ht, rfl⟩ := List.mem_map.1 hb
      have := List.mem_range.1 ht
      omega)
    generalize runL ss P (ss.length, cur.toList) (upto P.length P.length) = s at *
    obtain ⟨left, cu⟩ := s
    have hml := merged_len (cf := cfP) ss P
    have HFIN : Hid (LPost w J p n last V (merged cfP ss P) mv R (.returned (.tuple #[])) (W.putObj D (.deferred none))) := Lib.hid (by
      have hDn : ∀ i, i < W0.heap.size → (W.putObj D (.deferred none)).heap[i]? = W.heap[i]? := fun i hi => World.putObj_heap_other (by omega)
      have hgs := HGS.out
      have hpz : (W.putObj D (.deferred none)).heap.size = W.heap.size := by simp [World.putObj]
      have hmo : Mo J (fun i => if i = gs then 3 else J i) (fun k => k = 1 ∨ k = 3) w (W.putObj D (.deferred none)) := by
        refine ⟨hI.os.trans HBASE.out.1, hI.tape.trans HBASE.out.2.1, hI.output.trans HBASE.out.2.2, ?_, fun i hi hk => ?_⟩
        · have := hI.size
          rw [hpz]
          omega
        · have hng : i ≠ gs := fun e => hk (.inr (by rw [e]; exact hgs.1 (by omega)))
          exact ⟨((hDn i (by omega)).trans (hI.oth i (by omega) hng (by omega))).trans (HREST.out i hi (fun e => hk (.inl (by rw [e]; exact HH.out.jp))) (fun e => hk (.inr e))), if_neg hng⟩
      refine ⟨rfl, fun i => if i = gs then 3 else J i, .slice (some ⟨gs, 0, none⟩) (ss.length + P.length) cap, HM.resort HH.out hmo ?_ ?_ ?_ ?_ ?_ ?_, hmo.widen fun k hk => by omega⟩
      · exact ((hDn p (by omega)).trans (hI.oth p (by omega) (fun e => hgs.2.2 e.symm) (by omega))).trans HE.out.2.1
      · show (if p = gs then 3 else J p) = 1
        rw [if_neg (fun e => hgs.2.2 e.symm)]
        exact HH.out.jp
      · rw [hml]
        refine ⟨by rw [ptrs_len, hml]; omega, .inr ⟨gs, cap, cu.toArray, rfl, Nat.zero_le _, (hDn gs (by omega)).trans hI.row, hr1, hr2, by simpa using hlast.len, ?_⟩⟩
        rw [Nat.mul_one]
        exact hall
      · intro q hq
        have : gs = q := by simpa [Value.ownBlock] using hq
        show (if q = gs then 3 else J q) = 3
        rw [if_pos this.symm]
      · intro x hx
        rcases List.mem_append.1 ((merged_perm (cf := cfP) ss P).mem_iff.1 hx) with hx | hx
        · exact HH.out.spin x hx
        · exact HP.out x hx
      · intro i hi
        have h1 : W0.heap.size ≤ (W.putObj D (.deferred none)).heap.size := by
          have := hI.size
          rw [hpz]
          omega
        have hi : (if i = gs then 3 else J i) ≠ 0 := hi
        by_cases e : i = gs
        · omega
        · rw [if_neg e] at hi
          have := HH.out.in_ i hi
          omega)
    clear hI hall hlast hml
    gi_wp2
    refine ⟨by simp, .inl ⟨_, _, rfl, run_takeDeferred hK, ?_⟩⟩
    exact ⟨_, results_none rfl _ _ _, HFIN.out⟩
  case body =>
    rintro l pre x W hI hlen
    obtain ⟨a, ha⟩ := x
    have hf := fine_run (cap := cap) (pre.map Subtype.val) HFINE.out (fun b hb => by obtain ⟨y, _, rfl⟩ := List.mem_map.1 hb; exact y.2)
    have hI : LSt W0 gs (w.heap.size + 1) (runL ss P (ss.length, cur.toList) (pre.map Subtype.val)) W := hI
    obtain ⟨s, hs⟩ : ∃ s, runL ss P (ss.length, cur.toList) (pre.map Subtype.val) = s := ⟨_, rfl⟩
    have HRUN : Hid (runL ss P (ss.length, cur.toList) ((pre ++ [(⟨a, ha⟩ : Ix P)]).map Subtype.val) = stepL ss P s a) := Lib.hid (by
      rw [List.map_append, ← hs]
      exact runL_snoc ss P _ _ a)
    rw [hs] at hI hf
    clear hs
    obtain ⟨left, cu⟩ := s
    have hgd : P.getD a none_ = P[a] := by rw [List.getD_eq_getElem?_getD, List.getElem?_eq_getElem ha]; rfl
    obtain ⟨hf1, hf2, hf3, hf4⟩ := hf
    simp only at hf1 hf2 hf3 hf4
    have hgn := HGS.out.2.1
    have hgp := HGS.out.2.2
    have wsz := hI.size
    have w0 : W.heap[w.heap.size]? = some (.cells #[.pointer (some ⟨p, 0, none⟩)] 24 (0, 0)) := (hI.oth _ (by omega) (by omega) (by omega)).trans HE.out.1
    have wp := (hI.oth p (by omega) (fun e => hgp e.symm) (by omega)).trans HE.out.2.1
    have wl : W.heap[w.heap.size + 1]? = some (.cells #[.int .i64 (left : Int)] 3 (0, 0)) := hI.left
    have wg : W.heap[gs]? = some (.cells cu.toArray 64 (0, 0)) := hI.row
    have hbx : ∀ y, y ∈ ss ∨ y ∈ P → Box W y ∧ y.1 ≠ gs := fun y hy => by
      have h1 := HPINS.out.2.2 y hy
      have h2 : Box W0 y := hy.elim (HPINS.out.1 y) (HPINS.out.2.1 y)
      exact ⟨(hI.oth y.1 (by omega) h1.2 (by omega)).trans h2, h1.2⟩
    have hcut := cut_le (r := P[a]) hf1
    have HCS : Hid (∀ W', Below W.heap.size W W' → Calls Tryz.prog 37 #[.slice (some ⟨gs, 0, none⟩) left cap, ptr P[a].1, .func (.func 32) #[] #[]] W' fun e w' => e = .returned (.tuple #[.int .i64 (cnt cfP (ss.take left) P[a] : Int), .bool (there (ss.take left) P[a])]) ∧ Below W'.heap.size W' w') := Lib.hid (fun W' hb => by
      have hlen2 : (ss.take left).length = left := List.length_take_of_le hf1
      have wg' := (hb.block gs (by omega)).trans wg
      have h1 := search_any W' gs (ss.take left) P[a] cap (fun j hj => by
        refine ⟨HpBox.cell_of_heap wg' ?_, HpBox.frozen_of_heap wg'⟩
        have h2 : (cu.take left)[j]? = (ptrs (ss.take left))[j]? := by rw [hf4]
        rw [List.getElem?_take_of_lt (by omega), ptrs_at hj] at h2
        simpa using h2) (by have := hb.size; omega) (fun y hy => by
        have h3 := hbx y (.inl (List.mem_of_mem_take hy))
        exact ⟨(hb.block _ h3.1.lt).trans h3.1, h3.2⟩) (by
        have h3 := hbx P[a] (.inr (List.getElem_mem ha))
        exact ⟨(hb.block _ h3.1.lt).trans h3.1, h3.2⟩) (List.Pairwise.sublist (List.take_sublist _ _) HASC.out) (by rw [hlen2]; omega)
      rw [hlen2] at h1
      exact h1)
    obtain ⟨r, hr⟩ : ∃ r, P[a] = r := ⟨_, rfl⟩
    rw [hr] at hgd hcut HCS
    have HST2 : Hid (stepL ss P (left, cu) a = (cnt cfP (ss.take left) r, (cu.take (cnt cfP (ss.take left) r + a + 1) ++ ((cu.drop (cnt cfP (ss.take left) r)).take (left - cnt cfP (ss.take left) r) ++ cu.drop (cnt cfP (ss.take left) r + a + 1 + (left - cnt cfP (ss.take left) r)))).set (cnt cfP (ss.take left) r + a) (ptr r.1))) := Lib.hid (by
      unfold stepL
      simp only
      rw [hgd])
    generalize cnt cfP (ss.take left) r = cc at *
    generalize there (ss.take left) r = tb at *
    obtain ⟨g, m⟩ := r
    have q0 : ∀ d os, (Sort.grow (redrawn W d) os).cell? ⟨w.heap.size, 0, none⟩ = some (.pointer (some ⟨p, 0, none⟩)) := fun d os => cell_regrown (HpBox.cell_of_heap w0 rfl) d os
    have qp : ∀ d os, (Sort.grow (redrawn W d) os).cell? ⟨p, 0, none⟩ = some (.slice (some ⟨gs, 0, none⟩) (ss.length + P.length) cap) := fun d os => cell_regrown (HpBox.cell_of_heap wp rfl) d os
    have ql : ∀ d os, (Sort.grow (redrawn W d) os).cell? ⟨w.heap.size + 1, 0, none⟩ = some (.int .i64 (left : Int)) := fun d os => cell_regrown (HpBox.cell_of_heap wl rfl) d os
    have HI := Lib.hid hI
    have HWF := Lib.hid (And.intro w0 (And.intro wp (And.intro wl wg)))
    have HF4 := Lib.hid hf4
    have HHR := Lib.hid hr
    clear hI hf4 hbx hgd w0 wp wl wg
    have hl1 : (0 : Int) ≤ (left : Int) := by omega
    have hl2 : (left : Int) ≤ (cap : Int) := by omega
    have hl3 : left ≤ cap := by omega
    unfold ptr at HCS
    simp only [hr, ptr]
    clear hr
    gi_wp2
    refine wpIn_mono (Q := onlyS fun a9 w9 => a9 = { tmps := #[.pointer (some ⟨p, 0, none⟩), .slice A P.length c, .pointer (some ⟨w.heap.size, 0, none⟩), undef, .pointer (some ⟨w.heap.size + 1, 0, none⟩), .int .i64 (a : Int), .pointer (some ⟨g, 0, none⟩), .int .i64 (cc : Int), .bool tb, .pointer (some ⟨p, 0, none⟩), .pointer (some ⟨p, 0, none⟩), .pointer (some ⟨p, 0, none⟩), .slice Ag ss.length cg, .int .i64 (ss.length : Int), .pointer (some ⟨p, 0, none⟩), .pointer (some ⟨p, 0, none⟩), .pointer (some ⟨p, 0, none⟩), .pointer (some ⟨p, 0, none⟩), .slice Ag ss.length cg, .slice A P.length c, .slice (some ⟨gs, 0, none⟩) (ss.length + P.length) cap, .pointer (some ⟨p, 0, none⟩), .pointer (some ⟨p, 0, none⟩), .slice A P.length c, .func (.func 88) #[] #[.pointer (some ⟨W3.heap.size, 0, none⟩)], .int .i64 (a : Int), .pointer (some ⟨g, 0, none⟩), .tuple #[.int .i64 (cc : Int), .bool tb], .pointer (some ⟨p, 0, none⟩), .pointer (some ⟨p, 0, none⟩), .pointer (some ⟨p, 0, none⟩), .slice (some ⟨gs, 0, none⟩) (ss.length + P.length) cap, .int .i64 (left : Int), .slice (some ⟨gs, 0, none⟩) left cap, .pointer (some ⟨g, 0, none⟩), .tuple #[.int .i64 (cc : Int), .bool tb], .int .i64 (cc : Int), .bool tb, undef, undef, undef, undef, undef, undef, undef, undef, undef, undef, undef, undef, undef, undef, undef, undef, undef, undef, undef, undef, undef, undef, undef, undef, undef, undef, undef], defers := [] } ∧ ∃ q : Regrown, w9 = Sort.grow (redrawn W q.d) q.os) (round_quiet (by kernel_rfl) (noDefer_all (by kernel_rfl)) onlyS_lets (by kernel_rfl) ?_) ?_
    case refine_1 =>
      repeat (quiet_step (exact Calls.regrown_of (HCS.out _ (below_regrown _ _ _))))
      refine wpQuiet_nil ?_
      intro w9 hw9
      exact ⟨rfl, hw9⟩
    intro e a9 w9 h9
    cases e <;> first | exact h9.elim | skip
    obtain ⟨rfl, ⟨dq, oq⟩, rfl⟩ := h9
    obtain ⟨W1, hW1, hb1⟩ : ∃ W1, Sort.grow (redrawn W dq) oq = W1 ∧ Below W.heap.size W W1 := ⟨_, rfl, below_regrown W dq oq⟩
    simp only
    rw [hW1]
    clear hW1 q0 qp ql HCS
    have wlt := (Array.getElem?_eq_some_iff.1 HWF.out.1).1
    have wltp := (Array.getElem?_eq_some_iff.1 HWF.out.2.1).1
    have wltl := (Array.getElem?_eq_some_iff.1 HWF.out.2.2.1).1
    have wltg := (Array.getElem?_eq_some_iff.1 HWF.out.2.2.2).1
    have w0 := (hb1.block _ wlt).trans HWF.out.1
    have wp := (hb1.block _ wltp).trans HWF.out.2.1
    have wl := (hb1.block _ wltl).trans HWF.out.2.2.1
    have wg := (hb1.block _ wltg).trans HWF.out.2.2.2
    have q0 : W1.cell? ⟨w.heap.size, 0, none⟩ = some (.pointer (some ⟨p, 0, none⟩)) := HpBox.cell_of_heap w0 rfl
    have qp : W1.cell? ⟨p, 0, none⟩ = some (.slice (some ⟨gs, 0, none⟩) (ss.length + P.length) cap) := HpBox.cell_of_heap wp rfl
    have ql : W1.cell? ⟨w.heap.size + 1, 0, none⟩ = some (.int .i64 (left : Int)) := HpBox.cell_of_heap wl rfl
    have HB1 := Lib.hid hb1
    have HW1 := Lib.hid (And.intro w0 (And.intro wp (And.intro wl wg)))
    obtain ⟨ca, hca⟩ : ∃ ca : Nat, cc + a = ca := ⟨_, rfl⟩
    obtain ⟨lo, hlo⟩ : ∃ lo : Nat, ca + 1 = lo := ⟨_, rfl⟩
    have z1 : (cc : Int) + (a : Int) = (ca : Int) := by omega
    have z2 : (ca : Int) + 1 = (lo : Int) := by omega
    have z3 : IntKind.i64.wrap (ca : Int) = (ca : Int) := by rw [IntKind.wrap_i64]; omega
    have z4 : IntKind.i64.wrap (lo : Int) = (lo : Int) := by rw [IntKind.wrap_i64]; omega
    have z5 : (0 : Int) ≤ (lo : Int) := by omega
    have z6 : lo ≤ ss.length + P.length := by omega
    have z7 : (lo : Int) ≤ (ss.length : Int) + (P.length : Int) := by omega
    have z8 : (0 : Int) ≤ (cc : Int) := by omega
    have z9 : (cc : Int) ≤ (left : Int) := by omega
    have z10 : lo ≤ cap := by omega
    have z11 : ¬ cap = cc := by omega
    have z12 : cc ≤ cap := by omega
    have hcs : (cu.drop cc).take (left - cc) = ptrs ((ss.take left).drop cc) := by
      have h5 := congrArg (List.drop cc) HF4.out
      rw [List.drop_take] at h5
      rw [h5]
      unfold ptrs
      rw [List.map_drop]
    have HCS := Lib.hid hcs
    have hlcs : ((cu.drop cc).take (left - cc)).length = left - cc := by rw [List.length_take, List.length_drop]; omega
    have HLCS := Lib.hid hlcs
    have HCA := Lib.hid hca
    have HLO := Lib.hid hlo
    clear w0 wp wl wg hb1 wlt wltp wltl wltg hcs hlcs hca hlo
    gi_wp2
    refine wpIn_mono (Q := onlyS fun a9 w9 => (∃ u46 u54, a9 = { tmps := #[.pointer (some ⟨p, 0, none⟩), .slice A P.length c, .pointer (some ⟨w.heap.size, 0, none⟩), undef, .pointer (some ⟨w.heap.size + 1, 0, none⟩), .int .i64 (a : Int), .pointer (some ⟨g, 0, none⟩), .int .i64 (cc : Int), .bool tb, .pointer (some ⟨p, 0, none⟩), .pointer (some ⟨p, 0, none⟩), .pointer (some ⟨p, 0, none⟩), .slice Ag ss.length cg, .int .i64 (ss.length : Int), .pointer (some ⟨p, 0, none⟩), .pointer (some ⟨p, 0, none⟩), .pointer (some ⟨p, 0, none⟩), .pointer (some ⟨p, 0, none⟩), .slice Ag ss.length cg, .slice A P.length c, .slice (some ⟨gs, 0, none⟩) (ss.length + P.length) cap, .pointer (some ⟨p, 0, none⟩), .pointer (some ⟨p, 0, none⟩), .slice A P.length c, .func (.func 88) #[] #[.pointer (some ⟨W3.heap.size, 0, none⟩)], .int .i64 (a : Int), .pointer (some ⟨g, 0, none⟩), .tuple #[.int .i64 (cc : Int), .bool tb], .pointer (some ⟨p, 0, none⟩), .pointer (some ⟨p, 0, none⟩), .pointer (some ⟨p, 0, none⟩), .slice (some ⟨gs, 0, none⟩) (ss.length + P.length) cap, .int .i64 (left : Int), .slice (some ⟨gs, 0, none⟩) left cap, .pointer (some ⟨g, 0, none⟩), .tuple #[.int .i64 (cc : Int), .bool tb], .int .i64 (cc : Int), .bool tb, .pointer (some ⟨p, 0, none⟩), .pointer (some ⟨p, 0, none⟩), .pointer (some ⟨p, 0, none⟩), .slice (some ⟨gs, 0, none⟩) (ss.length + P.length) cap, .int .i64 (cc : Int), .int .i64 (a : Int), .int .i64 (ca : Int), .int .i64 (lo : Int), u46, .pointer (some ⟨p, 0, none⟩), .pointer (some ⟨p, 0, none⟩), .pointer (some ⟨p, 0, none⟩), .slice (some ⟨gs, 0, none⟩) (ss.length + P.length) cap, .int .i64 (cc : Int), .int .i64 (left : Int), .slice (some ⟨gs, cc, none⟩) (left - cc) (cap - cc), u54, undef, undef, undef, undef, undef, undef, undef, undef, undef, undef], defers := [] }) ∧ Cp gs (splice cu lo ((cu.drop cc).take (left - cc))) W1 w9) (round_tail 16 (by kernel_rfl) (noDefer_all (by kernel_rfl)) onlyS_lets (by kernel_rfl) ?_) ?_
    case refine_1 =>
      have HNE : Hid (left = cc ∨ cc < left) := Lib.hid (by omega)
      by_cases hcap : cap = lo
      · have HNE0 : Hid (left = cc) := Lib.hid (by have := HLO.out; have := HCA.out; omega)
        subst hcap
        simp only [List.take_succ_cons, List.take_zero, List.drop_succ_cons, List.drop_zero]
        iterate 16 (refine wpStill_step (fun K hK => ?_); go_simp; refine hK _ ?_; clear hK K)
        refine wpStill_nil ?_
        change wpList _ _ _ _ _ W1.drew
        refine wpList_copy_nothing rfl (.tmp 46) (.tmp 53) 57 57 rfl 64 Tryz.underlying57 infoS _ _ _ _ _ _ rfl rfl (by rw [show left - cc = 0 by have := HNE0.out; omega]; exact Nat.zero_min _) ?_
        refine wpList_nil ?_
        exact ⟨⟨_, _, rfl⟩, cp_none HW1.out.2.2.2 HNE0.out⟩
      · simp only [List.take_succ_cons, List.take_zero, List.drop_succ_cons, List.drop_zero]
        iterate 16 (refine wpStill_step (fun K hK => ?_); go_simp; refine hK _ ?_; clear hK K)
        refine wpStill_nil ?_
        change wpList _ _ _ _ _ W1.drew
        rcases HNE.out with hne | hne
        · refine wpList_copy_nothing rfl (.tmp 46) (.tmp 53) 57 57 rfl 64 Tryz.underlying57 infoS _ _ _ _ _ _ rfl rfl (by rw [show left - cc = 0 by omega]; exact Nat.zero_min _) ?_
          refine wpList_nil ?_
          exact ⟨⟨_, _, rfl⟩, cp_none HW1.out.2.2.2 hne⟩
        · refine wpList_copy_own rfl (.tmp 46) (.tmp 53) 57 57 rfl 64 Tryz.underlying57 infoS gs lo _ _ ⟨gs, cc, none⟩ _ _ rfl rfl cu.toArray 64 HW1.out.2.2.2 ((cu.drop cc).take (left - cc)) (by
              rw [HLCS.out]
              have := HLO.out
              have := HCA.out
              exact (Nat.min_eq_left (by omega)).symm) (fun j v hj => by
              have hjl : j < left - cc := by
                have := (List.getElem?_eq_some_iff.1 hj).1
                rw [HLCS.out] at this
                exact this
              rw [List.getElem?_take_of_lt hjl, List.getElem?_drop] at hj
              rw [add_off]
              exact HpBox.cell_of_heap (w := W1.drew) HW1.out.2.2.2 (by simpa using hj)) (by
              rw [HLCS.out]
              have := HLO.out
              have := HCA.out
              simp
              omega) (by
              rw [HCS.out]
              intro v hv
              obtain ⟨y, _, rfl⟩ := List.mem_map.1 hv
              rfl) ?_
          refine wpList_nil ?_
          exact ⟨⟨_, _, rfl⟩, cp_some HW1.out.2.2.2⟩
    intro e a9 w9 h9
    cases e <;> first | exact h9.elim | skip
    obtain ⟨⟨u46, u54, rfl⟩, hcp⟩ := h9
    simp only
    have hb1n : w.heap.size + 1 ≠ gs := by have := HGS.out.2.1; omega
    have v0 := (hcp.oth w.heap.size (by have := HGS.out.2.1; omega)).trans HW1.out.1
    have vp := (hcp.oth p (fun e => HGS.out.2.2 e.symm)).trans HW1.out.2.1
    have vl := (hcp.oth (w.heap.size + 1) hb1n).trans HW1.out.2.2.1
    have vg := hcp.row
    have hspl : (splice cu lo ((cu.drop cc).take (left - cc))).length = cap := by
      rw [length_splice _ _ _ (by rw [HLCS.out]; have := HLO.out; have := HCA.out; omega)]
      exact hf2
    have hcal : ca < cap := by have := HLO.out; omega
    have hLR : Hid (runL ss P (ss.length, cur.toList) ((pre ++ [(⟨a, ha⟩ : Ix P)]).map Subtype.val) = (cc, (splice cu lo ((cu.drop cc).take (left - cc))).set ca (.pointer (some ⟨g, 0, none⟩)))) := Lib.hid (by
      rw [HRUN.out, HST2.out]
      unfold splice
      rw [HLCS.out, ← HLO.out, ← HCA.out]
      rfl)
    obtain ⟨SP, hSP⟩ : ∃ SP, splice cu lo ((cu.drop cc).take (left - cc)) = SP := ⟨_, rfl⟩
    rw [hSP] at hspl hLR vg
    have hoth9 := hcp.oth
    have HC9 : Hid ((w9.os = W1.os ∧ w9.tape = W1.tape ∧ w9.output = W1.output) ∧ w9.heap.size = W1.heap.size ∧ ∀ i, i ≠ gs → w9.heap[i]? = W1.heap[i]?) := Lib.hid ⟨⟨hcp.os, hcp.tape, hcp.output⟩, hcp.size, hcp.oth⟩
    have HV9 := Lib.hid (And.intro vl vg)
    have t0 : w9.cell? ⟨w.heap.size, 0, none⟩ = some (.pointer (some ⟨p, 0, none⟩)) := HpBox.cell_of_heap v0 rfl
    have tp : w9.cell? ⟨p, 0, none⟩ = some (.slice (some ⟨gs, 0, none⟩) (ss.length + P.length) cap) := HpBox.cell_of_heap vp rfl
    have tl : w9.cell? ⟨w.heap.size + 1, 0, none⟩ = some (.int .i64 (left : Int)) := HpBox.cell_of_heap vl rfl
    have tlf : w9.frozen? ⟨w.heap.size + 1, 0, none⟩ = false := HpBox.frozen_of_heap vl
    have tg : w9.cell? ⟨gs, ca, none⟩ = some (SP[ca]'(by omega)) := HpBox.cell_of_heap vg (by simp [show ca < SP.length by omega])
    have tgf : w9.frozen? ⟨gs, ca, none⟩ = false := HpBox.frozen_of_heap vg
    have y1 : (0 : Int) ≤ (ca : Int) := by omega
    have y2 : (ca : Int) < (ss.length : Int) + (P.length : Int) := by omega
    have y3 : ca < ss.length + P.length := by omega
    generalize SP[ca]'(by omega) = old at *
    clear hcp v0 vp vl vg hSP hoth9 HW1 HCS q0 qp ql
    gi_wp2
    obtain ⟨W4, hW4⟩ : ∃ W4, W4 = (w9.setCell ⟨gs, ca, none⟩ (.pointer (some ⟨g, 0, none⟩))).setCell ⟨w.heap.size + 1, 0, none⟩ (.int .i64 (cc : Int)) := ⟨_, rfl⟩
    rw [← hW4]
    have f1 : ∀ i, i ≠ gs → i ≠ w.heap.size + 1 → W4.heap[i]? = w9.heap[i]? := fun i h1 h2 => by rw [hW4, heap_setCell_other _ _ _ _ h2, heap_setCell_other _ _ _ _ h1]
    have hWo : ∀ i, i < W.heap.size → i ≠ gs → i ≠ w.heap.size + 1 → W4.heap[i]? = W.heap[i]? := fun i hi h1 h2 => ((f1 i h1 h2).trans (HC9.out.2.2 i h1)).trans (HB1.out.block i hi)
    have hs4 : W.heap.size ≤ W4.heap.size := by
      have h1 := HC9.out.2.1
      have h2 := HB1.out.size
      rw [hW4]
      simp only [World.size_setCell]
      omega
    have hrow4 : W4.heap[gs]? = some (.cells (SP.set ca (.pointer (some ⟨g, 0, none⟩))).toArray 64 (0, 0)) := by
      rw [hW4, heap_setCell_other _ _ _ _ (fun e => hb1n e.symm), heap_setCell_same _ _ _ _ _ _ HV9.out.2]
      simp
    have hleft4 : W4.heap[w.heap.size + 1]? = some (.cells #[.int .i64 (cc : Int)] 3 (0, 0)) := by
      rw [hW4]
      have h1 : (w9.setCell ⟨gs, ca, none⟩ (.pointer (some ⟨g, 0, none⟩))).heap[w.heap.size + 1]? = some (.cells #[.int .i64 (left : Int)] 3 (0, 0)) := (heap_setCell_other _ _ _ _ hb1n).trans HV9.out.1
      rw [heap_setCell_same _ _ _ _ _ _ h1]
      simp
    have hos4 : W4.os = w9.os ∧ W4.tape = w9.tape ∧ W4.output = w9.output := by rw [hW4]; exact ⟨rfl, rfl, rfl⟩
    refine ⟨⟨hs4, fun k o hk ho => ?_⟩, ⟨?_, fun b off e => ?_⟩, ?_⟩
    · have hk1 : k ≠ gs := fun e => by
        rw [e, HWF.out.2.2.2] at hk
        cases hk
        cases ho
      have hk2 : k ≠ w.heap.size + 1 := fun e => by
        rw [e, HWF.out.2.2.1] at hk
        cases hk
        cases ho
      exact (hWo k (Array.getElem?_eq_some_iff.1 hk).1 hk1 hk2).trans hk
    · have := HGB.out
      exact hWo _ (by omega) (by omega) (by omega)
    · have h1 := HBL.out b off e
      exact hWo b (by omega) h1.2 (by omega)
    · show LSt W0 gs (w.heap.size + 1) (runL ss P (ss.length, cur.toList) ((pre ++ [(⟨a, ha⟩ : Ix P)]).map Subtype.val)) W4
      rw [hLR.out]
      have hb := HC9.out.1
      exact ⟨((hos4.1.trans hb.1).trans HB1.out.os).trans HI.out.os, ((hos4.2.1.trans hb.2.1).trans HB1.out.tape).trans HI.out.tape, ((hos4.2.2.trans hb.2.2).trans HB1.out.output).trans HI.out.output, Nat.le_trans HI.out.size hs4,
        fun i hi h1 h2 => (hWo i (Nat.lt_of_lt_of_le hi HI.out.size) h1 h2).trans (HI.out.oth i hi h1 h2), hleft4, hrow4⟩
end Go.Proofs.YtkgmcabamhpjhaaGreat.HpLay

namespace Go.Proofs.YtkgmcabamhpjhaaGreat.HpLay0
open Go Go.RowKit Go.Shelf Words AppN Less LbSpec LbMem RcAll RcMem RcRef HdMem HdKm HdSpec HpSpec HpBox HpMem HpAll HpSearch HpBack HpLayP HpRound HpLay
open HdTerms (step_append_run)
open RcSpec hiding none

attribute [local go_sem] Oper.semAt_some

/-- Nothing of what was there has changed. -/
structure Still0 (W0 W : World) : Prop where
  os : W.os = W0.os
  tape : W.tape = W0.tape
  output : W.output = W0.output
  size : W0.heap.size ≤ W.heap.size
  oth : ∀ i, i < W0.heap.size → W.heap[i]? = W0.heap[i]?

set_option maxHeartbeats 6400000 in
set_option maxRecDepth 100000 in
theorem lay_none (w : World) (J : Nat → Nat) (p n : Nat) (last : Option Nat) (V : List UInt8 → List Pin) (ss : List Pin) (sv : Value) (mv : Option Nat) (R : List UInt8 → Value) (h : HM w J p last V ss sv mv R n) (hn : ss.length ≤ 65536) :
    Calls Tryz.prog 33 #[(.pointer (some ⟨p, 0, none⟩)), .slice none 0 0] w (LPost w J p n last V ss mv R) := by
  obtain ⟨i1, gi, gz0, gz1, gz2⟩ := info_parts info_ptr
  obtain ⟨Ag, cg, rfl, hcg1, hcg2, _⟩ := own_row h.srt (by rw [ptrs_len]; omega)
  have hlt := h.lt
  have c0 : w.cell? ⟨p, 0, none⟩ = some (.slice Ag ss.length cg) := HpBox.cell_of_heap h.box rfl
  obtain ⟨W2, hW2⟩ : ∃ W2, W2 = (w.alloc (.cells #[.pointer (some ⟨p, 0, none⟩)] 24)).alloc (.cells #[.int .i64 (ss.length : Int)] 3) := ⟨_, rfl⟩
  have hs2 : W2.heap.size = w.heap.size + 1 + 1 := by rw [hW2]; simp
  have hb2 : Below w.heap.size w W2 := by rw [hW2]; exact ((Below.refl _ w).alloc (Nat.le_refl _) _).alloc (by simp) _
  have hB0 : W2.heap[w.heap.size]? = some (.cells #[.pointer (some ⟨p, 0, none⟩)] 24 (0, 0)) := by
    rw [hW2]
    exact (Below.heap_alloc _ _ _ (by simp)).trans (Go.heap_alloc_new w _)
  have hm2 := h.below hb2
  obtain ⟨v', w', hrun, hown', hg', hv'⟩ := run_append_rd (P := Tryz.prog) W2.drew 0 1 57 57 64 i1 (.pointer none) 8 Tryz.underlying57 gi gz0 gz1 gz2 rfl (by omega) _ _ _ (show W2.drew.ownsRow 0 64 1 (.slice Ag ss.length cg) ss.length (ptrs ss) from hm2.srt)
    0 none 0 0 [] rfl Rd.nil_ (by intro u hu; cases hu) (by unfold maxLen; omega) (by omega) (by omega)
  have c0b : W2.cell? ⟨w.heap.size, 0, none⟩ = some (.pointer (some ⟨p, 0, none⟩)) := HpBox.cell_of_heap hB0 rfl
  have c0p : W2.cell? ⟨p, 0, none⟩ = some (.slice Ag ss.length cg) := HpBox.cell_of_heap hm2.box rfl
  have hold : ∀ q, (Value.slice Ag ss.length cg).ownBlock = some q → J q = 3 := h.js
  have hoq : ∀ q, (Value.slice Ag ss.length cg).ownBlock = some q → q < w.heap.size ∧ q ≠ p := fun q hq => ⟨h.in_ q (by rw [hold q hq]; omega), fun e => by
    have h1 := hold q hq
    rw [e, h.jp] at h1
    omega⟩
  have g0 : w'.heap[w.heap.size]? = W2.heap[w.heap.size]? := hg'.block w.heap.size (by show w.heap.size < W2.heap.size; omega) (fun e => by have := (hoq _ e.symm).1; omega)
  have gp : w'.heap[p]? = W2.heap[p]? := hg'.block p (by show p < W2.heap.size; omega) (fun e => (hoq _ e.symm).2 rfl)
  have d0 : w'.cell? ⟨w.heap.size, 0, none⟩ = some (.pointer (some ⟨p, 0, none⟩)) := HpBox.cell_of_heap (g0.trans hB0) rfl
  have dp : w'.cell? ⟨p, 0, none⟩ = some (.slice Ag ss.length cg) := HpBox.cell_of_heap (gp.trans hm2.box) rfl
  have df : ∀ j, w'.frozen? ⟨p, j, none⟩ = false := fun j => HpBox.frozen_of_heap (gp.trans hm2.box)
  simp only [Nat.add_zero, List.append_nil] at hown'
  obtain ⟨A', c', rfl, hc1', hc2', _⟩ := own_row hown' (by rw [ptrs_len]; omega)
  have hq' : ∀ q, (Value.slice A' ss.length c').ownBlock = some q → (q < w.heap.size → J q = 3) ∧ q ≠ p ∧ q < w'.heap.size := fun q hq => by
    have h1 := (hown'.lt q hq).2
    rcases hv' with hv' | hv'
    · rw [hv'] at hq
      exact ⟨fun _ => hold q hq, (hoq q hq).2, h1⟩
    · rw [hv'] at hq
      have : W2.heap.size = q := Option.some.inj hq
      exact ⟨fun _ => by omega, by omega, h1⟩
  have HQ := Lib.hid hq'
  obtain ⟨W3, hW3⟩ : ∃ W3, W3 = w'.setCell ⟨p, 0, none⟩ (.slice A' ss.length c') := ⟨_, rfl⟩
  have hs3 : W3.heap.size = w'.heap.size := by rw [hW3]; simp
  have hs3b : w.heap.size + 1 + 1 ≤ w'.heap.size := by have := hg'.size; rw [← hs2]; exact this
  have hoth3 : ∀ i, i ≠ p → W3.heap[i]? = w'.heap[i]? := fun i hi => by rw [hW3, heap_setCell_other _ _ _ _ hi]
  obtain ⟨W0, hW0⟩ : ∃ W0, W0 = W3.alloc (.cells #[.slice none 0 0] 57) := ⟨_, rfl⟩
  have hs0 : W0.heap.size = W3.heap.size + 1 := by rw [hW0]; simp
  have hal : ∀ i, i < W3.heap.size → W0.heap[i]? = W3.heap[i]? := fun i hi => by rw [hW0]; exact Below.heap_alloc _ _ _ hi
  have ep : W0.heap[p]? = some (.cells #[.slice A' ss.length c', .map mv, .int .u64 ((last.getD 0 : Nat) : Int), .bool last.isSome] 60 (0, 0)) := by
    rw [hal p (by omega), hW3, heap_setCell_same _ p 0 _ _ _ (gp.trans hm2.box)]
    simp
  have eB : W0.heap[W3.heap.size]? = some (.cells #[.slice none 0 0] 57 (0, 0)) := by rw [hW0]; exact Go.heap_alloc_new W3 _
  have hrest : ∀ i, i < w.heap.size → i ≠ p → J i ≠ 3 → W0.heap[i]? = w.heap[i]? := fun i hi h1 h2 =>
    ((hal i (by omega)).trans (hoth3 i h1)).trans ((hg'.block i (by show i < W2.heap.size; omega) (fun e => h2 (hold i e.symm))).trans (hb2.block i hi))
  have ebase : W0.os = w.os ∧ W0.tape = w.tape ∧ W0.output = w.output := by
    rw [hW0, hW3]
    exact ⟨hg'.os.trans hb2.os, hg'.tape.trans hb2.tape, hg'.output.trans hb2.output⟩
  have hown0 : W0.ownsRow 0 64 1 (.slice A' ss.length c') ss.length (ptrs ss) := own_same hown' fun q hq => (hal q (by have := (hq' q hq).2.2; omega)).trans (hoth3 q (hq' q hq).2.1)
  have HREST := Lib.hid hrest
  have HBASE := Lib.hid ebase
  have HE := Lib.hid (And.intro ep (And.intro eB hown0))
  have HH := Lib.hid h
  have hszw : w.heap.size + 1 + 1 < W0.heap.size ∧ p < w.heap.size ∧ W3.heap.size < W0.heap.size ∧ w'.heap.size < W0.heap.size := ⟨by omega, hlt, by omega, by omega⟩
  have hW0' : Hid (W3.alloc (.cells #[.slice none 0 0] 57) = W0) := Lib.hid hW0.symm
  have hW3' : Hid (w'.setCell ⟨p, 0, none⟩ (.slice A' ss.length c') = W3) := Lib.hid hW3.symm
  clear hown' hg' hv' hrest ebase ep eB hown0 hW0 hW3 hal hoth3 hs3 hs3b hs0 hm2 h g0 gp hold hoq hB0 hb2 hq'
  refine (callsIn_wide (n := 9)).1 ?_
  refine callsIn_of_wp_marks Tryz.func33 rfl trivial ?_ rfl
  simp only [Tryz.ntmps33, List.size_toArray, List.length_cons, List.length_nil, Nat.reduceAdd, Nat.reduceSub, Array.replicate_succ, Array.replicate_zero, List.push_toArray, List.append_toArray, List.nil_append, List.cons_append]
  gi_wp2
  rw [← hW2]
  clear hW2
  refine wpIn_mono (Q := onlyE { tmps := #[.pointer (some ⟨p, 0, none⟩), .slice none 0 0, .pointer (some ⟨w.heap.size, 0, none⟩), undef, .pointer (some ⟨w.heap.size + 1, 0, none⟩), undef, undef, undef, undef, .pointer (some ⟨p, 0, none⟩), .pointer (some ⟨p, 0, none⟩), .pointer (some ⟨p, 0, none⟩), .slice Ag ss.length cg, .int .i64 (ss.length : Int), .pointer (some ⟨p, 0, none⟩), .pointer (some ⟨p, 0, none⟩), .pointer (some ⟨p, 0, none⟩), .pointer (some ⟨p, 0, none⟩), .slice Ag ss.length cg, .slice none 0 0, .slice A' ss.length c', .pointer (some ⟨p, 0, none⟩), .pointer (some ⟨p, 0, none⟩), undef, undef, undef, undef, undef, undef, undef, undef, undef, undef, undef, undef, undef, undef, undef, undef, undef, undef, undef, undef, undef, undef, undef, undef, undef, undef, undef, undef, undef, undef, undef, undef, undef, undef, undef, undef, undef, undef, undef, undef, undef, undef], defers := [] } (w'.setCell ⟨p, 0, none⟩ (.slice A' ss.length c'))) (wpIn_wide.2 ?_) ?_
  case refine_1 =>
    go_region_law (first
      | (refine step_append_run rfl (.tmp 18) (.tmp 19) 57 rfl _ w' hrun ?_))
    all_goals exact ⟨rfl, rfl⟩
  intro e a9 w9 h9
  cases e <;> first | exact h9.elim | skip
  obtain ⟨rfl, rfl⟩ := h9
  rw [hW3'.out]
  clear hrun c0 c0b c0p d0 dp df
  gi_wp2_with (refine ⟨trivial, ?_⟩; gi_at_call 55; refine (callsIn_wide.2 (backward_any _ _ _ _)).mono ?_; rintro e w9 ⟨rfl, rfl⟩)
  rw [hW0'.out]
  refine wpIn_rangeFunc_ownF rfl (by omega) (gf := 88) (lb := #[.pointer (some ⟨W3.heap.size, 0, none⟩)]) rfl trivial (enters_of Tryz.func88 (by kernel_rfl) rfl)
    (back_stops Fence.wide 8 trivial rfl (by omega) W3.heap.size 0 none [] (by simp) W0 HE.out.2.1 Rd.nil_) (fun h k => kpB_t h k)
    (fun W l o o' hl _ _ _ => ⟨World.putObj_heap_other (by omega), fun b off e => (by cases e)⟩) (Below.refl _ _) (fun _ => rfl)
    (fun (_ : List (Ix [])) W => Still0 W0 W) (fun _ _ _ => False)
    (fun s X Y row hs hg hr => ⟨hg.os.trans hs.os, hg.tape.trans hs.tape, hg.output.trans hs.output, Nat.le_trans hs.size hg.size, fun i hi => (hg.block i (Nat.lt_of_lt_of_le hi hs.size) (fun e => by have := (hr i e.symm).1; omega)).trans (hs.oth i hi)⟩) (fun _ _ _ _ _ hs _ _ => hs) ⟨rfl, rfl, rfl, Nat.le_refl _, fun _ _ => rfl⟩
    (fun x => { tmps := #[.pointer (some ⟨p, 0, none⟩), .slice none 0 0, .pointer (some ⟨w.heap.size, 0, none⟩), undef, .pointer (some ⟨w.heap.size + 1, 0, none⟩), .int .i64 (x.1 : Int), ptr (([] : List Pin)[x.1]'x.2).1, undef, undef, .pointer (some ⟨p, 0, none⟩), .pointer (some ⟨p, 0, none⟩), .pointer (some ⟨p, 0, none⟩), .slice Ag ss.length cg, .int .i64 (ss.length : Int), .pointer (some ⟨p, 0, none⟩), .pointer (some ⟨p, 0, none⟩), .pointer (some ⟨p, 0, none⟩), .pointer (some ⟨p, 0, none⟩), .slice Ag ss.length cg, .slice none 0 0, .slice A' ss.length c', .pointer (some ⟨p, 0, none⟩), .pointer (some ⟨p, 0, none⟩), .slice none 0 0, .func (.func 88) #[] #[.pointer (some ⟨W3.heap.size, 0, none⟩)], .int .i64 (x.1 : Int), ptr (([] : List Pin)[x.1]'x.2).1, undef, undef, undef, undef, undef, undef, undef, undef, undef, undef, undef, undef, undef, undef, undef, undef, undef, undef, undef, undef, undef, undef, undef, undef, undef, undef, undef, undef, undef, undef, undef, undef, undef, undef, undef, undef, undef, undef], defers := [] }) ?assign ?body ?done ?stop
  case assign =>
    intro l x W K hK
    exact absurd x.2 (by simp)
  case stop =>
    rintro D c pre W _ _ h _
    exact h.elim
  case body =>
    rintro l pre x W hI hlen
    exact absurd x.2 (by simp)
  case done =>
    rintro D ys W hD hys hI hK
    have HFIN : Hid (LPost w J p n last V ss mv R (.returned (.tuple #[])) (W.putObj D (.deferred none))) := Lib.hid (by
      have hDn : ∀ i, i < W0.heap.size → (W.putObj D (.deferred none)).heap[i]? = W0.heap[i]? := fun i hi => (World.putObj_heap_other (by omega)).trans (hI.oth i hi)
      have hpz : (W.putObj D (.deferred none)).heap.size = W.heap.size := by simp [World.putObj]
      have hsz := hI.size
      have hmo : Mo J (fun i => if (Value.slice A' ss.length c').ownBlock = some i then 3 else J i) (fun k => k = 1 ∨ k = 3) w (W.putObj D (.deferred none)) := by
        refine ⟨hI.os.trans HBASE.out.1, hI.tape.trans HBASE.out.2.1, hI.output.trans HBASE.out.2.2, by rw [hpz]; omega, fun i hi hk => ?_⟩
        exact ⟨(hDn i (by omega)).trans (HREST.out i hi (fun e => hk (.inl (by rw [e]; exact HH.out.jp))) (fun e => hk (.inr e))), if_neg (fun e => hk (.inr ((HQ.out i e).1 hi)))⟩
      refine ⟨rfl, fun i => if (Value.slice A' ss.length c').ownBlock = some i then 3 else J i, .slice A' ss.length c', HM.resort HH.out hmo ?_ ?_ ?_ ?_ HH.out.spin ?_, hmo.widen fun k hk => by omega⟩
      · exact (hDn p (by omega)).trans HE.out.1
      · show (if (Value.slice A' ss.length c').ownBlock = some p then 3 else J p) = 1
        rw [if_neg (fun e => (HQ.out p e).2.1 rfl)]
        exact HH.out.jp
      · exact own_same HE.out.2.2 fun q hq => hDn q (by have := (HQ.out q hq).2.2; omega)
      · intro q hq
        exact if_pos hq
      · intro i hi
        have hi : (if (Value.slice A' ss.length c').ownBlock = some i then 3 else J i) ≠ 0 := hi
        by_cases e : (Value.slice A' ss.length c').ownBlock = some i
        · have := (HQ.out i e).2.2
          omega
        · rw [if_neg e] at hi
          have := HH.out.in_ i hi
          omega)
    clear hI
    gi_wp2
    refine ⟨by simp, .inl ⟨_, _, rfl, run_takeDeferred hK, ?_⟩⟩
    exact ⟨_, results_none rfl _ _ _, HFIN.out⟩
end Go.Proofs.YtkgmcabamhpjhaaGreat.HpLay0

