/- The contracts of the document's Same, First and number: memory is only read. Conditions: none but that the manifests lie in memory. · The contract of the document's May: memory is only read. Conditions: none but that the manifest lies in memory. -/
import Derived.Test.YtjninegpaoblfaaGreatDoorMfMem
import Derived.WalkKit
import Derived.Outline
import Derived.Deep.RegionLaw
import Derived.Deep.CutBlock
namespace Go.Proofs.YtjninegpaoblfaaGreatDoor.RefMf
open Go Go.RowKit Words AppN MfSpec MfMem

theorem cell_up {w w' : World} {B : Nat} (hb : Below B w w') {p : Addr} (hp : p.block < B) {u : Value} (h : w.cell? p = some u) : w'.cell? p = some u := (hb.cell hp).trans h
theorem below_drew1 {w0 w : World} {B : Nat} (h : Below B w0 w) : Below B w0 w.drew := ⟨h.os, h.tape, h.output, h.size, h.block⟩
theorem below_drewN {w0 w : World} {B : Nat} (h : Below B w0 w) (k : Nat) : Below B w0 (w.drewN k) := ⟨h.os, h.tape, h.output, h.size, h.block⟩

theorem results_cell1 {fn : Func} {p : Tmp} {ty : TypeId} (h : fn.results = #[.cell p ty]) (tmps : Array Value) (P : Program) (w : World) :
    (results fn tmps).run P w = ((asAddr (tmps.getD p undef)).run P w).andThen fun a w₁ => (loadVar ty a).run P w₁ := by
  simp only [results, h]
  simp [Sem.run_bind, Result.andThen]
theorem rfirst_any (w : World) : Calls Tryz.prog 26 #[] w fun e w' => e = .returned (aggM (first, none, 0, 0)) ∧ Below w.heap.size w w' := by
  go_enter Tryz.func26, Tryz.ntmps26
  go_wp2
  refine bodyPost_ret (v := .agg #[.int .i64 1, .int .i64 1, .int .u64 1, .int .i64 (-9223372036854775808), .slice none 0 0]) ?_ rfl ?_
  · rw [results_cell1 rfl]
    go_simp
  · exact ⟨rfl, (Below.refl _ w).alloc (Nat.le_refl _) _⟩

/-! ### Same -/
/-- '==' and '!=' of two segments. -/
theorem run_eqS (w : World) (x y : Sg) : (binOp .eql 65 (.agg #[.int .i64 x.id, .int .i64 x.count, .int .i64 x.least, .int .i64 x.most]) (.agg #[.int .i64 y.id, .int .i64 y.count, .int .i64 y.least, .int .i64 y.most])).run Tryz.prog w = .ok (.bool (decide (x = y))) w := by
  have hq : decide (x = y) = (x.id == y.id && (x.count == y.count && (x.least == y.least && x.most == y.most))) := by
    obtain ⟨_, _, _, _⟩ := x
    obtain ⟨_, _, _, _⟩ := y
    rw [Bool.eq_iff_iff]
    simp
  rw [run_eql_struct, run_equalIn_agg w 9999 65 _ _ (by kernel_rfl) (by kernel_rfl), hq]
  simp only [Program.fieldsOf, Tryz.underlying65, Op.eqFields, part, Sem.run_bind, Sem.run_ite]
  simp [go_sem, Tryz.underlying3, Tryz.underlying2]
  cases h1 : x.id == y.id <;> cases h2 : x.count == y.count <;> cases h3 : x.least == y.least <;> cases h4 : x.most == y.most <;> simp_all
theorem run_neS (w : World) (x y : Sg) : (binOp .neq 65 (.agg #[.int .i64 x.id, .int .i64 x.count, .int .i64 x.least, .int .i64 x.most]) (.agg #[.int .i64 y.id, .int .i64 y.count, .int .i64 y.least, .int .i64 y.most])).run Tryz.prog w = .ok (.bool (!decide (x = y))) w := by
  have h := run_eqS w x y
  rw [run_eql_struct] at h
  rw [run_neq_struct]
  generalize (Op.equalIn 10000 65 (.agg #[.int .i64 x.id, .int .i64 x.count, .int .i64 x.least, .int .i64 x.most]) (.agg #[.int .i64 y.id, .int .i64 y.count, .int .i64 y.least, .int .i64 y.most])).run Tryz.prog w = R at *
  cases R with
  | ok b w' => simp [Result.andThen] at h ⊢; exact ⟨by rw [h.1], h.2⟩
  | _ => simp [Result.andThen] at h
theorem cell_of_heap {w : World} {g j : Nat} {cs : Array Value} {t : TypeId} {u : Value} (h : w.heap[g]? = some (.cells cs t (0, 0))) (hj : cs[j]? = some u) : w.cell? ⟨g, j, .none⟩ = some u := by
  unfold World.cell?
  rw [h]
  simpa using hj
def boxM (m : MM) : Obj := .cells #[.int .i64 m.1.wal, .int .i64 m.1.next, .int .u64 (m.1.seq.toNat : Int), .int .i64 m.1.mark, .slice m.2.1 m.2.2.1 m.2.2.2] 37
/-- What a box holds. -/
structure BoxM (w : World) (g : Nat) (m : MM) : Prop where
  c0 : w.cell? ⟨g, 0, none⟩ = some (.int .i64 m.1.wal)
  c1 : w.cell? ⟨g, 1, none⟩ = some (.int .i64 m.1.next)
  c2 : w.cell? ⟨g, 2, none⟩ = some (.int .u64 (m.1.seq.toNat : Int))
  c3 : w.cell? ⟨g, 3, none⟩ = some (.int .i64 m.1.mark)
  c4 : w.cell? ⟨g, 4, none⟩ = some (.slice m.2.1 m.2.2.1 m.2.2.2)
theorem box_of {w : World} {g : Nat} {m : MM} (h : w.heap[g]? = some (boxM m)) : BoxM w g m := ⟨cell_of_heap h rfl, cell_of_heap h rfl, cell_of_heap h rfl, cell_of_heap h rfl, cell_of_heap h rfl⟩
theorem BoxM.up {w w' : World} {B g : Nat} {m : MM} (h : BoxM w g m) (hb : Below B w w') (hg : g < B) : BoxM w' g m :=
  ⟨cell_up hb hg h.c0, cell_up hb hg h.c1, cell_up hb hg h.c2, cell_up hb hg h.c3, cell_up hb hg h.c4⟩
theorem boxed1 (w : World) (m : MM) : BoxM (w.alloc (boxM m)) w.heap.size m := box_of (heap_alloc_new w _)
theorem boxed2 (w : World) (m n : MM) : BoxM ((w.alloc (boxM m)).alloc (boxM n)) w.heap.size m ∧ BoxM ((w.alloc (boxM m)).alloc (boxM n)) (w.heap.size + 1) n :=
  ⟨box_of ((Below.heap_alloc _ _ _ (by simp)).trans (heap_alloc_new w _)), box_of (heap_alloc2_new w _ _)⟩
def SRel (W : World) (a b : List Sg) (v : Value) (wr : World) : Prop := ∃ k : Nat, k ≤ a.length ∧ v = .int .i64 (k : Int) ∧ Hid (a.take k = b.take k) ∧ Hid (Below W.heap.size W wr)
theorem man_ext {a b : Man} (h1 : a.wal = b.wal) (h2 : a.next = b.next) (h3 : a.seq = b.seq) (h4 : a.mark = b.mark) (h5 : a.segs = b.segs) : a = b := by
  obtain ⟨_, _, _, _, _⟩ := a
  obtain ⟨_, _, _, _, _⟩ := b
  simp only at h1 h2 h3 h4 h5
  rw [h1, h2, h3, h4, h5]
theorem take_next {a b : List Sg} {k : Nat} (h : a.take k = b.take k) (ha : k < a.length) (hb : k < b.length) (e : a[k] = b[k]) : a.take (k + 1) = b.take (k + 1) := by
  rw [List.take_succ_eq_append_getElem ha, List.take_succ_eq_append_getElem hb, h, e]

set_option maxHeartbeats 3200000 in
set_option maxRecDepth 100000 in
theorem same_any (w : World) (a b : MM) (ha : OkM w a) (hb : OkM w b) (r : Bool) (hr : decide (a.1 = b.1) = r) :
    Calls Tryz.prog 16 #[aggM a, aggM b] w fun e w' => e = .returned (.bool r) ∧ Below w.heap.size w w' := by
  have HRA := Lib.hid ha.segs
  have HRB := Lib.hid hb.segs
  have HR := Lib.hid hr
  clear ha hb hr
  obtain ⟨⟨wa, na, sa, ma, la⟩, Aa, nla, ca⟩ := a
  obtain ⟨⟨wb, nb, sb, mb, lb⟩, Ab, nlb, cb⟩ := b
  unfold aggM slV
  simp only at HRA HRB HR ⊢
  have HB : ∀ o o', Hid (Below w.heap.size w ((w.alloc o).alloc o')) := fun o o' => Lib.hid (((Below.refl _ w).alloc (Nat.le_refl _) _).alloc (by simp) _)
  by_cases h1 : wa = wb
  case neg =>
    have HF : Hid (r = false) := Lib.hid (by rw [← HR.out, decide_eq_false_iff_not]; intro h; injection h; contradiction)
    have j1 : (wa != wb) = true := by simpa using h1
    go_enter Tryz.func16, Tryz.ntmps16
    go_wp2
    go_ret
    rw [HF.out]
    exact ⟨rfl, (HB _ _).out⟩
  by_cases h2 : na = nb
  case neg =>
    have HF : Hid (r = false) := Lib.hid (by rw [← HR.out, decide_eq_false_iff_not]; intro h; injection h; contradiction)
    have j1 : (wa != wb) = false := by simpa using h1
    have j2 : (na != nb) = true := by simpa using h2
    go_enter Tryz.func16, Tryz.ntmps16
    go_wp2
    go_ret
    rw [HF.out]
    exact ⟨rfl, (HB _ _).out⟩
  by_cases h3 : sa = sb
  case neg =>
    have HF : Hid (r = false) := Lib.hid (by rw [← HR.out, decide_eq_false_iff_not]; intro h; injection h; contradiction)
    have j1 : (wa != wb) = false := by simpa using h1
    have j2 : (na != nb) = false := by simpa using h2
    have j3 : ((sa.toNat : Int) != (sb.toNat : Int)) = true := by
      rw [bne_iff_ne]; intro h; exact h3 (UInt64.toNat_inj.1 (by omega))
    go_enter Tryz.func16, Tryz.ntmps16
    go_wp2
    go_ret
    rw [HF.out]
    exact ⟨rfl, (HB _ _).out⟩
  by_cases h4 : ma = mb
  case neg =>
    have HF : Hid (r = false) := Lib.hid (by rw [← HR.out, decide_eq_false_iff_not]; intro h; injection h; contradiction)
    have j1 : (wa != wb) = false := by simpa using h1
    have j2 : (na != nb) = false := by simpa using h2
    have j3 : ((sa.toNat : Int) != (sb.toNat : Int)) = false := by rw [h3]; simp
    have j4 : (ma != mb) = true := by simpa using h4
    go_enter Tryz.func16, Tryz.ntmps16
    go_wp2
    go_ret
    rw [HF.out]
    exact ⟨rfl, (HB _ _).out⟩
  have j1 : (wa != wb) = false := by simpa using h1
  have j2 : (na != nb) = false := by simpa using h2
  have j3 : ((sa.toNat : Int) != (sb.toNat : Int)) = false := by rw [h3]; simp
  have j4 : (ma != mb) = false := by simpa using h4
  have HD : Hid (r = decide (la = lb)) := Lib.hid (by
    rw [← HR.out, decide_eq_decide]
    exact ⟨fun h => by injection h, fun h => by rw [h1, h2, h3, h4, h]⟩)
  have hla := HRA.out.len
  have hlb := HRB.out.len
  have hca := HRA.out.le
  have hcb := HRB.out.le
  have hma := HRA.out.cap
  have hmb := HRB.out.cap
  unfold maxLen at hma hmb
  simp only at hla hlb hca hcb hma hmb
  clear HR h1 h2 h3 h4
  by_cases hlen : nla = nlb
  case neg =>
    have HF : Hid (r = false) := Lib.hid (by rw [HD.out, decide_eq_false_iff_not]; intro h; exact hlen (by rw [hla, hlb, h]))
    have j5 : ((nla : Int) != (nlb : Int)) = true := by simp; omega
    clear hla hlb hlen
    go_enter Tryz.func16, Tryz.ntmps16
    go_wp2
    go_ret
    rw [HF.out]
    exact ⟨rfl, (HB _ _).out⟩
  have j5 : ((nla : Int) != (nlb : Int)) = false := by simp; omega
  have HLA := Lib.hid hla
  have HLB := Lib.hid (show nla = lb.length by omega)
  clear hla hlb hlen
  go_enter Tryz.func16, Tryz.ntmps16
  go_wp2
  go_loopw [5] (fun v wr => SRel ((w.alloc (boxM (⟨wa, na, sa, ma, la⟩, Aa, nla, ca))).alloc (boxM (⟨wb, nb, sb, mb, lb⟩, Ab, nlb, cb))) la lb v wr) (fun v _ => la.length - (intOf v).toNat)
  case atStart => exact ⟨0, Nat.zero_le _, rfl, Lib.hid (by simp), Lib.hid (Below.refl _ _)⟩
  case round =>
    obtain ⟨k, hk, rfl, HT, HBr⟩ := hrel
    obtain ⟨HA2, HB2⟩ := boxed2 w (⟨wa, na, sa, ma, la⟩, Aa, nla, ca) (⟨wb, nb, sb, mb, lb⟩, Ab, nlb, cb)
    have xa := (HA2.up HBr.out (by simp; omega)).c4
    have xb := (HB2.up HBr.out (by simp)).c4
    have HBW : Hid (Below w.heap.size w wr) := Lib.hid ((HB _ _).out.trans (HBr.out.mono (by simp; omega)))
    simp only at xa xb
    clear HA2 HB2
    by_cases hlt : k < nla
    · have ha1 : k < la.length := by have := HLA.out; omega
      have hb1 : k < lb.length := by have := HLB.out; omega
      obtain ⟨g1, o1, e1, hg1, hc1⟩ := HRA.out.rd (by rw [flatS_len]; omega)
      obtain ⟨g2, o2, e2, hg2, hc2⟩ := HRB.out.rd (by rw [flatS_len]; omega)
      simp only at e1 e2
      subst e1 e2
      obtain ⟨p0, p1, p2, p3⟩ := cellsS hc1 ha1
      obtain ⟨q0, q1, q2, q3⟩ := cellsS hc2 hb1
      have k0 := cell_up HBW.out (p := ⟨g1, o1 + k * 4, none⟩) hg1 p0
      have k1 := cell_up HBW.out (p := ⟨g1, o1 + k * 4 + 1, none⟩) hg1 p1
      have k2 := cell_up HBW.out (p := ⟨g1, o1 + k * 4 + 2, none⟩) hg1 p2
      have k3 := cell_up HBW.out (p := ⟨g1, o1 + k * 4 + 3, none⟩) hg1 p3
      have l0 := cell_up HBW.out (p := ⟨g2, o2 + k * 4, none⟩) hg2 q0
      have l1 := cell_up HBW.out (p := ⟨g2, o2 + k * 4 + 1, none⟩) hg2 q1
      have l2 := cell_up HBW.out (p := ⟨g2, o2 + k * 4 + 2, none⟩) hg2 q2
      have l3 := cell_up HBW.out (p := ⟨g2, o2 + k * 4 + 3, none⟩) hg2 q3
      have he := fun w => run_neS w la[k] lb[k]
      have HNX : Hid (la[k] = lb[k] → la.take (k + 1) = lb.take (k + 1)) := Lib.hid (take_next HT.out ha1 hb1)
      have HNE : Hid (la[k] ≠ lb[k] → r = false) := Lib.hid fun e => by
        rw [HD.out, decide_eq_false_iff_not]
        intro h
        subst h
        exact e rfl
      clear hc1 hc2 p0 p1 p2 p3 q0 q1 q2 q3
      generalize la[k] = x at *
      generalize lb[k] = y at *
      obtain ⟨x1, x2, x3, x4⟩ := x
      obtain ⟨y1, y2, y3, y4⟩ := y
      simp only at k0 k1 k2 k3 l0 l1 l2 l3 he
      have i1 : (0 : Int) ≤ (k : Int) := by omega
      have i2 : (k : Int) < (nla : Int) := by omega
      have i3 : (k : Int) < (nlb : Int) := by have := HLB.out; have := HRB.out.len; simp only at this; omega
      by_cases e : (⟨x1, x2, x3, x4⟩ : Sg) = ⟨y1, y2, y3, y4⟩
      · have HX := Lib.hid (HNX.out e)
        rw [decide_eq_true e] at he
        clear e HNE HNX
        go_wp2
        go_quiet (fail)
        go_wp2
        go_roundw
        case rel => exact ⟨k + 1, by omega, by go_num, HX, Lib.hid (below_drewN HBr.out _)⟩
        case measure => simp [intOf]; omega
      · have HX := Lib.hid (HNE.out e)
        rw [decide_eq_false e] at he
        clear e HNE HNX
        go_wp2
        go_quiet (fail)
        go_wp2
        go_ret
        rw [HX.out]
        exact ⟨rfl, below_drewN HBW.out _⟩
    · have HX : Hid (r = true) := Lib.hid (by
        rw [HD.out, decide_eq_true_eq]
        have h := HT.out
        have h1 := HLA.out
        have h2 := HLB.out
        rwa [List.take_of_length_le (by omega), List.take_of_length_le (by omega)] at h)
      go_wp2
      go_ret
      rw [HX.out]
      exact ⟨rfl, HBW.out⟩
end Go.Proofs.YtjninegpaoblfaaGreatDoor.RefMf

namespace Go.Proofs.YtjninegpaoblfaaGreatDoor.RefMay
open Go Go.RowKit Words AppN MfSpec MfMem RefMf

theorem six : ∀ q1 q2 q3 q4 q5 : Bool, q1 = false ∨ (q1 = true ∧ q2 = false) ∨ (q1 = true ∧ q2 = true ∧ q3 = false) ∨ (q1 = true ∧ q2 = true ∧ q3 = true ∧ q4 = false) ∨ (q1 = true ∧ q2 = true ∧ q3 = true ∧ q4 = true ∧ q5 = false) ∨ (q1 = true ∧ q2 = true ∧ q3 = true ∧ q4 = true ∧ q5 = true) := by decide
/-- The outer loop. -/
def ORel (W : World) (m : Man) (v ok : Value) (wr : World) : Prop := ∃ k : Nat, k ≤ m.segs.length ∧ v = .int .i64 (k : Int) ∧ ok = .bool (mayTo m k) ∧ Hid (Below W.heap.size W wr)
/-- The inner one. -/
def IRel (m : Man) (k : Nat) (s : Sg) (v ok : Value) : Prop := ∃ j : Nat, j ≤ k ∧ v = .int .i64 (j : Int) ∧ ok = .bool (okIn m k s j)

set_option maxHeartbeats 3200000 in
set_option maxRecDepth 100000 in
theorem rmay_any (w : World) (m : MM) (hm : OkM w m) :
    Calls Tryz.prog 54 #[aggM m] w fun e w' => e = .returned (.bool (may m.1)) ∧ Below w.heap.size w w' := by
  have HS := Lib.hid hm.segs
  clear hm
  obtain ⟨⟨wal, next, seq, mark, segs⟩, A, n, c⟩ := m
  have hn1 := HS.out.len
  have hn2 := HS.out.le
  have hn3 := HS.out.cap
  unfold maxLen at hn3
  simp only at HS hn1 hn2 hn3 ⊢
  have HN := Lib.hid hn1
  clear hn1
  have HB : Hid (Below w.heap.size w (w.alloc (boxM (⟨wal, next, seq, mark, segs⟩, A, n, c)))) := Lib.hid ((Below.refl _ w).alloc (Nat.le_refl _) _)
  obtain ⟨q1, h1⟩ : ∃ q, decide (1 ≤ wal) = q := ⟨_, rfl⟩
  obtain ⟨q2, h2⟩ : ∃ q, decide (wal ≤ 1000000000) = q := ⟨_, rfl⟩
  obtain ⟨q3, h3⟩ : ∃ q, decide (1 ≤ next) = q := ⟨_, rfl⟩
  obtain ⟨q4, h4⟩ : ∃ q, decide (next ≤ 1000000000) = q := ⟨_, rfl⟩
  obtain ⟨q5, h5⟩ : ∃ q, decide (segs.length ≤ 1024) = q := ⟨_, rfl⟩
  have HH : Hid (headMay ⟨wal, next, seq, mark, segs⟩ = (q1 && (q2 && (q3 && (q4 && q5))))) := Lib.hid (by unfold headMay; rw [h1, h2, h3, h4, h5])
  have h5' : decide ((n : Int) ≤ 1024) = q5 := by rw [← h5, decide_eq_decide]; have := HN.out; omega
  unfold aggM slV
  simp only
  go_enter Tryz.func54, Tryz.ntmps54
  go_upto_region 1 with (fail)
  go_cut [3] from 7 to 30 (fun s3 wx => s3 = .bool (headMay ⟨wal, next, seq, mark, segs⟩) ∧ wx = w.alloc (boxM (⟨wal, next, seq, mark, segs⟩, A, n, c)))
  case first =>
    rcases six q1 q2 q3 q4 q5 with rfl | ⟨rfl, rfl⟩ | ⟨rfl, rfl, rfl⟩ | ⟨rfl, rfl, rfl, rfl⟩ | ⟨rfl, rfl, rfl, rfl, rfl⟩ | ⟨rfl, rfl, rfl, rfl, rfl⟩
    all_goals
      go_wp2
      go_meet
      rw [HH.out]
      exact ⟨rfl, rfl⟩
  case rest =>
    obtain ⟨rfl, rfl⟩ := hcut
    clear HH h1 h2 h3 h4 h5 h5'
    have HBX := boxed1 w (⟨wal, next, seq, mark, segs⟩, A, n, c)
    generalize w.alloc (boxM (⟨wal, next, seq, mark, segs⟩, A, n, c)) = W at *
    have hws : w.heap.size < W.heap.size := World.block_lt_of_cell? W ⟨w.heap.size, 0, none⟩ HBX.c0
    replace HBX := Lib.hid HBX
    go_wp2
    go_loopw [4, 3] (fun v ok wr => ORel W ⟨wal, next, seq, mark, segs⟩ v ok wr) (fun v _ _ => segs.length - (intOf v).toNat)
    case atStart => exact ⟨0, Nat.zero_le _, rfl, by rw [mayTo_zero], Lib.hid (Below.refl _ _)⟩
    case round =>
      obtain ⟨k, hk, rfl, rfl, HBr⟩ := hrel
      simp only at hk
      have HBW : Hid (Below w.heap.size w wr) := Lib.hid (HB.out.trans (HBr.out.mono HB.out.size))
      have b1 := (HBX.out.up HBr.out hws).c1
      have b4 := (HBX.out.up HBr.out hws).c4
      simp only at b1 b4
      by_cases hlt : k < n
      · have hlt2 : k < segs.length := by have := HN.out; omega
        obtain ⟨g, o, e, hg, hc⟩ := HS.out.rd (by rw [flatS_len]; omega)
        simp only at e
        subst e
        obtain ⟨p0, p1, p2, p3⟩ := cellsS hc hlt2
        have k0 := cell_up HBW.out (p := ⟨g, o + k * 4, none⟩) hg p0
        have k1 := cell_up HBW.out (p := ⟨g, o + k * 4 + 1, none⟩) hg p1
        have k2 := cell_up HBW.out (p := ⟨g, o + k * 4 + 2, none⟩) hg p2
        have k3 := cell_up HBW.out (p := ⟨g, o + k * 4 + 3, none⟩) hg p3
        have HK : Hid (segs[k]? = some segs[k]) := Lib.hid (List.getElem?_eq_getElem hlt2)
        clear p0 p1 p2 p3
        generalize segs[k] = x at *
        obtain ⟨x0, x1, x2, x3⟩ := x
        simp only at k0 k1 k2 k3
        have i1 : (0 : Int) ≤ (k : Int) := by omega
        have i2 : (k : Int) < (n : Int) := by omega
        have HX0 : Hid (okIn ⟨wal, next, seq, mark, segs⟩ k ⟨x0, x1, x2, x3⟩ 0 = (mayTo ⟨wal, next, seq, mark, segs⟩ k && segMay next ⟨x0, x1, x2, x3⟩)) := Lib.hid (okIn_zero _ _ _)
        have HSU : Hid (mayTo ⟨wal, next, seq, mark, segs⟩ (k + 1) = okIn ⟨wal, next, seq, mark, segs⟩ k ⟨x0, x1, x2, x3⟩ k) := Lib.hid (mayTo_succ HK.out)
        have HNX := fun (j : Nat) (t : Sg) (ht : segs[j]? = some t) => okIn_succ (m := ⟨wal, next, seq, mark, segs⟩) (k := k) (s := ⟨x0, x1, x2, x3⟩) (j := j) ht
        replace HNX := Lib.hid HNX
        have HNF := fun (j : Nat) (hj : j ≤ k) => okIn_false (m := ⟨wal, next, seq, mark, segs⟩) (k := k) (s := ⟨x0, x1, x2, x3⟩) hj
        replace HNF := Lib.hid HNF
        have HBA : Hid (Below wr.heap.size wr (wr.alloc (.cells #[.int .i64 x0, .int .i64 x1, .int .i64 x2, .int .i64 x3] 65))) := Lib.hid ((Below.refl _ wr).alloc (Nat.le_refl _) _)
        have hwr : w.heap.size < wr.heap.size := Nat.lt_of_lt_of_le hws HBr.out.size
        have b1' := cell_up HBA.out (p := ⟨w.heap.size, 1, none⟩) hwr b1
        have HSX : Hid ((wr.alloc (.cells #[.int .i64 x0, .int .i64 x1, .int .i64 x2, .int .i64 x3] 65)).heap[wr.heap.size]? = some (.cells #[.int .i64 x0, .int .i64 x1, .int .i64 x2, .int .i64 x3] 65 (0, 0))) := Lib.hid (heap_alloc_new wr _)
        obtain ⟨b, hb⟩ : ∃ b, mayTo ⟨wal, next, seq, mark, segs⟩ k = b := ⟨_, rfl⟩
        rw [hb] at HX0
        rw [hb]
        clear hb
        go_upto_region 6 with (fail)
        go_cut [3] from 43 to 72 (fun s3 wx => s3 = .bool (okIn ⟨wal, next, seq, mark, segs⟩ k ⟨x0, x1, x2, x3⟩ 0) ∧ wx = wr.alloc (.cells #[.int .i64 x0, .int .i64 x1, .int .i64 x2, .int .i64 x3] 65))
        case first =>
          obtain ⟨q1, h1⟩ : ∃ q, decide (1 ≤ x0) = q := ⟨_, rfl⟩
          obtain ⟨q2, h2⟩ : ∃ q, decide (x0 < next) = q := ⟨_, rfl⟩
          obtain ⟨q3, h3⟩ : ∃ q, decide (1 ≤ x1) = q := ⟨_, rfl⟩
          obtain ⟨q4, h4⟩ : ∃ q, decide (x1 ≤ 65536) = q := ⟨_, rfl⟩
          obtain ⟨q5, h5⟩ : ∃ q, decide (x2 ≤ x3) = q := ⟨_, rfl⟩
          unfold segMay at HX0
          simp only [h1, h2, h3, h4, h5] at HX0
          cases b
          case' true => rcases six q1 q2 q3 q4 q5 with rfl | ⟨rfl, rfl⟩ | ⟨rfl, rfl, rfl⟩ | ⟨rfl, rfl, rfl, rfl⟩ | ⟨rfl, rfl, rfl, rfl, rfl⟩ | ⟨rfl, rfl, rfl, rfl, rfl⟩
          all_goals
            go_wp2
            go_meet
            rw [HX0.out]
            exact ⟨rfl, rfl⟩
        case rest =>
          obtain ⟨rfl, rfl⟩ := hcut
          clear HX0 k0 k1 k2 k3 b1'
          have HBY : Hid (Below w.heap.size w (wr.alloc (.cells #[.int .i64 x0, .int .i64 x1, .int .i64 x2, .int .i64 x3] 65))) := Lib.hid (HBW.out.trans (HBA.out.mono HBW.out.size))
          have HBZ : Hid (Below W.heap.size W (wr.alloc (.cells #[.int .i64 x0, .int .i64 x1, .int .i64 x2, .int .i64 x3] 65))) := Lib.hid (HBr.out.trans (HBA.out.mono HBr.out.size))
          have hyr : wr.heap.size < (wr.alloc (.cells #[.int .i64 x0, .int .i64 x1, .int .i64 x2, .int .i64 x3] 65)).heap.size := by simp
          obtain ⟨Y, hY⟩ : ∃ Y, wr.alloc (.cells #[.int .i64 x0, .int .i64 x1, .int .i64 x2, .int .i64 x3] 65) = Y := ⟨_, rfl⟩
          rw [hY] at HBY HBZ HSX hyr HBA
          rw [hY]
          clear hY
          obtain ⟨G, hG⟩ : ∃ G, wr.heap.size = G := ⟨_, rfl⟩
          rw [hG] at HSX hyr
          rw [hG]
          clear hG HBr HBW HBA hwr b1 b4
          obtain ⟨w9, h9⟩ : ∃ w9, w9 = wr := ⟨_, rfl⟩
          subst h9
          go_wp2
          go_loopw [6, 3] (fun v ok wz => IRel ⟨wal, next, seq, mark, segs⟩ k ⟨x0, x1, x2, x3⟩ v ok ∧ Hid (Below Y.heap.size Y wz)) (fun v _ _ => segs.length - (intOf v).toNat)
          case atStart => exact ⟨⟨0, Nat.zero_le _, rfl, rfl⟩, Lib.hid (Below.refl _ _)⟩
          case round =>
            obtain ⟨⟨j, hj, rfl, rfl⟩, HBj⟩ := hrel
            have HBz : Hid (Below w.heap.size w wr) := Lib.hid (HBY.out.trans (HBj.out.mono HBY.out.size))
            have HBw : Hid (Below W.heap.size W wr) := Lib.hid (HBZ.out.trans (HBj.out.mono HBZ.out.size))
            have b4 := (HBX.out.up HBw.out hws).c4
            have y0 := cell_up HBj.out (p := ⟨G, 0, none⟩) hyr (cell_of_heap HSX.out rfl)
            simp only at b4 y0
            by_cases hjk : j < k
            · obtain ⟨bo, hbo⟩ : ∃ bo, okIn ⟨wal, next, seq, mark, segs⟩ k ⟨x0, x1, x2, x3⟩ j = bo := ⟨_, rfl⟩
              cases bo with
              | false =>
                have HE : Hid (okIn ⟨wal, next, seq, mark, segs⟩ k ⟨x0, x1, x2, x3⟩ k = false) := Lib.hid (HNF.out j hj hbo)
                rw [hbo]
                clear hbo y0 b4
                go_wp2
                go_roundw
                case rel => exact ⟨k + 1, by simp only; omega, by go_num, by rw [HSU.out, HE.out], HBw⟩
                case measure => simp [intOf]; omega
              | true =>
                have hj2 : j < segs.length := by omega
                obtain ⟨p0, p1, p2, p3⟩ := cellsS hc hj2
                have t0 := cell_up HBz.out (p := ⟨g, o + j * 4, none⟩) hg p0
                have HEJ : Hid (okIn ⟨wal, next, seq, mark, segs⟩ k ⟨x0, x1, x2, x3⟩ (j + 1) = ((segs[j]).id != x0)) := Lib.hid (HNX.out j _ (List.getElem?_eq_getElem hj2) hbo)
                rw [hbo]
                clear hbo p0 p1 p2 p3
                generalize (segs[j]).id = y at *
                obtain ⟨q, hq⟩ : ∃ q, (y != x0) = q := ⟨_, rfl⟩
                rw [hq] at HEJ
                have i3 : (0 : Int) ≤ (j : Int) := by omega
                have i4 : (j : Int) < (n : Int) := by omega
                have i5 : (j : Int) < (k : Int) := by omega
                go_wp2
                go_quiet (fail)
                go_wp2
                go_roundw
                case rel => exact ⟨⟨j + 1, by omega, by go_num, by rw [HEJ.out]⟩, Lib.hid (below_drewN HBj.out _)⟩
                case measure => simp [intOf]; omega
            · have hjk2 : j = k := by omega
              have HE : Hid (okIn ⟨wal, next, seq, mark, segs⟩ k ⟨x0, x1, x2, x3⟩ j = okIn ⟨wal, next, seq, mark, segs⟩ k ⟨x0, x1, x2, x3⟩ k) := Lib.hid (by rw [hjk2])
              have i5 : ¬ (j : Int) < (k : Int) := by omega
              clear hjk2 y0 b4
              go_wp2
              go_roundw
              case rel => exact ⟨k + 1, by simp only; omega, by go_num, by rw [HSU.out, HE.out], HBw⟩
              case measure => simp [intOf]; omega
      · have hkn : k = n := by have := HN.out; omega
        go_wp2
        go_ret
        refine ⟨?_, HBW.out⟩
        rw [hkn, HN.out]
        rfl
end Go.Proofs.YtjninegpaoblfaaGreatDoor.RefMay

