/- What the program's reader leaves: a tree behind the nodes that were there, or a fault; lists of kids in rows of a frame's own; set and join. Conditions: those that the theorems name. · The contracts of the program's row and alternative, by that of its item at texts no longer. Conditions: the reader lies in memory and may go on. -/
import Derived.Test.YtdmbgjpidlllcaaRqMbr
import Derived.Test.YtdmbgjpidlllcaaRxNodes
namespace Go.Proofs.Ytdmbgjpidlllcaa.RqSt
open Go Go.RowKit Words AppN Km Mo_ RxSpec RxEq RxMem RxClean RxNode RxPost RxRowP RqPlain RqMem RqNeed RqLay RqTimes RqCont RqEsc RqMbr

/-- The reader may go on. -/
structure PreQ (rs : List Nat) (op dp : Nat) (ms : List NM) : Prop where
  len : rs.length ≤ 1000
  deep : op + rs.length ≤ 2000
  few : ms.length + 4 * rs.length ≤ 5000
  runes : ∀ r ∈ rs, UtSpec.sc r
  top : op ≤ dp
/-- A tree, or a fault; at most sl nodes more than four for each rune. -/
def TP (B : Nat) (K : Nat → Nat) (o p : Nat) (rs : List Nat) (op dp : Nat) (ms : List NM) (sl : Nat) (w : World) (ans : Res) (e : Ending) (w' : World) : Prop :=
  match ans with
  | none => FP K o w e w'
  | some (t, k, r1) => ∃ (K' : Nat → Nat) (s' : Sl) (ms' : List NM) (v' : Value), e = .returned (.int .i64 ((ms'.length - 1 : Nat) : Int)) ∧ RQ B w' K' o p s' r1 op (max dp (op + k)) ms' v' ∧ Mo K K' (fun x => x = o) w w' ∧
      nds ms' = nds ms ++ emit t ms.length ∧ ms'.length + 4 * r1.length ≤ ms.length + 4 * rs.length + sl ∧ ∀ r ∈ r1, UtSpec.sc r
section
variable {B : Nat} {w w' w0 : World} {K K' K0 : Nat → Nat} {o p : Nat} {s s' : Sl} {rs rs' : List Nat} {op dp op' dp' : Nat} {ms ms' : List NM} {v v' vk : Value} {l : List Nat}
theorem TP.of {K1 : Nat → Nat} {w1 : World} {ans : Res} {e : Ending} {sl : Nat} (hm : Mo K K1 (fun x => x = o) w w1) (h : TP B K1 o p rs op dp ms sl w1 ans e w') : TP B K o p rs op dp ms sl w ans e w' := by
  revert h
  cases ans with
  | none => exact fun h => FP.of hm h
  | some x =>
    obtain ⟨t, k, r1⟩ := x
    rintro ⟨K', s', ms', v', h1, h2, h3, h4⟩
    exact ⟨K', s', ms', v', h1, h2, hm.trans h3, h4⟩
theorem r32_cast (zs : List Nat) : (zs.map fun (n : Nat) => (n : Int)).map I32 = zs.map R32 := by rw [List.map_map]; rfl
theorem nds_one {m : NM} (h : nds ms' = nds (ms ++ [m])) : ms'.length = ms.length + 1 := by have := congrArg List.length h; simpa [nds] using this
/-- A node of its own. -/
theorem leaf_end {kind : Nat} {zs : List Nat} {A : Option Addr} {c sl k : Nat} {t : Pat} {r1 : List Nat} (hr : RQ B w K o p s r1 op dp ms v) (hm : Mo K0 K (fun x => x = o) w0 w) (hs : Sq B w K o (A, zs.length, c) (zs.map R32)) (hl : ms.length < 100000)
    (he : emit t ms.length = [⟨kind, [], 0, 0, zs.map fun (n : Nat) => (n : Int)⟩]) (hk : k = 0) (hlen : 1 + 4 * r1.length ≤ 4 * rs.length + sl) (htop : op ≤ dp) (hsc : ∀ r ∈ r1, UtSpec.sc r) :
    Calls Try.prog 34 #[.pointer (some ⟨p, 0, none⟩), .agg #[.int .i64 (kind : Int), .slice none 0 0, .int .i64 0, .int .i64 0, .slice A zs.length c]] w fun e w' => (∃ x : Int, e = .returned (.int .i64 x)) ∧ TP B K0 o p rs op dp ms sl w0 (some (t, k, r1)) e w' := by
  subst hk
  have hz : (zs.map fun (n : Nat) => (n : Int)).length = zs.length := by simp
  have h := lay_any (m := ⟨⟨kind, [], 0, 0, zs.map fun (n : Nat) => (n : Int)⟩, (none, 0, 0), (A, zs.length, c)⟩) hr ⟨Sq.nil_ _ _ _ _, by simp only; rw [r32_cast]; exact hs⟩ hl
  refine h.mono ?_
  rintro e w' ⟨rfl, v', K', h1, h2⟩
  refine ⟨⟨_, rfl⟩, K', s, ms ++ [⟨⟨kind, [], 0, 0, zs.map fun (n : Nat) => (n : Int)⟩, (none, 0, 0), (A, zs.length, c)⟩], v', by simp, ?_, hm.trans h2, by rw [nds_snoc, he], by simp; omega, hsc⟩
  rw [show max dp (op + 0) = dp by omega]
  exact h1
set_option maxHeartbeats 1600000 in
set_option maxRecDepth 100000 in
/-- set. -/
theorem set_end {zs : List Nat} {A : Option Addr} {c : Nat} {r1 : List Nat} (hr : RQ B w K o p s r1 op dp ms v) (hm : Mo K0 K (fun x => x = o) w0 w) (hs : Sq B w K o (A, zs.length, c) (zs.map R32)) (hl : ms.length < 100000)
    (hlen : r1.length < rs.length) (htop : op ≤ dp) (hsc : ∀ r ∈ r1, UtSpec.sc r) :
    Calls Try.prog 43 #[.pointer (some ⟨p, 0, none⟩), .slice A zs.length c] w fun e w' => (∃ x : Int, e = .returned (.int .i64 x)) ∧ TP B K0 o p rs op dp ms 0 w0 (some (.set zs, 0, r1)) e w' := by
  have HL := leaf_end (kind := 2) (sl := 0) (t := .set zs) (k := 0) (rs := rs) hr hm hs hl (by simp [emit]) rfl (by omega) htop hsc
  rw [show ((2 : Nat) : Int) = 2 from rfl] at HL
  clear hr hm hs hl hlen htop hsc
  go_enter Try.func43, Try.ntmps43
  go_wp2_with fail
  refine HL.mono ?_
  rintro e w1 ⟨⟨x, rfl⟩, h1⟩
  have H1 := Lib.hid h1
  clear HL h1
  go_wp2
  go_ret
  exact ⟨⟨_, rfl⟩, H1.out⟩

/-- What holds of a frame: the reader, its kids, and what has changed since it began. -/
structure FrQ (B : Nat) (w0 w : World) (K0 K : Nat → Nat) (o p : Nat) (s : Sl) (rs : List Nat) (op dp : Nat) (ms : List NM) (v : Value) (vk : Value) (l : List Nat) : Prop where
  rp : RQ B w K o p s rs op dp ms v
  fk : FK w K o w0.heap.size vk l
  mo : Mo K0 K (fun x => x = o) w0 w
theorem FrQ.start (h : RQ B w K o p s rs op dp ms v) : FrQ B w w K K o p s rs op dp ms v (.slice none 0 0) [] := ⟨h, FK.nil_ _ _ _ _, Mo.refl _ _ _⟩
theorem FrQ.call (h : FrQ B w0 w K0 K o p s rs op dp ms v vk l) (hr : RQ B w' K' o p s' rs' op' dp' ms' v') (hm : Mo K K' (fun x => x = o) w w') : FrQ B w0 w' K0 K' o p s' rs' op' dp' ms' v' vk l := ⟨hr, h.fk.mo hm, h.mo.trans hm⟩
theorem FrQ.below (h : FrQ B w0 w K0 K o p s rs op dp ms v vk l) (hb : Below w.heap.size w w') : FrQ B w0 w' K0 K o p s rs op dp ms v vk l := h.call (h.rp.below hb) (Mo.same hb)
/-- A kid more. -/
theorem FrQ.push (h : FrQ B w0 w K0 K o p s rs op dp ms v vk l) {x : Nat} {ob : Obj} {v2 : Value} (hown : w'.ownsRow w0.heap.size 3 1 v2 (l.length + 1) (l.map IV ++ [x].map IV)) (hg : (w.alloc ob).grownBy w' vk.ownBlock) (hat : v2.ownBlock = vk.ownBlock ∨ v2.ownBlock = some (w.alloc ob).heap.size) :
    FrQ B w0 w' K0 (kmark K w.heap.size (o + 1)) o p s rs op dp ms v v2 (l ++ [x]) := by
  have hsz : w.heap.size ≤ w'.heap.size := by have := hg.size; simp at this; omega
  have hmo : Mo K (kmark K w.heap.size (o + 1)) (fun y => y = o + 1) w w' := ⟨hg.os.trans rfl, hg.tape.trans rfl, hg.output.trans rfl, hsz, fun i hi hk => ⟨(hg.block i (by simp; omega) (fun e => hk (h.fk.kind i e.symm))).trans (heap_alloc_old _ _ hi), kmark_old hi⟩⟩
  refine ⟨h.rp.moT hmo fun _ h => h, ⟨by rw [List.length_append, List.map_append]; exact hown, fun b hb => ?_⟩, ⟨hmo.os.trans h.mo.os, hmo.tape.trans h.mo.tape, hmo.output.trans h.mo.output, Nat.le_trans h.mo.size hsz, fun i hi hk => ?_⟩⟩
  · rcases hat with e | e
    · rw [e] at hb
      rw [kmark_old (h.fk.own.lt b hb).2]
      exact h.fk.kind b hb
    · rw [e] at hb
      injection hb with hb
      exact kmark_new (by simp at hb; omega)
  · have hi2 : i < w.heap.size := Nat.lt_of_lt_of_le hi h.mo.size
    obtain ⟨a1, a2⟩ := h.mo.keep i hi hk
    exact ⟨((hg.block i (by simp; omega) (fun e => by have := (h.fk.own.lt i e.symm).1; omega)).trans (heap_alloc_old _ _ hi2)).trans a1, (kmark_old hi2).trans a2⟩
/-- The kids are given away. -/
theorem FrQ.give {A : Option Addr} {n c : Nat} (hB : B ≤ w0.heap.size) (h : FrQ B w0 w K0 K o p s rs op dp ms v (.slice A n c) l) : ∃ K', RQ B w K' o p s rs op dp ms v ∧ Mo K0 K' (fun x => x = o) w0 w ∧ n = l.length ∧ Sq B w K' o (A, n, c) (l.map IV) := by
  rcases h.fk.own.2 with ⟨e, h2⟩ | ⟨g, cap, cur, e, hb, hg, h1, h2, h3, h4⟩
  · injection e with e1 e2 e3
    subst e1 e2 e3
    have : l = [] := List.eq_nil_of_length_eq_zero h2
    subst this
    exact ⟨K, h.rp, h.mo, rfl, Sq.nil_ B w K o⟩
  · injection e with e1 e2 e3
    subst e1 e2 e3
    have hk := h.fk.kind g rfl
    have hgl := (Array.getElem?_eq_some_iff.1 hg).1
    have hmo : Mo K (fun b => if b = g then o + 2 else K b) (fun y => y = o + 1) w w := ⟨rfl, rfl, rfl, Nat.le_refl _, fun i hi hki => ⟨rfl, if_neg (fun e => hki (by rw [e]; exact hk))⟩⟩
    refine ⟨fun b => if b = g then o + 2 else K b, h.rp.moT hmo fun _ h => h, ⟨h.mo.os, h.mo.tape, h.mo.output, h.mo.size, fun i hi hki => ?_⟩, rfl, ⟨⟨by simp, h1, h2, fun _ => ⟨g, 0, rfl, hgl, fun j u hu => ?_⟩, fun b off e _ => ?_⟩, fun b off e _ => ?_⟩⟩
    · obtain ⟨a1, a2⟩ := h.mo.keep i hi hki
      exact ⟨a1, (if_neg (by omega)).trans a2⟩
    · have := h.fk.own.cells (g := g) rfl j u hu
      rwa [add_off] at this
    · injection e with e
      injection e with e _
      subst e
      simp only [if_true]
      exact ⟨by omega, by omega⟩
    · injection e with e
      injection e with e _
      subst e
      exact ⟨Nat.le_trans hB hb, fun j _ => frozen_of_row _ _ _ _ _ hg⟩
/-- A node of a frame's kids. -/
theorem okq_of {A : Option Addr} {c : Nat} (kind : Nat) (h : Sq B w K o (A, l.length, c) (l.map IV)) : Okq B w K o ⟨⟨kind, l, 0, 0, []⟩, (A, l.length, c), (none, 0, 0)⟩ := ⟨h, Sq.nil_ _ _ _ _⟩
set_option maxHeartbeats 1600000 in
set_option maxRecDepth 100000 in
theorem join_one (w : World) (p : Nat) (kind : Nat) (g c x : Nat) (hc : w.cell? ⟨g, 0, none⟩ = some (IV x)) : Calls Try.prog 26 #[.pointer (some ⟨p, 0, none⟩), .int .i64 (kind : Int), .slice (some ⟨g, 0, none⟩) 1 c] w fun e w' => e = .returned (.int .i64 (x : Int)) ∧ w' = w := by
  unfold IV at hc
  go_enter Try.func26, Try.ntmps26
  go_wp2
  go_ret
  exact ⟨rfl, rfl⟩
set_option maxHeartbeats 1600000 in
set_option maxRecDepth 100000 in
theorem join_more {A : Option Addr} {c : Nat} (kind : Nat) (hr : RQ B w K o p s rs op dp ms v) (h : Sq B w K o (A, l.length, c) (l.map IV)) (hl : l.length ≠ 1) (hms : ms.length < 100000) : Calls Try.prog 26 #[.pointer (some ⟨p, 0, none⟩), .int .i64 (kind : Int), .slice A l.length c] w fun e w' => e = .returned (.int .i64 (ms.length : Int)) ∧
    ∃ v' K', RQ B w' K' o p s rs op dp (ms ++ [⟨⟨kind, l, 0, 0, []⟩, (A, l.length, c), (none, 0, 0)⟩]) v' ∧ Mo K K' (fun x => x = o) w w' := by
  have HL := lay_any hr (okq_of kind h) hms
  unfold aggN slV at HL
  simp only at HL
  have j1 : ((l.length : Int) == 1) = false := by simp only [beq_eq_false_iff_ne, ne_eq]; omega
  clear hr h hl
  go_enter Try.func26, Try.ntmps26
  go_wp2_with fail
  refine HL.mono ?_
  rintro e w1 ⟨rfl, h1⟩
  have H1 := Lib.hid h1
  clear HL h1
  go_wp2
  go_ret
  exact ⟨rfl, H1.out⟩
end
end Go.Proofs.Ytdmbgjpidlllcaa.RqSt

namespace Go.Proofs.Ytdmbgjpidlllcaa.RqRow
open Go Go.RowKit Words AppN Km Mo_ RxSpec RxEq RxMem RxClean RxNode RxPost RxRowP RqPlain RqMem RqNeed RqLay RqTimes RqCont RqEsc RqMbr RqSt

/-- A row so far. -/
structure RowQ (rs0 rs : List Nat) (op dp0 dp : Nat) (ms0 ms : List NM) (l : List Nat) (ps : List Pat) (k : Nat) : Prop where
  pre : PreQ rs op dp ms
  same : rowL [] 0 rs0 = rowL ps k rs
  kids : l = roots ps ms0.length
  nodes : nds ms = nds ms0 ++ emits ps ms0.length
  most : dp = max dp0 (op + k)
  few : ms.length + 4 * rs.length ≤ ms0.length + 4 * rs0.length
  on : ps.length + rs.length ≤ rs0.length
theorem RowQ.start {rs : List Nat} {op dp : Nat} {ms : List NM} (h : PreQ rs op dp ms) : RowQ rs rs op dp dp ms ms [] [] 0 :=
  ⟨h, rfl, by simp [roots], by simp [emits], by have := h.top; omega, Nat.le_refl _, by simp⟩
theorem snoc_facts {ms0 ms ms2 : List NM} {ps : List Pat} {p : Pat} {l : List Nat} (hn : nds ms = nds ms0 ++ emits ps ms0.length) (hk : l = roots ps ms0.length) (h2 : nds ms2 = nds ms ++ emit p ms.length) :
    l ++ [ms2.length - 1] = roots (ps ++ [p]) ms0.length ∧ nds ms2 = nds ms0 ++ emits (ps ++ [p]) ms0.length := by
  have hml := nodes_len hn
  have hml2 := nodes_len h2
  constructor
  · rw [roots_snoc, ← hk, ← hml]
    congr 2
    omega
  · rw [h2, hn, emits_snoc, hml, List.append_assoc]
theorem RowQ.next {rs0 rs r1 : List Nat} {op dp0 dp k k' : Nat} {ms0 ms ms2 : List NM} {l : List Nat} {ps : List Pat} {p : Pat} (h : RowQ rs0 rs op dp0 dp ms0 ms l ps k) (hs : ¬ stop rs) (hi : itemS rs = some (p, k', r1)) (h2 : nds ms2 = nds ms ++ emit p ms.length)
    (h3 : ms2.length + 4 * r1.length ≤ ms.length + 4 * rs.length) (h4 : ∀ r ∈ r1, UtSpec.sc r) : RowQ rs0 r1 op dp0 (max dp (op + k')) ms0 ms2 (l ++ [ms2.length - 1]) (ps ++ [p]) (max k k') := by
  have hsh := item_short hi
  obtain ⟨e1, e2⟩ := snoc_facts h.nodes h.kids h2
  have q1 := h.pre.len
  have q2 := h.pre.deep
  have q3 := h.pre.few
  have q4 := h.few
  have q5 := h.on
  have q6 := h.most
  have q7 := h.pre.top
  refine ⟨⟨by omega, by omega, by omega, h4, by omega⟩, ?_, e1, e2, by omega, by omega, by rw [List.length_append]; simp; omega⟩
  unfold stop at hs
  rw [h.same, rowL_eq ps k rs, if_neg hs, hi]
theorem RowQ.bad {rs0 rs : List Nat} {op dp0 dp k : Nat} {ms0 ms : List NM} {l : List Nat} {ps : List Pat} (h : RowQ rs0 rs op dp0 dp ms0 ms l ps k) (hs : ¬ stop rs) (hi : itemS rs = none) : rowL [] 0 rs0 = none := by
  unfold stop at hs
  rw [h.same, rowL_eq ps k rs, if_neg hs, hi]
theorem RowQ.stop {rs0 rs : List Nat} {op dp0 dp k : Nat} {ms0 ms : List NM} {l : List Nat} {ps : List Pat} (h : RowQ rs0 rs op dp0 dp ms0 ms l ps k) (hs : RxRowP.stop rs) : rowL [] 0 rs0 = some (mkRow ps, k, rs) := by
  unfold RxRowP.stop at hs
  rw [h.same, rowL_eq ps k rs, if_pos hs]
section
variable {B : Nat} {w w' w0 : World} {K K' K0 : Nat → Nat} {o p : Nat} {s s' : Sl} {rs rs' : List Nat} {op dp op' dp' : Nat} {ms ms' : List NM} {v v' vk : Value} {l : List Nat}
set_option maxHeartbeats 1600000 in
/-- join at the end of a row or an alternative. -/
theorem join_end {kind sl k dp0 : Nat} {A : Option Addr} {c : Nat} {ps : List Pat} {ms0 : List NM} {rs0 : List Nat} {t : Pat} (hB : B ≤ w0.heap.size) (hfr : FrQ B w0 w K0 K o p s rs op dp ms v (.slice A l.length c) l) (hk : l = roots ps ms0.length) (hn : nds ms = nds ms0 ++ emits ps ms0.length) (h0 : ps ≠ [])
    (h1 : ∀ q, ps = [q] → t = q) (h2 : 2 ≤ ps.length → ∀ b, emit t b = emits ps b ++ [⟨kind, roots ps b, 0, 0, []⟩]) (hmost : dp = max dp0 (op + k)) (hfew : ms.length + 4 * rs.length + 1 ≤ ms0.length + 4 * rs0.length + sl) (hms : ms.length < 100000) (hsc : ∀ r ∈ rs, UtSpec.sc r) :
    Calls Try.prog 26 #[.pointer (some ⟨p, 0, none⟩), .int .i64 (kind : Int), .slice A l.length c] w fun e w' => (∃ x : Int, e = .returned (.int .i64 x)) ∧ TP B K0 o p rs0 op dp0 ms0 sl w0 (some (t, k, rs)) e w' := by
  have hll : l.length = ps.length := by rw [hk, roots_len]
  have hml := nodes_len hn
  by_cases hone : l.length = 1
  · match ps, h0, (hll ▸ hone : ps.length = 1) with
    | [q], _, _ =>
      obtain rfl := h1 q rfl
      obtain ⟨g, cap, e, _, _⟩ := hfr.fk.own.form (show 0 < l.length by omega)
      injection e with e1 _ e3
      subst e1
      have hx : l = [ms.length - 1] := by
        rw [hk]
        simp only [emits, List.append_nil] at hml
        simp only [roots]
        congr 1
        omega
      have hc := hfr.fk.own.cells (g := g) rfl 0 (IV (ms.length - 1)) (by rw [hx]; rfl)
      rw [add_off, Nat.zero_add] at hc
      rw [hone]
      refine (join_one w p kind g c _ hc).mono ?_
      rintro e w' ⟨rfl, rfl⟩
      refine ⟨⟨_, rfl⟩, K, s, ms, v, rfl, by rw [← hmost]; exact hfr.rp, hfr.mo, ?_, by omega, hsc⟩
      rw [hn]
      simp [emits]
  · have h2p : 2 ≤ ps.length := by have := List.length_pos_iff.2 h0; omega
    obtain ⟨K5, hr5, hm5, _, hsq⟩ := hfr.give hB
    refine (join_more kind hr5 hsq hone hms).mono ?_
    rintro e w' ⟨rfl, v', K', hr, hm⟩
    refine ⟨⟨_, rfl⟩, K', s, ms ++ [⟨⟨kind, l, 0, 0, []⟩, (A, l.length, c), (none, 0, 0)⟩], v', by simp, by rw [← hmost]; exact hr, hm5.trans hm, ?_, by simp; omega, hsc⟩
    rw [nds_snoc, hn, h2 h2p, ← hk, List.append_assoc]
/-- An empty row's end. -/
theorem empty_end {sl k dp0 : Nat} {ms0 : List NM} {rs0 : List Nat} (hfr : FrQ B w0 w K0 K o p s rs op dp ms v vk l) (hn : nds ms = nds ms0) (hmost : dp = max dp0 (op + k)) (hfew : ms.length + 4 * rs.length + 1 ≤ ms0.length + 4 * rs0.length + sl) (hms : ms.length < 100000) (hsc : ∀ r ∈ rs, UtSpec.sc r) :
    Calls Try.prog 34 #[.pointer (some ⟨p, 0, none⟩), .agg #[.int .i64 1, .slice none 0 0, .int .i64 0, .int .i64 0, .slice none 0 0]] w fun e w' => (∃ x : Int, e = .returned (.int .i64 x)) ∧ TP B K0 o p rs0 op dp0 ms0 sl w0 (some (.empty, k, rs)) e w' := by
  have h := lay_any (m := ⟨⟨1, [], 0, 0, []⟩, (none, 0, 0), (none, 0, 0)⟩) hfr.rp ⟨Sq.nil_ _ _ _ _, Sq.nil_ _ _ _ _⟩ hms
  refine h.mono ?_
  rintro e w' ⟨rfl, v', K', h1, h2⟩
  exact ⟨⟨_, rfl⟩, K', s, ms ++ [⟨⟨1, [], 0, 0, []⟩, (none, 0, 0), (none, 0, 0)⟩], v', by simp, by rw [← hmost]; exact h1, hfr.mo.trans h2, by rw [nds_snoc, hn]; simp [emit], by simp; omega, hsc⟩
/-- item, at texts of at most N runes. -/
def ItemQ (N : Nat) : Prop := ∀ (B : Nat) (w : World) (K : Nat → Nat) (o p : Nat) (s : Sl) (rs : List Nat) (op dp : Nat) (ms : List NM) (v : Value), RQ B w K o p s rs op dp ms v → PreQ rs op dp ms → rs.length ≤ N → rs ≠ [] →
  Calls Try.prog 33 #[.pointer (some ⟨p, 0, none⟩)] w fun e w' => (e = .panicked FCH ∨ ∃ x : Int, e = .returned (.int .i64 x)) ∧ TP B K o p rs op dp ms 0 w (itemS rs) e w'
def RowC (N : Nat) : Prop := ∀ (B : Nat) (w : World) (K : Nat → Nat) (o p : Nat) (s : Sl) (rs : List Nat) (op dp : Nat) (ms : List NM) (v : Value), RQ B w K o p s rs op dp ms v → PreQ rs op dp ms → rs.length ≤ N →
  Calls Try.prog 24 #[.pointer (some ⟨p, 0, none⟩)] w (TP B K o p rs op dp ms 1 w (rowL [] 0 rs))
def AltQ' (N : Nat) : Prop := ∀ (B : Nat) (w : World) (K : Nat → Nat) (o p : Nat) (s : Sl) (rs : List Nat) (op dp : Nat) (ms : List NM) (v : Value), RQ B w K o p s rs op dp ms v → PreQ rs op dp ms → rs.length ≤ N →
  Calls Try.prog 17 #[.pointer (some ⟨p, 0, none⟩)] w (TP B K o p rs op dp ms 2 w (altS rs))
def lenV : Value → Nat
  | .slice _ n _ => n
  | _ => 0
def RRel (B : Nat) (W : World) (K : Nat → Nat) (o p : Nat) (rs0 : List Nat) (op dp0 : Nat) (ms0 : List NM) (v2 : Value) (wr : World) : Prop :=
  ∃ (K' : Nat → Nat) (s' : Sl) (rs' : List Nat) (dp' : Nat) (ms' : List NM) (v' : Value) (l : List Nat) (ps : List Pat) (k : Nat), Hid (FrQ B W wr K K' o p s' rs' op dp' ms' v' v2 l) ∧ Hid (RowQ rs0 rs' op dp0 dp' ms0 ms' l ps k)
set_option maxHeartbeats 12800000 in
set_option maxRecDepth 100000 in
theorem row_of {N : Nat} (HI : ItemQ N) : RowC N := by
  intro B w K o p s rs op dp ms v hr hp hN
  obtain ⟨i0, hi, hz0, hz1, hz2⟩ := info_int
  have HP := Lib.hid hp
  have HR := Lib.hid hr
  have HBW : Hid (B ≤ w.heap.size) := Lib.hid (by have := hr.bp; have := hr.lt; omega)
  clear hr hp
  obtain ⟨R, hR⟩ : ∃ R, rowL [] 0 rs = R := ⟨_, rfl⟩
  rw [hR]
  have HRE := Lib.hid hR
  clear hR
  go_enter Try.func24, Try.ntmps24
  go_wp2
  go_loopw [3] (fun v2 wr => RRel B w K o p rs op dp ms v2 wr) (fun v _ => 1002 - lenV v)
  case atStart => exact ⟨K, s, rs, dp, ms, v, [], [], 0, Lib.hid (FrQ.start HR.out), Lib.hid (RowQ.start HP.out)⟩
  case round =>
    obtain ⟨K', s', rs', dp', ms', v', l, ps, k, HF, HS⟩ := hrel
    obtain ⟨A3, c3, rfl⟩ := own_sl HF.out.fk.own
    have hlen := HP.out.len
    have hll : l.length = ps.length := by rw [HS.out.kids, roots_len]
    have hon := HS.out.on
    have hfew := HS.out.few
    have hfw0 := HP.out.few
    have hl0 : l.length ≤ 1000 := by omega
    clear hll
    obtain ⟨c0, c1, c2, c3'⟩ := HF.out.rp.cells
    cases rs' with
    | nil =>
      obtain ⟨A0, n0, cc0⟩ := s'
      obtain rfl : n0 = 0 := by simpa using HF.out.rp.runes.len
      unfold slV at c0
      simp only at c0
      have HR2 : Hid (R = some (mkRow ps, k, [])) := Lib.hid (by rw [← HRE.out]; exact HS.out.stop (.inl rfl))
      have hfewe : ms'.length + 4 * ([] : List Nat).length + 1 ≤ ms.length + 4 * rs.length + 1 := by omega
      have hms9 : ms'.length < 100000 := by omega
      by_cases h0 : l.length = 0
      · have hps : ps = [] := List.eq_nil_of_length_eq_zero (by have := HS.out.kids; rw [this, roots_len] at h0; exact h0)
        have HEE := empty_end (sl := 1) (rs0 := rs) HF.out (by have := HS.out.nodes; rw [hps] at this; simpa [emits] using this) HS.out.most hfewe hms9 HS.out.pre.runes
        have HR3 : Hid (R = some (.empty, k, [])) := Lib.hid (by rw [HR2.out, hps]; rfl)
        rw [h0]
        clear h0 hps HS HF HR2 HRE hfewe
        go_wp2_with fail
        refine HEE.mono ?_
        rintro e w9 ⟨⟨x, rfl⟩, h9⟩
        have H9 := Lib.hid h9
        clear HEE h9
        go_wp2
        go_ret
        rw [HR3.out]
        exact H9.out
      · have hpn : ps ≠ [] := fun e => h0 (by rw [HS.out.kids, e]; rfl)
        have HJE := join_end (kind := 3) (sl := 1) (rs0 := rs) (t := mkRow ps) HBW.out HF.out HS.out.kids HS.out.nodes hpn (fun q e => by rw [e]; rfl) (fun h2 b => by
          match ps, h2 with
          | a :: b' :: ps', _ => simp [mkRow, emit]) HS.out.most hfewe hms9 HS.out.pre.runes
        have j0 : ((l.length : Int) == 0) = false := by simp only [beq_eq_false_iff_ne, ne_eq]; omega
        rw [show ((3 : Nat) : Int) = 3 from rfl] at HJE
        clear h0 hpn HS HF HRE hfewe
        go_wp2_with fail
        refine HJE.mono ?_
        rintro e w9 ⟨⟨x, rfl⟩, h9⟩
        have H9 := Lib.hid h9
        clear HJE h9
        go_wp2
        go_ret
        rw [HR2.out]
        exact H9.out
    | cons r t =>
      obtain ⟨g, off, cc, rfl, hh1, hh2, hru, _⟩ := HF.out.rp.rune
      unfold slV at c0
      simp only at c0
      unfold maxLen at hh2
      have hll : (0 : Int) < ((t.length + 1 : Nat) : Int) := by omega
      have hln : 0 < t.length + 1 := by omega
      by_cases h124 : r = 124
      · subst h124
        have HR2 : Hid (R = some (mkRow ps, k, 124 :: t)) := Lib.hid (by rw [← HRE.out]; exact HS.out.stop (.inr (.inl (by rw [hd_cons]; rfl))))
        have hfewe : ms'.length + 4 * (124 :: t : List Nat).length + 1 ≤ ms.length + 4 * rs.length + 1 := by omega
        have hms9 : ms'.length < 100000 := by omega
        by_cases h0 : l.length = 0
        · have hps : ps = [] := List.eq_nil_of_length_eq_zero (by have := HS.out.kids; rw [this, roots_len] at h0; exact h0)
          have HEE := empty_end (sl := 1) (rs0 := rs) HF.out (by have := HS.out.nodes; rw [hps] at this; simpa [emits] using this) HS.out.most hfewe hms9 HS.out.pre.runes
          have HR3 : Hid (R = some (.empty, k, 124 :: t)) := Lib.hid (by rw [HR2.out, hps]; rfl)
          rw [h0]
          clear h0 hps HS HF HR2 HRE hfewe
          go_wp2_with fail
          refine HEE.mono ?_
          rintro e w9 ⟨⟨x, rfl⟩, h9⟩
          have H9 := Lib.hid h9
          clear HEE h9
          go_wp2
          go_ret
          rw [HR3.out]
          exact H9.out
        · have hpn : ps ≠ [] := fun e => h0 (by rw [HS.out.kids, e]; rfl)
          have HJE := join_end (kind := 3) (sl := 1) (rs0 := rs) (t := mkRow ps) HBW.out HF.out HS.out.kids HS.out.nodes hpn (fun q e => by rw [e]; rfl) (fun h2 b => by
            match ps, h2 with
            | a :: b' :: ps', _ => simp [mkRow, emit]) HS.out.most hfewe hms9 HS.out.pre.runes
          have j0 : ((l.length : Int) == 0) = false := by simp only [beq_eq_false_iff_ne, ne_eq]; omega
          rw [show ((3 : Nat) : Int) = 3 from rfl] at HJE
          clear h0 hpn HS HF HRE hfewe
          go_wp2_with fail
          refine HJE.mono ?_
          rintro e w9 ⟨⟨x, rfl⟩, h9⟩
          have H9 := Lib.hid h9
          clear HJE h9
          go_wp2
          go_ret
          rw [HR2.out]
          exact H9.out
      have d1 : ((r : Int) != 124) = true := by simp; omega
      by_cases h41 : r = 41
      · subst h41
        have HR2 : Hid (R = some (mkRow ps, k, 41 :: t)) := Lib.hid (by rw [← HRE.out]; exact HS.out.stop (.inr (.inr (by rw [hd_cons]; rfl))))
        have hfewe : ms'.length + 4 * (41 :: t : List Nat).length + 1 ≤ ms.length + 4 * rs.length + 1 := by omega
        have hms9 : ms'.length < 100000 := by omega
        by_cases h0 : l.length = 0
        · have hps : ps = [] := List.eq_nil_of_length_eq_zero (by have := HS.out.kids; rw [this, roots_len] at h0; exact h0)
          have HEE := empty_end (sl := 1) (rs0 := rs) HF.out (by have := HS.out.nodes; rw [hps] at this; simpa [emits] using this) HS.out.most hfewe hms9 HS.out.pre.runes
          have HR3 : Hid (R = some (.empty, k, 41 :: t)) := Lib.hid (by rw [HR2.out, hps]; rfl)
          rw [h0]
          clear h0 hps HS HF HR2 HRE hfewe
          go_wp2_with fail
          refine HEE.mono ?_
          rintro e w9 ⟨⟨x, rfl⟩, h9⟩
          have H9 := Lib.hid h9
          clear HEE h9
          go_wp2
          go_ret
          rw [HR3.out]
          exact H9.out
        · have hpn : ps ≠ [] := fun e => h0 (by rw [HS.out.kids, e]; rfl)
          have HJE := join_end (kind := 3) (sl := 1) (rs0 := rs) (t := mkRow ps) HBW.out HF.out HS.out.kids HS.out.nodes hpn (fun q e => by rw [e]; rfl) (fun h2 b => by
            match ps, h2 with
            | a :: b' :: ps', _ => simp [mkRow, emit]) HS.out.most hfewe hms9 HS.out.pre.runes
          have j0 : ((l.length : Int) == 0) = false := by simp only [beq_eq_false_iff_ne, ne_eq]; omega
          rw [show ((3 : Nat) : Int) = 3 from rfl] at HJE
          clear h0 hpn HS HF HRE hfewe
          go_wp2_with fail
          refine HJE.mono ?_
          rintro e w9 ⟨⟨x, rfl⟩, h9⟩
          have H9 := Lib.hid h9
          clear HJE h9
          go_wp2
          go_ret
          rw [HR2.out]
          exact H9.out
      have d2 : ((r : Int) != 41) = true := by simp; omega
      have hns : ¬ RxRowP.stop (r :: t) := by
        rintro (h | h | h)
        · cases h
        · rw [hd_cons] at h; exact h124 (by simpa using h)
        · rw [hd_cons] at h; exact h41 (by simpa using h)
      have HNS := Lib.hid hns
      have HC := HI B wr K' o p _ (r :: t) op dp' ms' v' HF.out.rp HS.out.pre (by omega) (by simp)
      clear hns h124 h41
      cases hi9 : itemS (r :: t) with
      | none =>
        have HR2 : Hid (R = none) := Lib.hid (by rw [← HRE.out]; exact HS.out.bad HNS.out hi9)
        rw [hi9] at HC
        unfold TP at HC
        simp only at HC
        clear hi9
        go_wp2_with fail
        refine HC.mono ?_
        rintro _ w5 ⟨_, rfl, h5⟩
        have hres : TP B K o p rs op dp ms 1 w R (.panicked FCH) w5 := by rw [HR2.out]; exact FP.of HF.out.mo ⟨rfl, h5⟩
        exact ⟨rfl, hres⟩
      | some y =>
        obtain ⟨q, k', r1⟩ := y
        rw [hi9] at HC
        unfold TP at HC
        simp only at HC
        have HI9 := Lib.hid hi9
        have hshr := item_short hi9
        clear hi9
        go_wp2_with fail
        refine HC.mono ?_
        rintro _ w5 ⟨_, K5, s5, ms5, v5, rfl, hr5, hm5, hn5, hf5, hsc5⟩
        have HF5 := Lib.hid (HF.out.call hr5 hm5)
        have HS5 := Lib.hid (HS.out.next HNS.out HI9.out hn5 (by omega) hsc5)
        obtain ⟨x, hx⟩ : ∃ x, ms5.length - 1 = x := ⟨_, rfl⟩
        rw [hx] at HS5 ⊢
        have hsz5 := HF5.out.mo.size
        clear hr5 hm5 hn5 hsc5 hx HC HF HS
        have HOA : Hid ((w5.alloc (.cells #[.int .i64 (x : Int)] 3)).ownsRow w.heap.size 3 1 (.slice A3 l.length c3) l.length (l.map IV)) := Lib.hid (HF5.out.fk.own.alloc _)
        go_wp2_with (at_builtin; refine wpList_append_own_at _ rfl (.tmp 28) (.tmp 31) 30 rfl w.heap.size 3 i0 (.int .i64 0) 1 8 Try.underlying30 hi hz0 hz1 hz2 rfl (by decide) _ _ _ rfl HOA.out ⟨w5.heap.size, 0, none⟩ 1 1 ([x].map IV) rfl (by simp) (cellNewI _ _ _) (iv_ones _) ?c3 ?c4 ?c5 ?_)
        case c3 => unfold maxLen; omega
        case c4 => omega
        case c5 => simp; omega
        intro v6 w6 hown6 hg6 _ hat6
        have HF6 := Lib.hid (HF5.out.push (x := x) hown6 hg6 (by simpa using hat6))
        obtain ⟨A6, c6, hv6⟩ := own_sl hown6
        subst hv6
        have hm : 1002 - lenV (.slice A6 (l.length + 1) c6) < 1002 - lenV (.slice A3 l.length c3) := by simp [lenV]; omega
        clear hown6 hg6 hat6 HOA HF5
        go_wp2
        exact ⟨⟨_, _, r1, _, ms5, v5, l ++ [x], _, _, HF6, HS5⟩, hm⟩
end
end Go.Proofs.Ytdmbgjpidlllcaa.RqRow

