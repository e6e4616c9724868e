/- The contract of the document's Read: the manifest whose bytes were handed in, its segments in new memory, or the error; nothing that was there has changed. Conditions: the bytes lie in memory. -/
import Derived.Test.YtjninegpaoblfaaGreatDoorRefMws
import Derived.Test.YtjninegpaoblfaaGreatDoorMfRead
import Derived.Test.YtjninegpaoblfaaGreatDoorReads
import Derived.Test.YtjninegpaoblfaaGreatDoorRegD
import Derived.Deep.RegionHeld3
import Derived.Deep.CutBlock
import Derived.Laws.Rows
namespace Go.Proofs.YtjninegpaoblfaaGreatDoor.RefMr
open Go Go.RowKit Words AppN MfSpec MfMem RefMf RefMay RefMw Plain Zig Put Framed Reading RefRead RefGet MfRead RegD

/-- What Read and Load answer: a manifest of r's, its segments in new memory. -/
def RPost (r : Nat × Man) (w : World) (e : Ending) (w' : World) : Prop :=
  ∃ mm : MM, e = .returned (.tuple #[aggM mm, .int .i64 (r.1 : Int)]) ∧ mm.1 = r.2 ∧ w'.ownsRow w.heap.size 65 4 (slV mm.2) mm.1.segs.length (flatS mm.1.segs) ∧ Below w.heap.size w w'

set_option maxHeartbeats 1600000 in
set_option maxRecDepth 100000 in
theorem number_any (L : List UInt64) (A : Option Addr) (n c : Nat) (i : Nat) (w : World) (B : Nat) (hn : n = L.length) (hr : Rd w B A (L.map B64)) (hL : n ≤ 65536) :
    Calls Tryz.prog 63 #[.slice A n c, .int .i64 (i : Int)] w fun e w' => e = .returned (.int .i64 (numb L i)) ∧ w = w' := by
  by_cases hi : i < n
  · have hi2 : i < L.length := by omega
    obtain ⟨b, off, rfl, hb, hc⟩ := hr (by simp; omega)
    have k0 := cell64 hc hi2
    have HX : Hid (numb L i = if (L[i]).toNat ≤ 2000000000 then ((L[i]).toNat : Int) else -1) := Lib.hid (by unfold numb; rw [List.getElem?_eq_getElem hi2])
    have hx := (L[i]).toNat_lt
    generalize (L[i]).toNat = x at *
    have i1 : (0 : Int) ≤ (i : Int) := by omega
    have i2 : (i : Int) < (n : Int) := by omega
    obtain ⟨v, hv⟩ : ∃ v, numb L i = v := ⟨_, rfl⟩
    rw [hv] at HX
    rw [hv]
    clear hv hn hc
    by_cases h2 : x ≤ 2000000000
    · rw [if_pos h2] at HX
      have j1 : ¬ ((2000000000 : Int) < (x : Int)) := by omega
      have j2 : IntKind.i64.wrap (x : Int) = (x : Int) := IntWalk.i64_in _ (by omega)
      go_enter Tryz.func63, Tryz.ntmps63
      go_wp2
      go_ret
      rw [HX.out]
      exact ⟨rfl, rfl⟩
    · rw [if_neg h2] at HX
      have j1 : (2000000000 : Int) < (x : Int) := by omega
      go_enter Tryz.func63, Tryz.ntmps63
      go_wp2
      go_ret
      rw [HX.out]
      exact ⟨rfl, rfl⟩
  · have HX : Hid (numb L i = -1) := Lib.hid (by unfold numb; rw [List.getElem?_eq_none (by omega)])
    have i2 : ¬ (i : Int) < (n : Int) := by omega
    obtain ⟨v, hv⟩ : ∃ v, numb L i = v := ⟨_, rfl⟩
    rw [hv] at HX
    rw [hv]
    clear hv hn hr
    go_enter Tryz.func63, Tryz.ntmps63
    go_wp2
    go_ret
    rw [HX.out]
    exact ⟨rfl, rfl⟩

theorem results_cell_row2 {fn : Func} {P : Program} {p q : Tmp} {ty : TypeId} (h : fn.results = #[.cell p ty, .tmp q]) (tmps : Array Value) (w : World) (g : Nat) (t : TypeId) (cs : Array Value) (fr : Nat × Nat) (d : TypeDesc)
    (hp : tmps.getD p undef = .pointer (some ⟨g, 0, none⟩)) (hg : w.heap[g]? = some (.cells cs t fr))
    (hu : P.underlying ty = some d) (hd : (match d with | .struct _ | .array _ _ => true | _ => false) = true) (hi : (P.info? ty).map (·.size) = some cs.size) :
    (results fn tmps).run P w = .ok (.tuple #[.agg cs, tmps.getD q undef]) w := by
  have hp' : tmps[p]?.getD undef = .pointer (some ⟨g, 0, none⟩) := by simpa using hp
  simp [results, h, hp', asAddr, run_loadVar_row w g t ty cs fr d hg hu hd hi, Result.andThen]
theorem frozen_of_heap {w : World} {g j : Nat} {cs : Array Value} {t : TypeId} (h : w.heap[g]? = some (.cells cs t (0, 0))) : w.frozen? ⟨g, j, .none⟩ = false := by
  unfold World.frozen?
  simp [h]
/-- The box at g holds these five. -/
def Box5 (w : World) (g : Nat) (a b c d e : Value) : Prop := w.heap[g]? = some (.cells #[a, b, c, d, e] 37 (0, 0))
section
variable {w w' : World} {g B : Nat} {a b c d e a' b' c' d' e' : Value}
theorem Box5.facts (h : Box5 w g a b c d e) : (w.cell? ⟨g, 0, none⟩ = some a ∧ w.cell? ⟨g, 1, none⟩ = some b ∧ w.cell? ⟨g, 2, none⟩ = some c ∧ w.cell? ⟨g, 3, none⟩ = some d ∧ w.cell? ⟨g, 4, none⟩ = some e) ∧
    (w.frozen? ⟨g, 0, none⟩ = false ∧ w.frozen? ⟨g, 1, none⟩ = false ∧ w.frozen? ⟨g, 2, none⟩ = false ∧ w.frozen? ⟨g, 3, none⟩ = false ∧ w.frozen? ⟨g, 4, none⟩ = false) :=
  ⟨⟨cell_of_heap h rfl, cell_of_heap h rfl, cell_of_heap h rfl, cell_of_heap h rfl, cell_of_heap h rfl⟩, frozen_of_heap h, frozen_of_heap h, frozen_of_heap h, frozen_of_heap h, frozen_of_heap h⟩
theorem Box5.up (h : Box5 w g a b c d e) (hb : Below B w w') (hg : g < B) : Box5 w' g a b c d e := (hb.block g hg).trans h
theorem Box5.put (h : Box5 w g a b c d e) : Box5 (((((w.setCell ⟨g, 0, none⟩ a').setCell ⟨g, 1, none⟩ b').setCell ⟨g, 2, none⟩ c').setCell ⟨g, 3, none⟩ d').setCell ⟨g, 4, none⟩ e') g a' b' c' d' e' := by
  have e0 := heap_setCell_same _ _ 0 _ _ a' h
  have e1 := heap_setCell_same _ _ 1 _ _ b' e0
  have e2 := heap_setCell_same _ _ 2 _ _ c' e1
  have e3 := heap_setCell_same _ _ 3 _ _ d' e2
  exact heap_setCell_same _ _ 4 _ _ e' e3
theorem put_below {B : Nat} {w0 : World} (h : Below B w0 w) (hg : B ≤ g) : Below B w0 (((((w.setCell ⟨g, 0, none⟩ a').setCell ⟨g, 1, none⟩ b').setCell ⟨g, 2, none⟩ c').setCell ⟨g, 3, none⟩ d').setCell ⟨g, 4, none⟩ e') :=
  ((((h.setCell hg _).setCell hg _).setCell hg _).setCell hg _).setCell hg _
end
theorem own_monoN {w : World} {base base' n size : Nat} {e : TypeId} {v : Value} {xs : List Value} (h : w.ownsRow base e size v n xs) (hb : base' ≤ base) : w.ownsRow base' e size v n xs :=
  ⟨h.1, h.2.imp id fun ⟨g, cap, cur, h1, h2, h3⟩ => ⟨g, cap, cur, h1, Nat.le_trans hb h2, h3⟩⟩
theorem own_keepN {w w' : World} {base n size : Nat} {e : TypeId} {v : Value} {xs : List Value} (h : w.ownsRow base e size v n xs) (hb : Below w.heap.size w w') : w'.ownsRow base e size v n xs :=
  ⟨h.1, h.2.imp id fun ⟨g, cap, cur, h1, h2, h3, h4⟩ => ⟨g, cap, cur, h1, h2, (hb.block g (Array.getElem?_eq_some_iff.1 h3).1).trans h3, h4⟩⟩
/-- An append whose run is known. -/
theorem wp_append_at {P : Program} {o : Oper} {a : Act} {w : World} {K : Act → World → Prop} {Q : Exit → Act → World → Prop} {t ty : TypeId} {vs vx v' : Value} {w0 w' : World}
    (hrun : Hid ((Builtin.append_ #[t, t] ty #[vs, vx]).run P w0 = .ok v' w')) (s x : Operand) (hop : o.op = Op.call { callee := Callee.builtin Builtin.append, args := #[s, x], argTypes := #[t, t] }) (hty : o.type = ty)
    (hs : a.eval s = vs) (hx : a.eval x = vx) (hw : w = w0) (hK : K (a.put o.dst v') w') : o.wp P a w K Q := by
  have hr := hrun.out
  subst hty hs hx hw
  unfold Oper.wp
  simp [execOp, hop, resolve, invoke, builtin, hr, Result.andThen]
  exact hK
def L1Rel (W : World) (p : List UInt8) (i v : Value) (wr : World) : Prop := ∃ (k : Nat) (ns : List UInt64), k ≤ p.length ∧ i = .int .i64 (k : Int) ∧ Hid (encs ns = p.take k) ∧ Hid (wr.ownsRow W.heap.size 34 1 v ns.length (ns.map B64)) ∧ Hid (Below W.heap.size W wr)

def L2Rel (w8 : World) (G N : Nat) (ns : List UInt64) (B0 B1 B3 : Int) (X2 : UInt64) (iv : Value) (wz : World) : Prop := ∃ (j q : Nat) (v : Value), Hid (q = 5 + 4 * j) ∧ q ≤ N ∧ iv = .int .i64 (q : Int) ∧
  Hid (Box5 wz G (.int .i64 B0) (.int .i64 B1) (.int .u64 (X2.toNat : Int)) (.int .i64 B3) v) ∧ Hid (wz.ownsRow (G + 1) 65 4 v j (flatS (segTo ns j))) ∧ Hid (Below G w8 wz) ∧ G < wz.heap.size

set_option maxHeartbeats 3200000 in
set_option maxRecDepth 100000 in
theorem rread_any (w : World) (b : List UInt8) (A : Option Addr) (n c : Nat) (h0 : n = b.length) (hr : Rd w w.heap.size A (b.map B8)) (hc : b.length ≤ c) (hm : c ≤ maxLen) (hlen : b.length ≤ 4611686018427387904) :
    Calls Tryz.prog 37 #[.slice A n c] w (RPost (read b) w) := by
  obtain ⟨i0, hi, hz0, hz1, hz2⟩ := info_parts info_u64
  obtain ⟨k0, ki, kz0, kz1, kz2⟩ := info_parts info_seg
  have HBA : Hid (Below w.heap.size w (w.alloc (boxM (zero, none, 0, 0)))) := Lib.hid ((Below.refl _ w).alloc (Nat.le_refl _) _)
  have HZB : Hid ((w.alloc (boxM (zero, none, 0, 0))).heap[w.heap.size]? = some (boxM (zero, none, 0, 0))) := Lib.hid (heap_alloc_new w _)
  have HRD := Lib.hid (refr_any b A n c 0 (w.alloc (boxM (zero, none, 0, 0))) h0 ((hr.below HBA.out).more HBA.out.size) hc hm hlen)
  have HRB := Lib.hid hr
  have HN := Lib.hid h0
  unfold boxM zero at HBA HRD HZB
  simp only at HBA HRD HZB
  have hw0 : w.heap.size < (w.alloc (.cells #[.int .i64 0, .int .i64 0, .int .u64 (((0 : UInt64).toNat : Nat) : Int), .int .i64 0, .slice none 0 0] 37)).heap.size := by simp
  rw [show (((0 : UInt64).toNat : Nat) : Int) = 0 from rfl] at HBA HRD HZB hw0
  unfold maxLen at hm
  obtain ⟨R, hR⟩ : ∃ R, read b = R := ⟨_, rfl⟩
  have HR := Lib.hid hR
  rw [hR]
  clear hR h0 hr hlen
  unfold RPost
  go_enter Tryz.func37, Tryz.ntmps37
  go_wp2_with fail
  refine HRD.out.mono ?_
  rintro e w1 ⟨v1, rfl, hown1, hb1⟩
  have HB1 : Hid (Below w.heap.size w w1) := Lib.hid (HBA.out.trans (hb1.mono HBA.out.size))
  have HZ1 : Hid (Box5 w1 w.heap.size (.int .i64 0) (.int .i64 0) (.int .u64 0) (.int .i64 0) (.slice none 0 0)) := Lib.hid ((hb1.block _ hw0).trans HZB.out)
  have hw1 : w.heap.size < w1.heap.size := Nat.lt_of_lt_of_le hw0 hb1.size
  have HO1 := Lib.hid hown1
  clear hb1 hown1 HRD HBA HZB hw0
  have HPL := Lib.hid (payload_len b 0)
  obtain ⟨E, hE⟩ : ∃ E, rdE b 0 = E := ⟨_, rfl⟩
  have HE := Lib.hid hE
  rw [hE]
  obtain ⟨A1, c1, rfl, hc1, hm1, _⟩ := own_slice HO1.out
  have HRP := Lib.hid (Rd.of_own HO1.out)
  have HNF : Hid (rdE b 0 ≠ 0 → R = (30, zero)) := Lib.hid fun h => by rw [← HR.out]; exact none_frame h
  have HNN : Hid (∀ (ns : List UInt64) (k : Nat), k < (rdP b 0).length → encs ns = (rdP b 0).take k → getE (rdP b 0) k ≠ 0 → R = (30, zero)) := Lib.hid fun ns k h1 h2 h3 => by rw [← HR.out]; exact none_num h1 h2 h3
  have HFW : Hid (∀ L : List UInt64, encs L = rdP b 0 → L.length < 5 → R = (30, zero)) := Lib.hid fun L h1 h2 => by rw [← HR.out]; exact none_few h1 h2
  have HCD : Hid (∀ L : List UInt64, encs L = rdP b 0 → R = if (write (cand L)).1 = 0 ∧ (write (cand L)).2 = b then (0, cand L) else (30, zero)) := Lib.hid fun L h1 => by rw [← HR.out]; exact read_cand h1
  generalize rdP b 0 = p at *
  generalize rdT b 0 = T at *
  by_cases hE0 : E = 0
  case neg =>
    have HX := Lib.hid (HNF.out (by rw [HE.out]; exact hE0))
    have j1 : (E != 0) = true := by simpa using hE0
    clear hE0 hE
    obtain ⟨⟨x0, x1, x2, x3, x4⟩, z0, z1, z2, z3, z4⟩ := HZ1.out.facts
    go_wp2
    refine bodyPost_ret (results_cell_row2 rfl _ _ w.heap.size 37 #[.int .i64 0, .int .i64 0, .int .u64 0, .int .i64 0, .slice none 0 0] _ _ rfl HZ1.out.put Tryz.underlying37 rfl (by kernel_rfl)) rfl ?_
    rw [HX.out]
    exact ⟨(zero, none, 0, 0), rfl, rfl, World.ownsRow_nil _ _ _ _, put_below HB1.out (Nat.le_refl _)⟩
  subst hE0
  clear hE HNF
  have hpl : p.length ≤ 65536 := HPL.out
  have hcm1 : c1 ≤ 9223372036854775807 := by unfold maxLen at hm1; omega
  have HC1 := Lib.hid hc1
  have HM1 := Lib.hid hm1
  clear hm1
  go_wp2
  go_loopw [8, 7] (fun i v wr => L1Rel w1 p i v wr) (fun i _ _ => p.length - (intOf i).toNat)
  case atStart => exact ⟨0, [], Nat.zero_le _, rfl, Lib.hid (by simp [encs]), Lib.hid (World.ownsRow_nil _ _ _ _), Lib.hid (Below.refl _ _)⟩
  case round =>
    obtain ⟨k, ns, hk, rfl, HNS, HOW, HBr⟩ := hrel
    have HBW : Hid (Below w.heap.size w wr) := Lib.hid (HB1.out.trans (HBr.out.mono HB1.out.size))
    have HZr := Lib.hid (HZ1.out.up HBr.out hw1)
    have HNL : Hid (ns.length ≤ k) := Lib.hid (by have h1 := encs_ge ns; rw [HNS.out, List.length_take] at h1; omega)
    by_cases hlt : k < p.length
    · have HG := Lib.hid (ref_any p A1 c1 (k : Int) wr _ (HRP.out.below HBr.out) HC1.out HM1.out)
      by_cases hg : getE p k = 0
      case neg =>
        have HX := Lib.hid (HNN.out ns k hlt HNS.out hg)
        have j1 : (getE p k != 0) = true := by simpa using hg
        generalize getE p k = ge at *
        generalize getN p k = gn at *
        generalize getTo p k = gt at *
        clear hg HNN HFW HCD HNS
        go_wp2_with fail
        refine HG.out.mono ?_
        rintro e w2 ⟨rfl, rfl⟩
        obtain ⟨⟨x0, x1, x2, x3, x4⟩, z0, z1, z2, z3, z4⟩ := HZr.out.facts
        go_wp2
        refine bodyPost_ret (results_cell_row2 rfl _ _ w.heap.size 37 #[.int .i64 0, .int .i64 0, .int .u64 0, .int .i64 0, .slice none 0 0] _ _ rfl HZr.out.put Tryz.underlying37 rfl (by kernel_rfl)) rfl ?_
        rw [HX.out]
        exact ⟨(zero, none, 0, 0), rfl, rfl, World.ownsRow_nil _ _ _ _, put_below HBW.out (Nat.le_refl _)⟩
      obtain ⟨x, m, g1, g2, g3, g4, g5⟩ := got_num hk hg
      rw [hg, g1, g2] at HG
      have HNX : Hid (encs (ns ++ [x]) = p.take (k + m)) := Lib.hid (by rw [encs_append, HNS.out, g5])
      have HOA : Hid ((wr.alloc (.cells #[.int .u64 (x.toNat : Int)] 34)).ownsRow w1.heap.size 34 1 u7 ns.length (ns.map B64)) := Lib.hid (HOW.out.alloc _)
      have HBA : Hid (Below w1.heap.size w1 (wr.alloc (.cells #[.int .u64 (x.toNat : Int)] 34))) := Lib.hid (HBr.out.trans (((Below.refl _ wr).alloc (Nat.le_refl _) _).mono HBr.out.size))
      have hnl := HNL.out
      generalize hkm : k + m = q at *
      have hq1 : q ≤ p.length := g3
      have hq2 : k < q := by omega
      clear hg g1 g2 g5 g3 g4 hkm HNN HFW HCD HNS
      go_wp2_with fail
      refine HG.out.mono ?_
      rintro e w2 ⟨rfl, rfl⟩
      go_wp2_with (at_builtin; refine wpList_append_own _ rfl (.tmp 38) (.tmp 40) 80 rfl w1.heap.size 34 i0 (.int .u64 0) 1 8 Tryz.underlying80 hi hz0 hz1 hz2 rfl (by decide) _ _ _ rfl HOA.out ⟨wr.heap.size, 0, none⟩ 1 1 ([x].map B64) rfl (by simp) (new1 _ _ _) (one64s _) ?c3 ?c4 HBA.out.size ?_)
      case c3 => unfold maxLen; omega
      case c4 => omega
      intro v2 w2 hown2 hg2 _
      have hb2 : Below w1.heap.size w1 w2 := HBA.out.grown hg2 HBA.out.size (own_lt HOA.out)
      have HO2 : Hid (w2.ownsRow w1.heap.size 34 1 v2 (ns ++ [x]).length ((ns ++ [x]).map B64)) := Lib.hid (by
        rw [List.map_append, List.length_append]
        exact hown2)
      have HB2 := Lib.hid hb2
      clear hown2 hg2 hb2 HOA HBA
      go_wp2
      go_roundw
      case rel => exact ⟨q, ns ++ [x], hq1, rfl, HNX, HO2, HB2⟩
      case measure => simp [intOf]; omega
    · have hkp : k = p.length := by omega
      have HL : Hid (encs ns = p) := Lib.hid (by rw [HNS.out, hkp, List.take_length])
      have HFW2 := Lib.hid (HFW.out ns HL.out)
      have HCD2 := Lib.hid (HCD.out ns HL.out)
      have hnl : ns.length ≤ 65536 := by have := HNL.out; omega
      clear HNN HFW HCD HNS hkp HNL
      obtain ⟨A2, c2, rfl, hc2, hm2, _⟩ := own_slice HOW.out
      unfold maxLen at hm2
      have HR2 := Lib.hid (Rd.of_own HOW.out)
      obtain ⟨N, hN⟩ : ∃ N, ns.length = N := ⟨_, rfl⟩
      have HNN := Lib.hid hN
      rw [hN] at hnl hc2 HOW
      rw [hN]
      clear hN
      by_cases h5 : N < 5
      case pos =>
        have HX := Lib.hid (HFW2.out (by rw [HNN.out]; exact h5))
        have j1 : (N : Int) < 5 := by omega
        obtain ⟨⟨x0, x1, x2, x3, x4⟩, z0, z1, z2, z3, z4⟩ := HZr.out.facts
        go_wp2
        refine bodyPost_ret (results_cell_row2 rfl _ _ w.heap.size 37 #[.int .i64 0, .int .i64 0, .int .u64 0, .int .i64 0, .slice none 0 0] _ _ rfl HZr.out.put Tryz.underlying37 rfl (by kernel_rfl)) rfl ?_
        rw [HX.out]
        exact ⟨(zero, none, 0, 0), rfl, rfl, World.ownsRow_nil _ _ _ _, put_below HBW.out (Nat.le_refl _)⟩
      clear HFW2
      have j1 : ¬ (N : Int) < 5 := by omega
      obtain ⟨g2, o2, rfl, hg2, hcells⟩ := HR2.out (by rw [List.length_map]; have := HNN.out; omega)
      have hN2 : 2 < ns.length := by have := HNN.out; omega
      have hN3 : 3 < ns.length := by have := HNN.out; omega
      have y2 := cell64 hcells hN2
      have y3 := cell64 hcells hN3
      have HX2 : Hid (ns.getD 2 0 = ns[2]) := Lib.hid (by rw [List.getD, List.getElem?_eq_getElem hN2]; rfl)
      have HX3 : Hid (at64 ns 3 = (ns[3]).toNat) := Lib.hid (by unfold at64; rw [List.getD, List.getElem?_eq_getElem hN3]; rfl)
      generalize ns[2] = X2 at *
      generalize ns[3] = X3 at *
      have hx3 := X3.toNat_lt
      have HZG : ∀ wz, Hid (Calls Tryz.prog 64 #[.int .u64 (X3.toNat : Int)] wz fun e w' => e = .returned (.int .i64 (zag (X3.toNat : Int))) ∧ wz = w') := fun wz => Lib.hid (refzag_any _ wz (by omega) (by omega))
      have HNB : ∀ (i : Nat) wz, Below wr.heap.size wr wz → Calls Tryz.prog 63 #[.slice (some ⟨g2, o2, none⟩) N c2, .int .i64 (i : Int)] wz fun e w' => e = .returned (.int .i64 (numb ns i)) ∧ wz = w' := fun i wz hb => number_any ns _ N c2 i wz _ HNN.out.symm (HR2.out.below hb) hnl
      have N00 : Hid (Calls Tryz.prog 63 #[.slice (some ⟨g2, o2, none⟩) N c2, .int .i64 0] wr fun e w' => e = .returned (.int .i64 (numb ns 0)) ∧ wr = w') := Lib.hid (HNB 0 _ (Below.refl _ _))
      have N01 : Hid (Calls Tryz.prog 63 #[.slice (some ⟨g2, o2, none⟩) N c2, .int .i64 1] wr fun e w' => e = .returned (.int .i64 (numb ns 1)) ∧ wr = w') := Lib.hid (HNB 1 _ (Below.refl _ _))
      have N10 : Hid (Calls Tryz.prog 63 #[.slice (some ⟨g2, o2, none⟩) N c2, .int .i64 0] wr.drew fun e w' => e = .returned (.int .i64 (numb ns 0)) ∧ wr.drew = w') := Lib.hid (HNB 0 _ (below_drew1 (Below.refl _ _)))
      have N11 : Hid (Calls Tryz.prog 63 #[.slice (some ⟨g2, o2, none⟩) N c2, .int .i64 1] wr.drew fun e w' => e = .returned (.int .i64 (numb ns 1)) ∧ wr.drew = w') := Lib.hid (HNB 1 _ (below_drew1 (Below.refl _ _)))
      have N20 : Hid (Calls Tryz.prog 63 #[.slice (some ⟨g2, o2, none⟩) N c2, .int .i64 0] ((wr.alloc (.cells #[.int .i64 0, .int .i64 0, .int .u64 0, .int .i64 0, .slice none 0 0] 37)).drew) fun e w' => e = .returned (.int .i64 (numb ns 0)) ∧ ((wr.alloc (.cells #[.int .i64 0, .int .i64 0, .int .u64 0, .int .i64 0, .slice none 0 0] 37)).drew) = w') := Lib.hid (HNB 0 _ (below_drew1 ((Below.refl _ wr).alloc (Nat.le_refl _) _)))
      have N21 : Hid (Calls Tryz.prog 63 #[.slice (some ⟨g2, o2, none⟩) N c2, .int .i64 1] ((wr.alloc (.cells #[.int .i64 0, .int .i64 0, .int .u64 0, .int .i64 0, .slice none 0 0] 37)).drew) fun e w' => e = .returned (.int .i64 (numb ns 1)) ∧ ((wr.alloc (.cells #[.int .i64 0, .int .i64 0, .int .u64 0, .int .i64 0, .slice none 0 0] 37)).drew) = w') := Lib.hid (HNB 1 _ (below_drew1 ((Below.refl _ wr).alloc (Nat.le_refl _) _)))
      have N30 : Hid (Calls Tryz.prog 63 #[.slice (some ⟨g2, o2, none⟩) N c2, .int .i64 0] (wr.drew.alloc (.cells #[.int .i64 0, .int .i64 0, .int .u64 0, .int .i64 0, .slice none 0 0] 37)) fun e w' => e = .returned (.int .i64 (numb ns 0)) ∧ (wr.drew.alloc (.cells #[.int .i64 0, .int .i64 0, .int .u64 0, .int .i64 0, .slice none 0 0] 37)) = w') := Lib.hid (HNB 0 _ ((below_drew1 (Below.refl _ wr)).trans ((Below.refl _ wr.drew).alloc (Nat.le_refl _) _)))
      have N31 : Hid (Calls Tryz.prog 63 #[.slice (some ⟨g2, o2, none⟩) N c2, .int .i64 1] (wr.drew.alloc (.cells #[.int .i64 0, .int .i64 0, .int .u64 0, .int .i64 0, .slice none 0 0] 37)) fun e w' => e = .returned (.int .i64 (numb ns 1)) ∧ (wr.drew.alloc (.cells #[.int .i64 0, .int .i64 0, .int .u64 0, .int .i64 0, .slice none 0 0] 37)) = w') := Lib.hid (HNB 1 _ ((below_drew1 (Below.refl _ wr)).trans ((Below.refl _ wr.drew).alloc (Nat.le_refl _) _)))
      have S0 : Hid (wr.cell? ⟨g2, o2 + 2, none⟩ = some (.int .u64 (X2.toNat : Int)) ∧ wr.cell? ⟨g2, o2 + 3, none⟩ = some (.int .u64 (X3.toNat : Int))) := Lib.hid ⟨cell_up (Below.refl _ _) hg2 y2, cell_up (Below.refl _ _) hg2 y3⟩
      have S1 : Hid (wr.drew.cell? ⟨g2, o2 + 2, none⟩ = some (.int .u64 (X2.toNat : Int)) ∧ wr.drew.cell? ⟨g2, o2 + 3, none⟩ = some (.int .u64 (X3.toNat : Int))) := Lib.hid ⟨cell_up (below_drew1 (Below.refl _ _)) hg2 y2, cell_up (below_drew1 (Below.refl _ _)) hg2 y3⟩
      have S2 : Hid (((wr.alloc (.cells #[.int .i64 0, .int .i64 0, .int .u64 0, .int .i64 0, .slice none 0 0] 37)).drew).cell? ⟨g2, o2 + 2, none⟩ = some (.int .u64 (X2.toNat : Int)) ∧ ((wr.alloc (.cells #[.int .i64 0, .int .i64 0, .int .u64 0, .int .i64 0, .slice none 0 0] 37)).drew).cell? ⟨g2, o2 + 3, none⟩ = some (.int .u64 (X3.toNat : Int))) := Lib.hid ⟨cell_up (below_drew1 ((Below.refl _ wr).alloc (Nat.le_refl _) _)) hg2 y2, cell_up (below_drew1 ((Below.refl _ wr).alloc (Nat.le_refl _) _)) hg2 y3⟩
      have S3 : Hid ((wr.drew.alloc (.cells #[.int .i64 0, .int .i64 0, .int .u64 0, .int .i64 0, .slice none 0 0] 37)).cell? ⟨g2, o2 + 2, none⟩ = some (.int .u64 (X2.toNat : Int)) ∧ (wr.drew.alloc (.cells #[.int .i64 0, .int .i64 0, .int .u64 0, .int .i64 0, .slice none 0 0] 37)).cell? ⟨g2, o2 + 3, none⟩ = some (.int .u64 (X3.toNat : Int))) := Lib.hid ⟨cell_up ((below_drew1 (Below.refl _ wr)).trans ((Below.refl _ wr.drew).alloc (Nat.le_refl _) _)) hg2 y2, cell_up ((below_drew1 (Below.refl _ wr)).trans ((Below.refl _ wr.drew).alloc (Nat.le_refl _) _)) hg2 y3⟩
      clear HNB hN2 hN3 hx3
      have i2 : (2 : Int) < (N : Int) := by omega
      have i3 : (3 : Int) < (N : Int) := by omega
      have hN0 : 2 < N := by omega
      have hN1 : 3 < N := by omega
      obtain ⟨B0, hB0⟩ : ∃ B, numb ns 0 = B := ⟨_, rfl⟩
      obtain ⟨B1, hB1⟩ : ∃ B, numb ns 1 = B := ⟨_, rfl⟩
      obtain ⟨B3, hB3⟩ : ∃ B, zag (X3.toNat : Int) = B := ⟨_, rfl⟩
      have HB0 := Lib.hid hB0
      have HBB1 := Lib.hid hB1
      have HB3 := Lib.hid hB3
      simp only [hB0, hB1, hB3] at N00 N01 N10 N11 N20 N21 N30 N31 HZG
      clear hB0 hB1 hB3
      have S4 : Hid ((wr.alloc (.cells #[.int .i64 B0, .int .i64 B1, .int .u64 (X2.toNat : Int), .int .i64 B3, .slice none 0 0] 37)).drew.cell? ⟨g2, o2 + 2, none⟩ = some (.int .u64 (X2.toNat : Int)) ∧ (wr.alloc (.cells #[.int .i64 B0, .int .i64 B1, .int .u64 (X2.toNat : Int), .int .i64 B3, .slice none 0 0] 37)).drew.cell? ⟨g2, o2 + 3, none⟩ = some (.int .u64 (X3.toNat : Int))) := Lib.hid ⟨cell_up (below_drew1 ((Below.refl _ wr).alloc (Nat.le_refl _) _)) hg2 y2, cell_up (below_drew1 ((Below.refl _ wr).alloc (Nat.le_refl _) _)) hg2 y3⟩
      go_upto_region 14 with (fail)
      go_cut [12] from 47 to 58 (fun s12 wx => s12 = .pointer (some ⟨wr.heap.size, 0, none⟩) ∧ wx = (wr.alloc (.cells #[.int .i64 B0, .int .i64 B1, .int .u64 (X2.toNat : Int), .int .i64 B3, .slice none 0 0] 37)).drew)
      case first =>
        go_region_held3 (fun w' => w'.cell? ⟨g2, o2 + 2, none⟩ = some (.int .u64 (X2.toNat : Int)) ∧ w'.cell? ⟨g2, o2 + 3, none⟩ = some (.int .u64 (X3.toNat : Int))) (first | with_reducible exact S0.out | with_reducible exact S1.out | with_reducible exact S2.out | with_reducible exact S3.out | with_reducible exact S4.out) (first
          | (go_at_call 63; with_reducible refine N00.out.mono ?_; rintro e wz ⟨rfl, rfl⟩)
          | (go_at_call 63; with_reducible refine N01.out.mono ?_; rintro e wz ⟨rfl, rfl⟩)
          | (go_at_call 63; with_reducible refine N10.out.mono ?_; rintro e wz ⟨rfl, rfl⟩)
          | (go_at_call 63; with_reducible refine N11.out.mono ?_; rintro e wz ⟨rfl, rfl⟩)
          | (go_at_call 63; with_reducible refine N20.out.mono ?_; rintro e wz ⟨rfl, rfl⟩)
          | (go_at_call 63; with_reducible refine N21.out.mono ?_; rintro e wz ⟨rfl, rfl⟩)
          | (go_at_call 63; with_reducible refine N30.out.mono ?_; rintro e wz ⟨rfl, rfl⟩)
          | (go_at_call 63; with_reducible refine N31.out.mono ?_; rintro e wz ⟨rfl, rfl⟩)
          | (go_at_call 64; with_reducible refine (HZG _).out.mono ?_; rintro e wz ⟨rfl, rfl⟩))
        all_goals
          go_wp2
          go_meet
          exact ⟨rfl, rfl⟩
      obtain ⟨rfl, rfl⟩ := hcut
      have HBG : Hid (Box5 (wr.alloc (.cells #[.int .i64 B0, .int .i64 B1, .int .u64 (X2.toNat : Int), .int .i64 B3, .slice none 0 0] 37)).drew wr.heap.size (.int .i64 B0) (.int .i64 B1) (.int .u64 (X2.toNat : Int)) (.int .i64 B3) (.slice none 0 0)) := Lib.hid (heap_alloc_new wr _)
      have HBV : Hid (Below wr.heap.size wr (wr.alloc (.cells #[.int .i64 B0, .int .i64 B1, .int .u64 (X2.toNat : Int), .int .i64 B3, .slice none 0 0] 37)).drew) := Lib.hid (below_drew1 ((Below.refl _ wr).alloc (Nat.le_refl _) _))
      have hGV : wr.heap.size < (wr.alloc (.cells #[.int .i64 B0, .int .i64 B1, .int .u64 (X2.toNat : Int), .int .i64 B3, .slice none 0 0] 37)).drew.heap.size := by show wr.heap.size < (World.alloc wr _).heap.size; simp
      clear N00 N01 N10 N11 N20 N21 N30 N31 S0 S1 S2 S3 S4 y2 y3 HZG i2 i3 hN0 hN1
      obtain ⟨V, hV⟩ : ∃ V, (wr.alloc (.cells #[.int .i64 B0, .int .i64 B1, .int .u64 (X2.toNat : Int), .int .i64 B3, .slice none 0 0] 37)).drew = V := ⟨_, rfl⟩
      rw [hV] at HBG HBV hGV
      rw [hV]
      clear hV
      obtain ⟨w8, h8⟩ : ∃ w8, w8 = wr := ⟨_, rfl⟩
      subst h8
      obtain ⟨G, hG⟩ : ∃ G, w8.heap.size = G := ⟨_, rfl⟩
      rw [hG] at HBG hGV
      rw [hG]
      have HG := Lib.hid hG
      clear hG
      have hgG : g2 < G := by rw [← HG.out]; exact hg2
      have HBV2 : Hid (Below G w8 V) := Lib.hid (by rw [← HG.out]; exact HBV.out)
      go_wp2
      go_loopw [13] (fun iv wz => L2Rel w8 G N ns B0 B1 B3 X2 iv wz) (fun iv _ => N - (intOf iv).toNat)
      case atStart => exact ⟨0, 5, .slice none 0 0, Lib.hid rfl, by omega, rfl, HBG, Lib.hid (World.ownsRow_nil _ _ _ _), HBV2, hGV⟩
      case round =>
        obtain ⟨j, q, v, HQ, hqN, rfl, HBX, HOS, HBz, hGz⟩ := hrel
        obtain ⟨wz, hwz⟩ : ∃ wz, wz = wr := ⟨_, rfl⟩
        subst hwz
        by_cases hlt : q + 3 < N
        · have hs2 : q + 2 < ns.length := by have := HNN.out; omega
          have hs3 : q + 3 < ns.length := by have := HNN.out; omega
          have y2 := cell_up HBz.out (p := ⟨g2, o2 + (q + 2), none⟩) hgG (cell64 hcells hs2)
          have y3 := cell_up HBz.out (p := ⟨g2, o2 + (q + 3), none⟩) hgG (cell64 hcells hs3)
          have HNS : Hid (segAt ns j = ⟨numb ns q, numb ns (q + 1), zag ((ns[q + 2]).toNat : Int), zag ((ns[q + 3]).toNat : Int)⟩) := Lib.hid (by
            unfold segAt at64
            rw [← HQ.out, List.getD, List.getD, List.getElem?_eq_getElem hs2, List.getElem?_eq_getElem hs3]
            rfl)
          have yy2 := cell64 hcells hs2
          have yy3 := cell64 hcells hs3
          generalize ns[q + 2] = Y2 at *
          generalize ns[q + 3] = Y3 at *
          have hx2 := Y2.toNat_lt
          have hx3 := Y3.toNat_lt
          have HZ2 : ∀ wz, Hid (Calls Tryz.prog 64 #[.int .u64 (Y2.toNat : Int)] wz fun e w' => e = .returned (.int .i64 (zag (Y2.toNat : Int))) ∧ wz = w') := fun wz => Lib.hid (refzag_any _ wz (by omega) (by omega))
          have HZ3 : ∀ wz, Hid (Calls Tryz.prog 64 #[.int .u64 (Y3.toNat : Int)] wz fun e w' => e = .returned (.int .i64 (zag (Y3.toNat : Int))) ∧ wz = w') := fun wz => Lib.hid (refzag_any _ wz (by omega) (by omega))
          have HRZ : Rd wz w8.heap.size (some ⟨g2, o2, none⟩) (ns.map B64) := HR2.out.below (by rw [HG.out]; exact HBz.out)
          have HNB : ∀ (i : Nat) wy, Below w8.heap.size wz wy → Calls Tryz.prog 63 #[.slice (some ⟨g2, o2, none⟩) N c2, .int .i64 (i : Int)] wy fun e w' => e = .returned (.int .i64 (numb ns i)) ∧ wy = w' := fun i wy hb => number_any ns _ N c2 i wy _ HNN.out.symm (HRZ.below hb) hnl
          have M00 : Hid (Calls Tryz.prog 63 #[.slice (some ⟨g2, o2, none⟩) N c2, .int .i64 (q : Int)] wz fun e w' => e = .returned (.int .i64 (numb ns q)) ∧ wz = w') := Lib.hid (HNB q _ (Below.refl _ _))
          have M01 : Hid (Calls Tryz.prog 63 #[.slice (some ⟨g2, o2, none⟩) N c2, .int .i64 ((q : Int) + 1)] wz fun e w' => e = .returned (.int .i64 (numb ns (q + 1))) ∧ wz = w') := Lib.hid (HNB (q + 1) _ (Below.refl _ _))
          have M10 : Hid (Calls Tryz.prog 63 #[.slice (some ⟨g2, o2, none⟩) N c2, .int .i64 (q : Int)] wz.drew fun e w' => e = .returned (.int .i64 (numb ns q)) ∧ wz.drew = w') := Lib.hid (HNB q _ (below_drew1 (Below.refl _ _)))
          have M11 : Hid (Calls Tryz.prog 63 #[.slice (some ⟨g2, o2, none⟩) N c2, .int .i64 ((q : Int) + 1)] wz.drew fun e w' => e = .returned (.int .i64 (numb ns (q + 1))) ∧ wz.drew = w') := Lib.hid (HNB (q + 1) _ (below_drew1 (Below.refl _ _)))
          clear HNB HRZ hs2 hs3 hx2 hx3
          obtain ⟨C0, h0⟩ : ∃ C, numb ns q = C := ⟨_, rfl⟩
          obtain ⟨C1, h1⟩ : ∃ C, numb ns (q + 1) = C := ⟨_, rfl⟩
          obtain ⟨C2, h2⟩ : ∃ C, zag (Y2.toNat : Int) = C := ⟨_, rfl⟩
          obtain ⟨C3, h3⟩ : ∃ C, zag (Y3.toNat : Int) = C := ⟨_, rfl⟩
          simp only [h0] at M00 M10 HNS
          simp only [h1] at M01 M11 HNS
          simp only [h2] at HZ2 HNS
          simp only [h3] at HZ3 HNS
          clear h0 h1 h2 h3
          have hjN : j ≤ 65536 := by have := HQ.out; omega
          have HOL : Hid ((wz.drew.alloc (.cells #[.int .i64 C0, .int .i64 C1, .int .i64 C2, .int .i64 C3] 65)).ownsRow (G + 1) 65 4 v j (flatS (segTo ns j))) := Lib.hid (HOS.out.drew.alloc _)
          obtain ⟨v2, w2, hrun, hown2, hg2', hv2⟩ := run_append_own (P := Tryz.prog) (wz.drew.alloc (.cells #[.int .i64 C0, .int .i64 C1, .int .i64 C2, .int .i64 C3] 65)) (G + 1) 35 35 65 k0 (.agg #[.int .i64 0, .int .i64 0, .int .i64 0, .int .i64 0]) 4 32 Tryz.underlying35 ki kz0 kz1 kz2 rfl (by decide) v j _ HOL.out ⟨wz.heap.size, 0, none⟩ 1 1 (flatS [⟨C0, C1, C2, C3⟩]) (by simp [flatS, scells]) (by rw [flatS_one]; exact new4 _ _ _ _ _ _) (flatS_ones _) (by unfold maxLen; omega) (by omega) (by show G + 1 ≤ (World.alloc _ _).heap.size; simp; omega)
          have HO2 : Hid (w2.ownsRow (G + 1) 65 4 v2 (j + 1) (flatS (segTo ns (j + 1)))) := Lib.hid (by
            rw [segTo_succ, flatS_append, HNS.out]
            exact hown2)
          obtain ⟨As2, cs2, hvv, _, _⟩ := own_sgs (l := segTo ns (j + 1)) (by rw [segTo_len]; exact HO2.out)
          rw [segTo_len] at hvv
          subst hvv
          have hnG : ∀ x, v.ownBlock = some x → G + 1 ≤ x := fun x hx => (HOS.out.lt x hx).1
          have hbG : w2.heap[G]? = wz.heap[G]? := (hg2'.block G (by show G < (World.alloc _ _).heap.size; simp; omega) (fun h => by have := hnG G h.symm; omega)).trans (Below.heap_alloc _ _ _ (by exact hGz))
          have HBX2 : Hid (Box5 w2 G (.int .i64 B0) (.int .i64 B1) (.int .u64 (X2.toNat : Int)) (.int .i64 B3) v) := Lib.hid (hbG.trans HBX.out)
          have HB2 : Hid (Below G w8 w2) := Lib.hid (HBz.out.trans (((below_drew1 (Below.refl G wz)).trans ((Below.refl G wz.drew).alloc (by exact Nat.le_of_lt hGz) _)).trans ⟨hg2'.os, hg2'.tape, hg2'.output, hg2'.size, fun x hx => hg2'.block x (by show x < (World.alloc _ _).heap.size; simp; omega) (fun h => by have := hnG x h.symm; omega)⟩))
          have HB3 : Hid (Below G w8 (w2.setCell ⟨G, 4, none⟩ (.slice As2 (j + 1) cs2))) := Lib.hid (HB2.out.setCell (Nat.le_refl _) _)
          have HBX3 : Hid (Box5 (w2.setCell ⟨G, 4, none⟩ (.slice As2 (j + 1) cs2)) G (.int .i64 B0) (.int .i64 B1) (.int .u64 (X2.toNat : Int)) (.int .i64 B3) (.slice As2 (j + 1) cs2)) := Lib.hid (heap_setCell_same _ _ 4 _ _ (.slice As2 (j + 1) cs2) HBX2.out)
          have HO3 : Hid ((w2.setCell ⟨G, 4, none⟩ (.slice As2 (j + 1) cs2)).ownsRow (G + 1) 65 4 (.slice As2 (j + 1) cs2) (j + 1) (flatS (segTo ns (j + 1)))) := Lib.hid (ownsRow_setCell_below HO2.out (by simp) _)
          have hG3 : G < (w2.setCell ⟨G, 4, none⟩ (.slice As2 (j + 1) cs2)).heap.size := World.block_lt_of_cell? _ ⟨G, 0, none⟩ HBX3.out.facts.1.1
          have RA1 : Hid ((Builtin.append_ #[35, 35] 35 #[v, .slice (some ⟨wz.heap.size, 0, none⟩) 1 1]).run Tryz.prog ((wz.alloc (.cells #[.int .i64 C0, .int .i64 C1, .int .i64 C2, .int .i64 C3] 65)).drew) = .ok (.slice As2 (j + 1) cs2) w2) := Lib.hid hrun
          have RA2 : Hid ((Builtin.append_ #[35, 35] 35 #[v, .slice (some ⟨wz.heap.size, 0, none⟩) 1 1]).run Tryz.prog (wz.drew.alloc (.cells #[.int .i64 C0, .int .i64 C1, .int .i64 C2, .int .i64 C3] 65)) = .ok (.slice As2 (j + 1) cs2) w2) := Lib.hid hrun
          have d0 : wz.cell? ⟨G, 4, none⟩ = some v := HBX.out.facts.1.2.2.2.2
          have d1 : wz.drew.cell? ⟨G, 4, none⟩ = some v := d0
          have d2 : (wz.alloc (.cells #[.int .i64 C0, .int .i64 C1, .int .i64 C2, .int .i64 C3] 65)).drew.cell? ⟨G, 4, none⟩ = some v := cell_up ((Below.refl _ wz).alloc (Nat.le_refl _) _) (p := ⟨G, 4, none⟩) hGz d0
          have d3 : w2.cell? ⟨G, 4, none⟩ = some v := HBX2.out.facts.1.2.2.2.2
          have d4 : w2.frozen? ⟨G, 4, none⟩ = false := HBX2.out.facts.2.2.2.2.2
          have S0 : Hid (wz.cell? ⟨g2, o2 + (q + 2), none⟩ = some (.int .u64 (Y2.toNat : Int)) ∧ wz.cell? ⟨g2, o2 + (q + 3), none⟩ = some (.int .u64 (Y3.toNat : Int))) := Lib.hid ⟨cell_up (Below.refl _ _) (by show g2 < wz.heap.size; omega) y2, cell_up (Below.refl _ _) (by show g2 < wz.heap.size; omega) y3⟩
          have S1 : Hid (wz.drew.cell? ⟨g2, o2 + (q + 2), none⟩ = some (.int .u64 (Y2.toNat : Int)) ∧ wz.drew.cell? ⟨g2, o2 + (q + 3), none⟩ = some (.int .u64 (Y3.toNat : Int))) := Lib.hid ⟨cell_up (below_drew1 (Below.refl _ _)) (by show g2 < wz.heap.size; omega) y2, cell_up (below_drew1 (Below.refl _ _)) (by show g2 < wz.heap.size; omega) y3⟩
          have S2 : Hid (((wz.alloc (.cells #[.int .i64 C0, .int .i64 C1, .int .i64 C2, .int .i64 C3] 65)).drew).cell? ⟨g2, o2 + (q + 2), none⟩ = some (.int .u64 (Y2.toNat : Int)) ∧ ((wz.alloc (.cells #[.int .i64 C0, .int .i64 C1, .int .i64 C2, .int .i64 C3] 65)).drew).cell? ⟨g2, o2 + (q + 3), none⟩ = some (.int .u64 (Y3.toNat : Int))) := Lib.hid ⟨cell_up (below_drew1 ((Below.refl _ wz).alloc (Nat.le_refl _) _)) (by show g2 < wz.heap.size; omega) y2, cell_up (below_drew1 ((Below.refl _ wz).alloc (Nat.le_refl _) _)) (by show g2 < wz.heap.size; omega) y3⟩
          have S3 : Hid ((wz.drew.alloc (.cells #[.int .i64 C0, .int .i64 C1, .int .i64 C2, .int .i64 C3] 65)).cell? ⟨g2, o2 + (q + 2), none⟩ = some (.int .u64 (Y2.toNat : Int)) ∧ (wz.drew.alloc (.cells #[.int .i64 C0, .int .i64 C1, .int .i64 C2, .int .i64 C3] 65)).cell? ⟨g2, o2 + (q + 3), none⟩ = some (.int .u64 (Y3.toNat : Int))) := Lib.hid ⟨cell_up ((below_drew1 (Below.refl _ wz)).trans ((Below.refl _ wz.drew).alloc (Nat.le_refl _) _)) (by show g2 < wz.heap.size; omega) y2, cell_up ((below_drew1 (Below.refl _ wz)).trans ((Below.refl _ wz.drew).alloc (Nat.le_refl _) _)) (by show g2 < wz.heap.size; omega) y3⟩
          have S4 : Hid (w2.cell? ⟨g2, o2 + (q + 2), none⟩ = some (.int .u64 (Y2.toNat : Int)) ∧ w2.cell? ⟨g2, o2 + (q + 3), none⟩ = some (.int .u64 (Y3.toNat : Int))) := Lib.hid ⟨cell_up HB2.out hgG yy2, cell_up HB2.out hgG yy3⟩
          have S5 : Hid ((w2.setCell ⟨G, 4, none⟩ (.slice As2 (j + 1) cs2)).cell? ⟨g2, o2 + (q + 2), none⟩ = some (.int .u64 (Y2.toNat : Int)) ∧ (w2.setCell ⟨G, 4, none⟩ (.slice As2 (j + 1) cs2)).cell? ⟨g2, o2 + (q + 3), none⟩ = some (.int .u64 (Y3.toNat : Int))) := Lib.hid ⟨cell_up HB3.out hgG yy2, cell_up HB3.out hgG yy3⟩
          have e1 : IntKind.i64.wrap ((q : Int) + 1) = (q : Int) + 1 := IntWalk.i64_in _ (by omega)
          have e2 : IntKind.i64.wrap ((q : Int) + 2) = (q : Int) + 2 := IntWalk.i64_in _ (by omega)
          have e3 : IntKind.i64.wrap ((q : Int) + 3) = (q : Int) + 3 := IntWalk.i64_in _ (by omega)
          have i1 : (0 : Int) ≤ (q : Int) + 2 := by omega
          have i2 : (q : Int) + 2 < (N : Int) := by omega
          have i3 : (0 : Int) ≤ (q : Int) + 3 := by omega
          have i4 : (q : Int) + 3 < (N : Int) := by omega
          have i5 : ((q : Int) + 2).toNat = q + 2 := by omega
          have i6 : ((q : Int) + 3).toNat = q + 3 := by omega
          clear y2 y3 yy2 yy3 hrun hown2 hg2' hv2 hnG hbG HOL HBX HBz HOS HNS
          go_wp2
          have T1 : wz.drew.cell? ⟨g2, o2 + (q + 2), none⟩ = some (.int .u64 (Y2.toNat : Int)) ∧ wz.drew.cell? ⟨g2, o2 + (q + 3), none⟩ = some (.int .u64 (Y3.toNat : Int)) ∧ wz.drew.cell? ⟨G, 4, none⟩ = some v := ⟨S1.out.1, S1.out.2, d1⟩
          have T2 : (wz.drew.alloc (.cells #[.int .i64 C0, .int .i64 C1, .int .i64 C2, .int .i64 C3] 65)).cell? ⟨g2, o2 + (q + 2), none⟩ = some (.int .u64 (Y2.toNat : Int)) ∧ (wz.drew.alloc (.cells #[.int .i64 C0, .int .i64 C1, .int .i64 C2, .int .i64 C3] 65)).cell? ⟨g2, o2 + (q + 3), none⟩ = some (.int .u64 (Y3.toNat : Int)) ∧ (wz.drew.alloc (.cells #[.int .i64 C0, .int .i64 C1, .int .i64 C2, .int .i64 C3] 65)).cell? ⟨G, 4, none⟩ = some v := ⟨S3.out.1, S3.out.2, d2⟩
          replace T1 := Lib.hid T1
          replace T2 := Lib.hid T2
          refine wp_region_D (fun j => j == 23 || j == 25) (fun w' => w'.cell? ⟨g2, o2 + (q + 2), none⟩ = some (.int .u64 (Y2.toNat : Int)) ∧ w'.cell? ⟨g2, o2 + (q + 3), none⟩ = some (.int .u64 (Y3.toNat : Int)) ∧ w'.cell? ⟨G, 4, none⟩ = some v) (by kernel_rfl) ?_
          refine wpAnyD_take (i := 0) (v := ?_) rfl (by kernel_rfl) (fun _ _ _ h => h) (Or.inl ⟨by rfl, ?_⟩) T1.out ?_
          rotate_left
          · intro w9 h9
            obtain ⟨t2, t3, t4⟩ := h9
            first | (go_simp; with_reducible rfl) | go_simp
          try simp only [Act.put, List.setIfInBounds_toArray]
          refine wpAnyD_take (i := 1) (v := ?_) rfl (by kernel_rfl) (fun _ _ _ h => h) (Or.inl ⟨by rfl, ?_⟩) T1.out ?_
          rotate_left
          · intro w9 h9
            obtain ⟨t2, t3, t4⟩ := h9
            first | (go_simp; with_reducible rfl) | go_simp
          try simp only [Act.put]
          refine wpAnyD_take (i := 2) (v := ?_) rfl (by kernel_rfl) (fun _ _ _ h => h) (Or.inl ⟨by rfl, ?_⟩) T1.out ?_
          rotate_left
          · intro w9 h9
            obtain ⟨t2, t3, t4⟩ := h9
            first | (go_simp; with_reducible rfl) | go_simp
          try simp only [Act.put]
          refine wpAnyD_take (i := 3) (v := ?_) rfl (by kernel_rfl) (fun _ _ _ h => h) (Or.inl ⟨by rfl, ?_⟩) T1.out ?_
          rotate_left
          · intro w9 h9
            obtain ⟨t2, t3, t4⟩ := h9
            first | (go_simp; with_reducible rfl) | go_simp
          try simp only [Act.put]
          refine wpAnyD_take (i := 5) (v := ?_) rfl (by kernel_rfl) (fun _ _ _ h => h) (Or.inl ⟨by rfl, ?_⟩) T1.out ?_
          rotate_left
          · intro w9 h9
            obtain ⟨t2, t3, t4⟩ := h9
            first | (go_simp; with_reducible rfl) | go_simp
          try simp only [Act.put]
          refine wpAnyD_take (i := 6) (v := ?_) rfl (by kernel_rfl) (fun _ _ _ h => h) (Or.inl ⟨by rfl, ?_⟩) T1.out ?_
          rotate_left
          · intro w9 h9
            obtain ⟨t2, t3, t4⟩ := h9
            first | (go_simp; with_reducible rfl) | go_simp
          try simp only [Act.put]
          refine wpAnyD_take (i := 7) (v := ?_) rfl (by kernel_rfl) (fun _ _ _ h => h) (Or.inl ⟨by rfl, ?_⟩) T1.out ?_
          rotate_left
          · intro w9 h9
            obtain ⟨t2, t3, t4⟩ := h9
            first | (go_simp; with_reducible rfl) | go_simp
          try simp only [Act.put]
          refine wpAnyD_take (i := 9) (v := ?_) rfl (by kernel_rfl) (fun _ _ _ h => h) (Or.inl ⟨by rfl, ?_⟩) T1.out ?_
          rotate_left
          · intro w9 h9
            obtain ⟨t2, t3, t4⟩ := h9
            first | (go_simp; with_reducible rfl) | go_simp
          try simp only [Act.put]
          refine wpAnyD_take (i := 10) (v := ?_) rfl (by kernel_rfl) (fun _ _ _ h => h) (Or.inl ⟨by rfl, ?_⟩) T1.out ?_
          rotate_left
          · intro w9 h9
            obtain ⟨t2, t3, t4⟩ := h9
            first | (go_simp; with_reducible rfl) | go_simp
          try simp only [Act.put]
          refine wpAnyD_take (i := 11) (v := ?_) rfl (by kernel_rfl) (fun _ _ _ h => h) (Or.inl ⟨by rfl, ?_⟩) T1.out ?_
          rotate_left
          · intro w9 h9
            obtain ⟨t2, t3, t4⟩ := h9
            first | (go_simp; with_reducible rfl) | go_simp
          try simp only [Act.put]
          refine wpAnyD_take (i := 12) (v := ?_) rfl (by kernel_rfl) (fun _ _ _ h => h) (Or.inl ⟨by rfl, ?_⟩) T1.out ?_
          rotate_left
          · intro w9 h9
            obtain ⟨t2, t3, t4⟩ := h9
            first | (go_simp; with_reducible rfl) | go_simp
          try simp only [Act.put]
          refine wpAnyD_take (i := 13) (v := ?_) rfl (by kernel_rfl) (fun _ _ _ h => h) (Or.inl ⟨by rfl, ?_⟩) T1.out ?_
          rotate_left
          · intro w9 h9
            obtain ⟨t2, t3, t4⟩ := h9
            first | (go_simp; with_reducible rfl) | go_simp
          try simp only [Act.put]
          refine wpAnyD_take (i := 15) (v := ?_) rfl (by kernel_rfl) (fun _ _ _ h => h) (Or.inl ⟨by rfl, ?_⟩) T1.out ?_
          rotate_left
          · intro w9 h9
            obtain ⟨t2, t3, t4⟩ := h9
            first | (go_simp; with_reducible rfl) | go_simp
          try simp only [Act.put]
          refine wpAnyD_take (i := 16) (v := ?_) rfl (by kernel_rfl) (fun _ _ _ h => h) (Or.inl ⟨by rfl, ?_⟩) T1.out ?_
          rotate_left
          · intro w9 h9
            obtain ⟨t2, t3, t4⟩ := h9
            first | (go_simp; with_reducible rfl) | go_simp
          try simp only [Act.put]
          refine wpAnyD_take (i := 17) (v := ?_) rfl (by kernel_rfl) (fun _ _ _ h => h) (Or.inl ⟨by rfl, ?_⟩) T1.out ?_
          rotate_left
          · intro w9 h9
            obtain ⟨t2, t3, t4⟩ := h9
            first | (go_simp; with_reducible rfl) | go_simp
          try simp only [Act.put]
          refine wpAnyD_take (i := 18) (v := ?_) rfl (by kernel_rfl) (fun _ _ _ h => h) (Or.inl ⟨by rfl, ?_⟩) T1.out ?_
          rotate_left
          · intro w9 h9
            obtain ⟨t2, t3, t4⟩ := h9
            first | (go_simp; with_reducible rfl) | go_simp
          try simp only [Act.put]
          refine wpAnyD_take (i := 19) (v := ?_) rfl (by kernel_rfl) (fun _ _ _ h => h) (Or.inl ⟨by rfl, ?_⟩) T1.out ?_
          rotate_left
          · intro w9 h9
            obtain ⟨t2, t3, t4⟩ := h9
            first | (go_simp; with_reducible rfl) | go_simp
          try simp only [Act.put]
          refine wpAnyD_one (j := 4) (by kernel_rfl) rfl rfl rfl (fun K hK => ?_)
          go_simp
          refine M10.out.mono ?_
          rintro e wy ⟨rfl, rfl⟩
          refine hK.out _ _ T1.out ?_
          clear hK K
          try simp only [Act.put, List.setIfInBounds_toArray, List.set_cons_zero, List.set_cons_succ]
          refine wpAnyD_one (j := 8) (by kernel_rfl) rfl rfl rfl (fun K hK => ?_)
          go_simp
          refine M11.out.mono ?_
          rintro e wy ⟨rfl, rfl⟩
          refine hK.out _ _ T1.out ?_
          clear hK K
          try simp only [Act.put, List.setIfInBounds_toArray, List.set_cons_zero, List.set_cons_succ]
          refine wpAnyD_one (j := 14) (by kernel_rfl) rfl rfl rfl (fun K hK => ?_)
          go_simp
          refine (HZ2 _).out.mono ?_
          rintro e wy ⟨rfl, rfl⟩
          refine hK.out _ _ T1.out ?_
          clear hK K
          try simp only [Act.put, List.setIfInBounds_toArray, List.set_cons_zero, List.set_cons_succ]
          refine wpAnyD_one (j := 20) (by kernel_rfl) rfl rfl rfl (fun K hK => ?_)
          go_simp
          refine (HZ3 _).out.mono ?_
          rintro e wy ⟨rfl, rfl⟩
          refine hK.out _ _ T1.out ?_
          clear hK K
          try simp only [Act.put, List.setIfInBounds_toArray, List.set_cons_zero, List.set_cons_succ]
          refine wpAnyD_take (i := 21) (v := ?_) rfl (by kernel_rfl) (fun _ _ _ h => h) (Or.inl ⟨by rfl, ?_⟩) T1.out ?_
          rotate_left
          · intro w9 h9
            obtain ⟨t2, t3, t4⟩ := h9
            first | (go_simp; with_reducible rfl) | go_simp
          try simp only [Act.put, List.setIfInBounds_toArray]
          refine wpAnyD_one (j := 22) (by kernel_rfl) rfl rfl rfl (fun K hK => ?_)
          go_simp
          refine hK.out _ _ T2.out ?_
          clear hK K
          try simp only [Act.put, List.setIfInBounds_toArray, List.set_cons_zero, List.set_cons_succ]
          refine wpAnyD_dep (j := 23) (by kernel_rfl) rfl rfl rfl (fun K hK => ?_)
          refine wp_append_at RA1 (.tmp 67) (.tmp 88) rfl rfl rfl rfl ?_ ?_
          · with_reducible rfl
          refine hK.out _ _ ?_
          clear hK K
          try simp only [Act.put, List.setIfInBounds_toArray]
          refine wpAny_one (j := 24) (by kernel_rfl) rfl rfl (fun K hK => ?_)
          go_simp
          refine hK.out _ _ ?_
          clear hK K
          try simp only [Act.put, List.setIfInBounds_toArray, List.set_cons_zero, List.set_cons_succ]
          refine wpAny_one (j := 25) (by kernel_rfl) rfl rfl (fun K hK => ?_)
          go_simp
          refine hK.out _ _ ⟨by kernel_rfl, ?_⟩
          clear hK K
          clear S0 S1 S2 S3 S4 S5 M00 M01 M10 M11 HZ2 HZ3 RA1 RA2 d0 d1 d2 d3 d4 HBX2 HO2 HB2 e1 e2 e3 i1 i2 i3 i4 i5 i6 T1 T2
          go_wp2
          go_roundw
          case rel => exact ⟨j + 1, q + 4, .slice As2 (j + 1) cs2, Lib.hid (by have := HQ.out; omega), by omega, by go_num, HBX3, HO3, HB3, hG3⟩
          case measure => simp [intOf]; omega
        · have hj : j = (ns.length - 5) / 4 := by have h1 := HNN.out; have h2 := HQ.out; omega
          have HSL : Hid ((segTo ns j).length = j) := Lib.hid (segTo_len ns j)
          obtain ⟨As, cs, hvs, hsg, _⟩ := own_sgs (l := segTo ns j) (by rw [segTo_len]; exact HOS.out)
          rw [HSL.out] at hvs hsg
          subst hvs
          have HCN : Hid (cand ns = ⟨B0, B1, X2, B3, segTo ns j⟩) := Lib.hid (by
            unfold cand candTo
            rw [← hj, HX2.out, HX3.out, HB0.out, HBB1.out, HB3.out])
          have HOKC : Hid (OkM wz (cand ns, As, j, cs)) := Lib.hid ⟨by rw [HCN.out]; exact hsg, ok_cand _ _⟩
          have HWR := Lib.hid (rwrite_any wz (cand ns, As, j, cs) HOKC.out)
          unfold aggM slV WPost at HWR
          simp only at HWR
          rw [HCN.out] at HWR
          simp only at HWR
          rw [← HCN.out] at HWR
          obtain ⟨⟨x0, x1, x2, x3, x4⟩, _⟩ := HBX.out.facts
          obtain ⟨⟨we, wb⟩, hwp⟩ : ∃ x, write (cand ns) = x := ⟨_, rfl⟩
          rw [hwp] at HWR HCD2
          simp only at HWR HCD2
          clear hwp hj hsg
          have hi9 : IntKind.i64.wrap ((q : Int) + 3) = (q : Int) + 3 := IntWalk.i64_in _ (by omega)
          have hlt' : ¬ ((q : Int) + 3 < (N : Int)) := by omega
          go_wp2_with fail
          refine HWR.out.mono ?_
          rintro e w3 ⟨v3, rfl, hown3, hb3⟩
          have HB3' : Hid (Below w.heap.size w w3) := Lib.hid (HBW.out.trans ((HBz.out.mono (by rw [← HG.out]; exact HBW.out.size)).trans (hb3.mono (by have := HBW.out.size; have := HBz.out.size; omega))))
          have hgw : w.heap.size < G := by rw [← HG.out]; exact Nat.lt_of_lt_of_le hw1 HBr.out.size
          have HZ3 : Hid (Box5 w3 w.heap.size (.int .i64 0) (.int .i64 0) (.int .u64 0) (.int .i64 0) (.slice none 0 0)) := Lib.hid ((HZr.out.up HBz.out hgw).up hb3 (Nat.lt_trans hgw hGz))
          have HX3' : Hid (Box5 w3 G (.int .i64 B0) (.int .i64 B1) (.int .u64 (X2.toNat : Int)) (.int .i64 B3) (.slice As j cs)) := Lib.hid (HBX.out.up hb3 hGz)
          have HO3 : Hid (w3.ownsRow (G + 1) 65 4 (.slice As j cs) j (flatS (segTo ns j))) := Lib.hid (own_keepN HOS.out hb3)
          obtain ⟨A3, c3, rfl, _, _, _⟩ := own_slice hown3
          have r1 := run_str w3 A3 wb.length c3 rfl (Rd.of_own hown3)
          have r2 := run_str w3 A n c HN.out (HRB.out.below HB3'.out)
          clear hown3 hb3 x0 x1 x2 x3 x4 HWR HBX HOS hgw
          obtain ⟨⟨x0, x1, x2, x3, x4⟩, z0, z1, z2, z3, z4⟩ := HZ3.out.facts
          obtain ⟨⟨m0, m1, m2, m3, m4⟩, _⟩ := HX3'.out.facts
          by_cases hw0 : we = 0
          case neg =>
            have HX : Hid (R = (30, zero)) := Lib.hid (by rw [HCD2.out, if_neg (fun h => hw0 h.1)])
            have j2 : ((we : Int) != 0) = true := by simpa using hw0
            clear hw0 r1 r2
            go_wp2
            refine bodyPost_ret (results_cell_row2 rfl _ _ w.heap.size 37 #[.int .i64 0, .int .i64 0, .int .u64 0, .int .i64 0, .slice none 0 0] _ _ rfl HZ3.out.put Tryz.underlying37 rfl (by kernel_rfl)) rfl ?_
            rw [HX.out]
            exact ⟨(zero, none, 0, 0), rfl, rfl, World.ownsRow_nil _ _ _ _, put_below HB3'.out (Nat.le_refl _)⟩
          subst hw0
          by_cases hwb : wb = b
          case neg =>
            have HX : Hid (R = (30, zero)) := Lib.hid (by rw [HCD2.out, if_neg (fun h => hwb h.2)])
            have j2 : (wb == b) = false := beq_eq_false_iff_ne.2 hwb
            clear hwb
            go_wp2
            refine bodyPost_ret (results_cell_row2 rfl _ _ w.heap.size 37 #[.int .i64 0, .int .i64 0, .int .u64 0, .int .i64 0, .slice none 0 0] _ _ rfl HZ3.out.put Tryz.underlying37 rfl (by kernel_rfl)) rfl ?_
            rw [HX.out]
            exact ⟨(zero, none, 0, 0), rfl, rfl, World.ownsRow_nil _ _ _ _, put_below HB3'.out (Nat.le_refl _)⟩
          have HX : Hid (R = (0, cand ns)) := Lib.hid (by rw [HCD2.out, if_pos ⟨rfl, hwb⟩])
          have j2 : (wb == b) = true := by simpa using hwb
          clear hwb
          go_wp2
          refine bodyPost_ret (results_cell_row2 rfl _ _ w.heap.size 37 #[.int .i64 B0, .int .i64 B1, .int .u64 (X2.toNat : Int), .int .i64 B3, .slice As j cs] _ _ rfl HZ3.out.put Tryz.underlying37 rfl (by kernel_rfl)) rfl ?_
          rw [HX.out]
          refine ⟨(cand ns, As, j, cs), ?_, rfl, ?_, put_below HB3'.out (Nat.le_refl _)⟩
          · rw [HCN.out]
            rfl
          · rw [HCN.out]
            simp only
            rw [HSL.out]
            have hg1 : w.heap.size < G + 1 := by have := HG.out; have := HBW.out.size; omega
            exact own_monoN (ownsRow_setCell_below (ownsRow_setCell_below (ownsRow_setCell_below (ownsRow_setCell_below (ownsRow_setCell_below HO3.out hg1 _) hg1 _) hg1 _) hg1 _) hg1 _) (by omega)
end Go.Proofs.YtjninegpaoblfaaGreatDoor.RefMr
