/- WalScripts' own walk, over the contracts of both sides. Conditions: the tables lie as their texts lay them; the bound on the arguments' bulk. -/
import Derived.Test.YtapbjmbakpopcaaGreatDoorWsInvs
import Derived.Test.YtapbjmbakpopcaaGreatDoorWsOpss
import Derived.Test.YtapbjmbakpopcaaGreatDoorWlAwake
import Derived.Deep.RegionHeld3
import Derived.Deep.QuietTactic
import Derived.BigQuiet
namespace Go.Proofs.YtapbjmbakpopcaaGreatDoor.WsW
open Go Go.RowKit Words DkSpec PdLook RefDisk PdDisk PdRes WlSpec WlName WlHeld WlLog WlMv Parts5 WlLaw WlTot WlSt WlAwake WpPlain WqMv WqOps WsInv WsDisk WsOps

def WR (w0 : World) (pd pr : Nat) (n T : Nat) (vl vm : Value) (wr : World) : Prop := ∃ (K : Nat → Nat) (s : Option LSt) (d : DSt), Inv w0 wr K pd pr vl vm s s d d ∧ Bnd n T s d
def WRel (w0 : World) (pd pr : Nat) (l : List PO) (vl vm vi : Value) (wr : World) : Prop := ∃ (k : Nat) (xl xm : Value), k ≤ l.length ∧ vi = .int .i64 (k : Int) ∧ xl = vl ∧ xm = vm ∧ Hid (WR w0 pd pr k (total (l.take k) + 14 * k) xl xm wr)
theorem total_take (l : List PO) {k : Nat} (h : k < l.length) : total (l.take (k + 1)) = total (l.take k) + l[k].q.data.length := by
  unfold total
  rw [List.take_succ_eq_append_getElem h, List.map_append, List.sum_append]
  simp
theorem total_le (l : List PO) (k : Nat) : total (l.take k) ≤ total l := by
  unfold total
  conv => rhs; rw [← List.take_append_drop k l, List.map_append, List.sum_append]
  exact Nat.le_add_right _ _
theorem op_at {w wr : World} {A : Option Addr} {l : List PO} (h : OpsAt w A l) (hb : Below w.heap.size w wr) {k : Nat} (hk : k < l.length) :
    ∃ b off, A = some ⟨b, off, none⟩ ∧ wr.cell? ⟨b, off + k * 5, none⟩ = some (.int .i64 l[k].q.kind) ∧ wr.cell? ⟨b, off + k * 5 + 1, none⟩ = some (.int .i64 l[k].q.n) ∧ wr.cell? ⟨b, off + k * 5 + 2, none⟩ = some (.int .i64 l[k].q.first) ∧
      wr.cell? ⟨b, off + k * 5 + 3, none⟩ = some (.slice l[k].Ad l[k].q.data.length l[k].cd) ∧ wr.cell? ⟨b, off + k * 5 + 4, none⟩ = some (.slice l[k].Ak l[k].q.keep.length l[k].ck) := by
  obtain ⟨b, off, rfl, hlt, hc⟩ := h (by omega)
  have hg := hc k l[k] (List.getElem?_eq_getElem hk)
  exact ⟨b, off, rfl, (hb.cell (p := ⟨b, off + k * 5, none⟩) hlt).trans (hg 0 _ rfl), (hb.cell (p := ⟨b, off + k * 5 + 1, none⟩) hlt).trans (hg 1 _ rfl), (hb.cell (p := ⟨b, off + k * 5 + 2, none⟩) hlt).trans (hg 2 _ rfl), (hb.cell (p := ⟨b, off + k * 5 + 3, none⟩) hlt).trans (hg 3 _ rfl), (hb.cell (p := ⟨b, off + k * 5 + 4, none⟩) hlt).trans (hg 4 _ rfl)⟩
theorem box5 {w : World} {b : Nat} {v0 v1 v2 v3 v4 : Value} (h : w.heap[b]? = some (.cells #[v0, v1, v2, v3, v4] 41 (0, 0))) : w.cell? ⟨b, 0, none⟩ = some v0 ∧ w.cell? ⟨b, 1, none⟩ = some v1 ∧ w.cell? ⟨b, 2, none⟩ = some v2 ∧ w.cell? ⟨b, 3, none⟩ = some v3 ∧ w.cell? ⟨b, 4, none⟩ = some v4 := by
  refine ⟨?_, ?_, ?_, ?_, ?_⟩ <;> (unfold World.cell?; rw [h]; rfl)
theorem inv0 {w0 w1 w2 : World} {K1 K2 : Nat → Nat} {pd pr : Nat} (h1 : PDisk w1 K1 1 pd fresh) (t1 : ∀ o', Turned (fun _ => 0) K1 o' w0 w1) (h2 : RefD w2 K2 4 pr fresh) (t2 : ∀ o', Turned K1 K2 o' w1 w2) : Inv w0 w2 K2 pd pr (.pointer none) (.pointer none) none none fresh fresh := by
  have all : ∀ {K K' : Nat → Nat} {w w' : World}, (∀ o', Turned K K' o' w w') → ∀ S : Nat → Prop, Mv K K' S w w' := fun {K K' w w'} ht S => ⟨(ht 0).os, (ht 0).tape, (ht 0).output, (ht 0).size, fun i hi _ => (ht (K i + 1)).block i hi (by omega), (ht 0).kind⟩
  exact ⟨PDisk.mv h1 (all t2 fun _ => False) (fun h => h), h2, rfl, rfl, (all t1 _).trans (all t2 _)⟩
theorem bnd0 (s : Option LSt) (hs : ∀ l, s = some l → l.n ≤ most) : Bnd 0 0 s fresh := ⟨fresh_run.good, by unfold Lim fresh; decide, by simp [fresh], by simp [tot, fresh], hs⟩
theorem mneq_nil (w : World) : (binOp .neq 34 (.pointer none) (.pointer none)).run Tryz.prog w = .ok (.bool false) w := by kernel_rfl
theorem mneq_some (g : Nat) (w : World) : (binOp .neq 34 (.pointer (some ⟨g, 0, none⟩)) (.pointer none)).run Tryz.prog w = .ok (.bool true) w := by kernel_rfl
theorem nameI_len (n : Int) : (nameI n).length ≤ 1000 := by
  unfold nameI
  split
  · simp
  · rename_i h
    have := WpName.name_len32 n.toNat (by omega)
    omega
theorem half_eq {w : World} {K : Nat → Nat} {pd pr : Nat} {vl vm : Value} {s : Option LSt} (h1 : HalfL w K pd vl s) (h2 : HalfM w K pr vm s) :
    ∃ q : Bool, (∀ w', (binOp .eql 29 vl (.pointer none)).run Tryz.prog w' = .ok (.bool q) w') ∧ (∀ w', (binOp .eql 34 vm (.pointer none)).run Tryz.prog w' = .ok (.bool q) w') ∧ (∃ a, vl = .pointer a) ∧ ∃ a, vm = .pointer a := by
  cases s with
  | none =>
    obtain rfl : vl = .pointer none := h1
    obtain rfl : vm = .pointer none := h2
    exact ⟨true, leq_nil, meq_nil, ⟨_, rfl⟩, ⟨_, rfl⟩⟩
  | some l =>
    obtain ⟨g, rfl, _⟩ := h1
    obtain ⟨g2, rfl, _⟩ := h2
    exact ⟨false, WpOps.eq_nil g, WqOps.eq_nil g2, ⟨_, rfl⟩, ⟨_, rfl⟩⟩
/-- What is asked at each round's end. -/
theorem tail_facts {w0 w : World} {K : Nat → Nat} {pd pr : Nat} {vl vm : Value} {s : Option LSt} {d : DSt} (h : Inv w0 w K pd pr vl vm s s d d) :
    (∀ m, Hid (Calls Tryz.prog 30 #[vl] (w.drewN m) fun e w' => e = .returned (.int .i64 (numOf s : Int)) ∧ w' = w.drewN m)) ∧
    (∀ m, Hid (Calls Tryz.prog 31 #[.pointer (some ⟨pd, 0, none⟩)] (w.drewN m) fun e w' => e = .returned (.bool d.off) ∧ w' = w.drewN m)) ∧ w.cell? ⟨pr, 2, none⟩ = some (.bool d.off) :=
  ⟨fun m => Lib.hid (p_number h.log m), fun m => Lib.hid (p_down h.disk m), r_off h.ref⟩

theorem raw_below {w w' : World} {o : PO} (h : Raw w o) (hb : Below w.heap.size w w') : Raw w' o :=
  { h with d := (h.d.below hb).more hb.size, k := (h.k.below hb).more hb.size }
/-- The box of one call. -/
structure Box (w : World) (K : Nat → Nat) (b : Nat) (v0 v1 v2 v3 v4 : Value) : Prop where
  box : w.heap[b]? = some (.cells #[v0, v1, v2, v3, v4] 41 (0, 0))
  kind : K b = 3
theorem Box.mv {w w' : World} {K K' : Nat → Nat} {S : Nat → Prop} {b : Nat} {v0 v1 v2 v3 v4 : Value} (h : Box w K b v0 v1 v2 v3 v4) (hm : Mv K K' S w w') (h3 : ¬ S 3) : Box w' K' b v0 v1 v2 v3 v4 :=
  ⟨(box_mv h.box h.kind hm h3).1, (box_mv h.box h.kind hm h3).2⟩
theorem Box.below {w w' : World} {K : Nat → Nat} {b : Nat} {v0 v1 v2 v3 v4 : Value} (h : Box w K b v0 v1 v2 v3 v4) (hb : Below w.heap.size w w') : Box w' K b v0 v1 v2 v3 v4 := h.mv (Mv.same (S := fun _ => False) hb) (fun h => h)
theorem Box.cells {w : World} {K : Nat → Nat} {b : Nat} {v0 v1 v2 v3 v4 : Value} (h : Box w K b v0 v1 v2 v3 v4) : w.cell? ⟨b, 0, none⟩ = some v0 ∧ w.cell? ⟨b, 1, none⟩ = some v1 ∧ w.cell? ⟨b, 2, none⟩ = some v2 ∧ w.cell? ⟨b, 3, none⟩ = some v3 ∧ w.cell? ⟨b, 4, none⟩ = some v4 := box5 h.box
theorem f3 : ¬ (fun _ : Nat => False) 3 := fun h => h

set_option maxHeartbeats 51200000 in
set_option maxRecDepth 100000 in
theorem walk0 (w : World) (hL : WlTab.Lays w w.heap.size) (first : Int) (h64 : In64 first) (l : List PO) (A : Option Addr) (c : Nat) (hc : l.length ≤ c) (hm : c ≤ maxLen) (hr : OpsAt w A l) (hraw : ∀ o ∈ l, Raw w o) (hb : total l + l.length ≤ 1048576) :
    Calls Tryz.prog 3 #[.int .i64 first, .slice A l.length c] w fun e w' => e = .returned (.bool true) ∧ Below w.heap.size w w' := by
  have HL := Lib.hid hL
  have HR := Lib.hid hr
  have HRW := Lib.hid hraw
  have HBT := Lib.hid hb
  have H64 := Lib.hid h64
  have H0 := Lib.hid (awake_any WlProg.wal w hL)
  have hlen : l.length ≤ 1048576 := by omega
  unfold maxLen at hm
  obtain ⟨NS, hNS⟩ : ∃ NS : List UInt8, nameI first = NS := ⟨_, rfl⟩
  have hnn : (NS != NS) = false := by simp
  have hnn2 : (NS == NS) = true := by simp
  have HNM : Hid (∀ w1, Below w.heap.size w w1 → Calls Tryz.prog 5 #[.int .i64 first] w1 fun e w' => e = .returned (.string ⟨NS.toArray⟩) ∧ Below w1.heap.size w1 w') := Lib.hid fun w1 hb1 => by
    rw [← hNS]
    exact WpName.name_any w1 first h64 (WpOps.lays_keep hL hb1)
  have HNM2 : Hid (∀ w1, Calls Tryz.prog 6 #[.int .i64 first] w1 fun e w' => e = .returned (.string ⟨NS.toArray⟩) ∧ Below w1.heap.size w1 w') := Lib.hid fun w1 => by
    rw [← hNS]
    exact WqName.name_any w1 first h64
  clear hL hr hraw hb h64 hNS
  go_enter Tryz.func3, Tryz.ntmps3
  go_wp2_with fail
  refine H0.out.mono ?_
  rintro e w1 ⟨rfl, hb1⟩
  have H1 := Lib.hid (HNM.out w1 hb1)
  have HB1 := Lib.hid hb1
  clear hb1 H0 HNM
  go_wp2_with fail
  refine H1.out.mono ?_
  rintro e w2 ⟨rfl, hb2⟩
  have HB2 := Lib.hid (HB1.out.trans (hb2.mono HB1.out.size))
  have H2 := Lib.hid (HNM2.out w2)
  clear hb2 H1 HNM2 HB1
  go_wp2_with fail
  refine H2.out.mono ?_
  rintro e w3 ⟨rfl, hb3⟩
  have HB3 := Lib.hid (HB2.out.trans (hb3.mono HB2.out.size))
  have HL3 := Lib.hid (WpOps.lays_keep HL.out HB3.out)
  have H3 := Lib.hid (PdOps.new_any w3 (fun _ => 0) 1)
  clear hb3 H2 HB2
  go_wp2_with fail
  refine H3.out.mono ?_
  rintro e w4 ⟨pd, K4, rfl, _, hd4, ht4⟩
  have P4 := Lib.hid hd4
  have T4 := Lib.hid ht4
  have H4 := Lib.hid (RefNew5.new_any w4 K4 4)
  clear hd4 ht4 H3
  go_wp2_with fail
  refine H4.out.mono ?_
  rintro e w5 ⟨pr, K5, rfl, _, hd5, ht5⟩
  have I5 := Lib.hid (inv0 P4.out T4.out hd5 ht5)
  have H5 := Lib.hid (p_open I5.out (bnd0 none (fun l h => by cases h)) (by omega) (by omega) HL3.out H64.out)
  obtain ⟨RS, hRS⟩ : ∃ RS, openL fresh first = RS := ⟨_, rfl⟩
  have HNUM : Hid (∀ l, RS.2.2 = some l → l.n ≤ most) := Lib.hid (by rw [← hRS]; exact open_num fresh first)
  have HRS := Lib.hid hRS
  rw [hRS] at H5
  obtain ⟨r0, ls0, s0⟩ := RS
  unfold OPostL at H5
  simp only at H5 HNUM
  clear hd5 ht5 H4 P4 T4 hRS
  go_wp2_with fail
  refine H5.out.mono ?_
  rintro e w6 ⟨vl, A6, c6, ps6, rfl, hp6, hps6, hb6, K6, hi6, _⟩
  have I6 := Lib.hid hi6
  have HP6 := Lib.hid hp6
  have HPS6 := Lib.hid hps6
  have H6 := Lib.hid (r_open (first := first) hi6 (bnd0 none (fun l h => by cases h)) (by omega) (by omega) H64.out)
  rw [HRS.out] at H6
  unfold OPostM at H6
  simp only at H6
  clear hp6 hps6 hb6 hi6 H5 I5
  go_wp2_with fail
  refine H6.out.mono ?_
  rintro e w7 ⟨vm, A7, c7, ps7, rfl, hp7, hps7, hb7, K7, hi7, _⟩
  have I7 := Lib.hid hi7
  have H7 := Lib.hid (same_any w7 ps6 ps7 A6 A7 ps6.length ps7.length c6 c7 (HPS6.out.below hb7) hps7)
  rw [show decide (pays ps6 = pays ps7) = true by rw [decide_eq_true_eq, HP6.out, hp7]] at H7
  have hre0 : ((r0 : Int) != (r0 : Int)) = false := by simp
  obtain ⟨q0, e1, e2, ⟨al, rfl⟩, ⟨am, rfl⟩⟩ := half_eq hi7.log hi7.rlog
  have hqq : (q0 != q0) = false := by cases q0 <;> rfl
  clear hp7 hps7 hb7 hi7 H6 I6 HP6 HPS6
  go_wp2_with fail
  refine H7.out.mono ?_
  rintro e w8 ⟨rfl, hb8⟩
  have I8 := Lib.hid (I7.out.new hb8 3)
  clear hb8 H7 I7
  have HW0 : Hid (WR w3 pd pr 0 0 (.pointer al) (.pointer am) w8) := Lib.hid ⟨_, s0, fresh, I8.out, bnd0 s0 HNUM.out⟩
  have HB3L := HB3
  clear I8 HRS HNUM
  go_wp2
  clear e1 e2 hqq hre0
  go_loopw [7, 10, 13] (fun vl vm vi wr => WRel w3 pd pr l vl vm vi wr) (fun _ _ vi _ => l.length - (intOf vi).toNat)
  case atStart => exact ⟨0, _, _, Nat.zero_le _, rfl, rfl, rfl, Lib.hid (by simpa [total] using HW0.out)⟩
  case round =>
    clear HW0
    obtain ⟨k, vl, vm, hk, rfl, rfl, rfl, HWR⟩ := hrel
    obtain ⟨K, s, d, hinv, hbnd⟩ := HWR.out
    have HI := Lib.hid hinv
    have HBN := Lib.hid hbnd
    clear hinv hbnd HWR
    by_cases hlt : k < l.length
    · have HCS := Lib.hid (op_at HR.out (HB3.out.trans (HI.out.below.mono HB3.out.size)) hlt)
      obtain ⟨bo, off, rfl, e0, e1, e2, e3, e4⟩ := HCS.out
      have HRK := Lib.hid (raw_below (HRW.out l[k] (List.getElem_mem hlt)) HB3.out)
      have HTL := Lib.hid (total_take l hlt)
      have HTB : Hid (total (l.take (k + 1)) ≤ 1048576) := Lib.hid (by have := HBT.out; have := total_le l (k + 1); omega)
      generalize l[k] = o at *
      obtain ⟨⟨kd, on, fi, da, ke⟩, Ad, cd, Ak, ck⟩ := o
      simp only at e0 e1 e2 e3 e4 HTL
      have hT1 : total (l.take k) + da.length ≤ 1048576 := by have := HTL.out; have := HTB.out; omega
      obtain ⟨T, hT⟩ : ∃ T, total (l.take k) + 14 * k = T := ⟨_, rfl⟩
      have HTN : Hid (T + da.length + 14 = total (l.take (k + 1)) + 14 * (k + 1)) := Lib.hid (by have := HTL.out; omega)
      have hT2 : T + da.length ≤ 16000000 := by omega
      rw [hT] at HBN
      have hkn : k ≤ 1048576 := by omega
      clear HCS HTL HTB hT hT1
      have R64 : In64 on ∧ In64 fi := ⟨⟨HRK.out.n1, HRK.out.n2⟩, ⟨HRK.out.o1, HRK.out.o2⟩⟩
      have HR64 := Lib.hid R64
      clear R64
      have hz : (0 : Int) ≤ (k : Int) := by omega
      have hlti : (k : Int) < (l.length : Int) := by omega
      obtain ⟨W, hW⟩ : ∃ W, W = wr.alloc (.cells #[.int .i64 kd, .int .i64 on, .int .i64 fi, .slice Ad da.length cd, .slice Ak ke.length ck] 41) := ⟨_, rfl⟩
      have hWB : Below wr.heap.size wr W := by rw [hW]; exact (Below.refl _ wr).alloc (Nat.le_refl _) _
      have I1 := Lib.hid (HI.out.new hWB 3)
      have BX : Hid (Box W (kmark K wr.heap.size 3) wr.heap.size (.int .i64 kd) (.int .i64 on) (.int .i64 fi) (.slice Ad da.length cd) (.slice Ak ke.length ck)) := Lib.hid ⟨by rw [hW]; exact Go.heap_alloc_new _ _, kmark_new (Nat.le_refl _)⟩
      obtain ⟨K1, hK1⟩ : ∃ K1, kmark K wr.heap.size 3 = K1 := ⟨_, rfl⟩
      rw [hK1] at I1 BX
      clear hWB hK1 HI hk hlt
      by_cases hk1 : kd = 1
      · as_aux_lemma =>
          obtain rfl : kd = 1 := hk1
          obtain ⟨R, hR⟩ : ∃ R, onL (fun l => appendL da l d) s d = R := ⟨_, rfl⟩
          have HC1 := Lib.hid (p_append I1.out HBN.out (by omega) da (by omega) HL3.out HRK.out.d HRK.out.dc HRK.out.dm)
          have HN5 : Hid (∀ w5 K5, Inv w3 w5 K5 pd pr vl vm R.2.1 s R.2.2 d → Mv K1 K5 S2 W w5 → w5.cell? ⟨wr.heap.size, 3, none⟩ = some (.slice Ad da.length cd) ∧ Hid (Calls Tryz.prog 13 #[vm, .slice Ad da.length cd] w5 (MPost w3 w5 K5 pd pr vl vm R R.2.1 R.2.2))) := Lib.hid fun w5 K5 hi5 hm5 => by
            have hb5 := (BX.out.mv hm5 not_S2.2.2.1).cells
            have hc5 := r_append hi5 HBN.out (by omega) da (by omega) HRK.out.d HRK.out.dc HRK.out.dm
            rw [hR] at hc5
            exact ⟨hb5.2.2.2.1, Lib.hid hc5⟩
          have HB2 : Hid (Bnd (k + 1) (total (l.take (k + 1)) + 14 * (k + 1)) R.2.1 R.2.2) := Lib.hid (by
            rw [← HTN.out, ← hR]
            exact HBN.out.append da)
          rw [hR] at HC1
          obtain ⟨r, s2, d2⟩ := R
          unfold LPost at HC1
          unfold MPost at HN5
          simp only at HC1 HN5 HB2
          clear hR
          obtain ⟨b0, b1, b2, b3, b4⟩ := BX.out.cells
          subst hW
          clear I1 hT2
          go_wp2_with fail
          refine HC1.out.mono ?_
          rintro e w5 ⟨rfl, K5, hi5, hm5⟩
          obtain ⟨x3, HC2⟩ := HN5.out w5 K5 hi5 hm5
          clear HC1 HN5 hi5 hm5 b0 b1 b2 b3 b4
          go_wp2_with fail
          refine HC2.out.mono ?_
          rintro e w6 ⟨rfl, K6, hi6, _⟩
          have HI6 := Lib.hid hi6
          clear hi6 HC2

          have hre : ((r : Int) != (r : Int)) = false := by simp
          obtain ⟨HN, HD, c9⟩ := tail_facts HI6.out
          have HBQ : ∀ m, Below w6.heap.size w6 (w6.drewN m) := fun m => below_drewN (Below.refl _ w6) m
          obtain ⟨of, hof⟩ : ∃ of, d2.off = of := ⟨_, rfl⟩
          rw [hof] at HD c9
          have hoo : (of != of) = false := by cases of <;> rfl
          clear hof BX HBN
          cases s2 with
          | none =>
            obtain rfl : vm = .pointer none := HI6.out.rlog
            have q1 := mneq_nil
            have q2 := meq_nil
            rw [show ((numOf none : Nat) : Int) = 0 from rfl] at HN
            go_wp2
            go_quiet (first | (go_at_call 30; exact Calls.quiet_of_same (HN _).out) | (go_at_call 31; exact Calls.quiet_of_same (HD _).out))
            go_wp2
            go_roundw
            case rel => exact ⟨k + 1, _, _, by omega, by go_num, rfl, rfl, Lib.hid ⟨K6, none, d2, HI6.out.same (HBQ nq), HB2.out⟩⟩
            case measure => simp [intOf]; omega
          | some lg =>
            obtain ⟨g, rfl, hlg, hkg⟩ := HI6.out.rlog
            have q1 := mneq_some g
            have q2 := WqOps.eq_nil g
            have q3 := hlg.cells.2.2.1
            rw [show ((numOf (some lg) : Nat) : Int) = (lg.n : Int) from rfl] at HN
            have q4 : ((lg.n : Int) != (lg.n : Int)) = false := by simp
            clear hlg hkg
            go_wp2
            go_quiet (first | (go_at_call 30; exact Calls.quiet_of_same (HN _).out) | (go_at_call 31; exact Calls.quiet_of_same (HD _).out))
            go_wp2
            go_roundw
            case rel => exact ⟨k + 1, _, _, by omega, by go_num, rfl, rfl, Lib.hid ⟨K6, some lg, d2, HI6.out.same (HBQ nq), HB2.out⟩⟩
            case measure => simp [intOf]; omega
      by_cases hk2 : kd = 2
      · as_aux_lemma =>
          obtain rfl : kd = 2 := hk2
          obtain ⟨R, hR⟩ : ∃ R, onL (fun l => ((syncL l d).1, l, (syncL l d).2)) s d = R := ⟨_, rfl⟩
          have HC1 := Lib.hid (p_sync I1.out HBN.out HL3.out)
          have HN5 : Hid (∀ w5 K5, Inv w3 w5 K5 pd pr vl vm R.2.1 s R.2.2 d → Mv K1 K5 S2 W w5 → Hid (Calls Tryz.prog 15 #[vm] w5 (MPost w3 w5 K5 pd pr vl vm R R.2.1 R.2.2))) := Lib.hid fun w5 K5 hi5 hm5 => by
            have hb5 := (BX.out.mv hm5 not_S2.2.2.1).cells
            have hc5 := r_sync hi5 HBN.out
            rw [hR] at hc5
            exact Lib.hid hc5
          have HB2 : Hid (Bnd (k + 1) (total (l.take (k + 1)) + 14 * (k + 1)) R.2.1 R.2.2) := Lib.hid (by
            rw [← HTN.out, ← hR]
            exact (HBN.out.sync).more (Nat.le_succ _) (by omega))
          rw [hR] at HC1
          obtain ⟨r, s2, d2⟩ := R
          unfold LPost at HC1
          unfold MPost at HN5
          simp only at HC1 HN5 HB2
          clear hR
          subst hW
          clear I1 hT2
          go_wp2_with fail
          refine HC1.out.mono ?_
          rintro e w5 ⟨rfl, K5, hi5, hm5⟩
          have HC2 := HN5.out w5 K5 hi5 hm5
          clear HC1 HN5 hi5 hm5
          go_wp2_with fail
          refine HC2.out.mono ?_
          rintro e w6 ⟨rfl, K6, hi6, _⟩
          have HI6 := Lib.hid hi6
          clear hi6 HC2

          have hre : ((r : Int) != (r : Int)) = false := by simp
          obtain ⟨HN, HD, c9⟩ := tail_facts HI6.out
          have HBQ : ∀ m, Below w6.heap.size w6 (w6.drewN m) := fun m => below_drewN (Below.refl _ w6) m
          obtain ⟨of, hof⟩ : ∃ of, d2.off = of := ⟨_, rfl⟩
          rw [hof] at HD c9
          have hoo : (of != of) = false := by cases of <;> rfl
          clear hof BX HBN
          cases s2 with
          | none =>
            obtain rfl : vm = .pointer none := HI6.out.rlog
            have q1 := mneq_nil
            have q2 := meq_nil
            rw [show ((numOf none : Nat) : Int) = 0 from rfl] at HN
            go_wp2
            go_quiet (first | (go_at_call 30; exact Calls.quiet_of_same (HN _).out) | (go_at_call 31; exact Calls.quiet_of_same (HD _).out))
            go_wp2
            go_roundw
            case rel => exact ⟨k + 1, _, _, by omega, by go_num, rfl, rfl, Lib.hid ⟨K6, none, d2, HI6.out.same (HBQ nq), HB2.out⟩⟩
            case measure => simp [intOf]; omega
          | some lg =>
            obtain ⟨g, rfl, hlg, hkg⟩ := HI6.out.rlog
            have q1 := mneq_some g
            have q2 := WqOps.eq_nil g
            have q3 := hlg.cells.2.2.1
            rw [show ((numOf (some lg) : Nat) : Int) = (lg.n : Int) from rfl] at HN
            have q4 : ((lg.n : Int) != (lg.n : Int)) = false := by simp
            clear hlg hkg
            go_wp2
            go_quiet (first | (go_at_call 30; exact Calls.quiet_of_same (HN _).out) | (go_at_call 31; exact Calls.quiet_of_same (HD _).out))
            go_wp2
            go_roundw
            case rel => exact ⟨k + 1, _, _, by omega, by go_num, rfl, rfl, Lib.hid ⟨K6, some lg, d2, HI6.out.same (HBQ nq), HB2.out⟩⟩
            case measure => simp [intOf]; omega
      by_cases hk3 : kd = 3
      · as_aux_lemma =>
          obtain rfl : kd = 3 := hk3
          obtain ⟨R, hR⟩ : ∃ R, onL (fun l => ((rotateL l).1, (rotateL l).2, d)) s d = R := ⟨_, rfl⟩
          have HC1 := Lib.hid (p_rotate I1.out HBN.out)
          have HN5 : Hid (∀ w5 K5, Inv w3 w5 K5 pd pr vl vm R.2.1 s R.2.2 d → Mv K1 K5 S2 W w5 → Hid (Calls Tryz.prog 17 #[vm] w5 (MPost w3 w5 K5 pd pr vl vm R R.2.1 R.2.2))) := Lib.hid fun w5 K5 hi5 hm5 => by
            have hb5 := (BX.out.mv hm5 not_S2.2.2.1).cells
            have hc5 := r_rotate hi5 HBN.out
            rw [hR] at hc5
            exact Lib.hid hc5
          have HB2 : Hid (Bnd (k + 1) (total (l.take (k + 1)) + 14 * (k + 1)) R.2.1 R.2.2) := Lib.hid (by
            rw [← HTN.out, ← hR]
            exact (HBN.out.rotate).more (Nat.le_succ _) (by omega))
          rw [hR] at HC1
          obtain ⟨r, s2, d2⟩ := R
          unfold LPost at HC1
          unfold MPost at HN5
          simp only at HC1 HN5 HB2
          clear hR
          subst hW
          clear I1 hT2
          go_wp2_with fail
          refine HC1.out.mono ?_
          rintro e w5 ⟨rfl, K5, hi5, hm5⟩
          have HC2 := HN5.out w5 K5 hi5 hm5
          clear HC1 HN5 hi5 hm5
          go_wp2_with fail
          refine HC2.out.mono ?_
          rintro e w6 ⟨rfl, K6, hi6, _⟩
          have HI6 := Lib.hid hi6
          clear hi6 HC2

          have hre : ((r : Int) != (r : Int)) = false := by simp
          obtain ⟨HN, HD, c9⟩ := tail_facts HI6.out
          have HBQ : ∀ m, Below w6.heap.size w6 (w6.drewN m) := fun m => below_drewN (Below.refl _ w6) m
          obtain ⟨of, hof⟩ : ∃ of, d2.off = of := ⟨_, rfl⟩
          rw [hof] at HD c9
          have hoo : (of != of) = false := by cases of <;> rfl
          clear hof BX HBN
          cases s2 with
          | none =>
            obtain rfl : vm = .pointer none := HI6.out.rlog
            have q1 := mneq_nil
            have q2 := meq_nil
            rw [show ((numOf none : Nat) : Int) = 0 from rfl] at HN
            go_wp2
            go_quiet (first | (go_at_call 30; exact Calls.quiet_of_same (HN _).out) | (go_at_call 31; exact Calls.quiet_of_same (HD _).out))
            go_wp2
            go_roundw
            case rel => exact ⟨k + 1, _, _, by omega, by go_num, rfl, rfl, Lib.hid ⟨K6, none, d2, HI6.out.same (HBQ nq), HB2.out⟩⟩
            case measure => simp [intOf]; omega
          | some lg =>
            obtain ⟨g, rfl, hlg, hkg⟩ := HI6.out.rlog
            have q1 := mneq_some g
            have q2 := WqOps.eq_nil g
            have q3 := hlg.cells.2.2.1
            rw [show ((numOf (some lg) : Nat) : Int) = (lg.n : Int) from rfl] at HN
            have q4 : ((lg.n : Int) != (lg.n : Int)) = false := by simp
            clear hlg hkg
            go_wp2
            go_quiet (first | (go_at_call 30; exact Calls.quiet_of_same (HN _).out) | (go_at_call 31; exact Calls.quiet_of_same (HD _).out))
            go_wp2
            go_roundw
            case rel => exact ⟨k + 1, _, _, by omega, by go_num, rfl, rfl, Lib.hid ⟨K6, some lg, d2, HI6.out.same (HBQ nq), HB2.out⟩⟩
            case measure => simp [intOf]; omega
      by_cases hk4 : kd = 4
      · as_aux_lemma =>
          obtain rfl : kd = 4 := hk4
          obtain ⟨R, hR⟩ : ∃ R, onL (fun l => dropL (l.n - l.first) on l d) s d = R := ⟨_, rfl⟩
          have HC1 := Lib.hid (p_drop I1.out HBN.out (by omega) (by omega) HL3.out on HR64.out.1)
          have HN5 : Hid (∀ w5 K5, Inv w3 w5 K5 pd pr vl vm R.2.1 s R.2.2 d → Mv K1 K5 S2 W w5 → w5.cell? ⟨wr.heap.size, 1, none⟩ = some (.int .i64 on) ∧ Hid (Calls Tryz.prog 19 #[vm, .int .i64 on] w5 (MPost w3 w5 K5 pd pr vl vm R R.2.1 R.2.2))) := Lib.hid fun w5 K5 hi5 hm5 => by
            have hb5 := (BX.out.mv hm5 not_S2.2.2.1).cells
            have hc5 := r_drop hi5 HBN.out (by omega) (by omega) on HR64.out.1
            rw [hR] at hc5
            exact ⟨hb5.2.1, Lib.hid hc5⟩
          have HB2 : Hid (Bnd (k + 1) (total (l.take (k + 1)) + 14 * (k + 1)) R.2.1 R.2.2) := Lib.hid (by
            rw [← HTN.out, ← hR]
            exact (HBN.out.drop on).more (Nat.le_succ _) (by omega))
          rw [hR] at HC1
          obtain ⟨r, s2, d2⟩ := R
          unfold LPost at HC1
          unfold MPost at HN5
          simp only at HC1 HN5 HB2
          clear hR
          obtain ⟨b0, b1, b2, b3, b4⟩ := BX.out.cells
          subst hW
          clear I1 hT2
          go_wp2_with fail
          refine HC1.out.mono ?_
          rintro e w5 ⟨rfl, K5, hi5, hm5⟩
          obtain ⟨x1, HC2⟩ := HN5.out w5 K5 hi5 hm5
          clear HC1 HN5 hi5 hm5 b0 b1 b2 b3 b4
          go_wp2_with fail
          refine HC2.out.mono ?_
          rintro e w6 ⟨rfl, K6, hi6, _⟩
          have HI6 := Lib.hid hi6
          clear hi6 HC2

          have hre : ((r : Int) != (r : Int)) = false := by simp
          obtain ⟨HN, HD, c9⟩ := tail_facts HI6.out
          have HBQ : ∀ m, Below w6.heap.size w6 (w6.drewN m) := fun m => below_drewN (Below.refl _ w6) m
          obtain ⟨of, hof⟩ : ∃ of, d2.off = of := ⟨_, rfl⟩
          rw [hof] at HD c9
          have hoo : (of != of) = false := by cases of <;> rfl
          clear hof BX HBN
          cases s2 with
          | none =>
            obtain rfl : vm = .pointer none := HI6.out.rlog
            have q1 := mneq_nil
            have q2 := meq_nil
            rw [show ((numOf none : Nat) : Int) = 0 from rfl] at HN
            go_wp2
            go_quiet (first | (go_at_call 30; exact Calls.quiet_of_same (HN _).out) | (go_at_call 31; exact Calls.quiet_of_same (HD _).out))
            go_wp2
            go_roundw
            case rel => exact ⟨k + 1, _, _, by omega, by go_num, rfl, rfl, Lib.hid ⟨K6, none, d2, HI6.out.same (HBQ nq), HB2.out⟩⟩
            case measure => simp [intOf]; omega
          | some lg =>
            obtain ⟨g, rfl, hlg, hkg⟩ := HI6.out.rlog
            have q1 := mneq_some g
            have q2 := WqOps.eq_nil g
            have q3 := hlg.cells.2.2.1
            rw [show ((numOf (some lg) : Nat) : Int) = (lg.n : Int) from rfl] at HN
            have q4 : ((lg.n : Int) != (lg.n : Int)) = false := by simp
            clear hlg hkg
            go_wp2
            go_quiet (first | (go_at_call 30; exact Calls.quiet_of_same (HN _).out) | (go_at_call 31; exact Calls.quiet_of_same (HD _).out))
            go_wp2
            go_roundw
            case rel => exact ⟨k + 1, _, _, by omega, by go_num, rfl, rfl, Lib.hid ⟨K6, some lg, d2, HI6.out.same (HBQ nq), HB2.out⟩⟩
            case measure => simp [intOf]; omega
      by_cases hk5 : kd = 5
      · as_aux_lemma =>
          obtain rfl : kd = 5 := hk5
          obtain ⟨fb, hfb⟩ : ∃ fb : Bool, (Int.tmod on 2 != 0) = fb := ⟨_, rfl⟩
          obtain ⟨d2, hd2⟩ : ∃ d2, ({ d with full := fb } : DSt) = d2 := ⟨_, rfl⟩
          have HC1 := Lib.hid (p_fill I1.out fb)
          have HN5 : Hid (∀ w5 K5, Inv w3 w5 K5 pd pr vl vm s s d2 d → Mv K1 K5 S2 W w5 → w5.cell? ⟨wr.heap.size, 1, none⟩ = some (.int .i64 on) ∧ Hid (Calls Tryz.prog 21 #[.pointer (some ⟨pr, 0, none⟩), .bool fb] w5 (MPost0 w3 w5 K5 pd pr vl vm s d2 s d2))) := Lib.hid fun w5 K5 hi5 hm5 => by
            have hb5 := (BX.out.mv hm5 not_S2.2.2.1).cells
            have hc5 := r_fill hi5 fb
            rw [hd2] at hc5
            exact ⟨hb5.2.1, Lib.hid hc5⟩
          have HB2 : Hid (Bnd (k + 1) (total (l.take (k + 1)) + 14 * (k + 1)) s d2) := Lib.hid (by
            rw [← HTN.out, ← hd2]
            exact (HBN.out.fill fb).more (Nat.le_succ _) (by omega))
          rw [hd2] at HC1
          unfold LPost0 at HC1
          unfold MPost0 at HN5
          obtain ⟨s2, hs2⟩ : ∃ s2, s = s2 := ⟨_, rfl⟩
          subst hs2
          clear hd2
          obtain ⟨r, hr0⟩ : ∃ r : Nat, 0 = r := ⟨_, rfl⟩
          clear hr0
          obtain ⟨b0, b1, b2, b3, b4⟩ := BX.out.cells
          subst hW
          clear I1 hT2
          go_wp2_with fail
          refine HC1.out.mono ?_
          rintro e w5 ⟨rfl, K5, hi5, hm5⟩
          obtain ⟨x1, HC2⟩ := HN5.out w5 K5 hi5 hm5
          clear HC1 HN5 hi5 hm5 b0 b1 b2 b3 b4
          go_wp2_with fail
          refine HC2.out.mono ?_
          rintro e w6 ⟨rfl, K6, hi6, _⟩
          have HI6 := Lib.hid hi6
          clear hi6 HC2

          have hre : ((r : Int) != (r : Int)) = false := by simp
          obtain ⟨HN, HD, c9⟩ := tail_facts HI6.out
          have HBQ : ∀ m, Below w6.heap.size w6 (w6.drewN m) := fun m => below_drewN (Below.refl _ w6) m
          obtain ⟨of, hof⟩ : ∃ of, d2.off = of := ⟨_, rfl⟩
          rw [hof] at HD c9
          have hoo : (of != of) = false := by cases of <;> rfl
          clear hof BX HBN
          cases s with
          | none =>
            obtain rfl : vm = .pointer none := HI6.out.rlog
            have q1 := mneq_nil
            have q2 := meq_nil
            rw [show ((numOf none : Nat) : Int) = 0 from rfl] at HN
            go_wp2
            go_quiet (first | (go_at_call 30; exact Calls.quiet_of_same (HN _).out) | (go_at_call 31; exact Calls.quiet_of_same (HD _).out))
            go_wp2
            go_roundw
            case rel => exact ⟨k + 1, _, _, by omega, by go_num, rfl, rfl, Lib.hid ⟨K6, none, d2, HI6.out.same (HBQ nq), HB2.out⟩⟩
            case measure => simp [intOf]; omega
          | some lg =>
            obtain ⟨g, rfl, hlg, hkg⟩ := HI6.out.rlog
            have q1 := mneq_some g
            have q2 := WqOps.eq_nil g
            have q3 := hlg.cells.2.2.1
            rw [show ((numOf (some lg) : Nat) : Int) = (lg.n : Int) from rfl] at HN
            have q4 : ((lg.n : Int) != (lg.n : Int)) = false := by simp
            clear hlg hkg
            go_wp2
            go_quiet (first | (go_at_call 30; exact Calls.quiet_of_same (HN _).out) | (go_at_call 31; exact Calls.quiet_of_same (HD _).out))
            go_wp2
            go_roundw
            case rel => exact ⟨k + 1, _, _, by omega, by go_num, rfl, rfl, Lib.hid ⟨K6, some lg, d2, HI6.out.same (HBQ nq), HB2.out⟩⟩
            case measure => simp [intOf]; omega
      by_cases hk6 : kd = 6
      · as_aux_lemma =>
          obtain rfl : kd = 6 := hk6
          obtain ⟨d2, hd2⟩ : ∃ d2, arm on d = d2 := ⟨_, rfl⟩
          have HC1 := Lib.hid (p_arm I1.out HR64.out.1)
          have HN5 : Hid (∀ w5 K5, Inv w3 w5 K5 pd pr vl vm s s d2 d → Mv K1 K5 S2 W w5 → w5.cell? ⟨wr.heap.size, 1, none⟩ = some (.int .i64 on) ∧ Hid (Calls Tryz.prog 23 #[.pointer (some ⟨pr, 0, none⟩), .int .i64 on] w5 (MPost0 w3 w5 K5 pd pr vl vm s d2 s d2))) := Lib.hid fun w5 K5 hi5 hm5 => by
            have hb5 := (BX.out.mv hm5 not_S2.2.2.1).cells
            have hc5 := r_arm hi5 on
            rw [hd2] at hc5
            exact ⟨hb5.2.1, Lib.hid hc5⟩
          have HB2 : Hid (Bnd (k + 1) (total (l.take (k + 1)) + 14 * (k + 1)) s d2) := Lib.hid (by
            rw [← HTN.out, ← hd2]
            exact (HBN.out.arm HR64.out.1).more (Nat.le_succ _) (by omega))
          rw [hd2] at HC1
          unfold LPost0 at HC1
          unfold MPost0 at HN5
          obtain ⟨s2, hs2⟩ : ∃ s2, s = s2 := ⟨_, rfl⟩
          subst hs2
          clear hd2
          obtain ⟨r, hr0⟩ : ∃ r : Nat, 0 = r := ⟨_, rfl⟩
          clear hr0
          obtain ⟨b0, b1, b2, b3, b4⟩ := BX.out.cells
          subst hW
          clear I1 hT2
          go_wp2_with fail
          refine HC1.out.mono ?_
          rintro e w5 ⟨rfl, K5, hi5, hm5⟩
          obtain ⟨x1, HC2⟩ := HN5.out w5 K5 hi5 hm5
          clear HC1 HN5 hi5 hm5 b0 b1 b2 b3 b4
          go_wp2_with fail
          refine HC2.out.mono ?_
          rintro e w6 ⟨rfl, K6, hi6, _⟩
          have HI6 := Lib.hid hi6
          clear hi6 HC2

          have hre : ((r : Int) != (r : Int)) = false := by simp
          obtain ⟨HN, HD, c9⟩ := tail_facts HI6.out
          have HBQ : ∀ m, Below w6.heap.size w6 (w6.drewN m) := fun m => below_drewN (Below.refl _ w6) m
          obtain ⟨of, hof⟩ : ∃ of, d2.off = of := ⟨_, rfl⟩
          rw [hof] at HD c9
          have hoo : (of != of) = false := by cases of <;> rfl
          clear hof BX HBN
          cases s with
          | none =>
            obtain rfl : vm = .pointer none := HI6.out.rlog
            have q1 := mneq_nil
            have q2 := meq_nil
            rw [show ((numOf none : Nat) : Int) = 0 from rfl] at HN
            go_wp2
            go_quiet (first | (go_at_call 30; exact Calls.quiet_of_same (HN _).out) | (go_at_call 31; exact Calls.quiet_of_same (HD _).out))
            go_wp2
            go_roundw
            case rel => exact ⟨k + 1, _, _, by omega, by go_num, rfl, rfl, Lib.hid ⟨K6, none, d2, HI6.out.same (HBQ nq), HB2.out⟩⟩
            case measure => simp [intOf]; omega
          | some lg =>
            obtain ⟨g, rfl, hlg, hkg⟩ := HI6.out.rlog
            have q1 := mneq_some g
            have q2 := WqOps.eq_nil g
            have q3 := hlg.cells.2.2.1
            rw [show ((numOf (some lg) : Nat) : Int) = (lg.n : Int) from rfl] at HN
            have q4 : ((lg.n : Int) != (lg.n : Int)) = false := by simp
            clear hlg hkg
            go_wp2
            go_quiet (first | (go_at_call 30; exact Calls.quiet_of_same (HN _).out) | (go_at_call 31; exact Calls.quiet_of_same (HD _).out))
            go_wp2
            go_roundw
            case rel => exact ⟨k + 1, _, _, by omega, by go_num, rfl, rfl, Lib.hid ⟨K6, some lg, d2, HI6.out.same (HBQ nq), HB2.out⟩⟩
            case measure => simp [intOf]; omega
      by_cases hk7 : kd = 7
      · as_aux_lemma =>
          obtain rfl : kd = 7 := hk7
          obtain ⟨d2, hd2⟩ : ∃ d2, restart ke d = d2 := ⟨_, rfl⟩
          obtain ⟨RS, hRS⟩ : ∃ RS, openL d2 fi = RS := ⟨_, rfl⟩
          have HBR : Hid (∀ s', (∀ l, s' = some l → l.n ≤ most) → Bnd k T s' d2) := Lib.hid fun s' hs' => by rw [← hd2]; exact HBN.out.restart ke s' hs'
          have ha := I1.out.arg HRK.out.k
          have HC1 := Lib.hid (p_restart I1.out HBN.out (by omega) ke ha.1 (fun b off e h => by rw [ha.2 b off e (by simpa using h)]; decide) HRK.out.ks HRK.out.kc HRK.out.km)
          clear ha
          have HN5 : Hid (∀ w5 K5, Inv w3 w5 K5 pd pr vl vm s s d2 d → Mv K1 K5 S2 W w5 → w5.cell? ⟨wr.heap.size, 4, none⟩ = some (.slice Ak ke.length ck) ∧ Hid (Calls Tryz.prog 25 #[.pointer (some ⟨pr, 0, none⟩), (.slice Ak ke.length ck)] w5 (MPost0 w3 w5 K5 pd pr vl vm s d2 s d2)) ∧
              ∀ w6 K6, Inv w3 w6 K6 pd pr vl vm s s d2 d2 → Mv K5 K6 S4 w5 w6 → w6.cell? ⟨wr.heap.size, 2, none⟩ = some (.int .i64 fi) ∧ Hid (Calls Tryz.prog 9 #[.pointer (some ⟨pd, 0, none⟩), .int .i64 fi] w6 (OPostL w3 w6 K6 pd pr vm RS d2 s d2)) ∧
              ∀ w7 K7 v7, Inv w3 w7 K7 pd pr v7 vm RS.2.2 s d2 d2 → Mv K6 K7 (fun _ => False) w6 w7 → w7.cell? ⟨wr.heap.size, 2, none⟩ = some (.int .i64 fi) ∧ Hid (Calls Tryz.prog 10 #[.pointer (some ⟨pr, 0, none⟩), .int .i64 fi] w7 (OPostM w3 w7 K7 pd pr v7 RS d2 RS.2.2 d2))) := Lib.hid fun w5 K5 hi5 hm5 => by
            have bx5 := BX.out.mv hm5 not_S2.2.2.1
            have ha := hi5.arg HRK.out.k
            have hc5 := r_restart (c := ck) (A := Ak) hi5 HBN.out (by omega) (by omega) ke ha.1 (fun b off e h => by rw [ha.2 b off e (by simpa using h)]; decide) HRK.out.ks HRK.out.kc HRK.out.km
            rw [hd2] at hc5
            refine ⟨bx5.cells.2.2.2.2, Lib.hid hc5, fun w6 K6 hi6 hm6 => ?_⟩
            have bx6 := bx5.mv hm6 not_S4.2.2.1
            have hc6 := p_open (first := fi) hi6 (HBR.out s HBN.out.num) (by omega) (by omega) HL3.out HR64.out.2
            rw [hRS] at hc6
            refine ⟨bx6.cells.2.2.1, Lib.hid hc6, fun w7 K7 v7 hi7 hm7 => ?_⟩
            have bx7 := bx6.mv hm7 (fun h => h)
            have hc7 := r_open (first := fi) hi7 (HBR.out s HBN.out.num) (by omega) (by omega) HR64.out.2
            rw [hRS] at hc7
            exact ⟨bx7.cells.2.2.1, Lib.hid hc7⟩
          have HB2 : Hid (Bnd (k + 1) (total (l.take (k + 1)) + 14 * (k + 1)) RS.2.2 d2) := Lib.hid (by
            rw [← HTN.out, ← hRS]
            exact (HBR.out _ (open_num d2 fi)).more (Nat.le_succ _) (by omega))
          rw [hd2] at HC1
          obtain ⟨r, ls, s2⟩ := RS
          unfold LPost0 at HC1
          unfold MPost0 OPostL OPostM at HN5
          simp only at HN5 HB2
          obtain ⟨b0, b1, b2, b3, b4⟩ := BX.out.cells
          subst hW
          clear I1 hT2 hd2 hRS HBR
          go_wp2_with fail
          refine HC1.out.mono ?_
          rintro e w5 ⟨rfl, K5, hi5, hm5⟩
          obtain ⟨x4, HC2, hn6⟩ := HN5.out w5 K5 hi5 hm5
          have HN6 := Lib.hid hn6
          clear HC1 HN5 hi5 hm5 b0 b1 b2 b3 b4 hn6
          go_wp2_with fail
          refine HC2.out.mono ?_
          rintro e w6 ⟨rfl, K6, hi6, hm6⟩
          obtain ⟨x2, HC3, hn7⟩ := HN6.out w6 K6 hi6 hm6
          have HN7 := Lib.hid hn7
          clear HC2 HN6 hi6 hm6 hn7 x4
          go_wp2_with fail
          refine HC3.out.mono ?_
          rintro e w7 ⟨v7, A7, c7, ps7, rfl, hp7, hps7, hb7, K7, hi7, hm7⟩
          obtain ⟨y2, HC4⟩ := HN7.out w7 K7 v7 hi7 hm7
          have HP7 := Lib.hid hp7
          have HPS7 := Lib.hid hps7
          clear HC3 HN7 hp7 hps7 hb7 hi7 hm7 x2
          go_wp2_with fail
          refine HC4.out.mono ?_
          rintro e w8 ⟨v8, A8, c8, ps8, rfl, hp8, hps8, hb8, K8, hi8, hm8⟩
          have HI8 := Lib.hid hi8
          have H9 := Lib.hid (same_any w8 ps7 ps8 A7 A8 ps7.length ps8.length c7 c8 (HPS7.out.below hb8) hps8)
          rw [show decide (pays ps7 = pays ps8) = true by rw [decide_eq_true_eq, HP7.out, hp8]] at H9
          obtain ⟨q0, n1, n2, ⟨al, rfl⟩, ⟨am, rfl⟩⟩ := half_eq hi8.log hi8.rlog
          have hqq : (q0 != q0) = false := by cases q0 <;> rfl
          clear HC4 HP7 HPS7 hp8 hps8 hb8 hi8 hm8 y2
          go_wp2_with fail
          refine H9.out.mono ?_
          rintro e w6 ⟨rfl, hb6⟩
          obtain ⟨K6, hK6⟩ : ∃ K6, kmark K8 w8.heap.size 3 = K6 := ⟨_, rfl⟩
          have HI6 := Lib.hid (HI8.out.new hb6 3)
          rw [hK6] at HI6
          clear hb6 H9 HI8 hK6
          go_wp2
          clear n1 n2 hqq

          have hre : ((r : Int) != (r : Int)) = false := by simp
          obtain ⟨HN, HD, c9⟩ := tail_facts HI6.out
          have HBQ : ∀ m, Below w6.heap.size w6 (w6.drewN m) := fun m => below_drewN (Below.refl _ w6) m
          obtain ⟨of, hof⟩ : ∃ of, d2.off = of := ⟨_, rfl⟩
          rw [hof] at HD c9
          have hoo : (of != of) = false := by cases of <;> rfl
          clear hof BX HBN
          cases s2 with
          | none =>
            obtain rfl : am = none := by have h : Value.pointer am = .pointer none := HI6.out.rlog; injection h
            have q1 := mneq_nil
            have q2 := meq_nil
            rw [show ((numOf none : Nat) : Int) = 0 from rfl] at HN
            go_wp2
            go_quiet (first | (go_at_call 30; exact Calls.quiet_of_same (HN _).out) | (go_at_call 31; exact Calls.quiet_of_same (HD _).out))
            go_wp2
            go_roundw
            case rel => exact ⟨k + 1, _, _, by omega, by go_num, rfl, rfl, Lib.hid ⟨K6, none, d2, HI6.out.same (HBQ nq), HB2.out⟩⟩
            case measure => simp [intOf]; omega
          | some lg =>
            obtain ⟨g, hg, hlg, hkg⟩ := HI6.out.rlog
            obtain rfl : am = some ⟨g, 0, none⟩ := by injection hg
            clear hg
            have q1 := mneq_some g
            have q2 := WqOps.eq_nil g
            have q3 := hlg.cells.2.2.1
            rw [show ((numOf (some lg) : Nat) : Int) = (lg.n : Int) from rfl] at HN
            have q4 : ((lg.n : Int) != (lg.n : Int)) = false := by simp
            clear hlg hkg
            go_wp2
            go_quiet (first | (go_at_call 30; exact Calls.quiet_of_same (HN _).out) | (go_at_call 31; exact Calls.quiet_of_same (HD _).out))
            go_wp2
            go_roundw
            case rel => exact ⟨k + 1, _, _, by omega, by go_num, rfl, rfl, Lib.hid ⟨K6, some lg, d2, HI6.out.same (HBQ nq), HB2.out⟩⟩
            case measure => simp [intOf]; omega
      by_cases hk8 : kd = 8
      · as_aux_lemma =>
          obtain rfl : kd = 8 := hk8
          obtain ⟨nm, hnm⟩ : ∃ nm, nameI on = nm := ⟨_, rfl⟩
          have hnl : nm.length ≤ 1000 := by rw [← hnm]; exact nameI_len on
          have HNA : Hid (∀ w', Below W.heap.size W w' → Calls Tryz.prog 5 #[.int .i64 on] w' fun e w'' => e = .returned (.string ⟨nm.toArray⟩) ∧ Below w'.heap.size w' w'') := Lib.hid fun w' hb => by
            rw [← hnm]
            exact WpName.name_any w' on HR64.out.1 (WpOps.lays_keep (I1.out.lays HL3.out).1 hb)
          have HNB : Hid (∀ w', Calls Tryz.prog 6 #[.int .i64 on] w' fun e w'' => e = .returned (.string ⟨nm.toArray⟩) ∧ Below w'.heap.size w' w'') := Lib.hid fun w' => by
            rw [← hnm]
            exact WqName.name_any w' on HR64.out.1
          obtain ⟨R, hR⟩ : ∃ R : Nat × Option LSt × DSt, ((append nm da d).1, s, (append nm da d).2) = R := ⟨_, rfl⟩
          have HA1 : Hid (∀ w5, Below W.heap.size W w5 → w5.cell? ⟨wr.heap.size, 1, none⟩ = some (.int .i64 on) ∧ w5.cell? ⟨wr.heap.size, 3, none⟩ = some (.slice Ad da.length cd) ∧ Hid (Calls Tryz.prog 26 #[.pointer (some ⟨pd, 0, none⟩), .string ⟨nm.toArray⟩, .slice Ad da.length cd] w5 (LPost w3 w5 K1 pd pr vl vm R s d))) := Lib.hid fun w5 hb => by
            have hb5 := (BX.out.below hb).cells
            have hc5 := p_dapp (c := cd) (I1.out.same hb) HBN.out (by omega) nm da hnl (by omega) HRK.out.d
            rw [hR] at hc5
            exact ⟨hb5.2.1, hb5.2.2.2.1, Lib.hid hc5⟩
          have HA2 : Hid (∀ w5 w6 K6, Below W.heap.size W w5 → Inv w3 w6 K6 pd pr vl vm R.2.1 s R.2.2 d → Mv K1 K6 S2 w5 w6 → w6.cell? ⟨wr.heap.size, 1, none⟩ = some (.int .i64 on) ∧ w6.cell? ⟨wr.heap.size, 3, none⟩ = some (.slice Ad da.length cd) ∧ Hid (∀ w7, Below w6.heap.size w6 w7 → w7.cell? ⟨wr.heap.size, 1, none⟩ = some (.int .i64 on) ∧ w7.cell? ⟨wr.heap.size, 3, none⟩ = some (.slice Ad da.length cd) ∧ Hid (Calls Tryz.prog 27 #[.pointer (some ⟨pr, 0, none⟩), .string ⟨nm.toArray⟩, .slice Ad da.length cd] w7 (MPost w3 w7 K6 pd pr vl vm R R.2.1 R.2.2)) ∧
              ∀ w8 K8, Mv K6 K8 S4 w7 w8 → w8.cell? ⟨wr.heap.size, 1, none⟩ = some (.int .i64 on) ∧ w8.cell? ⟨wr.heap.size, 3, none⟩ = some (.slice Ad da.length cd))) := Lib.hid fun w5 w6 K6 hb hi6 hm6 => by
            have bx6 := (BX.out.below hb).mv hm6 not_S2.2.2.1
            have hb5 := bx6.cells
            refine ⟨hb5.2.1, hb5.2.2.2.1, Lib.hid fun w7 hb7 => ?_⟩
            have bx7 := bx6.below hb7
            have hb5 := bx7.cells
            have hc7 := r_dapp (c := cd) (hi6.same hb7) HBN.out (by omega) nm da hnl (by omega) HRK.out.d
            rw [hR] at hc7
            refine ⟨hb5.2.1, hb5.2.2.2.1, Lib.hid hc7, fun w8 K8 hm8 => ?_⟩
            have hb5 := (bx7.mv hm8 not_S4.2.2.1).cells
            exact ⟨hb5.2.1, hb5.2.2.2.1⟩
          have HB2 : Hid (Bnd (k + 1) (total (l.take (k + 1)) + 14 * (k + 1)) R.2.1 R.2.2) := Lib.hid (by
            rw [← HTN.out, ← hR]
            exact HBN.out.dapp nm da)
          have HW5 : Hid (∀ w5, Below W.drew.heap.size W.drew w5 → Below W.heap.size W w5) := Lib.hid fun w5 hb => WpOps.below_drew hb
          have HW0 : Hid (Below W.heap.size W W.drew) := Lib.hid (WpOps.drew_below W)
          obtain ⟨r, s2, d2⟩ := R
          unfold LPost at HA1
          unfold MPost at HA2
          simp only at HA1 HA2 HB2
          clear hR hnm
          obtain ⟨b0, b1, b2, b3, b4⟩ := BX.out.cells
          subst hW
          clear I1 hT2
          go_wp2
          go_region_held3 (fun w' => w'.cell? ⟨wr.heap.size, 1, none⟩ = some (.int .i64 on) ∧ w'.cell? ⟨wr.heap.size, 3, none⟩ = some (.slice Ad da.length cd)) (first | go_keep | assumption) (first
            | (go_at_call 5; refine (HNA.out _ HW0.out).mono ?_; rintro e w5 ⟨rfl, hb5'⟩; have hb5 := HW5.out w5 hb5'; obtain ⟨x1, x3, HC⟩ := HA1.out w5 hb5)
            | (go_at_call 26; refine HC.out.mono ?_; rintro e w6 ⟨rfl, K6, hi6, hm6⟩; obtain ⟨y1, y3, HC7⟩ := HA2.out w5 w6 K6 hb5 hi6 hm6; have HI6p := Lib.hid hi6))
          all_goals
            have HD6 : Hid (∀ w7, Below w6.drew.heap.size w6.drew w7 → Below w6.heap.size w6 w7) := Lib.hid fun w7 hb => WpOps.below_drew hb
            clear HNA HA1 HA2 HW5 HW0 hb5 hb5' hi6 hm6 HC x1 x3 b0 b1 b2 b3 b4
            go_wp2
            go_region_held3 (fun w' => w'.cell? ⟨wr.heap.size, 1, none⟩ = some (.int .i64 on) ∧ w'.cell? ⟨wr.heap.size, 3, none⟩ = some (.slice Ad da.length cd)) (first | go_keep | assumption) (first
              | (go_at_call 6; refine (HNB.out _).mono ?_; rintro e w7 ⟨rfl, hb7'⟩; have hb7 := HD6.out w7 hb7'; obtain ⟨z1, z3, HC8, hk8⟩ := HC7.out w7 hb7)
              | (go_at_call 27; refine HC8.out.mono ?_; rintro e w8 ⟨rfl, K8, hi8, hm8⟩; obtain ⟨u1, u3⟩ := hk8 w8 K8 hm8))
          all_goals
            have HI6 := Lib.hid hi8
            clear HNB HC7 HI6p hi8 hm8 hb7 hb7' HC8 hk8 z1 z3 y1 y3 u1 u3 HD6

            have hre : ((r : Int) != (r : Int)) = false := by simp
            obtain ⟨HN, HD, c9⟩ := tail_facts HI6.out
            have HBQ : ∀ m, Below w8.heap.size w8 (w8.drewN m) := fun m => below_drewN (Below.refl _ w8) m
            obtain ⟨of, hof⟩ : ∃ of, d2.off = of := ⟨_, rfl⟩
            rw [hof] at HD c9
            have hoo : (of != of) = false := by cases of <;> rfl
            clear hof BX HBN
            cases s2 with
            | none =>
              obtain rfl : vm = .pointer none := HI6.out.rlog
              have q1 := mneq_nil
              have q2 := meq_nil
              rw [show ((numOf none : Nat) : Int) = 0 from rfl] at HN
              go_wp2
              go_quiet (first | (go_at_call 30; exact Calls.quiet_of_same (HN _).out) | (go_at_call 31; exact Calls.quiet_of_same (HD _).out))
              go_wp2
              go_roundw
              case rel => exact ⟨k + 1, _, _, by omega, by go_num, rfl, rfl, Lib.hid ⟨K8, none, d2, HI6.out.same (HBQ nq), HB2.out⟩⟩
              case measure => simp [intOf]; omega
            | some lg =>
              obtain ⟨g, rfl, hlg, hkg⟩ := HI6.out.rlog
              have q1 := mneq_some g
              have q2 := WqOps.eq_nil g
              have q3 := hlg.cells.2.2.1
              rw [show ((numOf (some lg) : Nat) : Int) = (lg.n : Int) from rfl] at HN
              have q4 : ((lg.n : Int) != (lg.n : Int)) = false := by simp
              clear hlg hkg
              go_wp2
              go_quiet (first | (go_at_call 30; exact Calls.quiet_of_same (HN _).out) | (go_at_call 31; exact Calls.quiet_of_same (HD _).out))
              go_wp2
              go_roundw
              case rel => exact ⟨k + 1, _, _, by omega, by go_num, rfl, rfl, Lib.hid ⟨K8, some lg, d2, HI6.out.same (HBQ nq), HB2.out⟩⟩
              case measure => simp [intOf]; omega
      by_cases hk9 : kd = 9
      · as_aux_lemma =>
          obtain rfl : kd = 9 := hk9
          obtain ⟨nm, hnm⟩ : ∃ nm, nameI on = nm := ⟨_, rfl⟩
          have hnl : nm.length ≤ 1000 := by rw [← hnm]; exact nameI_len on
          have HNA : Hid (∀ w', Below W.heap.size W w' → Calls Tryz.prog 5 #[.int .i64 on] w' fun e w'' => e = .returned (.string ⟨nm.toArray⟩) ∧ Below w'.heap.size w' w'') := Lib.hid fun w' hb => by
            rw [← hnm]
            exact WpName.name_any w' on HR64.out.1 (WpOps.lays_keep (I1.out.lays HL3.out).1 hb)
          have HNB : Hid (∀ w', Calls Tryz.prog 6 #[.int .i64 on] w' fun e w'' => e = .returned (.string ⟨nm.toArray⟩) ∧ Below w'.heap.size w' w'') := Lib.hid fun w' => by
            rw [← hnm]
            exact WqName.name_any w' on HR64.out.1
          obtain ⟨R, hR⟩ : ∃ R : Nat × Option LSt × DSt, ((delete nm d).1, s, (delete nm d).2) = R := ⟨_, rfl⟩
          have HA1 : Hid (∀ w5, Below W.heap.size W w5 → w5.cell? ⟨wr.heap.size, 1, none⟩ = some (.int .i64 on) ∧ Hid (Calls Tryz.prog 28 #[.pointer (some ⟨pd, 0, none⟩), .string ⟨nm.toArray⟩] w5 (LPost w3 w5 K1 pd pr vl vm R s d))) := Lib.hid fun w5 hb => by
            have hb5 := (BX.out.below hb).cells
            have hc5 := p_ddel (I1.out.same hb) nm hnl
            rw [hR] at hc5
            exact ⟨hb5.2.1, Lib.hid hc5⟩
          have HA2 : Hid (∀ w5 w6 K6, Below W.heap.size W w5 → Inv w3 w6 K6 pd pr vl vm R.2.1 s R.2.2 d → Mv K1 K6 S2 w5 w6 → w6.cell? ⟨wr.heap.size, 1, none⟩ = some (.int .i64 on) ∧ Hid (∀ w7, Below w6.heap.size w6 w7 → w7.cell? ⟨wr.heap.size, 1, none⟩ = some (.int .i64 on) ∧ Hid (Calls Tryz.prog 29 #[.pointer (some ⟨pr, 0, none⟩), .string ⟨nm.toArray⟩] w7 (MPost w3 w7 K6 pd pr vl vm R R.2.1 R.2.2)) ∧
              ∀ w8 K8, Mv K6 K8 S4 w7 w8 → w8.cell? ⟨wr.heap.size, 1, none⟩ = some (.int .i64 on))) := Lib.hid fun w5 w6 K6 hb hi6 hm6 => by
            have bx6 := (BX.out.below hb).mv hm6 not_S2.2.2.1
            have hb5 := bx6.cells
            refine ⟨hb5.2.1, Lib.hid fun w7 hb7 => ?_⟩
            have bx7 := bx6.below hb7
            have hb5 := bx7.cells
            have hc7 := r_ddel (hi6.same hb7) HBN.out (by omega) nm hnl
            rw [hR] at hc7
            refine ⟨hb5.2.1, Lib.hid hc7, fun w8 K8 hm8 => ?_⟩
            have hb5 := (bx7.mv hm8 not_S4.2.2.1).cells
            exact hb5.2.1
          have HB2 : Hid (Bnd (k + 1) (total (l.take (k + 1)) + 14 * (k + 1)) R.2.1 R.2.2) := Lib.hid (by
            rw [← HTN.out, ← hR]
            exact (HBN.out.ddel nm).more (Nat.le_succ _) (by omega))
          have HW0 : Hid (Below W.heap.size W W) := Lib.hid (Below.refl _ W)
          obtain ⟨r, s2, d2⟩ := R
          unfold LPost at HA1
          unfold MPost at HA2
          simp only at HA1 HA2 HB2
          clear hR hnm
          obtain ⟨b0, b1, b2, b3, b4⟩ := BX.out.cells
          subst hW
          clear I1 hT2
          go_wp2_with fail
          refine (HNA.out _ HW0.out).mono ?_
          rintro e w5 ⟨rfl, hb5⟩
          obtain ⟨x1, HC⟩ := HA1.out w5 hb5
          have HB5 := Lib.hid hb5
          clear hb5 HNA HA1 b0 b1 b2 b3 b4
          go_wp2_with fail
          refine HC.out.mono ?_
          rintro e w7 ⟨rfl, K7, hi7, hm7⟩
          obtain ⟨y1, HC7⟩ := HA2.out w5 w7 K7 HB5.out hi7 hm7
          clear HC HA2 hi7 hm7 HB5 x1
          go_wp2_with fail
          refine (HNB.out _).mono ?_
          rintro e w8 ⟨rfl, hb8⟩
          obtain ⟨z1, HC8, _⟩ := HC7.out w8 hb8
          clear hb8 HNB HC7 y1
          go_wp2_with fail
          refine HC8.out.mono ?_
          rintro e w6 ⟨rfl, K6, hi6, _⟩
          have HI6 := Lib.hid hi6
          clear hi6 HC8 z1

          have hre : ((r : Int) != (r : Int)) = false := by simp
          obtain ⟨HN, HD, c9⟩ := tail_facts HI6.out
          have HBQ : ∀ m, Below w6.heap.size w6 (w6.drewN m) := fun m => below_drewN (Below.refl _ w6) m
          obtain ⟨of, hof⟩ : ∃ of, d2.off = of := ⟨_, rfl⟩
          rw [hof] at HD c9
          have hoo : (of != of) = false := by cases of <;> rfl
          clear hof BX HBN
          cases s2 with
          | none =>
            obtain rfl : vm = .pointer none := HI6.out.rlog
            have q1 := mneq_nil
            have q2 := meq_nil
            rw [show ((numOf none : Nat) : Int) = 0 from rfl] at HN
            go_wp2
            go_quiet (first | (go_at_call 30; exact Calls.quiet_of_same (HN _).out) | (go_at_call 31; exact Calls.quiet_of_same (HD _).out))
            go_wp2
            go_roundw
            case rel => exact ⟨k + 1, _, _, by omega, by go_num, rfl, rfl, Lib.hid ⟨K6, none, d2, HI6.out.same (HBQ nq), HB2.out⟩⟩
            case measure => simp [intOf]; omega
          | some lg =>
            obtain ⟨g, rfl, hlg, hkg⟩ := HI6.out.rlog
            have q1 := mneq_some g
            have q2 := WqOps.eq_nil g
            have q3 := hlg.cells.2.2.1
            rw [show ((numOf (some lg) : Nat) : Int) = (lg.n : Int) from rfl] at HN
            have q4 : ((lg.n : Int) != (lg.n : Int)) = false := by simp
            clear hlg hkg
            go_wp2
            go_quiet (first | (go_at_call 30; exact Calls.quiet_of_same (HN _).out) | (go_at_call 31; exact Calls.quiet_of_same (HD _).out))
            go_wp2
            go_roundw
            case rel => exact ⟨k + 1, _, _, by omega, by go_num, rfl, rfl, Lib.hid ⟨K6, some lg, d2, HI6.out.same (HBQ nq), HB2.out⟩⟩
            case measure => simp [intOf]; omega
      as_aux_lemma =>
        have t1 : (kd == 1) = false := beq_eq_false_iff_ne.2 hk1
        have t2 : (kd == 2) = false := beq_eq_false_iff_ne.2 hk2
        have t3 : (kd == 3) = false := beq_eq_false_iff_ne.2 hk3
        have t4 : (kd == 4) = false := beq_eq_false_iff_ne.2 hk4
        have t5 : (kd == 5) = false := beq_eq_false_iff_ne.2 hk5
        have t6 : (kd == 6) = false := beq_eq_false_iff_ne.2 hk6
        have t7 : (kd == 7) = false := beq_eq_false_iff_ne.2 hk7
        have t8 : (kd == 8) = false := beq_eq_false_iff_ne.2 hk8
        have t9 : (kd == 9) = false := beq_eq_false_iff_ne.2 hk9
        clear hk1 hk2 hk3 hk4 hk5 hk6 hk7 hk8 hk9
        obtain ⟨b0, b1, b2, b3, b4⟩ := BX.out.cells
        have HB2 : Hid (Bnd (k + 1) (total (l.take (k + 1)) + 14 * (k + 1)) s d) := Lib.hid (by
          rw [← HTN.out]
          exact HBN.out.more (Nat.le_succ _) (by omega))
        obtain ⟨r, hr0⟩ : ∃ r : Nat, 0 = r := ⟨_, rfl⟩
        clear hr0 hT2

        have hre : ((r : Int) != (r : Int)) = false := by simp
        obtain ⟨HN, HD, c9⟩ := tail_facts I1.out
        have HBQ : ∀ m, Below W.heap.size W (W.drewN m) := fun m => below_drewN (Below.refl _ W) m
        obtain ⟨of, hof⟩ : ∃ of, d.off = of := ⟨_, rfl⟩
        rw [hof] at HD c9
        have hoo : (of != of) = false := by cases of <;> rfl
        clear hof BX HBN
        subst hW
        cases s with
        | none =>
          obtain rfl : vm = .pointer none := I1.out.rlog
          have q1 := mneq_nil
          have q2 := meq_nil
          rw [show ((numOf none : Nat) : Int) = 0 from rfl] at HN
          go_wp2
          go_quiet (first | (go_at_call 30; exact Calls.quiet_of_same (HN _).out) | (go_at_call 31; exact Calls.quiet_of_same (HD _).out))
          go_wp2
          go_roundw
          case rel => exact ⟨k + 1, _, _, by omega, by go_num, rfl, rfl, Lib.hid ⟨K1, none, d, I1.out.same (HBQ nq), HB2.out⟩⟩
          case measure => simp [intOf]; omega
        | some lg =>
          obtain ⟨g, rfl, hlg, hkg⟩ := I1.out.rlog
          have q1 := mneq_some g
          have q2 := WqOps.eq_nil g
          have q3 := hlg.cells.2.2.1
          rw [show ((numOf (some lg) : Nat) : Int) = (lg.n : Int) from rfl] at HN
          have q4 : ((lg.n : Int) != (lg.n : Int)) = false := by simp
          clear hlg hkg
          go_wp2
          go_quiet (first | (go_at_call 30; exact Calls.quiet_of_same (HN _).out) | (go_at_call 31; exact Calls.quiet_of_same (HD _).out))
          go_wp2
          go_roundw
          case rel => exact ⟨k + 1, _, _, by omega, by go_num, rfl, rfl, Lib.hid ⟨K1, some lg, d, I1.out.same (HBQ nq), HB2.out⟩⟩
          case measure => simp [intOf]; omega
    · as_aux_lemma =>
      have HB3K := Lib.hid (HB3.out.trans (HI.out.below.mono HB3.out.size))
      have hbn : k ≤ 1048576 := by omega
      have HTB : Hid (total (l.take k) + 14 * k ≤ 16000000) := Lib.hid (by have := HBT.out; have := total_le l k; omega)
      have hge : ¬ (k : Int) < (l.length : Int) := by omega
      obtain ⟨T, hT⟩ : ∃ T, total (l.take k) + 14 * k = T := ⟨_, rfl⟩
      rw [hT] at HBN HTB
      have hT2 := HTB.out
      obtain ⟨d2, hd2⟩ : ∃ d2, restart [3, 3, 3] d = d2 := ⟨_, rfl⟩
      obtain ⟨RS, hRS⟩ : ∃ RS, openL d2 first = RS := ⟨_, rfl⟩
      have HBR : Hid (Bnd k T s d2) := Lib.hid (by rw [← hd2]; exact HBN.out.restart _ s HBN.out.num)
      have hin : ∀ x ∈ ([3, 3, 3] : List Int), In64 x := fun x hx => by
        have : x = 3 := by simpa using hx
        subst this
        exact ⟨by decide, by decide⟩
      have HIN := Lib.hid hin
      have hrow : ∀ w' : World, Rd (w'.alloc (.cells #[.int .i64 3, .int .i64 3, .int .i64 3] 3)) (w'.alloc (.cells #[.int .i64 3, .int .i64 3, .int .i64 3] 3)).heap.size (some ⟨w'.heap.size, 0, none⟩) ([3, 3, 3].map I64) := fun w' => Rd.made' w' #[.int .i64 3, .int .i64 3, .int .i64 3] 3
      have HROW := Lib.hid hrow
      have hal : ∀ w' : World, Below w'.heap.size w' (w'.alloc (.cells #[.int .i64 3, .int .i64 3, .int .i64 3] 3)) := fun w' => (Below.refl _ w').alloc (Nat.le_refl _) _
      have HALL := Lib.hid hal
      have HC1 : Hid (Calls Tryz.prog 24 #[.pointer (some ⟨pd, 0, none⟩), .slice (some ⟨wr.heap.size, 0, none⟩) 3 3] (wr.alloc (.cells #[.int .i64 3, .int .i64 3, .int .i64 3] 3)) (LPost0 w3 (wr.alloc (.cells #[.int .i64 3, .int .i64 3, .int .i64 3] 3)) (kmark K wr.heap.size 3) pd pr vl vm s d2 s d)) := Lib.hid (by
        rw [← hd2]
        exact p_restart (HI.out.new (hal wr) 3) HBN.out (by omega) [3, 3, 3] (hrow wr) (fun b off e _ => by cases e; rw [kmark_new (Nat.le_refl _)]; decide) hin (by decide) (by unfold maxLen; omega))
      have HN5 : Hid (∀ w5 K5, Inv w3 w5 K5 pd pr vl vm s s d2 d → Hid (Calls Tryz.prog 25 #[.pointer (some ⟨pr, 0, none⟩), .slice (some ⟨w5.heap.size, 0, none⟩) 3 3] (w5.alloc (.cells #[.int .i64 3, .int .i64 3, .int .i64 3] 3)) (MPost0 w3 (w5.alloc (.cells #[.int .i64 3, .int .i64 3, .int .i64 3] 3)) (kmark K5 w5.heap.size 3) pd pr vl vm s d2 s d2))) := Lib.hid fun w5 K5 hi5 => Lib.hid (by
        have hc := r_restart (c := 3) (A := some ⟨w5.heap.size, 0, none⟩) (hi5.new (HALL.out w5) 3) HBN.out (by omega) (by omega) [3, 3, 3] (HROW.out w5) (fun b off e _ => by cases e; rw [kmark_new (Nat.le_refl _)]; decide) HIN.out (by decide) (by unfold maxLen; omega)
        rw [hd2] at hc
        exact hc)
      have HN6 : Hid (∀ w6 K6, Inv w3 w6 K6 pd pr vl vm s s d2 d2 → Hid (Calls Tryz.prog 9 #[.pointer (some ⟨pd, 0, none⟩), .int .i64 first] w6 (OPostL w3 w6 K6 pd pr vm RS d2 s d2))) := Lib.hid fun w6 K6 hi6 => Lib.hid (by
        have hc := p_open (first := first) hi6 HBR.out (by omega) (by omega) HL3.out H64.out
        rw [hRS] at hc
        exact hc)
      have HN7 : Hid (∀ w7 K7 v7, Inv w3 w7 K7 pd pr v7 vm RS.2.2 s d2 d2 → Hid (Calls Tryz.prog 10 #[.pointer (some ⟨pr, 0, none⟩), .int .i64 first] w7 (OPostM w3 w7 K7 pd pr v7 RS d2 RS.2.2 d2))) := Lib.hid fun w7 K7 v7 hi7 => Lib.hid (by
        have hc := r_open (first := first) hi7 HBR.out (by omega) (by omega) H64.out
        rw [hRS] at hc
        exact hc)
      obtain ⟨r, ls, s2⟩ := RS
      unfold LPost0 at HC1
      unfold MPost0 at HN5
      unfold OPostL at HN6
      unfold OPostM at HN7
      simp only at HN6 HN7
      have hrr : ((r : Int) == (r : Int)) = true := by simp
      clear hT hd2 hRS hin hrow hal hlt HI HBN HTB HIN HROW HALL hk
      go_wp2_with fail
      refine HC1.out.mono ?_
      rintro e w5 ⟨rfl, K5, hi5, _⟩
      have HC2 := HN5.out w5 K5 hi5
      clear HC1 HN5 hi5
      go_wp2_with fail
      refine HC2.out.mono ?_
      rintro e w6 ⟨rfl, K6, hi6, _⟩
      have HC3 := HN6.out w6 K6 hi6
      clear HC2 HN6 hi6
      go_wp2_with fail
      refine HC3.out.mono ?_
      rintro e w7 ⟨v7, A7, c7, ps7, rfl, hp7, hps7, hb7, K7, hi7, _⟩
      have HC4 := HN7.out w7 K7 v7 hi7
      have HP7 := Lib.hid hp7
      have HPS7 := Lib.hid hps7
      clear HC3 HN7 hp7 hps7 hb7 hi7
      go_wp2_with fail
      refine HC4.out.mono ?_
      rintro e w8 ⟨v8, A8, c8, ps8, rfl, hp8, hps8, hb8, K8, hi8, _⟩
      have HB8 := Lib.hid (HB3.out.trans (hi8.below.mono HB3.out.size))
      have H9 := Lib.hid (same_any w8 ps7 ps8 A7 A8 ps7.length ps8.length c7 c8 (HPS7.out.below hb8) hps8)
      rw [show decide (pays ps7 = pays ps8) = true by rw [decide_eq_true_eq, HP7.out, hp8]] at H9
      clear HC4 HP7 HPS7 hp8 hps8 hb8 hi8
      go_wp2_with fail
      refine H9.out.mono ?_
      rintro e w9 ⟨rfl, hb9⟩
      have HB9 := Lib.hid (HB8.out.trans (hb9.mono HB8.out.size))
      clear hb9 H9
      go_wp2
      go_ret
      exact ⟨rfl, HB9.out⟩
end Go.Proofs.YtapbjmbakpopcaaGreatDoor.WsW
