/- The contract of the document's own Put: new memory that holds the shortest forms of the numbers, one behind the other; nothing that was there has changed. Condition: the list is so short that ten bytes a number are at most 2^47. · The contract of the document's Write: new memory that holds the manifest's bytes, or the error; nothing that was there has changed. Conditions: none but that the manifest lies in memory. -/
import Derived.Test.YtjninegpaoblfaaGreatDoorPuts
import Derived.Test.YtjninegpaoblfaaGreatDoorRefMays
import Derived.StillTailTactics
import Derived.Deep.RegionHeld3
import Derived.Deep.RegionLaw
namespace Go.Proofs.YtjninegpaoblfaaGreatDoor.RefPut
open Go Go.RowKit Words Plain Put

set_option maxHeartbeats 1600000 in
set_option maxRecDepth 100000 in
theorem refput_any (l : List UInt64) (A : Option Addr) (c : Nat) (w : World) (hr : Rd w w.heap.size A (l.map B64)) (hl : 10 * l.length ≤ 140737488355328) :
    Calls Tryz.prog 57 #[.slice A l.length c] w fun e w' => ∃ v, e = .returned v ∧ w'.ownsRow w.heap.size 5 1 v (encs l).length ((encs l).map B8) ∧ Below w.heap.size w w' := by
  obtain ⟨i0, hi, hz0, hz1, hz2⟩ := info_parts info_u8
  go_enter Tryz.func57, Tryz.ntmps57
  go_wp2
  go_loopw [3, 4] (fun v i wr => Outer l w.heap.size w v i wr) (fun _ i _ => l.length - (intOf i).toNat)
  case atStart => exact ⟨0, by omega, rfl, by simpa [encs] using World.ownsRow_nil w w.heap.size 5 1, Below.refl _ _⟩
  case round =>
    obtain ⟨k, hk, rfl, hown, hb⟩ := hrel
    by_cases hlt : k < l.length
    · obtain ⟨b, off, rfl, hbl, hcell⟩ := hr (by simp; omega)
      have hcx := (hb.cell (p := ⟨b, off + k, none⟩) hbl).trans (cell64 hcell hlt)
      have hn64 : l[k].toNat < 18446744073709551616 := l[k].toNat_lt
      have hsn := encs_snoc hlt
      have hle := encs_length (l.take k)
      have hlk : (l.take k).length ≤ k := List.length_take_le _ _
      have hd10 : (encs (l.take k)).length ≤ 10 * k := by omega
      have hu10 := Lib.uvarint_length64 hn64
      have hup := Lib.uvarint_pos l[k].toNat
      have ON := Lib.hid (one64 l[k].toNat wr hn64)
      generalize l[k].toNat = n at *
      generalize encs (l.take k) = d at *
      generalize Lib.uvarint n = U at *
      have HS := Lib.hid hsn
      have HO := Lib.hid hown
      have HB := Lib.hid hb
      clear hsn hcell hle hlk hr hown hb
      go_wp2_with fail
      refine ON.out.mono ?_
      rintro e w1 ⟨v1, rfl, hown1, hb1⟩
      have HO1 := Lib.hid (own_keep HO.out hb1)
      have HB1 := Lib.hid (HB.out.trans (hb1.mono HB.out.size))
      obtain ⟨b1, c1, rfl, _, _, hcell1⟩ := own_addr hown1 (by omega)
      have HC := Lib.hid hcell1
      clear hcell1 hb1 hown1
      go_wp2_with (at_builtin; refine wpList_append_own _ rfl (.tmp 11) (.tmp 16) 51 rfl w.heap.size 5 i0 (.int .u8 0) 1 1 Tryz.underlying51 hi hz0 hz1 hz2 rfl (by decide) _ _ _ rfl HO1.out ⟨b1, 0, none⟩ U.length c1 (U.map B8) rfl (by simp) HC.out (one8 U) ?c3 ?c4 HB1.out.size ?_)
      case c3 => unfold maxLen; omega
      case c4 => omega
      intro v2 w2 hown2 hg2 _
      have hown3 := own_join hown2
      have hb3 : Below w.heap.size w w2 := HB1.out.grown hg2 HB1.out.size (own_lt HO1.out)
      rw [← HS.out] at hown3
      clear hown2 hg2
      go_wp2
      go_roundw
      case rel => exact ⟨k + 1, by omega, by go_num, hown3, hb3⟩
      case measure => simp [intOf]; omega
    · obtain rfl : k = l.length := by omega
      go_wp2
      go_ret
      rw [List.take_length] at hown
      exact ⟨_, rfl, hown, hb⟩
end Go.Proofs.YtjninegpaoblfaaGreatDoor.RefPut

namespace Go.Proofs.YtjninegpaoblfaaGreatDoor.RefMw
open Go Go.RowKit Words AppN MfSpec MfMem RefMf RefMay Plain Zig Put Framed RefPut

theorem info_u64 : (Tryz.prog.info? 34).map (fun i => (i.zero, i.size, i.bytes)) = some (some (.int .u64 0), 1, 8) := by kernel_rfl
theorem one64s (l : List UInt64) : ∀ u ∈ l.map B64, u.oneCell' = true := fun u hu => by obtain ⟨c, _, rfl⟩ := List.mem_map.1 hu; rfl
theorem new4 (w : World) (a b c d : Value) (e : TypeId) : ∀ j x, [a, b, c, d][j]? = some x → (w.alloc (.cells #[a, b, c, d] e)).cell? ((⟨w.heap.size, 0, none⟩ : Addr).add j) = some x := by
  intro j x hj
  rw [show (⟨w.heap.size, 0, none⟩ : Addr).add j = ⟨w.heap.size, 0 + j, none⟩ from add_off _ _ _, Nat.zero_add]
  unfold World.cell?
  rw [heap_alloc_new]
  simpa using hj
/-- An append whose run is known, in a region that draws its order. -/
theorem step_append_at {P : Program} {ops : Array Oper} {o : Oper} {a : Act} {w : World} {K : Act → World → Prop} {Q : Exit → Act → World → Prop} {E : Prop} {t ty : TypeId} {vs vx v' : Value} {w0 w' : World}
    (hrun : Hid ((Builtin.append_ #[t, t] ty #[vs, vx]).run P w0 = .ok v' w')) (s x : Operand) (hop : o.op = Op.call { callee := Callee.builtin Builtin.append, args := #[s, x], argTypes := #[t, t] }) (hg : o.guard = none) (hty : o.type = ty)
    (hs : a.eval s = vs) (hx : a.eval x = vx) (hw : w = w0) (hK : K (a.put o.dst v') w') :
    if Region.wanted o (yielded ops a.tmps) = true then Oper.wp P o a w K Q else E := by
  have hw' : Region.wanted o (yielded ops a.tmps) = true := by simp [Region.wanted, hg]
  rw [if_pos hw']
  have hr := hrun.out
  subst hty hs hx hw
  unfold Oper.wp
  simp [execOp, hop, resolve, invoke, builtin, hr, Result.andThen]
  exact hK
/-- What Write answers. -/
def WPost (m : Man) (w : World) (e : Ending) (w' : World) : Prop :=
  ∃ v, e = .returned (.tuple #[v, .int .i64 ((write m).1 : Int)]) ∧ w'.ownsRow w.heap.size 5 1 v (write m).2.length ((write m).2.map B8) ∧ Below w.heap.size w w'
/-- The numbers of the head and of the first k segments. -/
def upto (m : Man) (k : Nat) : List UInt64 := headNums m ++ (m.segs.take k).flatMap segNums
theorem upto_zero (m : Man) : upto m 0 = headNums m := by simp [upto]
theorem upto_all (m : Man) : upto m m.segs.length = nums m := by simp [upto, nums]
theorem upto_succ {m : Man} {k : Nat} {s : Sg} (hs : m.segs[k]? = some s) : upto m (k + 1) = upto m k ++ segNums s := by
  unfold upto
  obtain ⟨hk, e⟩ := List.getElem?_eq_some_iff.1 hs
  rw [List.take_succ_eq_append_getElem hk, List.flatMap_append, e]
  simp
theorem upto_len {m : Man} {k : Nat} (hk : k ≤ m.segs.length) : (upto m k).length = 5 + 4 * k := by
  unfold upto
  rw [List.length_append, segNums_len, List.length_take, Nat.min_eq_left hk]
  rfl
theorem wrap_u {n : Int} (h : 0 ≤ n ∧ n < 18446744073709551616) : IntKind.u64.wrap n = ((u n).toNat : Int) := by
  rw [u_toNat (by omega), IntWalk.u64_in _ (by omega)]
  omega
def NRel (w1 : World) (m : Man) (i v : Value) (wr : World) : Prop := ∃ k : Nat, k ≤ m.segs.length ∧ i = .int .i64 (k : Int) ∧ Hid (wr.ownsRow w1.heap.size 34 1 v (5 + 4 * k) ((upto m k).map B64)) ∧ Hid (Below w1.heap.size w1 wr)

set_option maxHeartbeats 3200000 in
set_option maxRecDepth 100000 in
theorem rwrite_any (w : World) (m : MM) (hm : OkM w m) :
    Calls Tryz.prog 32 #[aggM m] w (WPost m.1 w) := by
  obtain ⟨i0, hi, hz0, hz1, hz2⟩ := info_parts info_u64
  have HS := Lib.hid hm.segs
  have HO := Lib.hid hm.ok
  have hn2 := hm.segs.le
  have hn3 := hm.segs.cap
  have HN := Lib.hid hm.segs.len
  have HBX := Lib.hid (boxed1 w m)
  have HBA : Hid (Below w.heap.size w (w.alloc (boxM m))) := Lib.hid ((Below.refl _ w).alloc (Nat.le_refl _) _)
  have HM := Lib.hid (rmay_any (w.alloc (boxM m)) m (hm.below HBA.out))
  obtain ⟨⟨wal, next, seq, mark, segs⟩, A, n, c⟩ := m
  unfold maxLen at hn3
  unfold aggM slV at HM
  unfold aggM slV WPost
  unfold boxM at HM HBX HBA
  simp only at HS HO hn2 hn3 HN HM HBX HBA ⊢
  have hw0 : w.heap.size < (w.alloc (.cells #[.int .i64 wal, .int .i64 next, .int .u64 (seq.toNat : Int), .int .i64 mark, .slice A n c] 37)).heap.size := by simp
  clear hm
  obtain ⟨r, hr⟩ : ∃ r, may ⟨wal, next, seq, mark, segs⟩ = r := ⟨_, rfl⟩
  rw [hr] at HM
  obtain ⟨⟨we, wb⟩, hwp⟩ : ∃ x, write ⟨wal, next, seq, mark, segs⟩ = x := ⟨_, rfl⟩
  have HWP := Lib.hid hwp
  rw [hwp]
  simp only
  clear hwp
  go_enter Tryz.func32, Tryz.ntmps32
  go_wp2_with fail
  refine HM.out.mono ?_
  rintro e w1 ⟨rfl, hb1⟩
  have HB1 : Hid (Below w.heap.size w w1) := Lib.hid (HBA.out.trans (hb1.mono HBA.out.size))
  have HX1 := Lib.hid (HBX.out.up hb1 hw0)
  have hw1 : w.heap.size < w1.heap.size := Nat.lt_of_lt_of_le hw0 hb1.size
  clear hb1 hw0 HM HBX HBA
  cases r with
  | false =>
    have HE : Hid ((we, wb) = (1, [])) := Lib.hid (by rw [← HWP.out]; exact write_no (by rw [hr]; decide))
    clear hr
    go_wp2
    go_ret2
    have he := HE.out
    simp only [Prod.mk.injEq] at he
    obtain ⟨rfl, rfl⟩ := he
    exact ⟨_, rfl, World.ownsRow_nil _ _ _ _, HB1.out⟩
  | true =>
    have HMAY := Lib.hid (may_of HO.out hr)
    have HE : Hid ((we, wb) = (0, mbytes ⟨wal, next, seq, mark, segs⟩)) := Lib.hid (by rw [← HWP.out]; exact write_ok hr)
    clear HWP
    have f0 := wrap_u (n := wal) (by have := HMAY.out.head.wal; simp only at this; omega)
    have f1 := wrap_u (n := next) (by have := HMAY.out.head.next; simp only at this; omega)
    have f4 := wrap_u (n := (n : Int)) (by omega)
    have hzm := zig64 HO.out.mark
    simp only at hzm
    have HZ0 : Hid (zig mark = ((u (zig mark)).toNat : Int)) := Lib.hid (by rw [u_toNat (by omega)]; omega)
    have HZ : ∀ wz, Hid (Calls Tryz.prog 55 #[.int .i64 mark] wz fun e w' => e = .returned (.int .u64 ((u (zig mark)).toNat : Int)) ∧ wz = w') := fun wz => Lib.hid (by rw [← HZ0.out]; exact refzig_any mark wz HO.out.mark.1 HO.out.mark.2)
    obtain ⟨x0, x1, x2, x3, x4⟩ := HX1.out
    simp only at x0 x1 x2 x3 x4
    have HL : Hid (upto ⟨wal, next, seq, mark, segs⟩ 0 = [u wal, u next, seq, u (zig mark), u (n : Int)]) := Lib.hid (by rw [upto_zero, HN.out]; rfl)
    obtain ⟨BY, hBY⟩ : ∃ B, mbytes ⟨wal, next, seq, mark, segs⟩ = B := ⟨_, rfl⟩
    rw [hBY] at HE
    have HW : Hid (BY = frm (encs (nums ⟨wal, next, seq, mark, segs⟩))) := Lib.hid hBY.symm
    clear hr hzm hBY
    generalize u wal = X0 at *
    generalize u next = X1 at *
    generalize u (zig mark) = X3 at *
    generalize u (n : Int) = X4 at *
    go_wp2
    refine wp_region_still_tail 15 (by kernel_rfl) (by kernel_rfl) ?_
    simp only [List.take_succ_cons, List.take_zero, List.drop_succ_cons, List.drop_zero]
    iterate 10 (refine wpStill_step (fun K hK => ?_); go_simp; refine hK _ ?_; clear hK K)
    refine wpStill_step (fun K hK => ?_)
    go_simp
    refine ⟨_, (HZ _).out.mono fun _ _ h => ⟨h.1, h.2.symm⟩, hK _ ?_⟩
    clear hK K
    iterate 4 (refine wpStill_step (fun K hK => ?_); go_simp; refine hK _ ?_; clear hK K)
    refine wpStill_nil ?_
    change wpList _ _ _ _ _ w1.drew
    have HOL := World.ownsRow_lit (base := w1.heap.size) (e := 34) (size := 1) w1 #[.int .u64 (X0.toNat : Int), .int .u64 (X1.toNat : Int), .int .u64 (seq.toNat : Int), .int .u64 (X3.toNat : Int), .int .u64 (X4.toNat : Int)] 5 (Nat.le_refl _) (by unfold maxLen; omega) rfl
    replace HOL := Lib.hid HOL
    have HBL : Hid (Below w1.heap.size w1 (w1.alloc (.cells #[.int .u64 (X0.toNat : Int), .int .u64 (X1.toNat : Int), .int .u64 (seq.toNat : Int), .int .u64 (X3.toNat : Int), .int .u64 (X4.toNat : Int)] 34)).drew) := Lib.hid (below_drew1 ((Below.refl _ w1).alloc (Nat.le_refl _) _))
    have hsl : segs.length ≤ 1024 := HMAY.out.head.few
    clear x0 x1 x2 x3 x4 f0 f1 f4 HZ HZ0 
    go_wp2
    go_loopw [5, 4] (fun i v wr => NRel w1 ⟨wal, next, seq, mark, segs⟩ i v wr) (fun i _ _ => segs.length - (intOf i).toNat)
    case atStart => exact ⟨0, Nat.zero_le _, rfl, Lib.hid (by rw [HL.out]; exact HOL.out.drew), HBL⟩
    case round =>
      obtain ⟨k, hk, rfl, HOW, HBr⟩ := hrel
      simp only at hk
      have HBW : Hid (Below w.heap.size w wr) := Lib.hid (HB1.out.trans (HBr.out.mono HB1.out.size))
      have b4 := (HX1.out.up HBr.out hw1).c4
      simp only at b4
      by_cases hlt : k < n
      · have hlt2 : k < segs.length := by have := HN.out; omega
        obtain ⟨g, o, e, hg, hc⟩ := HS.out.rd (by rw [flatS_len]; omega)
        simp only at e
        subst e
        obtain ⟨p0, p1, p2, p3⟩ := cellsS hc hlt2
        have k0 := cell_up HBW.out (p := ⟨g, o + k * 4, none⟩) hg p0
        have k1 := cell_up HBW.out (p := ⟨g, o + k * 4 + 1, none⟩) hg p1
        have k2 := cell_up HBW.out (p := ⟨g, o + k * 4 + 2, none⟩) hg p2
        have k3 := cell_up HBW.out (p := ⟨g, o + k * 4 + 3, none⟩) hg p3
        have HX := Lib.hid (HO.out.segs _ (List.getElem_mem hlt2))
        have HXM := Lib.hid (HMAY.out.segs _ (List.getElem_mem hlt2))
        have HNX := Lib.hid (upto_succ (m := ⟨wal, next, seq, mark, segs⟩) (List.getElem?_eq_getElem hlt2))
        clear hc p0 p1 p2 p3
        simp only at HXM HNX
        generalize segs[k] = x at *
        obtain ⟨a0, a1, a2, a3⟩ := x
        simp only at k0 k1 k2 k3 HNX
        have f0 := wrap_u (n := a0) (by have := HXM.out.id; have := HX.out.id.2; simp only at *; omega)
        have f1 := wrap_u (n := a1) (by have := HXM.out.count; simp only at *; omega)
        have hz2 := zig64 HX.out.least
        have hz3 := zig64 HX.out.most
        simp only at hz2 hz3
        have HZ2 : Hid (zig a2 = ((u (zig a2)).toNat : Int)) := Lib.hid (by rw [u_toNat (by omega)]; omega)
        have HZ3 : Hid (zig a3 = ((u (zig a3)).toNat : Int)) := Lib.hid (by rw [u_toNat (by omega)]; omega)
        have HC2 : ∀ wz, Hid (Calls Tryz.prog 55 #[.int .i64 a2] wz fun e w' => e = .returned (.int .u64 ((u (zig a2)).toNat : Int)) ∧ wz = w') := fun wz => Lib.hid (by rw [← HZ2.out]; exact refzig_any a2 wz HX.out.least.1 HX.out.least.2)
        have HC3 : ∀ wz, Hid (Calls Tryz.prog 55 #[.int .i64 a3] wz fun e w' => e = .returned (.int .u64 ((u (zig a3)).toNat : Int)) ∧ wz = w') := fun wz => Lib.hid (by rw [← HZ3.out]; exact refzig_any a3 wz HX.out.most.1 HX.out.most.2)
        unfold segNums at HNX
        simp only at HNX
        clear hz2 hz3 HZ2 HZ3 HX HXM
        generalize u a0 = Y0 at *
        generalize u a1 = Y1 at *
        generalize u (zig a2) = Y2 at *
        generalize u (zig a3) = Y3 at *
        have i1 : (0 : Int) ≤ (k : Int) := by omega
        have i2 : (k : Int) < (n : Int) := by omega
        have HBY : Hid (Below w1.heap.size w1 (wr.alloc (.cells #[.int .i64 a0, .int .i64 a1, .int .i64 a2, .int .i64 a3] 65))) := Lib.hid (HBr.out.trans (((Below.refl _ wr).alloc (Nat.le_refl _) _).mono HBr.out.size))
        have HOY : Hid ((wr.alloc (.cells #[.int .i64 a0, .int .i64 a1, .int .i64 a2, .int .i64 a3] 65)).ownsRow w1.heap.size 34 1 u4 (5 + 4 * k) ((upto ⟨wal, next, seq, mark, segs⟩ k).map B64)) := Lib.hid (HOW.out.alloc _)
        have HSX : Hid ((wr.alloc (.cells #[.int .i64 a0, .int .i64 a1, .int .i64 a2, .int .i64 a3] 65)).heap[wr.heap.size]? = some (.cells #[.int .i64 a0, .int .i64 a1, .int .i64 a2, .int .i64 a3] 65 (0, 0))) := Lib.hid (heap_alloc_new wr _)
        go_wp2
        obtain ⟨Y, hY⟩ : ∃ Y, wr.alloc (.cells #[.int .i64 a0, .int .i64 a1, .int .i64 a2, .int .i64 a3] 65) = Y := ⟨_, rfl⟩
        rw [hY] at HBY HOY HSX
        rw [hY]
        have HQ : Hid (∀ q, u4.ownBlock = some q → q ≠ wr.heap.size) := Lib.hid fun q hq e => by have := (HOW.out.lt q hq).2; omega
        have hGY : wr.heap.size < Y.heap.size := by rw [← hY]; simp
        clear hY b4 k0 k1 k2 k3 HBr HBW HOW
        obtain ⟨G, hG⟩ : ∃ G, wr.heap.size = G := ⟨_, rfl⟩
        rw [hG] at HSX HQ hGY
        rw [hG]
        clear hG
        have y0 := cell_of_heap (j := 0) HSX.out rfl
        have y1 := cell_of_heap (j := 1) HSX.out rfl
        have y2 := cell_of_heap (j := 2) HSX.out rfl
        have y3 := cell_of_heap (j := 3) HSX.out rfl
        have HOZ : Hid ((Y.drew.alloc (.cells #[.int .u64 (Y0.toNat : Int), .int .u64 (Y1.toNat : Int), .int .u64 (Y2.toNat : Int), .int .u64 (Y3.toNat : Int)] 34)).ownsRow w1.heap.size 34 1 u4 (5 + 4 * k) ((upto ⟨wal, next, seq, mark, segs⟩ k).map B64)) := Lib.hid (HOY.out.drew.alloc _)
        have HBZ : Hid (Below w1.heap.size w1 (Y.drew.alloc (.cells #[.int .u64 (Y0.toNat : Int), .int .u64 (Y1.toNat : Int), .int .u64 (Y2.toNat : Int), .int .u64 (Y3.toNat : Int)] 34))) := Lib.hid ((below_drew1 HBY.out).trans (((Below.refl _ Y.drew).alloc (Nat.le_refl _) _).mono HBY.out.size))
        have hk9 : k ≤ 1024 := by omega
        obtain ⟨v2, w2, hrun, hown2, hg2, _⟩ := run_append_own (P := Tryz.prog) (Y.drew.alloc (.cells #[.int .u64 (Y0.toNat : Int), .int .u64 (Y1.toNat : Int), .int .u64 (Y2.toNat : Int), .int .u64 (Y3.toNat : Int)] 34)) w1.heap.size 80 80 34 i0 (.int .u64 0) 1 8 Tryz.underlying80 hi hz0 hz1 hz2 rfl (by decide) u4 (5 + 4 * k) _ HOZ.out ⟨Y.heap.size, 0, none⟩ 4 4 ([Y0, Y1, Y2, Y3].map B64) (by simp) (new4 _ _ _ _ _ _) (one64s _) (by unfold maxLen; omega) (by omega) HBZ.out.size
        have hb2 : Below w1.heap.size w1 w2 := HBZ.out.grown hg2 HBZ.out.size (own_lt HOZ.out)
        have HO2 : Hid (w2.ownsRow w1.heap.size 34 1 v2 (5 + 4 * (k + 1)) ((upto ⟨wal, next, seq, mark, segs⟩ (k + 1)).map B64)) := Lib.hid (by
          rw [HNX.out, List.map_append, show 5 + 4 * (k + 1) = 5 + 4 * k + 4 by omega]
          exact hown2)
        have HB2 := Lib.hid hb2
        have hbx : w2.heap[G]? = some (.cells #[.int .i64 a0, .int .i64 a1, .int .i64 a2, .int .i64 a3] 65 (0, 0)) :=
          (hg2.block G (by simp; omega) (fun h => HQ.out G h.symm rfl)).trans ((Below.heap_alloc _ _ _ (by exact hGY)).trans HSX.out)
        have HX2 : Hid (w2.cell? ⟨G, 0, none⟩ = some (.int .i64 a0) ∧ w2.cell? ⟨G, 1, none⟩ = some (.int .i64 a1) ∧ w2.cell? ⟨G, 2, none⟩ = some (.int .i64 a2) ∧ w2.cell? ⟨G, 3, none⟩ = some (.int .i64 a3)) :=
          Lib.hid ⟨cell_of_heap hbx rfl, cell_of_heap hbx rfl, cell_of_heap hbx rfl, cell_of_heap hbx rfl⟩
        have hba : (Y.drew.alloc (.cells #[.int .u64 (Y0.toNat : Int), .int .u64 (Y1.toNat : Int), .int .u64 (Y2.toNat : Int), .int .u64 (Y3.toNat : Int)] 34)).heap[G]? = some (.cells #[.int .i64 a0, .int .i64 a1, .int .i64 a2, .int .i64 a3] 65 (0, 0)) := (Below.heap_alloc _ _ _ (by exact hGY)).trans HSX.out
        have S0 : Y.cell? ⟨G, 0, none⟩ = some (.int .i64 a0) ∧ Y.cell? ⟨G, 1, none⟩ = some (.int .i64 a1) ∧ Y.cell? ⟨G, 2, none⟩ = some (.int .i64 a2) ∧ Y.cell? ⟨G, 3, none⟩ = some (.int .i64 a3) := ⟨y0, y1, y2, y3⟩
        have S1 : Y.drew.cell? ⟨G, 0, none⟩ = some (.int .i64 a0) ∧ Y.drew.cell? ⟨G, 1, none⟩ = some (.int .i64 a1) ∧ Y.drew.cell? ⟨G, 2, none⟩ = some (.int .i64 a2) ∧ Y.drew.cell? ⟨G, 3, none⟩ = some (.int .i64 a3) := ⟨y0, y1, y2, y3⟩
        have S2 : (Y.drew.alloc (.cells #[.int .u64 (Y0.toNat : Int), .int .u64 (Y1.toNat : Int), .int .u64 (Y2.toNat : Int), .int .u64 (Y3.toNat : Int)] 34)).cell? ⟨G, 0, none⟩ = some (.int .i64 a0) ∧ (Y.drew.alloc (.cells #[.int .u64 (Y0.toNat : Int), .int .u64 (Y1.toNat : Int), .int .u64 (Y2.toNat : Int), .int .u64 (Y3.toNat : Int)] 34)).cell? ⟨G, 1, none⟩ = some (.int .i64 a1) ∧ (Y.drew.alloc (.cells #[.int .u64 (Y0.toNat : Int), .int .u64 (Y1.toNat : Int), .int .u64 (Y2.toNat : Int), .int .u64 (Y3.toNat : Int)] 34)).cell? ⟨G, 2, none⟩ = some (.int .i64 a2) ∧ (Y.drew.alloc (.cells #[.int .u64 (Y0.toNat : Int), .int .u64 (Y1.toNat : Int), .int .u64 (Y2.toNat : Int), .int .u64 (Y3.toNat : Int)] 34)).cell? ⟨G, 3, none⟩ = some (.int .i64 a3) := ⟨cell_of_heap hba rfl, cell_of_heap hba rfl, cell_of_heap hba rfl, cell_of_heap hba rfl⟩
        have S3 : (Y.alloc (.cells #[.int .u64 (Y0.toNat : Int), .int .u64 (Y1.toNat : Int), .int .u64 (Y2.toNat : Int), .int .u64 (Y3.toNat : Int)] 34)).drew.cell? ⟨G, 0, none⟩ = some (.int .i64 a0) ∧ (Y.alloc (.cells #[.int .u64 (Y0.toNat : Int), .int .u64 (Y1.toNat : Int), .int .u64 (Y2.toNat : Int), .int .u64 (Y3.toNat : Int)] 34)).drew.cell? ⟨G, 1, none⟩ = some (.int .i64 a1) ∧ (Y.alloc (.cells #[.int .u64 (Y0.toNat : Int), .int .u64 (Y1.toNat : Int), .int .u64 (Y2.toNat : Int), .int .u64 (Y3.toNat : Int)] 34)).drew.cell? ⟨G, 2, none⟩ = some (.int .i64 a2) ∧ (Y.alloc (.cells #[.int .u64 (Y0.toNat : Int), .int .u64 (Y1.toNat : Int), .int .u64 (Y2.toNat : Int), .int .u64 (Y3.toNat : Int)] 34)).drew.cell? ⟨G, 3, none⟩ = some (.int .i64 a3) := S2
        clear hba
        have S4 := HX2.out
        replace S0 := Lib.hid S0
        replace S1 := Lib.hid S1
        replace S2 := Lib.hid S2
        replace S3 := Lib.hid S3
        replace S4 := Lib.hid S4
        clear hbx HQ hGY
        have RA1 : Hid ((Builtin.append_ #[80, 80] 80 #[u4, .slice (some ⟨Y.heap.size, 0, none⟩) 4 4]).run Tryz.prog ((Y.alloc (.cells #[.int .u64 (Y0.toNat : Int), .int .u64 (Y1.toNat : Int), .int .u64 (Y2.toNat : Int), .int .u64 (Y3.toNat : Int)] 34)).drew) = .ok v2 w2) := Lib.hid hrun
        have RA2 : Hid ((Builtin.append_ #[80, 80] 80 #[u4, .slice (some ⟨Y.heap.size, 0, none⟩) 4 4]).run Tryz.prog (Y.drew.alloc (.cells #[.int .u64 (Y0.toNat : Int), .int .u64 (Y1.toNat : Int), .int .u64 (Y2.toNat : Int), .int .u64 (Y3.toNat : Int)] 34)) = .ok v2 w2) := Lib.hid hrun
        clear hown2 hg2 hb2 HOZ HBZ HOY HBY HNX HSX HX2 hrun
        go_region_held3 (fun w' => w'.cell? ⟨G, 0, none⟩ = some (.int .i64 a0) ∧ w'.cell? ⟨G, 1, none⟩ = some (.int .i64 a1) ∧ w'.cell? ⟨G, 2, none⟩ = some (.int .i64 a2) ∧ w'.cell? ⟨G, 3, none⟩ = some (.int .i64 a3)) (first | with_reducible exact S0.out | with_reducible exact S1.out | with_reducible exact S2.out | with_reducible exact S3.out | with_reducible exact S4.out) (first
          | (go_at_call 55; with_reducible refine (HC2 _).out.mono ?_; rintro e wz ⟨rfl, rfl⟩)
          | (go_at_call 55; with_reducible refine (HC3 _).out.mono ?_; rintro e wz ⟨rfl, rfl⟩)
          | (refine step_append_at RA1 (.tmp 38) (.tmp 51) rfl rfl rfl rfl rfl ?_ ?_; (· with_reducible rfl))
          | (refine step_append_at RA2 (.tmp 38) (.tmp 51) rfl rfl rfl rfl rfl ?_ ?_; (· with_reducible rfl)))
        all_goals
          go_wp2
          go_roundw
          case rel => exact ⟨k + 1, by simp only; omega, by go_num, HO2, HB2⟩
          case measure => simp [intOf]; omega
      · have hkn : k = segs.length := by have := HN.out; omega
        have HU : Hid (upto ⟨wal, next, seq, mark, segs⟩ k = nums ⟨wal, next, seq, mark, segs⟩) := Lib.hid (by rw [hkn]; exact upto_all _)
        have HUL : Hid (5 + 4 * k = (nums ⟨wal, next, seq, mark, segs⟩).length) := Lib.hid (by rw [nums_len, hkn])
        rw [HU.out, HUL.out] at HOW
        have HEL := Lib.hid (encs_len HMAY.out.head)
        obtain ⟨L, hL⟩ : ∃ L, nums ⟨wal, next, seq, mark, segs⟩ = L := ⟨_, rfl⟩
        rw [hL] at HOW HW HUL HEL
        clear hL HU
        obtain ⟨AL, cL, rfl, hl1, hl2, _⟩ := own_slice HOW.out
        have hL4 : L.length ≤ 5000 := by have := HUL.out; omega
        have HP := Lib.hid (refput_any L AL cL wr (Rd.of_own HOW.out) (by omega))
        clear HUL hl1 hl2
        generalize L.length = nL at *
        go_wp2_with fail
        refine HP.out.mono ?_
        rintro e w2 ⟨v2, rfl, hown2, hb2⟩
        obtain ⟨A2, c2, rfl, hc2, hm2, _⟩ := own_slice hown2
        have HF := Lib.hid (reff_ok (encs L) A2 _ c2 w2 rfl (Rd.of_own hown2) hc2 hm2 (by have := HEL.out; omega))
        have HB2 : Hid (Below w.heap.size w w2) := Lib.hid (HBW.out.trans (hb2.mono HBW.out.size))
        rw [← HW.out] at HF
        clear hown2 hb2 hc2 hm2 HP
        generalize (encs L).length = nE at *
        go_wp2_with fail
        refine HF.out.mono ?_
        rintro e w3 ⟨v3, rfl, hown3, hb3⟩
        have HO3 := Lib.hid hown3
        have HB3 : Hid (Below w.heap.size w w3) := Lib.hid (HB2.out.trans (hb3.mono HB2.out.size))
        have hsz := HB2.out.size
        clear hown3 hb3 HF
        go_wp2
        go_ret2
        have he := HE.out
        simp only [Prod.mk.injEq] at he
        obtain ⟨rfl, rfl⟩ := he
        exact ⟨v3, rfl, own_mono HO3.out hsz, HB3.out⟩
end Go.Proofs.YtjninegpaoblfaaGreatDoor.RefMw

