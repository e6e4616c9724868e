/- The contract of the law's own counts. Conditions: its numbers lie in memory, at most 1000 of them, each at most 1000. -/
import Derived.Test.YtepbnclpiojoaaaPnSame
import Derived.StillTailTactics
import Derived.Deep.RegionHeldLaw
import Derived.Deep.AppendLies
namespace Go.Proofs.Ytepbnclpiojoaaa.PnCnt
open Go Go.RowKit Words AppN PnSpec SgMem PnRef PnGone PnMerge PnSame

def mkTo (ns : List Nat) (k : Nat) : List Sg := (List.range k).map fun (i : Nat) => ⟨((i : Nat) : Int) + 1, ((ns.getD i 0 : Nat) : Int), 0, ((ns.getD i 0 : Nat) : Int)⟩
theorem mkTo_succ (ns : List Nat) (k : Nat) : mkTo ns (k + 1) = mkTo ns k ++ [⟨(k : Int) + 1, ((ns.getD k 0 : Nat) : Int), 0, ((ns.getD k 0 : Nat) : Int)⟩] := by
  unfold mkTo; rw [List.range_succ, List.map_append]; rfl
theorem mkTo_len (ns : List Nat) (k : Nat) : (mkTo ns k).length = k := by simp [mkTo]
theorem below_drew1 {w0 w : World} {B : Nat} (h : Below B w0 w) : Below B w0 w.drew := ⟨h.os, h.tape, h.output, h.size, h.block⟩
def CRel (W : World) (ns : List Nat) (v u : Value) (wr : World) : Prop :=
  ∃ k : Nat, k ≤ ns.length ∧ u = .int .i64 (k : Int) ∧ Hid (wr.ownsRow W.heap.size 33 4 v k (flatS (mkTo ns k))) ∧ Hid (Below W.heap.size W wr)

set_option maxHeartbeats 3200000 in
set_option maxRecDepth 100000 in
theorem counts_any (w : World) (s : Sl) (ns : List Nat) (hs : Ls w s ns) (hl : ns.length ≤ 1000) (hk : ∀ n ∈ ns, n ≤ 1000) :
    Calls Try.prog 17 #[slV s] w fun e w' => Below w.heap.size w w' ∧ ∃ v, e = .returned v ∧ w'.ownsRow w.heap.size 33 4 v ns.length (flatS (mkTo ns ns.length)) := by
  obtain ⟨A, n, c⟩ := s
  have HRD := Lib.hid hs.rd
  have hn := hs.len
  have hc := hs.le
  have hm := hs.cap
  simp only at hn hc hm
  unfold slV
  unfold maxLen at hm
  subst hn
  clear hs
  go_enter Try.func17, Try.ntmps17
  go_wp2
  obtain ⟨i0, hi, hz0, hz1, hz2⟩ := info_parts info_seg
  go_loopw [3, 4] (fun v u wr => CRel w ns v u wr) (fun _ u _ => ns.length - (intOf u).toNat)
  case atStart => exact ⟨0, Nat.zero_le _, rfl, Lib.hid (by rw [show flatS (mkTo ns 0) = [] from rfl]; exact World.ownsRow_nil _ _ _ _), Lib.hid (Below.refl _ _)⟩
  case round =>
    obtain ⟨k, hk2, rfl, HOW, HBr⟩ := hrel
    by_cases hlt : k < ns.length
    · obtain ⟨g, off, rfl, hg, hcs⟩ := HRD.out (by simp; omega)
      have k1 := cell_up HBr.out (p := ⟨g, off + k, none⟩) hg (cellIV hcs hlt)
      have hx := hk _ (List.getElem_mem hlt)
      have HX : Hid (mkTo ns (k + 1) = mkTo ns k ++ [⟨(k : Int) + 1, ((ns[k] : Nat) : Int), 0, ((ns[k] : Nat) : Int)⟩]) := Lib.hid (by rw [mkTo_succ]; simp [List.getD_eq_getElem?_getD, hlt])
      have HP := Lib.hid (cellIV hcs hlt)
      clear hcs
      generalize ns[k] = x at *
      have HO1 : Hid ((wr.alloc (.cells #[.int .i64 ((k : Int) + 1), .int .i64 (x : Int), .int .i64 0, .int .i64 (x : Int)] 33)).drew.ownsRow w.heap.size 33 4 u3 k (flatS (mkTo ns k))) := Lib.hid (HOW.out.alloc _).drew
      have HB1 : Hid (Below w.heap.size w (wr.alloc (.cells #[.int .i64 ((k : Int) + 1), .int .i64 (x : Int), .int .i64 0, .int .i64 (x : Int)] 33)).drew) := Lib.hid (below_drew1 (HBr.out.trans (((Below.refl _ wr).alloc (Nat.le_refl _) _).mono HBr.out.size)))
      have hM : Hid (Rd (wr.alloc (.cells #[.int .i64 ((k : Int) + 1), .int .i64 (x : Int), .int .i64 0, .int .i64 (x : Int)] 33)).drew (wr.heap.size + 1) (some ⟨wr.heap.size, 0, none⟩) (scells ⟨(k : Int) + 1, (x : Int), 0, (x : Int)⟩)) := Lib.hid (Rd.made wr #[.int .i64 ((k : Int) + 1), .int .i64 (x : Int), .int .i64 0, .int .i64 (x : Int)] 33)
      have hwk : IntKind.i64.wrap ((k : Int) + 1) = (k : Int) + 1 := IntWalk.i64_in _ (by omega)
      have hsz := HBr.out.size
      go_wp2
      go_region_held_law (fun w' => w'.cell? ⟨g, off + k, none⟩ = some (.int .i64 (x : Int)))
        (first
          | go_keep
          | exact cell_up (HB1.out.grown hg3 HB1.out.size (fun j h => (HO1.out.lt j h).1)) (p := ⟨g, off + k, none⟩) hg HP.out)
        ((refine step_append_lies _ (by rfl) _ _ _ (by rfl) w.heap.size 33 i0 _ 4 32 Try.underlying22 hi hz0 hz1 hz2 rfl (by omega) u3 k _ (by rfl) HO1.out ⟨wr.heap.size, 0, none⟩ 1 1 (scells ⟨(k : Int) + 1, (x : Int), 0, (x : Int)⟩) (by first | rfl | simp only [hwk]) rfl (Rd.add_ hM.out) (scells_ones _) (by omega) (by unfold maxLen; omega) (by omega) (by simp; omega) (wr.heap.size + 1) (by simp) ?_; intro g2 cap w3 hown3 hg3 hat hlt3))
      have HO3 : Hid (w3.ownsRow w.heap.size 33 4 (.slice (some ⟨g2, 0, none⟩) (k + 1) cap) (k + 1) (flatS (mkTo ns (k + 1)))) := Lib.hid (by
        rw [HX.out, flatS_append, flatS_one]
        exact hown3)
      have HB3 : Hid (Below w.heap.size w w3) := Lib.hid (HB1.out.grown hg3 HB1.out.size (fun j h => (HO1.out.lt j h).1))
      clear hown3 hg3 HO1 HB1 hM
      go_wp2
      exact ⟨⟨k + 1, by omega, by go_num, HO3, HB3⟩, by simp [intOf]; omega⟩
    · have hd : decide ((k : Int) < (ns.length : Int)) = false := decide_eq_false (by omega)
      have HK : Hid (ns.length = k) := Lib.hid (by omega)
      go_wp2
      go_ret
      refine ⟨HBr.out, _, rfl, ?_⟩
      rw [HK.out]
      exact HOW.out
