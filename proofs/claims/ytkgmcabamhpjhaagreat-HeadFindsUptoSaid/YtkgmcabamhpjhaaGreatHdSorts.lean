/- The contract of the document's Sort of records: the records in their order, in a new row; their labels lie where they lay. Condition: at most 2^41 records. · The document's head in memory: its box, its row of records, their labels where they came in; the contracts of its New, All and Take. Conditions: none but that it lies in memory. -/
import Derived.Test.YtkgmcabamhpjhaaGreatHdSpecs
import Derived.Test.YtkgmcabamhpjhaaGreatLbRefs
import Derived.Test.YtkgmcabamhpjhaaGreatHdMems
import Derived.Deep.RegionLaw
import Derived.BigQuiet
import Derived.StillTailTactics
namespace Go.Proofs.YtkgmcabamhpjhaaGreat.HdSort
open Go Go.RowKit Words AppN Less LbSpec LbMem LbRef RcSpec RcAll RcMem RcRef HdSpec HdRm HdMem UtOwn

def LRel (l : List RM) (w : World) (vo vi : Value) (wr : World) : Prop :=
  ∃ k : Nat, k ≤ l.length ∧ vi = .int .i64 (k : Int) ∧ Hid (wr.ownsRow w.heap.size 47 4 vo (sortM (l.take k)).length (flatR (sortM (l.take k)))) ∧ Hid (Below w.heap.size w wr)
def PRel (o : List RM) (x : RM) (w : World) (vo vi : Value) (wr : World) : Prop :=
  ∃ j : Nat, j ≤ o.length ∧ vi = .int .i64 (j : Int) ∧ Hid (backM x o = backTo x.1 (recsOf o) j) ∧ Hid (wr.ownsRow w.heap.size 47 4 vo o.length (flatR o)) ∧ Hid (Below w.heap.size w wr)
theorem own_keep4 {w w' : World} {base n : Nat} {e : TypeId} {v : Value} {xs : List Value} (h : w.ownsRow base e 4 v n xs) (hb : Below w.heap.size w w') : w'.ownsRow base e 4 v n xs := LbCanon.own_keepN h hb
theorem put_own {w : World} {base p N : Nat} {v : Value} {x : RM} {o : List RM} (_hp : p ≤ o.length) (he : backM x o = p)
    (h : w.ownsRow base 47 4 v N (flatR (o.take p) ++ (rcells x ++ flatR (o.drop p)))) (hN : N = o.length + 1) : w.ownsRow base 47 4 v (putM x o).length (flatR (putM x o)) := by
  rw [putM_len, ← hN]
  have e2 : flatR (putM x o) = flatR (o.take p) ++ (rcells x ++ flatR (o.drop p)) := by
    unfold putM
    rw [he, flatR_append, show x :: o.drop p = [x] ++ o.drop p from rfl, flatR_append, flatR_one]
  rw [e2]
  exact h

theorem rd_drop {w : World} {B b off j : Nat} {l : List RM} (h : Rd w B (some ⟨b, off, .none⟩) (flatR l)) : Rd w B (some ⟨b, off + j * 4, .none⟩) (flatR (l.drop j)) := fun hn => by
  obtain ⟨b4, o4, e4, hb4, hd4⟩ := h (by rw [flatR_len] at hn ⊢; rw [List.length_drop] at hn; omega)
  cases e4
  refine ⟨b, off + j * 4, rfl, hb4, fun q u hu => ?_⟩
  rw [← flatR_drop, List.getElem?_drop] at hu
  rw [Nat.add_assoc]
  exact hd4 _ u hu
theorem own_monoN {w : World} {base base' n sz : Nat} {e : TypeId} {v : Value} {xs : List Value} (h : w.ownsRow base e sz v n xs) (hb : base' ≤ base) : w.ownsRow base' e sz v n xs := by
  refine ⟨h.1, ?_⟩
  rcases h.2 with h1 | ⟨g, cap, cur, rfl, h3, r⟩
  · exact .inl h1
  · exact .inr ⟨g, cap, cur, rfl, by omega, r⟩

set_option maxHeartbeats 6400000 in
set_option maxRecDepth 100000 in
theorem rsort_any (w : World) (l : List RM) (A : Option Addr) (n c : Nat) (h : Rl w A n c l) (hl : l.length ≤ 2199023255552) :
    Calls Tryz.prog 36 #[.slice A n c] w fun e w' => ∃ v, e = .returned v ∧ w'.ownsRow w.heap.size 47 4 v (sortM l).length (flatR (sortM l)) ∧ Below w.heap.size w w' := by
  obtain ⟨i1, gi, gz0, gz1, gz2⟩ := info_parts info_record
  have H1 := Lib.hid h.rd
  obtain ⟨rfl, hnc, hcm, _, _⟩ := h
  unfold maxLen at hcm
  go_enter Tryz.func36, Tryz.ntmps36
  go_wp2
  go_loopw [3, 4] (fun vo vi wr => LRel l w vo vi wr) (fun _ vi _ => l.length - (intOf vi).toNat)
  case atStart => exact ⟨0, Nat.zero_le _, rfl, Lib.hid (World.ownsRow_nil ..), Lib.hid (Below.refl _ _)⟩
  case round =>
    obtain ⟨k, hk, rfl, HO, HB⟩ := hrel
    by_cases hlt : k < l.length
    · obtain ⟨b1, o1, rfl, hbb, hc⟩ := H1.out (by rw [flatR_len]; omega)
      have HQ := Lib.hid (cellsR hc hlt)
      have HON := Lib.hid (sortM_take hlt)
      have hol : (sortM (l.take k)).length ≤ k := by rw [sortM_len]; exact List.length_take_le _ _
      generalize l[k] = x at *
      generalize sortM (l.take k) = o at *
      have hpl := backM_le x o
      obtain ⟨⟨tx, sx, lx, nx⟩, Ax, mx, cx⟩ := x
      simp only at HQ
      unfold slV at HQ
      simp only at HQ
      clear hc
      obtain ⟨Ao, co, rfl, ho1, ho2, _⟩ := own_row HO.out (flatR_len o)
      unfold maxLen at ho2
      obtain ⟨wo, hwo⟩ : ∃ wo : World, wo = wr := ⟨_, rfl⟩
      subst hwo
      go_wp2
      go_loopw [5] (fun vi wr => PRel o (⟨tx, sx, lx, nx⟩, Ax, mx, cx) w _ vi wr) (fun vi _ => (intOf vi).toNat)
      case atStart => exact ⟨o.length, Nat.le_refl _, rfl, Lib.hid rfl, HO, HB⟩
      case round =>
        obtain ⟨j, hj, rfl, HBK, HO2, HB2⟩ := hrel
        clear HO
        have hro := (show Rd wr wr.heap.size Ao (flatR o) by
          obtain ⟨A', c', e, _, _, hr⟩ := own_row HO2.out (flatR_len o)
          cases e
          exact hr)
        have HRo := Lib.hid hro
        clear hro
        by_cases hj0 : j = 0
        case' pos =>
          have hd0 : decide (0 < (j : Int)) = false := by simp; omega
          have hd2 : decide (0 < j) = false := by simp; omega
          have hd3 : ¬ 0 < j := by omega
          have hd4 : ¬ (0 : Int) < (j : Int) := by omega
          have HP : Hid (backM (⟨⟨tx, sx, lx, nx⟩, Ax, mx, cx⟩ : RM) o = j) := Lib.hid (by rw [HBK.out, hj0]; rfl)
          clear HBK HRo hj0
          go_wp2
          go_quiet (fail)
          obtain ⟨wx, hwx⟩ : ∃ wx, wr.drewN nq = wx := ⟨_, rfl⟩
          have HOx : Hid (wx.ownsRow w.heap.size 47 4 (.slice Ao o.length co) o.length (flatR o)) := Lib.hid (hwx ▸ HO2.out)
          have HBx : Hid (Below w.heap.size w wx) := Lib.hid (hwx ▸ (show Below w.heap.size w (wr.drewN nq) from ⟨HB2.out.os, HB2.out.tape, HB2.out.output, HB2.out.size, HB2.out.block⟩))
          rw [hwx]
          clear hwx HO2 HB2
        case' neg =>
          obtain ⟨i, hji⟩ : ∃ i, j = i + 1 := ⟨j - 1, by omega⟩
          have hio : i < o.length := by omega
          obtain ⟨b2, o2, hao, hb2, hd⟩ := HRo.out (by rw [flatR_len]; omega)
          have HMORE := Lib.hid (back_more (x := (⟨⟨tx, sx, lx, nx⟩, Ax, mx, cx⟩ : RM)) hio)
          have HSTOP := Lib.hid (back_stop (x := (⟨⟨tx, sx, lx, nx⟩, Ax, mx, cx⟩ : RM)) hio)
          obtain ⟨y0, y1, y2, y3⟩ := cellsR hd hio
          have HCC := Lib.hid (fun w => rcmpr_any w o[i] (⟨⟨tx, sx, lx, nx⟩, Ax, mx, cx⟩ : RM))
          generalize o[i] = y at *
          obtain ⟨⟨ty, sy, ly, ny⟩, Ay, my, cy⟩ := y
          unfold slV at y2
          unfold aggR slV S8 at HCC
          simp only at y0 y1 y2 y3 HCC HMORE HSTOP
          have x0 := (HB2.out.cell (p := ⟨b1, o1 + k * 4, .none⟩) hbb).trans HQ.out.1
          have x1 := (HB2.out.cell (p := ⟨b1, o1 + k * 4 + 1, .none⟩) hbb).trans HQ.out.2.1
          have x2 := (HB2.out.cell (p := ⟨b1, o1 + k * 4 + 2, .none⟩) hbb).trans HQ.out.2.2.1
          have x3 := (HB2.out.cell (p := ⟨b1, o1 + k * 4 + 3, .none⟩) hbb).trans HQ.out.2.2.2
          have r0 : IntKind.i64.wrap (i : Int) = (i : Int) := by rw [IntKind.wrap_i64]; omega
          have r9 : IntKind.i64.wrap (k : Int) = (k : Int) := by rw [IntKind.wrap_i64]; omega
          have r1 : (j : Int) - 1 = (i : Int) := by omega
          have r2 : (0 : Int) < (j : Int) := by omega
          have r7 : 0 < j := by omega
          have r3 : (i : Int) < (o.length : Int) := by omega
          have r4 : (0 : Int) ≤ (i : Int) := by omega
          have r5 : (0 : Int) ≤ (k : Int) := by omega
          have r6 : (k : Int) < (l.length : Int) := by omega
          have HJI := Lib.hid hji
          rw [hji] at HBK
          subst hao
          generalize cmpR ⟨ty, sy, ly, ny⟩ ⟨tx, sx, lx, nx⟩ = q at *
          clear hd hji hj0
          go_wp2
          refine wp_region_still_tail 12 (by kernel_rfl) (by kernel_rfl) ?_
          simp only [List.take_succ_cons, List.take_zero, List.drop_succ_cons, List.drop_zero]
          iterate 12 (refine wpStill_step (fun K hK => ?_); go_simp; refine hK _ ?_; clear hK K)
          refine wpStill_nil ?_
          change wpList _ _ _ _ _ wr.drew
          go_wp2_with fail
          refine (HCC.out _).mono ?_
          rintro e wx ⟨rfl, hb5⟩
          have HOx : Hid (wx.ownsRow w.heap.size 47 4 (.slice (some ⟨b2, o2, .none⟩) o.length co) o.length (flatR o)) := Lib.hid (own_keep4 (w := wr.drew) HO2.out hb5)
          have HBx : Hid (Below w.heap.size w wx) := Lib.hid ((below_drew1 HB2.out).trans (hb5.mono HB2.out.size))
          clear hb5 HO2 HB2 HRo HCC x0 x1 x2 x3 y0 y1 y2 y3 r0 r9 r1 r3 r4 r5 r6
          by_cases hq0 : 0 < q
          case' pos =>
            have HP : Hid (backM (⟨⟨tx, sx, lx, nx⟩, Ax, mx, cx⟩ : RM) o = backTo ⟨tx, sx, lx, nx⟩ (recsOf o) i) := Lib.hid (by rw [HBK.out, HMORE.out hq0])
            clear HBK HMORE HSTOP
            have r1 : (j : Int) - 1 = (i : Int) := by have := HJI.out; omega
            go_wp2
            go_roundw
            case rel => exact ⟨i, by have := HJI.out; omega, by go_num, HP, HOx, HBx⟩
            case measure => simp [intOf]; omega
          case' neg =>
            have HP : Hid (backM (⟨⟨tx, sx, lx, nx⟩, Ax, mx, cx⟩ : RM) o = j) := Lib.hid (by rw [HBK.out, HSTOP.out (by omega), HJI.out])
            clear HBK HMORE HSTOP
            clear r2
            have hd1 : decide (0 < q) = false := decide_eq_false hq0
        all_goals
          have hjp := HP.out
          have HX0 : Hid (wx.cell? ⟨b1, o1 + k * 4, .none⟩ = some (.int .i64 tx) ∧ wx.cell? ⟨b1, o1 + k * 4 + 1, .none⟩ = some (.int .u64 (sx : Int)) ∧ wx.cell? ⟨b1, o1 + k * 4 + 2, .none⟩ = some (.slice Ax mx cx) ∧ wx.cell? ⟨b1, o1 + k * 4 + 3, .none⟩ = some (.string ⟨nx.toArray⟩)) := Lib.hid ⟨(HBx.out.cell (p := ⟨b1, o1 + k * 4, .none⟩) hbb).trans HQ.out.1, (HBx.out.cell (p := ⟨b1, o1 + k * 4 + 1, .none⟩) hbb).trans HQ.out.2.1, (HBx.out.cell (p := ⟨b1, o1 + k * 4 + 2, .none⟩) hbb).trans HQ.out.2.2.1, (HBx.out.cell (p := ⟨b1, o1 + k * 4 + 3, .none⟩) hbb).trans HQ.out.2.2.2⟩
          obtain ⟨A', c', eA, _, _, hrx⟩ := own_row HOx.out (flatR_len o)
          cases eA
          have HRx := Lib.hid hrx
          clear hrx
          have F1 : Hid ((flatR (o.take j)).length = j * 4) := Lib.hid (by rw [flatR_len, List.length_take]; congr 1; omega)
          have F7 : Hid ((flatR (o.drop j)).length = (o.length - j) * 4) := Lib.hid (by rw [flatR_len, List.length_drop])
          have FT := Lib.hid (flatR_ones (o.take j))
          have FD := Lib.hid (flatR_ones (o.drop j))
          have FX1 := Lib.hid (rcells_ones (⟨⟨tx, sx, lx, nx⟩, Ax, mx, cx⟩ : RM))
          have HRT := Lib.hid (HRx.out.take (j * 4))
          rw [flatR_take] at HRT
          have HS0 := Lib.hid HBx.out.size
          have G1 : 0 + j ≤ maxLen := by unfold maxLen; omega
          have G2 : (0 + j) * 56 ≤ 140737488355328 := by omega
          have G3 : j + 1 ≤ maxLen := by unfold maxLen; omega
          have G4 : (j + 1) * 56 ≤ 140737488355328 := by omega
          have G5 : j + 1 + (o.length - j) ≤ maxLen := by unfold maxLen; omega
          have G6 : (j + 1 + (o.length - j)) * 56 ≤ 140737488355328 := by omega
          have HOWN0 := Lib.hid (World.ownsRow_nil wx wx.heap.size 47 4)
          clear hjp
          go_wp2_with (at_builtin; refine wpList_append_rd _ rfl (.tmp 32) (.tmp 35) 28 rfl wx.heap.size 4 47 i1 (.agg #[.int .i64 0, .int .u64 0, .slice .none 0 0, .string ByteArray.empty]) 56 Tryz.underlying28 gi gz0 gz1 gz2 rfl (by omega) _ _ _ rfl HOWN0.out wx.heap.size _ _ _ (flatR (o.take j)) rfl F1.out HRT.out FT.out G1 G2 (Nat.le_refl _) ?_)
          intro v1 w1 hown1 hg1 _
          have HO1 := Lib.hid hown1
          have HB1 := Lib.hid (HBx.out.grown hg1 HBx.out.size (fun g h => by cases h))
          have HR1 := Lib.hid (HRx.out.grown hg1 (Nat.le_refl _) (fun g h => by cases h))
          have hs1 : wx.heap.size ≤ w1.heap.size := hg1.size
          have a0 := (HB1.out.cell (p := ⟨b1, o1 + k * 4, .none⟩) hbb).trans HQ.out.1
          have a1 := (HB1.out.cell (p := ⟨b1, o1 + k * 4 + 1, .none⟩) hbb).trans HQ.out.2.1
          have a2 := (HB1.out.cell (p := ⟨b1, o1 + k * 4 + 2, .none⟩) hbb).trans HQ.out.2.2.1
          have a3 := (HB1.out.cell (p := ⟨b1, o1 + k * 4 + 3, .none⟩) hbb).trans HQ.out.2.2.2
          have HM := Lib.hid (Rd.made w1 #[.int .i64 tx, .int .u64 (sx : Int), .slice Ax mx cx, .string ⟨nx.toArray⟩] 47)
          have hsz1 : wx.heap.size ≤ (w1.alloc (.cells #[.int .i64 tx, .int .u64 (sx : Int), .slice Ax mx cx, .string ⟨nx.toArray⟩] 47)).heap.size := by simp; omega
          clear hown1 hg1
          go_wp2_with (at_builtin; refine wpList_append_rd _ rfl (.tmp 37) (.tmp 42) 28 rfl wx.heap.size 4 47 i1 (.agg #[.int .i64 0, .int .u64 0, .slice .none 0 0, .string ByteArray.empty]) 56 Tryz.underlying28 gi gz0 gz1 gz2 rfl (by omega) _ _ _ rfl (HO1.out.alloc _) (w1.heap.size + 1) _ _ _ [.int .i64 tx, .int .u64 (sx : Int), .slice Ax mx cx, .string ⟨nx.toArray⟩] rfl rfl HM.out FX1.out G3 G4 hsz1 ?_)
          intro v2 w2 hown2 hg2 _
          have HO2b := Lib.hid hown2
          have HR2 := Lib.hid ((HR1.out.alloc hs1 _).grown hg2 hsz1 (fun g h => (HO1.out.lt g h).1))
          have HB2b := Lib.hid ((HB1.out.alloc HB1.out.size _).grown hg2 (by have := HB1.out.size; simp; omega) (fun g h => by have := (HO1.out.lt g h).1; have := HS0.out; omega))
          have hs2 : wx.heap.size ≤ w2.heap.size := by have := hg2.size; omega
          clear hown2 hg2 a0 a1 a2 a3 HM HO1 HR1 HB1
          by_cases hlo : j < o.length
          · have hcj : ¬ co = j := by omega
            obtain ⟨b3, o3, e3, _, _⟩ := HR2.out (by rw [flatR_len]; omega)
            first | subst e3 | clear e3
            have HRD := HR2
            go_wp2_with (at_builtin; refine wpList_append_rd _ rfl (.tmp 44) (.tmp 47) 28 rfl wx.heap.size 4 47 i1 (.agg #[.int .i64 0, .int .u64 0, .slice .none 0 0, .string ByteArray.empty]) 56 Tryz.underlying28 gi gz0 gz1 gz2 rfl (by omega) _ _ _ rfl HO2b.out wx.heap.size _ _ _ (flatR (o.drop j)) rfl F7.out (rd_drop HR2.out) FD.out G5 G6 hs2 ?_)
            intro v3 w3 hown3 hg3 _
            have HO3 := Lib.hid (own_monoN (put_own hj HP.out hown3 (by omega)) HS0.out)
            have HB3 := Lib.hid (HB2b.out.grown hg3 (by have := HS0.out; omega) (fun g h => by have := (HO2b.out.lt g h).1; have := HS0.out; omega))
            clear hown3 hg3 HO2b HR2 HB2b HRD
            go_wp2
            go_roundw
            case rel => exact ⟨k + 1, by omega, by go_num, by rw [HON.out]; exact HO3, HB3⟩
            case measure => simp [intOf]; omega
          · have hge : o.length ≤ j := by omega
            have F8 : Hid ((flatR (o.drop j)).length = 0 * 4) := Lib.hid (by rw [flatR_len, List.length_drop]; omega)
            have G7 : j + 1 + 0 ≤ maxLen := by unfold maxLen; omega
            have G8 : (j + 1 + 0) * 56 ≤ 140737488355328 := by omega
            clear hlo
            have hd1 : decide (j < o.length) = false := by simp; omega
            have HE : Hid (flatR (o.drop j) = []) := Lib.hid (by rw [List.drop_eq_nil_of_le hge]; rfl)
            by_cases hcj : co = j
            · obtain rfl : j = co := hcj.symm
              have HRD : Hid (∀ A, Rd w2 wx.heap.size A []) := Lib.hid (fun A => Rd.nil_)
              rw [HE.out] at F8 FD
              go_wp2_with (at_builtin; refine wpList_append_rd _ rfl (.tmp 44) (.tmp 47) 28 rfl wx.heap.size 4 47 i1 (.agg #[.int .i64 0, .int .u64 0, .slice .none 0 0, .string ByteArray.empty]) 56 Tryz.underlying28 gi gz0 gz1 gz2 rfl (by omega) _ _ _ rfl HO2b.out wx.heap.size _ _ _ [] rfl F8.out (HRD.out _) FD.out G7 G8 hs2 ?_)
              intro v3 w3 hown3 hg3 _
              have hown4 : w3.ownsRow wx.heap.size 47 4 v3 (o.length + 1) (flatR (o.take j) ++ (rcells (⟨⟨tx, sx, lx, nx⟩, Ax, mx, cx⟩ : RM) ++ flatR (o.drop j))) := by
                rw [HE.out, List.append_nil, show o.length + 1 = j + 1 from by omega]
                exact hown3
              have HO3 := Lib.hid (own_monoN (put_own hj HP.out hown4 rfl) HS0.out)
              have HB3 := Lib.hid (HB2b.out.grown hg3 (by have := HS0.out; omega) (fun g h => by have := (HO2b.out.lt g h).1; have := HS0.out; omega))
              clear hg3 HO2b HR2 HB2b HRD
              go_wp2
              go_roundw
              case rel => exact ⟨k + 1, by omega, by go_num, by rw [HON.out]; exact HO3, HB3⟩
              case measure => simp [intOf]; omega
            · have HRD : Hid (∀ A, Rd w2 wx.heap.size A []) := Lib.hid (fun A => Rd.nil_)
              rw [HE.out] at F8 FD
              go_wp2_with (at_builtin; refine wpList_append_rd _ rfl (.tmp 44) (.tmp 47) 28 rfl wx.heap.size 4 47 i1 (.agg #[.int .i64 0, .int .u64 0, .slice .none 0 0, .string ByteArray.empty]) 56 Tryz.underlying28 gi gz0 gz1 gz2 rfl (by omega) _ _ _ rfl HO2b.out wx.heap.size _ _ _ [] rfl F8.out (HRD.out _) FD.out G7 G8 hs2 ?_)
              intro v3 w3 hown3 hg3 _
              have hown4 : w3.ownsRow wx.heap.size 47 4 v3 (o.length + 1) (flatR (o.take j) ++ (rcells (⟨⟨tx, sx, lx, nx⟩, Ax, mx, cx⟩ : RM) ++ flatR (o.drop j))) := by
                rw [HE.out, List.append_nil, show o.length + 1 = j + 1 from by omega]
                exact hown3
              have HO3 := Lib.hid (own_monoN (put_own hj HP.out hown4 rfl) HS0.out)
              have HB3 := Lib.hid (HB2b.out.grown hg3 (by have := HS0.out; omega) (fun g h => by have := (HO2b.out.lt g h).1; have := HS0.out; omega))
              clear hg3 HO2b HR2 HB2b HRD
              go_wp2
              go_roundw
              case rel => exact ⟨k + 1, by omega, by go_num, by rw [HON.out]; exact HO3, HB3⟩
              case measure => simp [intOf]; omega
    · obtain rfl : k = l.length := by omega
      rw [List.take_length] at HO
      go_wp2
      go_ret
      exact ⟨_, rfl, HO.out, HB.out⟩
end Go.Proofs.YtkgmcabamhpjhaaGreat.HdSort

namespace Go.Proofs.YtkgmcabamhpjhaaGreat.HdRef
open Go Go.RowKit Words AppN Less LbSpec LbMem LbRef RcSpec RcAll RcMem RcRef HdSpec HdRm HdMem HdKm HdLaw HdSort UtOwn Km

/-- A head: its box in block p, its records in a row; both of the number o; the labels of the number 0. -/
structure RefB (w : World) (K : Nat → Nat) (o p : Nat) (l : List Rec) (s : Option Nat) (ms : List RM) (v : Value) : Prop where
  recs : recsOf ms = l
  box : w.heap[p]? = some (.cells #[v, .int .u64 ((s.getD 0 : Nat) : Int), .bool s.isSome] 62 (0, 0))
  kp : K p = o
  own : w.ownsRow 0 47 4 v ms.length (flatR ms)
  kv : ∀ q, v.ownBlock = some q → K q = o ∧ q ≠ p
  each : ∀ m ∈ ms, Okm w m ∧ ∀ b off, m.2.1 = some ⟨b, off, .none⟩ → 0 < m.1.labels.length → K b = 0
def RefR (w : World) (K : Nat → Nat) (o p : Nat) (h : HSt) : Prop := HdSpec.Good h ∧ ∃ ms v, RefB w K o p h.recs h.last ms v
section
variable {w w' : World} {K K' : Nat → Nat} {S : Nat → Prop} {o p : Nat} {l : List Rec} {s : Option Nat} {ms : List RM} {v : Value}
theorem RefB.lt (h : RefB w K o p l s ms v) : p < w.heap.size := (Array.getElem?_eq_some_iff.1 h.box).1
theorem RefB.mo (h : RefB w K o p l s ms v) (ht : Mo K K' S w w') (ho : ¬ S o) (h0 : ¬ S 0) : RefB w' K' o p l s ms v := by
  have hp := ht.keep p h.lt (by rw [h.kp]; exact ho)
  obtain ⟨h1, h2⟩ := own_mo h.own (fun q hq => (h.kv q hq).1) ht ho
  refine ⟨h.recs, hp.1.trans h.box, hp.2.trans h.kp, h1, fun q hq => ⟨h2 q hq, (h.kv q hq).2⟩, fun m hm => ?_⟩
  obtain ⟨h3, h4⟩ := okm_mo (h.each m hm).1 ht (fun b off e hn => by rw [(h.each m hm).2 b off e hn]; exact h0)
  exact ⟨h3, fun b off e hn => (h4 b off e hn).trans ((h.each m hm).2 b off e hn)⟩
theorem RefR.mo {h : HSt} (hr : RefR w K o p h) (ht : Mo K K' S w w') (ho : ¬ S o) (h0 : ¬ S 0) : RefR w' K' o p h := by
  obtain ⟨hg, ms, v, hb⟩ := hr
  exact ⟨hg, ms, v, hb.mo ht ho h0⟩
theorem RefB.rl (h : RefB w K o p l s ms v) : ∃ A c, v = .slice A ms.length c ∧ Rl w A ms.length c ms := by
  obtain ⟨A, c, e, h1, h2, h3⟩ := own_row h.own (flatR_len ms)
  exact ⟨A, c, e, rfl, h1, h2, h3, fun m hm => (h.each m hm).1⟩
end
theorem cell_of_heap {w : World} {g j : Nat} {cs : Array Value} {t : TypeId} {u : Value} (h : w.heap[g]? = some (.cells cs t (0, 0))) (hj : cs[j]? = some u) : w.cell? ⟨g, j, .none⟩ = some u := by
  unfold World.cell?
  rw [h]
  simpa using hj
theorem frozen_of_heap {w : World} {g j : Nat} {cs : Array Value} {t : TypeId} (h : w.heap[g]? = some (.cells cs t (0, 0))) : w.frozen? ⟨g, j, .none⟩ = false := by
  unfold World.frozen?
  rw [h]
  simp

theorem eq_some (b o : Nat) (w : World) : (binOp .eql 26 (.pointer (some ⟨b, o, .none⟩)) (.pointer .none)).run Tryz.prog w = .ok (.bool false) w := by kernel_rfl
theorem ne_some (b o : Nat) (w : World) : (binOp .neq 26 (.pointer (some ⟨b, o, .none⟩)) (.pointer .none)).run Tryz.prog w = .ok (.bool true) w := by kernel_rfl
theorem eq_nil (w : World) : (binOp .eql 26 (.pointer .none) (.pointer .none)).run Tryz.prog w = .ok (.bool true) w := by kernel_rfl
theorem ne_nil (w : World) : (binOp .neq 26 (.pointer .none) (.pointer .none)).run Tryz.prog w = .ok (.bool false) w := by kernel_rfl
set_option maxHeartbeats 1600000 in
theorem rnew_any (w : World) (K : Nat → Nat) (o : Nat) : Calls Tryz.prog 9 #[] w fun e w' => ∃ p K', e = .returned (.pointer (some ⟨p, 0, .none⟩)) ∧ RefR w' K' o p HdSpec.new ∧ Mo K K' (fun _ => False) w w' := by
  have HN : Hid (RefR (w.alloc (.cells #[.slice .none 0 0, .int .u64 0, .bool false] 62)) (kmark K w.heap.size o) o w.heap.size HdSpec.new) := Lib.hid ⟨good_new, [], .slice .none 0 0, rfl, heap_alloc_new w _, kmark_new (Nat.le_refl _), World.ownsRow_nil _ _ _ _, fun q hq => (by cases hq), fun m hm => (by cases hm)⟩
  have HM : Hid (Mo K (kmark K w.heap.size o) (fun _ => False) w (w.alloc (.cells #[.slice .none 0 0, .int .u64 0, .bool false] 62))) := Lib.hid (Mo.new ((Below.refl _ w).alloc (Nat.le_refl _) _) o)
  go_enter Tryz.func9, Tryz.ntmps9
  go_wp2
  go_ret
  exact ⟨w.heap.size, _, rfl, HN.out, HM.out⟩

/-- What All answers: in a new row, the labels where they lay. -/
def APost (w : World) (K : Nat → Nat) (l : List Rec) (e : Ending) (w' : World) : Prop := ∃ A c ms, e = .returned (.slice A ms.length c) ∧ recsOf ms = l ∧ Rl w' A ms.length c ms ∧ Lies (kmark K w.heap.size 0) (fun x => x = 0) A ms ∧ Below w.heap.size w w'
set_option maxHeartbeats 1600000 in
set_option maxRecDepth 100000 in
theorem rall_any (w : World) (K : Nat → Nat) (o p : Nat) (h : HSt) (hr : RefR w K o p h) : Calls Tryz.prog 16 #[(.pointer (some ⟨p, 0, .none⟩))] w (APost w K (HdSpec.all h)) := by
  obtain ⟨hg, ms, v, hb⟩ := hr
  obtain ⟨A, c, rfl, hrl⟩ := hb.rl
  have hlen : ms.length ≤ 65536 := by
    have := hg.few
    rw [← hb.recs] at this
    simpa [recsOf] using this
  have k0 : w.cell? ⟨p, 0, .none⟩ = some (.slice A ms.length c) := cell_of_heap hb.box rfl
  have CS := Lib.hid (rsort_any w ms A ms.length c hrl (by omega))
  have HE := Lib.hid hrl.each
  have HL := Lib.hid hb.each
  have HR : Hid (recsOf (sortM ms) = HdSpec.all h) := Lib.hid (by rw [recs_sortM, hb.recs]; rfl)
  clear hrl hb hg
  have hn := eq_some p 0
  go_enter Tryz.func16, Tryz.ntmps16
  go_wp2_with fail
  refine CS.out.mono ?_
  rintro e w1 ⟨v1, rfl, hown, hb1⟩
  have HOWN := Lib.hid hown
  obtain ⟨A1, c1, rfl, h1, h2, h3⟩ := own_row hown (flatR_len _)
  have HB := Lib.hid hb1
  have HRL : Hid (Rl w1 A1 (sortM ms).length c1 (sortM ms)) := Lib.hid ⟨rfl, h1, h2, h3, fun m hm => (HE.out m (mem_sortM.1 hm)).below hb1⟩
  have HLI : Hid (Lies (kmark K w.heap.size 0) (fun x => x = 0) A1 (sortM ms)) := Lib.hid ⟨fun b off e hn => by
      subst e
      rcases HOWN.out.2 with ⟨h0, _⟩ | ⟨g, cap, cur, h0, hge, _⟩
      · injection h0 with h0
        cases h0
      · injection h0 with h0
        cases h0
        exact kmark_new hge, fun m hm b off e hn => by
      have hm' := mem_sortM.1 hm
      obtain ⟨b', off', e', hlt, _⟩ := (HL.out m hm').1.labs.2.2.2 (flat_pos.2 hn)
      have h0 := (HL.out m hm').2 b off e hn
      rw [e] at e'
      cases e'
      exact (kmark_old hlt).trans h0⟩
  clear h1 h2 h3 hown hb1 CS HOWN HL
  go_wp2
  go_ret
  exact ⟨A1, c1, sortM ms, rfl, HR.out, HRL.out, HLI.out, HB.out⟩
set_option maxHeartbeats 1600000 in
theorem rallNil_any (w : World) : Calls Tryz.prog 16 #[.pointer .none] w fun e w' => e = .returned (.slice .none 0 0) ∧ w = w' := by
  have hn := eq_nil
  go_enter Tryz.func16, Tryz.ntmps16
  go_wp2
  go_ret
  exact ⟨rfl, rfl⟩
set_option maxHeartbeats 1600000 in
set_option maxRecDepth 100000 in
theorem rtake_any (w : World) (K : Nat → Nat) (o p : Nat) (h : HSt) (hr : RefR w K o p h) (ho : o ≠ 0) : Calls Tryz.prog 21 #[(.pointer (some ⟨p, 0, .none⟩))] w fun e w' => ∃ A c ms, e = .returned (.slice A ms.length c) ∧ ∃ K', recsOf ms = HdSpec.all h ∧ Rl w' A ms.length c ms ∧ Lies K' (fun x => x = 0) A ms ∧ RefR w' K' o p (taken h) ∧ Mo K K' (fun x => x = o) w w' := by
  have CA := Lib.hid (rall_any w K o p h hr)
  have HR := Lib.hid hr
  obtain ⟨hg, ms, v, hb⟩ := hr
  have HBX := Lib.hid hb.box
  have HKP := Lib.hid hb.kp
  have HG := Lib.hid hg
  clear hb hg
  have hn := ne_some p 0
  go_enter Tryz.func21, Tryz.ntmps21
  go_wp2_with fail
  refine CA.out.mono ?_
  rintro e w1 ⟨A, c, ms9, rfl, hms, hrl, hli, hb1⟩
  have hlt : p < w.heap.size := (Array.getElem?_eq_some_iff.1 HBX.out).1
  have hbox1 : w1.heap[p]? = some (.cells #[v, .int .u64 ((h.last.getD 0 : Nat) : Int), .bool h.last.isSome] 62 (0, 0)) := (hb1.block p hlt).trans HBX.out
  have k0 := cell_of_heap (j := 0) hbox1 rfl
  have kf := frozen_of_heap (j := 0) hbox1
  have hm0 : Mo K (kmark K w.heap.size 0) (fun x => x = o) w w1 := Mo.new hb1 0
  have hm1 : Mo (kmark K w.heap.size 0) (kmark K w.heap.size 0) (fun x => x = o) w1 (w1.setCell ⟨p, 0, .none⟩ (.slice .none 0 0)) := Mo.poke _ (show kmark K w.heap.size 0 p = o from (kmark_old hlt).trans HKP.out)
  have HM : Hid (Mo K (kmark K w.heap.size 0) (fun x => x = o) w (w1.setCell ⟨p, 0, .none⟩ (.slice .none 0 0))) := Lib.hid (hm0.trans hm1)
  obtain ⟨hr2, hl2⟩ := rl_mo hrl hli hm1 (fun q hq => by subst hq; exact fun e => ho e.symm)
  have HR2 := Lib.hid hr2
  have HL2 := Lib.hid hl2
  have HMS := Lib.hid hms
  have HRF : Hid (RefR (w1.setCell ⟨p, 0, .none⟩ (.slice .none 0 0)) (kmark K w.heap.size 0) o p (taken h)) := Lib.hid ⟨good_taken HG.out, [], .slice .none 0 0, rfl, (heap_setCell_same w1 p 0 _ _ (.slice .none 0 0) hbox1).trans (by simp [taken]), (kmark_old hlt).trans HKP.out, World.ownsRow_nil _ _ _ _, fun q hq => (by cases hq), fun m hm => (by cases hm)⟩
  clear hm0 hm1 hr2 hl2 hms hrl hli hb1 hbox1 CA HR
  go_wp2
  go_ret
  exact ⟨A, c, ms9, rfl, _, HMS.out, HR2.out, HL2.out, HRF.out, HM.out⟩
set_option maxHeartbeats 1600000 in
theorem rtakeNil_any (w : World) : Calls Tryz.prog 21 #[.pointer .none] w fun e w' => e = .returned (.slice .none 0 0) ∧ w = w' := by
  have hn := ne_nil
  have CA := Lib.hid (rallNil_any w)
  go_enter Tryz.func21, Tryz.ntmps21
  go_wp2_with fail
  refine CA.out.mono ?_
  rintro e w' ⟨rfl, rfl⟩
  go_wp2
  go_ret
  exact ⟨rfl, rfl⟩
end Go.Proofs.YtkgmcabamhpjhaaGreat.HdRef

