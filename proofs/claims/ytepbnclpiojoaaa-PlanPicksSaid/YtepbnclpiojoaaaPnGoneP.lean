/- The contract of the program's Gone: the places, in a row of the call's own. Conditions: the segments lie in memory, at most 2^47 bytes of them. -/
import Derived.Test.YtepbnclpiojoaaaPnTier
namespace Go.Proofs.Ytepbnclpiojoaaa.PnGoneP
open Go Go.RowKit Words AppN PnSpec SgMem PnRef PnGone PnMerge PnSame PnLaw

set_option maxHeartbeats 3200000 in
set_option maxRecDepth 100000 in
theorem gone_own (w : World) (s : Sl) (l : List Sg) (mark : Int) (hs : Sgs w s l) (hl : l.length * 32 ≤ 140737488355328) :
    Calls Try.prog 15 #[slV s, .int .i64 mark] w fun e w' => Below w.heap.size w w' ∧ ∃ v, e = .returned v ∧ w'.ownsRow w.heap.size 3 1 v (gone (l.map Sg.most) mark).length ((gone (l.map Sg.most) mark).map IV) := by
  obtain ⟨A, n, c⟩ := s
  have HRD := Lib.hid hs.rd
  have hn := hs.len
  have hc := hs.le
  have hm := hs.cap
  simp only at hn hc hm
  unfold slV
  unfold maxLen at hm
  subst hn
  clear hs
  go_enter Try.func15, Try.ntmps15
  go_wp2
  obtain ⟨i0, hi, hz0, hz1, hz2⟩ := info_int
  have HML : Hid ((l.map Sg.most).length = l.length) := Lib.hid (by simp)
  have HGL := Lib.hid (fun k => goneTo_le (l.map Sg.most) mark k)
  have HGS := Lib.hid (fun k => goneTo_succ (l.map Sg.most) mark k)
  go_loopw [5, 10] (fun v u wr => GRel w (l.map Sg.most) mark v u wr) (fun _ u _ => l.length - (intOf u).toNat)
  case atStart => exact ⟨0, Nat.zero_le _, rfl, Lib.hid (World.ownsRow_nil _ _ _ _), Lib.hid (Below.refl _ _)⟩
  case round =>
    obtain ⟨k, hk, rfl, HOW, HBr⟩ := hrel
    rw [HML.out] at hk
    by_cases hlt : k < l.length
    · obtain ⟨g, off, rfl, hg, hcs⟩ := HRD.out (by rw [flatS_len]; omega)
      obtain ⟨p0, p1, p2, p3⟩ := cellsS hcs hlt
      have k0 := cell_up HBr.out (p := ⟨g, off + k * 4, none⟩) hg p0
      have k1 := cell_up HBr.out (p := ⟨g, off + k * 4 + 1, none⟩) hg p1
      have k2 := cell_up HBr.out (p := ⟨g, off + k * 4 + 2, none⟩) hg p2
      have k3 := cell_up HBr.out (p := ⟨g, off + k * 4 + 3, none⟩) hg p3
      have HD : Hid ((l.map Sg.most).getD k 0 = (l[k]).most) := Lib.hid (by simp [List.getD_eq_getElem?_getD, hlt])
      have HS := Lib.hid (HGS.out k)
      have hgl := HGL.out k
      rw [HD.out] at HS
      clear hcs p0 p1 p2 p3 HD HRD
      generalize l[k] = x at *
      obtain ⟨a0, a1, a2, a3⟩ := x
      simp only at k0 k1 k2 k3 HS
      generalize hG : goneTo (l.map Sg.most) mark k = G at *
      clear hG
      have HO1 : Hid ((wr.alloc (.cells #[.int .i64 a0, .int .i64 a1, .int .i64 a2, .int .i64 a3] 33)).ownsRow w.heap.size 3 1 u5 G.length (G.map IV)) := Lib.hid (HOW.out.alloc _)
      have HB1 : Hid (Below w.heap.size w (wr.alloc (.cells #[.int .i64 a0, .int .i64 a1, .int .i64 a2, .int .i64 a3] 33))) := Lib.hid (HBr.out.trans (((Below.refl _ wr).alloc (Nat.le_refl _) _).mono HBr.out.size))
      have HY : Hid ((wr.alloc (.cells #[.int .i64 a0, .int .i64 a1, .int .i64 a2, .int .i64 a3] 33)).heap[wr.heap.size]? = some (.cells #[.int .i64 a0, .int .i64 a1, .int .i64 a2, .int .i64 a3] 33 (0, 0))) := Lib.hid (heap_alloc_new wr _)
      by_cases e : a3 < mark
      · have HX : Hid (goneTo (l.map Sg.most) mark (k + 1) = G ++ [k]) := Lib.hid (by rw [HS.out, if_pos e])
        have hd : decide (a3 < mark) = true := decide_eq_true e
        clear HS e
        have HOA : Hid (((wr.alloc (.cells #[.int .i64 a0, .int .i64 a1, .int .i64 a2, .int .i64 a3] 33)).alloc (.cells #[.int .i64 (k : Int)] 3)).ownsRow w.heap.size 3 1 u5 G.length (G.map IV)) := Lib.hid (HO1.out.alloc _)
        have HBA : Hid (Below w.heap.size w ((wr.alloc (.cells #[.int .i64 a0, .int .i64 a1, .int .i64 a2, .int .i64 a3] 33)).alloc (.cells #[.int .i64 (k : Int)] 3))) := Lib.hid (HB1.out.trans (((Below.refl _ (wr.alloc (.cells #[.int .i64 a0, .int .i64 a1, .int .i64 a2, .int .i64 a3] 33))).alloc (Nat.le_refl _) _).mono HB1.out.size))
        go_wp2_with (at_builtin; refine wpList_append_own _ rfl (.tmp 19) (.tmp 21) 26 rfl w.heap.size 3 i0 (.int .i64 0) 1 8 Try.underlying26 hi hz0 hz1 hz2 rfl (by decide) _ _ _ rfl HOA.out ⟨wr.heap.size + 1, 0, none⟩ 1 1 ([k].map IV) ?c5 (by simp) ?c6 (iv_ones _) ?c3 ?c4 HBA.out.size ?_)
        case c5 => first | rfl | simp [World.alloc]
        case c6 => have := cellNew (wr.alloc (.cells #[.int .i64 a0, .int .i64 a1, .int .i64 a2, .int .i64 a3] 33)) (.int .i64 (k : Int)) 3; simpa [IV] using this
        case c3 => unfold maxLen; omega
        case c4 => omega
        intro v2 w2 hown2 hg2 _
        have hb2 : Below w.heap.size w w2 := HBA.out.grown hg2 HBA.out.size (own_lt1 HOA.out)
        have HO2 : Hid (w2.ownsRow w.heap.size 3 1 v2 (G ++ [k]).length ((G ++ [k]).map IV)) := Lib.hid (by
          rw [List.map_append, List.length_append]
          exact hown2)
        have HB2 := Lib.hid hb2
        clear hown2 hg2 hb2 HOA HBA
        go_wp2
        refine ⟨⟨k + 1, by rw [HML.out]; exact hlt, by go_num, ?_, HB2⟩, by simp [intOf]; omega⟩
        rw [HX.out]
        exact HO2
      · have HX : Hid (goneTo (l.map Sg.most) mark (k + 1) = G) := Lib.hid (by rw [HS.out, if_neg e])
        have hd : decide (a3 < mark) = false := decide_eq_false e
        clear HS e
        go_wp2
        refine ⟨⟨k + 1, by rw [HML.out]; exact hlt, by go_num, ?_, HB1⟩, by simp [intOf]; omega⟩
        rw [HX.out]
        exact HO1
    · have hd : decide ((k : Int) < (l.length : Int)) = false := decide_eq_false (by omega)
      have HK : Hid (k = (l.map Sg.most).length) := Lib.hid (by have := HML.out; omega)
      go_wp2
      go_ret
      have hx : gone (l.map Sg.most) mark = goneTo (l.map Sg.most) mark k := by rw [HK.out]; rfl
      rw [hx]
      exact ⟨HBr.out, _, rfl, HOW.out⟩
theorem gone_any (w : World) (s : Sl) (l : List Sg) (mark : Int) (hs : Sgs w s l) (hl : l.length * 32 ≤ 140737488355328) :
    Calls Try.prog 15 #[slV s, .int .i64 mark] w (LPost (gone (l.map Sg.most) mark) w) := (gone_own w s l mark hs hl).mono fun _ _ h => lpost_own h
end Go.Proofs.Ytepbnclpiojoaaa.PnGoneP
