/- The contract of the document's Gone: the places, in a row of the call's own. Conditions: the segments lie in memory, at most 2^47 bytes of them. -/
import Derived.Test.YtepbnclpiojoaaaPnRef
import Derived.Test.YtepbnclpiojoaaaAppend
namespace Go.Proofs.Ytepbnclpiojoaaa.PnGone
open Go Go.RowKit Words AppN PnSpec SgMem PnRef

def IV (k : Nat) : Value := .int .i64 (k : Int)
theorem cell_of_heapS {w : World} {g j : Nat} {cs : Array Value} {t : TypeId} {u : Value} (h : w.heap[g]? = some (.cells cs t (0, 0))) (hj : cs[j]? = some u) : w.cell? ⟨g, j, .none⟩ = some u := by
  unfold World.cell?
  rw [h]
  simpa using hj
theorem cell_up {w w' : World} {B : Nat} (hb : Below B w w') {p : Addr} (hp : p.block < B) {u : Value} (h : w.cell? p = some u) : w'.cell? p = some u := (hb.cell hp).trans h
theorem below_drewN {w0 w : World} {B : Nat} (h : Below B w0 w) (k : Nat) : Below B w0 (w.drewN k) := ⟨h.os, h.tape, h.output, h.size, h.block⟩
theorem own_lt1 {w : World} {base n : Nat} {e : TypeId} {v : Value} {xs : List Value} (h : w.ownsRow base e 1 v n xs) : ∀ k, v.ownBlock = some k → base ≤ k := fun k hk => (h.lt k hk).1
theorem info_int : ∃ i, Try.prog.info? 3 = some i ∧ i.zero = some (.int .i64 0) ∧ i.size = 1 ∧ i.bytes = 8 := ⟨_, rfl, rfl, rfl, rfl⟩
theorem iv_ones (l : List Nat) : ∀ u ∈ l.map IV, u.oneCell' = true := fun u hu => by obtain ⟨c, _, rfl⟩ := List.mem_map.1 hu; rfl
theorem cellNew (w : World) (u : Value) (e : TypeId) : ∀ j x, [u][j]? = some x → (w.alloc (.cells #[u] e)).cell? ((⟨w.heap.size, 0, none⟩ : Addr).add j) = some x := by
  intro j x h
  obtain rfl : j = 0 := by by_cases hj : j = 0; exact hj; rw [List.getElem?_eq_none (by simp; omega)] at h; simp at h
  simp only [List.getElem?_cons_zero, Option.some.injEq] at h
  subst h
  exact cell_of_heapS (heap_alloc_new w _) rfl
def GRel (W : World) (ms : List Int) (mark : Int) (v u : Value) (wr : World) : Prop :=
  ∃ k : Nat, k ≤ ms.length ∧ u = .int .i64 (k : Int) ∧ Hid (wr.ownsRow W.heap.size 3 1 v (goneTo ms mark k).length ((goneTo ms mark k).map IV)) ∧ Hid (Below W.heap.size W wr)

set_option maxHeartbeats 3200000 in
set_option maxRecDepth 100000 in
theorem rgone_any (w : World) (s : Sl) (l : List Sg) (mark : Int) (hs : Sgs w s l) (hl : l.length * 32 ≤ 140737488355328) :
    Calls Try.prog 16 #[slV s, .int .i64 mark] w fun e w' => Below w.heap.size w w' ∧ ∃ v, e = .returned v ∧ w'.ownsRow w.heap.size 3 1 v (gone (l.map Sg.most) mark).length ((gone (l.map Sg.most) mark).map IV) := by
  obtain ⟨A, n, c⟩ := s
  have HRD := Lib.hid hs.rd
  have hn := hs.len
  have hc := hs.le
  have hm := hs.cap
  simp only at hn hc hm
  unfold slV
  unfold maxLen at hm
  subst hn
  clear hs
  go_enter Try.func16, Try.ntmps16
  go_wp2
  obtain ⟨i0, hi, hz0, hz1, hz2⟩ := info_int
  have HML : Hid ((l.map Sg.most).length = l.length) := Lib.hid (by simp)
  have HGL := Lib.hid (fun k => goneTo_le (l.map Sg.most) mark k)
  have HGS := Lib.hid (fun k => goneTo_succ (l.map Sg.most) mark k)
  go_loopw [5, 6] (fun v u wr => GRel w (l.map Sg.most) mark v u wr) (fun _ u _ => l.length - (intOf u).toNat)
  case atStart => exact ⟨0, Nat.zero_le _, rfl, Lib.hid (World.ownsRow_nil _ _ _ _), Lib.hid (Below.refl _ _)⟩
  case round =>
    obtain ⟨k, hk, rfl, HOW, HBr⟩ := hrel
    rw [HML.out] at hk
    by_cases hlt : k < l.length
    · obtain ⟨g, off, rfl, hg, hcs⟩ := HRD.out (by rw [flatS_len]; omega)
      obtain ⟨p0, p1, p2, p3⟩ := cellsS hcs hlt
      have k3 := cell_up HBr.out (p := ⟨g, off + k * 4 + 3, none⟩) hg p3
      have HD : Hid ((l.map Sg.most).getD k 0 = (l[k]).most) := Lib.hid (by simp [List.getD_eq_getElem?_getD, hlt])
      have HS := Lib.hid (HGS.out k)
      have hgl := HGL.out k
      rw [HD.out] at HS
      clear hcs p0 p1 p2 p3 HD
      generalize (l[k]).most = x at *
      generalize hG : goneTo (l.map Sg.most) mark k = G at *
      by_cases e : x < mark
      · have HX : Hid (goneTo (l.map Sg.most) mark (k + 1) = G ++ [k]) := Lib.hid (by rw [HS.out, if_pos e])
        have hd : decide (x < mark) = true := decide_eq_true e
        clear HS
        have HOA : Hid ((wr.alloc (.cells #[.int .i64 (k : Int)] 3)).ownsRow w.heap.size 3 1 u5 G.length (G.map IV)) := Lib.hid (HOW.out.alloc _)
        have HBA : Hid (Below w.heap.size w (wr.alloc (.cells #[.int .i64 (k : Int)] 3))) := Lib.hid (HBr.out.trans (((Below.refl _ wr).alloc (Nat.le_refl _) _).mono HBr.out.size))
        clear hG e
        go_wp2_with (at_builtin; refine wpList_append_own _ rfl (.tmp 20) (.tmp 22) 26 rfl w.heap.size 3 i0 (.int .i64 0) 1 8 Try.underlying26 hi hz0 hz1 hz2 rfl (by decide) _ _ _ rfl HOA.out ⟨wr.heap.size, 0, none⟩ 1 1 ([k].map IV) rfl (by simp) (cellNew _ _ _) (iv_ones _) ?c3 ?c4 HBA.out.size ?_)
        case c3 => unfold maxLen; omega
        case c4 => omega
        intro v2 w2 hown2 hg2 _
        have hb2 : Below w.heap.size w w2 := HBA.out.grown hg2 HBA.out.size (own_lt1 HOA.out)
        have HO2 : Hid (w2.ownsRow w.heap.size 3 1 v2 (G ++ [k]).length ((G ++ [k]).map IV)) := Lib.hid (by
          rw [List.map_append, List.length_append]
          exact hown2)
        have HB2 := Lib.hid hb2
        clear hown2 hg2 hb2 HOA HBA
        go_wp2
        refine ⟨⟨k + 1, by rw [HML.out]; exact hlt, by go_num, ?_, HB2⟩, by simp [intOf]; omega⟩
        rw [HX.out]
        exact HO2
      · have HX : Hid (goneTo (l.map Sg.most) mark (k + 1) = G) := Lib.hid (by rw [HS.out, if_neg e])
        have hd : decide (x < mark) = false := decide_eq_false e
        clear HS
        clear e
        go_wp2
        refine ⟨⟨k + 1, by rw [HML.out]; exact hlt, by go_num, ?_, HBr⟩, by simp [intOf]; omega⟩
        rw [HX.out]
        exact HOW
    · have hd : decide ((k : Int) < (l.length : Int)) = false := decide_eq_false (by omega)
      have HK : Hid (k = (l.map Sg.most).length) := Lib.hid (by have := HML.out; omega)
      go_wp2
      go_ret
      have hx : gone (l.map Sg.most) mark = goneTo (l.map Sg.most) mark k := by rw [HK.out]; rfl
      rw [hx]
      exact ⟨HBr.out, _, rfl, HOW.out⟩
