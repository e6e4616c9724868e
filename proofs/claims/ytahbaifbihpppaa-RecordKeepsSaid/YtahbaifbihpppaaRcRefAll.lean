/- The contract of the document's PutAll of records. Conditions: none but that the records lie in memory. -/
import Derived.Test.YtahbaifbihpppaaRcRefPut
namespace Go.Proofs.Ytahbaifbihpppaa.RcRefAll
open Go Go.RowKit Words AppN UtSpec Less LbSpec LbText LbMem LbRef LbCmp LbCanon RcSpec RcAll RcMem RcRef RcRefPut UtOwn

theorem many_snoc : ∀ (l : List Rec) (x : Rec), many (l ++ [x]) = many l ++ bytesR x
  | [], x => by simp [many]
  | y :: l, x => by rw [List.cons_append, many, many, many_snoc l x]; simp
theorem putL_len : ∀ {l : List Lab}, (∀ x ∈ l, lerr x = 0) → (putL l).length ≤ 320 * l.length
  | [], _ => by simp [putL]
  | x :: l, h => by
    have ih := putL_len (l := l) (fun y hy => h y (by simp [hy]))
    have hl := lerr_len (h x (by simp))
    have h1 := text_len (s := x.1) (by omega)
    have h2 := text_len (s := x.2) (by omega)
    rw [putL, List.length_append, List.length_append, List.length_cons]
    omega
theorem bytes_len {r : Rec} (h : Ok r) (hf : Fits r) : (bytesR r).length ≤ 7000 := by
  have h1 := Lib.uvarint_length64 (zig64 hf.1)
  have h2 := Lib.uvarint_length64 hf.2
  have h3 := h.may.few
  have h4 := Lib.uvarint_length64 (x := r.labels.length) (by omega)
  have h5 := putL_len h.may.each
  have h6 := h.line
  have h7 := text_len (s := r.line) (by omega)
  unfold bytesR
  simp only [List.length_append]
  omega
theorem firstBad_cons (r : Rec) (l : List Rec) : firstBad (r :: l) = if check r = 0 then firstBad l else check r := rfl
def PaRel (w : World) (ms : List RM) (head : List UInt8) (v vi : Value) (wr : World) : Prop :=
  ∃ (k : Nat) (acc : List UInt8), vi = .int .i64 (k : Int) ∧ k ≤ ms.length ∧ wr.ownsRow w.heap.size 5 1 v acc.length (acc.map B8) ∧ Below w.heap.size w wr ∧ Hid (firstBad (recsOf ms) = firstBad (recsOf (ms.drop k))) ∧ Hid (acc = head ++ many (recsOf (ms.take k))) ∧ acc.length ≤ 10 + 7000 * k
theorem own_snocs {w : World} {base : Nat} {v : Value} {acc t : List UInt8} (h : w.ownsRow base 5 1 v (acc.length + t.length) (acc.map B8 ++ t.map B8)) : w.ownsRow base 5 1 v (acc ++ t).length ((acc ++ t).map B8) := by simpa using h

set_option maxHeartbeats 6400000 in
set_option maxRecDepth 100000 in
theorem rputall_any (w : World) (ms : List RM) (A : Option Addr) (n c : Nat) (h : Rl w A n c ms) : Calls Try.prog 10 #[.slice A n c] w (BPost (putAll (recsOf ms)) w) := by
  obtain ⟨i1, gi, gz0, gz1, gz2⟩ := info_parts Put.info_u8
  have HRL := Lib.hid h
  obtain ⟨rfl, hc, hm, _, _⟩ := h
  unfold maxLen at hm
  have hrl : (recsOf ms).length = ms.length := by unfold recsOf; simp
  obtain ⟨R, hR⟩ : ∃ R, putAll (recsOf ms) = R := ⟨_, rfl⟩
  rw [hR]
  unfold putAll at hR
  rw [hrl] at hR
  by_cases hbig : 65536 < ms.length
  · rw [if_pos hbig] at hR
    subst hR
    have j : (65536 : Int) < (ms.length : Int) := by omega
    clear hbig hrl
    go_enter Try.func10, Try.ntmps10
    go_wp2
    go_ret2
    exact ⟨_, rfl, World.ownsRow_nil .., Below.refl _ _⟩
  · rw [if_neg hbig] at hR
    have j : ¬ (65536 : Int) < (ms.length : Int) := by omega
    have hfew : ms.length ≤ 65536 := by omega
    have hw := run_lenN ms.length (by omega)
    have HR := Lib.hid hR
    have HO := Lib.hid (RefPut.one64 ms.length w (by omega))
    obtain ⟨head, hhead⟩ : ∃ U, Lib.uvarint ms.length = U := ⟨_, rfl⟩
    have hhl : head.length ≤ 10 := by rw [← hhead]; exact Lib.uvarint_length64 (by omega)
    have HH := Lib.hid hhead
    rw [hhead] at HO
    have HRN := Lib.hid hrl
    clear hbig hrl hR hhead
    go_enter Try.func10, Try.ntmps10
    go_wp2_with fail
    refine HO.out.mono ?_
    rintro e w1 ⟨v1, rfl, hown, hb1⟩
    have HO1 := Lib.hid hown
    have HB1 := Lib.hid hb1
    clear hown hb1 HO hw
    go_wp2
    go_loopw [4, 5] (fun v vi wr => PaRel w ms head v vi wr) (fun _ vi _ => ms.length - (intOf vi).toNat)
    case atStart => exact ⟨0, head, rfl, Nat.zero_le _, HO1.out, HB1.out, Lib.hid (by simp), Lib.hid (by simp [recsOf, many]), by omega⟩
    case round =>
      obtain ⟨k, acc, rfl, hk, hown, hb, HF, HA, hal⟩ := hrel
      have HOr := Lib.hid hown
      have HBr := Lib.hid hb
      have hbase := hb.size
      clear hown hb HO1 HB1
      by_cases hlt : k < ms.length
      · obtain ⟨g1, o1, rfl, hg1, hc1⟩ := HRL.out.rd (by rw [flatR_len]; omega)
        obtain ⟨p0, p1, p2, p3⟩ := cellsR hc1 hlt
        have k0 := cell_up HBr.out (p := ⟨g1, o1 + k * 4, none⟩) hg1 p0
        have k1 := cell_up HBr.out (p := ⟨g1, o1 + k * 4 + 1, none⟩) hg1 p1
        have k2 := cell_up HBr.out (p := ⟨g1, o1 + k * 4 + 2, none⟩) hg1 p2
        have k3 := cell_up HBr.out (p := ⟨g1, o1 + k * 4 + 3, none⟩) hg1 p3
        have hok := (HRL.out.each _ (List.getElem_mem hlt)).below HBr.out
        have HPU := Lib.hid (rput_any wr _ hok)
        have hfits := hok.fits
        have HFK : Hid (firstBad (recsOf ms) = if check (ms[k]).1 = 0 then firstBad (recsOf (ms.drop (k + 1))) else check (ms[k]).1) := Lib.hid (by
          have h := HF.out
          rw [List.drop_eq_getElem_cons hlt] at h
          exact h)
        have HMK : Hid (many (recsOf (ms.take (k + 1))) = many (recsOf (ms.take k)) ++ bytesR (ms[k]).1) := Lib.hid (by
          rw [List.take_succ_eq_append_getElem hlt]
          unfold recsOf
          rw [List.map_append]
          exact many_snoc _ _)
        clear hc1 p0 p1 p2 p3 HF hok
        generalize ms[k] = x at *
        obtain ⟨⟨tx, sx, lx, nx⟩, Ax, mx, cx⟩ := x
        unfold BPost RcAll.put at HPU
        unfold aggR slV S8 at HPU
        unfold slV at k2
        simp only at k0 k1 k2 k3 HPU HFK HMK hfits
        have hi1 : (0 : Int) ≤ (k : Int) := by omega
        have hi2 : (k : Int) < (ms.length : Int) := by omega
        by_cases hq0 : check ⟨tx, sx, lx, nx⟩ = 0
        · rw [if_pos hq0] at HPU HFK
          simp only at HPU
          have hbl := bytes_len (check_ok.1 hq0) hfits
          obtain ⟨T, hT⟩ : ∃ T, bytesR ⟨tx, sx, lx, nx⟩ = T := ⟨_, rfl⟩
          rw [hT] at HPU HMK hbl
          clear hq0 hT hfits
          go_wp2_with fail
          refine HPU.out.mono ?_
          rintro e w2 ⟨v2, rfl, hown2, hb2⟩
          obtain ⟨A2, c2, rfl, _, _, _⟩ := own_slice hown2
          have HRD2 := Lib.hid (Rd.of_own hown2)
          have HO2 := Lib.hid (own_keep HOr.out hb2)
          have HB2 : Hid (Below w.heap.size w w2) := Lib.hid (HBr.out.trans (hb2.mono hbase))
          have hb2s : w.heap.size ≤ w2.heap.size := HB2.out.size
          clear hown2 hb2 HPU k0 k1 k2 k3 HOr HBr
          go_wp2_with (at_builtin; refine wpList_append_rd _ rfl (.tmp 32) (.tmp 33) 24 rfl w.heap.size 1 5 i1 (.int .u8 0) 1 Try.underlying24 gi gz0 gz1 gz2 rfl (by omega) _ _ _ rfl HO2.out w2.heap.size A2 T.length c2 (T.map B8) rfl (by simp) HRD2.out (one8 T) ?f1 ?f2 ?f3 ?_)
          case f1 => unfold maxLen; omega
          case f2 => omega
          case f3 => exact hb2s
          intro v3 w3 hown3 hg3 _
          have HO3 := Lib.hid (own_snocs hown3)
          have HB3 := Lib.hid (below_app HO2.out HB2.out hg3)
          have HA3 : Hid (acc ++ T = head ++ many (recsOf (ms.take (k + 1)))) := Lib.hid (by rw [HMK.out, HA.out]; simp)
          have HAL : Hid ((acc ++ T).length ≤ 10 + 7000 * (k + 1)) := Lib.hid (by rw [List.length_append]; omega)
          clear hown3 hg3 HO2 HB2 HRD2 HA HMK
          go_wp2
          go_roundw
          case rel => exact ⟨k + 1, acc ++ T, by go_num, by omega, HO3.out, HB3.out, Lib.hid HFK.out, HA3, HAL.out⟩
          case measure => simp [intOf]; omega
        · rw [if_neg hq0] at HPU HFK
          simp only at HPU
          obtain ⟨q, hq⟩ : ∃ q, check ⟨tx, sx, lx, nx⟩ = q := ⟨_, rfl⟩
          rw [hq] at HPU HFK hq0
          have j1 : ((q : Int) != 0) = true := by simp [hq0]
          have HE : Hid (R = (q, [])) := Lib.hid (by rw [← HR.out, if_pos (by rw [HFK.out]; exact hq0), HFK.out])
          clear hq hq0
          go_wp2_with fail
          refine HPU.out.mono ?_
          rintro e w2 ⟨v2, rfl, _, hb2⟩
          have HB2 : Hid (Below w.heap.size w w2) := Lib.hid (HBr.out.trans (hb2.mono hbase))
          clear hb2 HPU
          go_wp2
          go_ret2
          rw [HE.out]
          exact ⟨_, rfl, World.ownsRow_nil .., HB2.out⟩
      · have hkl : k = ms.length := by omega
        have HE : Hid (R = (0, acc)) := Lib.hid (by
          have h0 : firstBad (recsOf ms) = 0 := by rw [HF.out, hkl, List.drop_length]; rfl
          rw [← HR.out, if_neg (by rw [h0]; decide), HA.out, hkl, List.take_length]
          unfold batch
          rw [HRN.out, HH.out])
        clear HF HA hlt
        subst hkl
        go_wp2
        go_ret2
        rw [HE.out]
        exact ⟨_, rfl, HOr.out, HBr.out⟩
end Go.Proofs.Ytahbaifbihpppaa.RcRefAll
