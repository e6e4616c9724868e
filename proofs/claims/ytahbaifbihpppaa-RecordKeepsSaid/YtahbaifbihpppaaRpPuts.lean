/- record.addText. Conditions: none but that the labels lie in memory. · record.Put. Conditions: none but that the labels lie in memory. · record.PutAll. Conditions: none but that the records lie in memory. -/
import Derived.Test.YtahbaifbihpppaaRpCheck
import Derived.Test.YtahbaifbihpppaaRcRefRd
import Derived.Test.YtahbaifbihpppaaPut
import Derived.Test.YtahbaifbihpppaaRcRefAll
namespace Go.Proofs.Ytahbaifbihpppaa.RpAdd
open Go Go.RowKit Words AppN UtSpec UtRunes Less LbSpec LbText LbMem LbRef LbCmp LbCanon RcSpec RcAll RcMem RcRef RcRefPut RcRefRd UtOwn RpCheck

/-- varint.Put of one number. -/
theorem put_one (x : Nat) (h : x < 18446744073709551616) (w : World) :
    Calls Try.prog 23 #[.slice (some ⟨w.heap.size, 0, .none⟩) 1 1] (w.alloc (.cells #[.int .u64 (x : Int)] 30)) fun e w' => ∃ v, e = .returned v ∧ w'.ownsRow w.heap.size 5 1 v (Lib.uvarint x).length ((Lib.uvarint x).map B8) ∧ Below w.heap.size w w' := by
  obtain ⟨L1, hL1⟩ : ∃ L1 : List UInt64, L1 = [UInt64.ofNat x] := ⟨_, rfl⟩
  have hb1 : L1.map B64 = [.int .u64 (x : Int)] := by
    rw [hL1]
    simp only [List.map_cons, List.map_nil, B64, UInt64.toNat_ofNat']
    rw [Nat.mod_eq_of_lt h]
  have he1 : Plain.encs L1 = Lib.uvarint x := by
    rw [hL1]
    simp only [Plain.encs, List.flatMap_cons, List.flatMap_nil, UInt64.toNat_ofNat', List.append_nil]
    rw [Nat.mod_eq_of_lt h]
  have hr := Rd.made' w #[.int .u64 (x : Int)] 30
  have hp := Put.put_any L1 (some ⟨w.heap.size, 0, .none⟩) 1 (w.alloc (.cells #[.int .u64 (x : Int)] 30)) (by rw [hb1]; exact hr) (by rw [hL1]; simp)
  rw [show L1.length = 1 by rw [hL1]; rfl, he1] at hp
  refine hp.mono ?_
  rintro e w2 ⟨v, he, ho, hb⟩
  have hb0 : Below w.heap.size w (w.alloc (.cells #[.int .u64 (x : Int)] 30)) := (Below.refl _ w).alloc (Nat.le_refl _) _
  exact ⟨v, he, UtOwn.own_mono ho hb0.size, hb0.trans (hb.mono hb0.size)⟩
/-- Two steps at a row that grows, the second at the row that the first left. -/
theorem grown_two {w w1 w2 w3 : World} {v v1 : Value} (hb : Below w.heap.size w w1) (h1 : w1.grownBy w2 v.ownBlock) (hv : v1.ownBlock = v.ownBlock ∨ v1.ownBlock = some w1.heap.size) (h2 : w2.grownBy w3 v1.ownBlock) : w.grownBy w3 v.ownBlock := by
  refine ⟨h2.os.trans (h1.os.trans hb.os), h2.tape.trans (h1.tape.trans hb.tape), h2.output.trans (h1.output.trans hb.output), Nat.le_trans hb.size (Nat.le_trans h1.size h2.size), fun i hi hne => ?_⟩
  have hi1 : i < w1.heap.size := Nat.lt_of_lt_of_le hi hb.size
  refine (h2.block i (Nat.lt_of_lt_of_le hi1 h1.size) (fun e => ?_)).trans ((h1.block i hi1 hne).trans (hb.block i hi))
  rcases hv with hv | hv
  · exact hne (e.trans hv)
  · rw [hv] at e
    have := Option.some.inj e
    omega

set_option maxHeartbeats 1600000 in
theorem addtext_any (w : World) (base : Nat) (v : Value) (acc s : List UInt8) (ho : w.ownsRow base 5 1 v acc.length (acc.map B8)) (hbase : base ≤ w.heap.size) (ha : acc.length ≤ 1099511627776) (hs : s.length ≤ 1099511627776) :
    Calls Try.prog 26 #[v, S8 s] w fun e w' => ∃ v', e = .returned v' ∧ w'.ownsRow base 5 1 v' (acc ++ text s).length ((acc ++ text s).map B8) ∧ w.grownBy w' v.ownBlock := by
  obtain ⟨i1, gi, gz0, gz1, gz2⟩ := info_parts Put.info_u8
  have HO := Lib.hid (put_one s.length (by omega) w)
  have e2 : (⟨s.toArray⟩ : ByteArray).size = s.length := size_len s
  have hw := run_lenN s.length hs
  obtain ⟨V, hV⟩ : ∃ V, V = (⟨s.toArray⟩ : ByteArray) := ⟨_, rfl⟩
  have HVD : Hid (Lib.strCells V = s.map B8) := Lib.hid (by rw [hV]; rfl)
  unfold S8
  simp only [← hV] at e2 ⊢
  obtain ⟨n, hn⟩ : ∃ n, V.size = n := ⟨_, rfl⟩
  have HN : Hid (n = s.length) := Lib.hid (hn.symm.trans e2)
  have hn2 : n ≤ 1099511627776 := by omega
  rw [e2] at hn
  clear hV
  obtain ⟨U, hU⟩ : ∃ U, Lib.uvarint s.length = U := ⟨_, rfl⟩
  have HU := Lib.hid hU
  rw [hU] at HO
  have hul : U.length ≤ 10 := by rw [← hU]; exact Lib.uvarint_length64 (by omega)
  have HOW := Lib.hid ho
  clear hU ho hn
  go_enter Try.func26, Try.ntmps26
  go_wp2_with fail
  refine HO.out.mono ?_
  rintro e w1 ⟨v1, rfl, hown, hb1⟩
  have HO1 := Lib.hid (own_keep HOW.out hb1)
  have HB1 := Lib.hid hb1
  have hsz := hb1.size
  obtain ⟨A1, c1, rfl, _, _, _⟩ := own_slice hown
  have HRD := Lib.hid (Rd.of_own hown)
  clear hown hb1 HO
  go_wp2_with (at_builtin; refine wpList_append_rd _ rfl (.tmp 5) (.tmp 10) 24 rfl base 1 5 i1 (.int .u8 0) 1 Try.underlying24 gi gz0 gz1 gz2 rfl (by omega) _ _ _ rfl HO1.out w1.heap.size A1 U.length c1 (U.map B8) rfl (by simp) HRD.out (one8 U) ?f1 ?f2 ?f3 ?_)
  case f1 => unfold maxLen; omega
  case f2 => omega
  case f3 => omega
  intro v2 w2 hown2 hg2 hv2
  have HO2 := Lib.hid hown2
  have HG2 := Lib.hid hg2
  have HV2 := Lib.hid hv2
  have hsz2 := hg2.size
  clear hown2 hg2 hv2 HO1 HRD
  go_wp2_with (at_builtin; refine Lib.wpList_append_own_string _ rfl (.tmp 12) (.tmp 13) 24 9 rfl base 5 i1 Try.underlying24 Try.underlying9 gi gz0 gz1 gz2 _ _ _ rfl HO2.out V rfl ?f1 ?f2 ?f3 ?_)
  case f1 => unfold maxLen; omega
  case f2 => omega
  case f3 => omega
  intro v3 w3 hown3 hg3 _
  have HO3 : Hid (w3.ownsRow base 5 1 v3 (acc ++ text s).length ((acc ++ text s).map B8)) := Lib.hid (by
    unfold text
    rw [HU.out]
    have h := hown3
    rw [HVD.out] at h
    simpa [Nat.add_assoc] using h)
  have HG3 := Lib.hid (grown_two HB1.out HG2.out HV2.out hg3)
  clear hown3 hg3 HO2
  go_wp2
  go_ret
  exact ⟨_, rfl, HO3.out, HG3.out⟩

end Go.Proofs.Ytahbaifbihpppaa.RpAdd

namespace Go.Proofs.Ytahbaifbihpppaa.RpPut
open Go Go.RowKit Words AppN UtSpec UtRunes Less LbSpec LbText LbMem LbRef LbCmp LbCanon RcSpec RcAll RcMem RcRef RcRefPut RcRefRd UtOwn RpCheck RpAdd

theorem st_ne {w wr : World} {m : RM} {acc : List UInt8} {v : Value} (h : St w m acc v wr) : v.ownBlock ≠ some wr.heap.size := fun e => by have := (h.own.lt _ e).2; omega

set_option maxHeartbeats 6400000 in
set_option maxRecDepth 100000 in
theorem put_any (w : World) (m : RM) (h : Okm w m) : Calls Try.prog 11 #[aggR m] w (BPost (RcAll.put m.1) w) := by
  obtain ⟨i1, gi, gz0, gz1, gz2⟩ := info_parts Put.info_u8
  have HOK := Lib.hid h
  have HW : Hid (Below w.heap.size w (w.alloc (boxR m))) := Lib.hid ((Below.refl _ w).alloc (Nat.le_refl _) _)
  have HBOX := Lib.hid (heap_alloc_new w (boxR m))
  have HCK := Lib.hid (check_any _ m (h.below HW.out))
  obtain ⟨q, hq⟩ : ∃ q, check m.1 = q := ⟨_, rfl⟩
  rw [hq] at HCK
  have HQ := Lib.hid hq
  have HZ : w.heap.size < (w.alloc (boxR m)).heap.size := by simp
  clear h hq
  unfold boxR at *
  unfold aggR at *
  obtain ⟨⟨t, s, l, line⟩, A, n, c⟩ := m
  simp only at HW HBOX HCK HZ HQ ⊢
  unfold slV S8 at *
  simp only at HW HBOX HCK HZ
  by_cases hq0 : q = 0
  · have j1 : ((q : Int) != 0) = false := by simp [hq0]
    have HPUT : Hid (RcAll.put ⟨t, s, l, line⟩ = (0, bytesR ⟨t, s, l, line⟩)) := Lib.hid (by unfold RcAll.put; rw [HQ.out, if_pos hq0])
    have HOKP := Lib.hid (check_ok.1 (HQ.out.trans hq0))
    have HFT := Lib.hid HOK.out.fits
    clear hq0
    go_enter Try.func11, Try.ntmps11
    go_wp2_with fail
    refine HCK.out.mono ?_
    rintro e w1 ⟨rfl, hb1⟩
    have HB1 : Hid (Below w.heap.size w w1) := Lib.hid (HW.out.trans (hb1.mono HW.out.size))
    have hbox : w1.heap[w.heap.size]? = some (.cells #[.int .i64 t, .int .u64 (s : Int), .slice A n c, .string ⟨line.toArray⟩] 33 (0, 0)) := (hb1.block w.heap.size HZ).trans HBOX.out
    have HX1 := Lib.hid hbox
    have k0 : w1.cell? ⟨w.heap.size, 0, none⟩ = some (.int .i64 t) := by unfold World.cell?; rw [hbox]; rfl
    have k1 : w1.cell? ⟨w.heap.size, 1, none⟩ = some (.int .u64 (s : Int)) := by unfold World.cell?; rw [hbox]; rfl
    have k2 : w1.cell? ⟨w.heap.size, 2, none⟩ = some (.slice A n c) := by unfold World.cell?; rw [hbox]; rfl
    clear hb1 HCK hbox HBOX
    have hnl : n = l.length := HOK.out.labs.1
    subst hnl
    have hl16 : l.length ≤ 16 := HOKP.out.may.few
    have HLAB := Lib.hid HOK.out.labs
    have hw3 : IntKind.u64.wrap (l.length : Int) = (l.length : Int) := by rw [IntKind.wrap_u64]; omega
    have HZG := fun w => Lib.hid (Zig.zig_any t w HFT.out.1.1 HFT.out.1.2)
    rw [zig_nat] at HZG
    have hz64 := zig64 HFT.out.1
    have hs64 := HFT.out.2
    obtain ⟨L3, hL3⟩ : ∃ L3 : List UInt64, L3 = [UInt64.ofNat (zigN t), UInt64.ofNat s, UInt64.ofNat l.length] := ⟨_, rfl⟩
    have hb3 : L3.map B64 = [.int .u64 (zigN t : Int), .int .u64 (s : Int), .int .u64 (l.length : Int)] := by
      rw [hL3]
      simp only [List.map_cons, List.map_nil, B64, UInt64.toNat_ofNat']
      rw [Nat.mod_eq_of_lt hz64, Nat.mod_eq_of_lt hs64, Nat.mod_eq_of_lt (by omega)]
    have he3 : Plain.encs L3 = Lib.uvarint (zigN t) ++ (Lib.uvarint s ++ Lib.uvarint l.length) := by
      rw [hL3]
      simp only [Plain.encs, List.flatMap_cons, List.flatMap_nil, UInt64.toNat_ofNat', List.append_nil]
      rw [Nat.mod_eq_of_lt hz64, Nat.mod_eq_of_lt hs64, Nat.mod_eq_of_lt (by omega)]
    have HP3 : Hid (Calls Try.prog 23 #[.slice (some ⟨w1.heap.size, 0, none⟩) 3 3] (w1.alloc (.cells #[.int .u64 (zigN t : Int), .int .u64 (s : Int), .int .u64 (l.length : Int)] 30)).drew fun e w' => ∃ v, e = .returned v ∧ w'.ownsRow (w.heap.size + 1) 5 1 v (Lib.uvarint (zigN t) ++ (Lib.uvarint s ++ Lib.uvarint l.length)).length ((Lib.uvarint (zigN t) ++ (Lib.uvarint s ++ Lib.uvarint l.length)).map B8) ∧ Below w1.heap.size w1 w') := Lib.hid (by
      have hr := Rd.made' w1 #[.int .u64 (zigN t : Int), .int .u64 (s : Int), .int .u64 (l.length : Int)] 30
      have hp := Put.put_any L3 (some ⟨w1.heap.size, 0, none⟩) 3 (w1.alloc (.cells #[.int .u64 (zigN t : Int), .int .u64 (s : Int), .int .u64 (l.length : Int)] 30)).drew (by rw [hb3]; exact hr) (by rw [hL3]; simp)
      rw [show L3.length = 3 by rw [hL3]; rfl, he3] at hp
      refine hp.mono ?_
      rintro e w2 ⟨v, he, ho, hb⟩
      have hge : w.heap.size + 1 ≤ (w1.alloc (.cells #[.int .u64 (zigN t : Int), .int .u64 (s : Int), .int .u64 (l.length : Int)] 30)).drew.heap.size := by
        have : w.heap.size < w1.heap.size := (Array.getElem?_eq_some_iff.1 HX1.out).1
        show w.heap.size + 1 ≤ (w1.alloc (.cells #[.int .u64 (zigN t : Int), .int .u64 (s : Int), .int .u64 (l.length : Int)] 30)).heap.size
        simp
        omega
      refine ⟨v, he, UtOwn.own_mono ho hge, ?_⟩
      have hb0 : Below w1.heap.size w1 (w1.alloc (.cells #[.int .u64 (zigN t : Int), .int .u64 (s : Int), .int .u64 (l.length : Int)] 30)).drew := below_drew1 ((Below.refl _ w1).alloc (Nat.le_refl _) _)
      exact hb0.trans (hb.mono hb0.size))
    clear hb3 he3 hL3
    go_wp2
    refine wp_region_still_tail 9 (by kernel_rfl) (by kernel_rfl) ?_
    simp only [List.take_succ_cons, List.take_zero, List.drop_succ_cons, List.drop_zero]
    iterate 2 (refine wpStill_step (fun K hK => ?_); go_simp; refine hK _ ?_; clear hK K)
    refine wpStill_step (fun K hK => ?_)
    go_simp
    refine ⟨_, (HZG _).out.mono fun _ _ h => ⟨h.1, h.2.symm⟩, hK _ ?_⟩
    clear hK K
    iterate 6 (refine wpStill_step (fun K hK => ?_); go_simp; refine hK _ ?_; clear hK K)
    refine wpStill_nil ?_
    change wpList _ _ _ _ _ w1.drew
    go_wp2_with fail
    refine HP3.out.mono ?_
    rintro e w2 ⟨v2, rfl, hown2, hb2⟩
    obtain ⟨head, hhead⟩ : ∃ head, head = Lib.uvarint (zigN t) ++ (Lib.uvarint s ++ Lib.uvarint l.length) := ⟨_, rfl⟩
    have hhl : head.length ≤ 30 := by
      rw [hhead, List.length_append, List.length_append]
      have h1 := Lib.uvarint_length64 hz64
      have h2 := Lib.uvarint_length64 hs64
      have h3 := Lib.uvarint_length64 (x := l.length) (by omega)
      omega
    rw [← hhead] at hown2
    have HH := Lib.hid hhead
    have HST : Hid (St w ⟨⟨t, s, l, line⟩, A, l.length, c⟩ head v2 w2) := Lib.hid ⟨hown2, HB1.out.trans (hb2.mono HB1.out.size), (hb2.block _ (Array.getElem?_eq_some_iff.1 HX1.out).1).trans HX1.out⟩
    have k3 : w2.cell? ⟨w.heap.size, 2, none⟩ = some (.slice A l.length c) := HST.out.cells.1
    clear hown2 hb2 HP3 HZG k0 k1 k2 HX1 HB1 hhead hw3 hz64 hs64
    go_wp2
    go_loopw [5, 27] (fun v vi wr => PlRel w ⟨⟨t, s, l, line⟩, A, l.length, c⟩ head v vi wr) (fun _ vi _ => l.length - (intOf vi).toNat)
    case atStart => exact ⟨0, head, rfl, Nat.zero_le _, HST, Lib.hid (by simp [putL]), by omega⟩
    case round =>
      obtain ⟨k, acc, rfl, hk, HS, HA, hal⟩ := hrel
      have hk' : k ≤ l.length := hk
      clear hk HST k3
      have k3 : wr.cell? ⟨w.heap.size, 2, none⟩ = some (.slice A l.length c) := HS.out.cells.1
      have hbase : w.heap.size + 1 ≤ wr.heap.size := HS.out.lt
      by_cases hlt : k < l.length
      · have hLr := (HLAB.out.2.2.2.below HS.out.below)
        obtain ⟨g1, o1, rfl, hg1, hc1⟩ := hLr (by rw [flat_len]; omega)
        obtain ⟨p0, p1⟩ := cellsL hc1 hlt
        have hlen := HOKP.out.len _ (List.getElem_mem hlt)
        have hln := lerr_len (HOKP.out.may.each _ (List.getElem_mem hlt))
        have HNX := Lib.hid (putL_next hlt)
        obtain ⟨x, hx⟩ : ∃ x, l[k] = x := ⟨_, rfl⟩
        rw [hx] at p0 p1 hlen hln HNX
        obtain ⟨x1, x2⟩ := x
        simp only at p0 p1 hlen hln HNX
        have hl1 := text_len hlen.1
        have hl2 := text_len hlen.2
        have hi1 : (0 : Int) ≤ (k : Int) := by omega
        have hi2 : (k : Int) < (l.length : Int) := by omega
        have HSA := Lib.hid (HS.out.call ((Below.refl _ wr).alloc (Nat.le_refl _) (.cells #[.string ⟨x1.toArray⟩, .string ⟨x2.toArray⟩] 46)))
        have HBX := Lib.hid (heap_alloc_new wr (.cells #[.string ⟨x1.toArray⟩, .string ⟨x2.toArray⟩] 46))
        have HT1 := Lib.hid (addtext_any _ (w.heap.size + 1) _ acc x1 HSA.out.own (by have := HSA.out.lt; omega) (by omega) (by omega))
        unfold S8 at HT1
        clear hc1 hLr hx hlen
        go_wp2_with fail
        refine HT1.out.mono ?_
        rintro e w3 ⟨v3, rfl, hown3, hg3⟩
        have HS3 := Lib.hid (HSA.out.app (t := text x1) (by simpa using hown3) hg3)
        have hnv := st_ne HS.out
        have hb3 := (hg3.block wr.heap.size (by simp) (fun e => hnv e.symm)).trans HBX.out
        have q1 := box_cell (j := 1) hb3 rfl
        obtain ⟨D, hD⟩ : ∃ D, acc ++ text x1 = D := ⟨_, rfl⟩
        have hDl : D.length ≤ acc.length + (text x1).length := Nat.le_of_eq (by rw [← hD, List.length_append])
        rw [hD] at HS3
        have HT2 := Lib.hid (addtext_any w3 (w.heap.size + 1) v3 D x2 HS3.out.own (by have := HS3.out.lt; omega) (by omega) (by omega))
        have HD := Lib.hid hD
        unfold S8 at HT2
        clear hown3 hg3 HT1 p0 p1 k3 HS HSA HBX hb3 hD
        go_wp2_with fail
        refine HT2.out.mono ?_
        rintro e w6 ⟨v6, rfl, hown6, hg6⟩
        have HS6 := Lib.hid (HS3.out.app (t := text x2) (by simpa using hown6) hg6)
        have HA6 : Hid (D ++ text x2 = head ++ putL (l.take (k + 1))) := Lib.hid (by rw [← HD.out, HNX.out, HA.out]; simp)
        have hal6 : (D ++ text x2).length ≤ 40 + 320 * (k + 1) := by rw [List.length_append]; omega
        have HAL6 := Lib.hid hal6
        clear hown6 hg6 HS3 HT2 hal6 q1
        go_wp2
        go_roundw
        case rel => exact ⟨k + 1, D ++ text x2, by go_num, by show k + 1 ≤ l.length; omega, HS6, HA6, HAL6.out⟩
        case measure => simp [intOf]; omega
      · have hkl : k = l.length := by omega
        have k3f : wr.cell? ⟨w.heap.size, 3, none⟩ = some (.string ⟨line.toArray⟩) := HS.out.cells.2
        have hline := HOKP.out.line
        simp only at hline
        have hl1 := text_len (s := line) (by omega)
        have HAE : Hid (acc ++ text line = bytesR ⟨t, s, l, line⟩) := Lib.hid (by
          rw [HA.out, hkl, List.take_length, HH.out]
          unfold bytesR
          simp)
        have HT1 := Lib.hid (addtext_any wr (w.heap.size + 1) _ acc line HS.out.own hbase (by omega) (by omega))
        unfold S8 at HT1
        clear hlt HA
        subst hkl
        go_wp2_with fail
        refine HT1.out.mono ?_
        rintro e w4 ⟨v4, rfl, hown4, hg4⟩
        have HS4 := Lib.hid (HS.out.app (t := text line) (by simpa using hown4) hg4)
        clear hown4 hg4 HT1 k3 k3f HS
        go_wp2
        go_ret2
        rw [HPUT.out]
        refine ⟨_, rfl, ?_, HS4.out.below⟩
        rw [← HAE.out]
        exact own_mono HS4.out.own (Nat.le_succ _)
  · have j1 : ((q : Int) != 0) = true := by simp [hq0]
    have HPUT : Hid (RcAll.put ⟨t, s, l, line⟩ = (q, [])) := Lib.hid (by unfold RcAll.put; rw [HQ.out, if_neg hq0])
    clear hq0
    go_enter Try.func11, Try.ntmps11
    go_wp2_with fail
    refine HCK.out.mono ?_
    rintro e w1 ⟨rfl, hb1⟩
    have HB1 : Hid (Below w.heap.size w w1) := Lib.hid (HW.out.trans (hb1.mono HW.out.size))
    clear hb1 HCK
    go_wp2
    go_ret2
    rw [HPUT.out]
    exact ⟨_, rfl, World.ownsRow_nil .., HB1.out⟩
end Go.Proofs.Ytahbaifbihpppaa.RpPut

namespace Go.Proofs.Ytahbaifbihpppaa.RpAll
open Go Go.RowKit Words AppN UtSpec Less LbSpec LbText LbMem LbRef LbCmp LbCanon RcSpec RcAll RcMem RcRef RcRefPut RcRefAll UtOwn RpAdd RpPut

set_option maxHeartbeats 6400000 in
set_option maxRecDepth 100000 in
theorem putall_any (w : World) (ms : List RM) (A : Option Addr) (n c : Nat) (h : Rl w A n c ms) : Calls Try.prog 9 #[.slice A n c] w (BPost (putAll (recsOf ms)) w) := by
  obtain ⟨i1, gi, gz0, gz1, gz2⟩ := info_parts Put.info_u8
  have HRL := Lib.hid h
  obtain ⟨rfl, hc, hm, _, _⟩ := h
  unfold maxLen at hm
  have hrl : (recsOf ms).length = ms.length := by unfold recsOf; simp
  obtain ⟨R, hR⟩ : ∃ R, putAll (recsOf ms) = R := ⟨_, rfl⟩
  rw [hR]
  unfold putAll at hR
  rw [hrl] at hR
  by_cases hbig : 65536 < ms.length
  · rw [if_pos hbig] at hR
    subst hR
    have j : (65536 : Int) < (ms.length : Int) := by omega
    clear hbig hrl
    go_enter Try.func9, Try.ntmps9
    go_wp2
    go_ret2
    exact ⟨_, rfl, World.ownsRow_nil .., Below.refl _ _⟩
  · rw [if_neg hbig] at hR
    have j : ¬ (65536 : Int) < (ms.length : Int) := by omega
    have hfew : ms.length ≤ 65536 := by omega
    have hw := run_lenN ms.length (by omega)
    have HR := Lib.hid hR
    have HO := Lib.hid (put_one ms.length (by omega) w)
    obtain ⟨head, hhead⟩ : ∃ U, Lib.uvarint ms.length = U := ⟨_, rfl⟩
    have hhl : head.length ≤ 10 := by rw [← hhead]; exact Lib.uvarint_length64 (by omega)
    have HH := Lib.hid hhead
    rw [hhead] at HO
    have HRN := Lib.hid hrl
    clear hbig hrl hR hhead
    go_enter Try.func9, Try.ntmps9
    go_wp2_with fail
    refine HO.out.mono ?_
    rintro e w1 ⟨v1, rfl, hown, hb1⟩
    have HO1 := Lib.hid hown
    have HB1 := Lib.hid hb1
    clear hown hb1 HO hw
    go_wp2
    go_loopw [4, 19] (fun v vi wr => PaRel w ms head v vi wr) (fun _ vi _ => ms.length - (intOf vi).toNat)
    case atStart => exact ⟨0, head, rfl, Nat.zero_le _, HO1.out, HB1.out, Lib.hid (by simp), Lib.hid (by simp [recsOf, many]), by omega⟩
    case round =>
      obtain ⟨k, acc, rfl, hk, hown, hb, HF, HA, hal⟩ := hrel
      have HOr := Lib.hid hown
      have HBr := Lib.hid hb
      have hbase := hb.size
      clear hown hb HO1 HB1
      by_cases hlt : k < ms.length
      · obtain ⟨g1, o1, rfl, hg1, hc1⟩ := HRL.out.rd (by rw [flatR_len]; omega)
        obtain ⟨p0, p1, p2, p3⟩ := cellsR hc1 hlt
        have k0 := cell_up HBr.out (p := ⟨g1, o1 + k * 4, none⟩) hg1 p0
        have k1 := cell_up HBr.out (p := ⟨g1, o1 + k * 4 + 1, none⟩) hg1 p1
        have k2 := cell_up HBr.out (p := ⟨g1, o1 + k * 4 + 2, none⟩) hg1 p2
        have k3 := cell_up HBr.out (p := ⟨g1, o1 + k * 4 + 3, none⟩) hg1 p3
        have hok := (HRL.out.each _ (List.getElem_mem hlt)).below HBr.out
        have hbx : Below wr.heap.size wr (wr.alloc (boxR ms[k])) := (Below.refl _ wr).alloc (Nat.le_refl _) _
        have HPU := Lib.hid (put_any _ _ (hok.below hbx))
        have HOx := Lib.hid (own_keep HOr.out hbx)
        have HBx := Lib.hid (HBr.out.trans (hbx.mono hbase))
        have hfits := hok.fits
        have HFK : Hid (firstBad (recsOf ms) = if check (ms[k]).1 = 0 then firstBad (recsOf (ms.drop (k + 1))) else check (ms[k]).1) := Lib.hid (by
          have h := HF.out
          rw [List.drop_eq_getElem_cons hlt] at h
          exact h)
        have HMK : Hid (many (recsOf (ms.take (k + 1))) = many (recsOf (ms.take k)) ++ bytesR (ms[k]).1) := Lib.hid (by
          rw [List.take_succ_eq_append_getElem hlt]
          unfold recsOf
          rw [List.map_append]
          exact many_snoc _ _)
        clear hc1 p0 p1 p2 p3 HF hok hbx HOr HBr
        unfold boxR at HPU HOx HBx
        generalize ms[k] = x at *
        obtain ⟨⟨tx, sx, lx, nx⟩, Ax, mx, cx⟩ := x
        unfold BPost RcAll.put at HPU
        unfold aggR slV S8 at HPU
        unfold slV S8 at HOx HBx
        unfold slV at k2
        simp only at k0 k1 k2 k3 HPU HFK HMK hfits HOx HBx
        have hbase2 := HBx.out.size
        have hi1 : (0 : Int) ≤ (k : Int) := by omega
        have hi2 : (k : Int) < (ms.length : Int) := by omega
        by_cases hq0 : check ⟨tx, sx, lx, nx⟩ = 0
        · rw [if_pos hq0] at HPU HFK
          simp only at HPU
          have hbl := bytes_len (check_ok.1 hq0) hfits
          obtain ⟨T, hT⟩ : ∃ T, bytesR ⟨tx, sx, lx, nx⟩ = T := ⟨_, rfl⟩
          rw [hT] at HPU HMK hbl
          clear hq0 hT hfits
          go_wp2_with fail
          refine HPU.out.mono ?_
          rintro e w2 ⟨v2, rfl, hown2, hb2⟩
          obtain ⟨A2, c2, rfl, _, _, _⟩ := own_slice hown2
          have HRD2 := Lib.hid (Rd.of_own hown2)
          have HO2 := Lib.hid (own_keep HOx.out hb2)
          have HB2 : Hid (Below w.heap.size w w2) := Lib.hid (HBx.out.trans (hb2.mono hbase2))
          have hb2s : w.heap.size ≤ w2.heap.size := HB2.out.size
          clear hown2 hb2 HPU k0 k1 k2 k3 HOx HBx
          go_wp2_with (at_builtin; refine wpList_append_rd _ rfl (.tmp 31) (.tmp 32) 24 rfl w.heap.size 1 5 i1 (.int .u8 0) 1 Try.underlying24 gi gz0 gz1 gz2 rfl (by omega) _ _ _ rfl HO2.out w2.heap.size A2 T.length c2 (T.map B8) rfl (by simp) HRD2.out (one8 T) ?f1 ?f2 ?f3 ?_)
          case f1 => unfold maxLen; omega
          case f2 => omega
          case f3 => exact hb2s
          intro v3 w3 hown3 hg3 _
          have HO3 := Lib.hid (own_snocs hown3)
          have HB3 := Lib.hid (below_app HO2.out HB2.out hg3)
          have HA3 : Hid (acc ++ T = head ++ many (recsOf (ms.take (k + 1)))) := Lib.hid (by rw [HMK.out, HA.out]; simp)
          have HAL : Hid ((acc ++ T).length ≤ 10 + 7000 * (k + 1)) := Lib.hid (by rw [List.length_append]; omega)
          clear hown3 hg3 HO2 HB2 HRD2 HA HMK
          go_wp2
          go_roundw
          case rel => exact ⟨k + 1, acc ++ T, by go_num, by omega, HO3.out, HB3.out, Lib.hid HFK.out, HA3, HAL.out⟩
          case measure => simp [intOf]; omega
        · rw [if_neg hq0] at HPU HFK
          simp only at HPU
          obtain ⟨q, hq⟩ : ∃ q, check ⟨tx, sx, lx, nx⟩ = q := ⟨_, rfl⟩
          rw [hq] at HPU HFK hq0
          have j1 : ((q : Int) != 0) = true := by simp [hq0]
          have HE : Hid (R = (q, [])) := Lib.hid (by rw [← HR.out, if_pos (by rw [HFK.out]; exact hq0), HFK.out])
          clear hq hq0
          go_wp2_with fail
          refine HPU.out.mono ?_
          rintro e w2 ⟨v2, rfl, _, hb2⟩
          have HB2 : Hid (Below w.heap.size w w2) := Lib.hid (HBx.out.trans (hb2.mono hbase2))
          clear hb2 HPU
          go_wp2
          go_ret2
          rw [HE.out]
          exact ⟨_, rfl, World.ownsRow_nil .., HB2.out⟩
      · have hkl : k = ms.length := by omega
        have HE : Hid (R = (0, acc)) := Lib.hid (by
          have h0 : firstBad (recsOf ms) = 0 := by rw [HF.out, hkl, List.drop_length]; rfl
          rw [← HR.out, if_neg (by rw [h0]; decide), HA.out, hkl, List.take_length]
          unfold batch
          rw [HRN.out, HH.out])
        clear HF HA hlt
        subst hkl
        go_wp2
        go_ret2
        rw [HE.out]
        exact ⟨_, rfl, HOr.out, HBr.out⟩
end Go.Proofs.Ytahbaifbihpppaa.RpAll

