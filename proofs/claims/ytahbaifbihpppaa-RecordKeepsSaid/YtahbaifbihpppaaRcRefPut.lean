/- The contracts of the document's Check, Text, Put and PutAll of records. Conditions: a line of at most 2^40 bytes. -/
import Derived.Test.YtahbaifbihpppaaRcRef
import Derived.Test.YtahbaifbihpppaaLbCanon
import Derived.Test.YtahbaifbihpppaaRefPut
import Derived.Test.YtahbaifbihpppaaZig
import Derived.Lib.AppendStr
import Derived.StillTailTactics
namespace Go.Proofs.Ytahbaifbihpppaa.RcRefPut
open Go Go.RowKit Words AppN UtSpec UtRunes Less LbSpec LbText LbMem LbRef LbCmp LbCanon RcSpec RcAll RcMem RcRef UtOwn

theorem run_lenN (n : Nat) (h : n ≤ 1099511627776) : IntKind.u64.wrap (n : Int) = (n : Int) := by rw [IntKind.wrap_u64]; omega
def boxR (m : RM) : Obj := .cells #[.int .i64 m.1.time, .int .u64 (m.1.seq : Int), slV m.2, S8 m.1.line] 33

set_option maxHeartbeats 3200000 in
set_option maxRecDepth 100000 in
theorem rcheck_any (w : World) (m : RM) (h : Okm w m) : Calls Try.prog 14 #[aggR m] w fun e w' => e = .returned (.int .i64 (check m.1 : Int)) ∧ Below w.heap.size w w' := by
  obtain ⟨⟨t, s, l, line⟩, A, n, c⟩ := m
  have HLB := Lib.hid h.labs
  clear h
  simp only at HLB
  obtain ⟨r, hr⟩ : ∃ r, check ⟨t, s, l, line⟩ = r := ⟨_, rfl⟩
  rw [show check (⟨⟨t, s, l, line⟩, A, n, c⟩ : RM).1 = r from hr]
  unfold check at hr
  simp only at hr
  have HW : Hid (Below w.heap.size w (w.alloc (.cells #[.int .i64 t, .int .u64 (s : Int), .slice A n c, .string ⟨line.toArray⟩] 33))) := Lib.hid ((Below.refl _ w).alloc (Nat.le_refl _) _)
  have HBOX := Lib.hid (heap_alloc_new w (.cells #[.int .i64 t, .int .u64 (s : Int), .slice A n c, .string ⟨line.toArray⟩] 33))
  have HLB1 := Lib.hid (lb_keep HLB.out HW.out)
  have HCN := Lib.hid (rcanon_any _ l A c n HLB1.out)
  unfold CPost at HCN
  obtain ⟨K, hK⟩ : ∃ K, canon l = K := ⟨_, rfl⟩
  rw [hK] at HCN hr
  obtain ⟨k1, k2⟩ := K
  simp only at HCN hr
  have HR := Lib.hid hr
  have HZ : w.heap.size < (w.alloc (.cells #[.int .i64 t, .int .u64 (s : Int), .slice A n c, .string ⟨line.toArray⟩] 33)).heap.size := by simp
  have e2 : (⟨line.toArray⟩ : ByteArray).size = line.length := size_len line
  obtain ⟨L, hL⟩ : ∃ L, L = (⟨line.toArray⟩ : ByteArray) := ⟨_, rfl⟩
  have HLL : Hid (L.data.toList = line) := Lib.hid (by rw [hL])
  unfold aggR slV S8
  simp only [← hL] at HW HBOX HLB1 HCN HZ e2 ⊢
  have HE2 := Lib.hid e2
  clear hr hK hL HLB e2
  go_enter Try.func14, Try.ntmps14
  go_wp2_with fail
  refine HCN.out.mono ?_
  rintro e w1 ⟨v1, rfl, hown, hb1⟩
  have HB1 : Hid (Below w.heap.size w w1) := Lib.hid (HW.out.trans (hb1.mono HW.out.size))
  have hbox : w1.heap[w.heap.size]? = some (.cells #[.int .i64 t, .int .u64 (s : Int), .slice A n c, .string L] 33 (0, 0)) := (hb1.block w.heap.size HZ).trans HBOX.out
  obtain ⟨A1, c1, rfl, hlb1⟩ := own_lb hown
  have HLA := Lib.hid hlb1
  have HLR := Lib.hid (lb_keep HLB1.out hb1)
  have HX1 := Lib.hid hbox
  have k2c : w1.cell? ⟨w.heap.size, 2, none⟩ = some (.slice A n c) := by unfold World.cell?; rw [hbox]; rfl
  have k3c : w1.cell? ⟨w.heap.size, 3, none⟩ = some (.string L) := by unfold World.cell?; rw [hbox]; rfl
  clear hown hb1 hlb1 HCN HBOX hbox
  by_cases h1 : k1 = 0
  · have HS := Lib.hid (rsame_any w1 k2 l A1 A k2.length n c1 c HLA.out HLR.out)
    have j1 : ((k1 : Int) != 0) = false := by simp [h1]
    have hr := HR.out
    rw [if_neg (by simpa using h1)] at hr
    have hq : (k2 == l) = decide (cmp k2 l = 0) := by rw [Bool.eq_iff_iff, beq_iff_eq, decide_eq_true_eq]; exact cmp_eq.symm
    rw [hq] at HS
    by_cases h2 : cmp k2 l = 0
    · rw [if_neg (by simpa using h2)] at hr
      rw [decide_eq_true h2] at HS
      have HR2 := Lib.hid hr
      clear h1 h2 hr hq
      go_wp2_with fail
      refine HS.out.mono ?_
      rintro e w2 ⟨rfl, hb2⟩
      have HB2 : Hid (Below w.heap.size w w2) := Lib.hid (HB1.out.trans (hb2.mono HB1.out.size))
      have hbox2 : w2.heap[w.heap.size]? = some (.cells #[.int .i64 t, .int .u64 (s : Int), .slice A n c, .string L] 33 (0, 0)) := (hb2.block w.heap.size (Array.getElem?_eq_some_iff.1 HX1.out).1).trans HX1.out
      have k4c : w2.cell? ⟨w.heap.size, 3, none⟩ = some (.string L) := by unfold World.cell?; rw [hbox2]; rfl
      clear hb2 HS k2c k3c hbox2
      by_cases h3 : 1024 < line.length
      · have j3 : (1024 : Int) < (L.size : Int) := by have := HE2.out; omega
        have HR3 : Hid (r = 4) := Lib.hid (by have h := HR2.out; rw [if_pos h3] at h; exact h.symm)
        clear h3 HR2
        go_wp2
        go_ret
        exact ⟨ret_int (by rw [HR3.out]; rfl), HB2.out⟩
      · have j3 : ¬ (1024 : Int) < (L.size : Int) := by have := HE2.out; omega
        have HRN := Lib.hid (runes_any L w2 (by have := HE2.out; omega))
        unfold RPost at HRN
        have HR3 : Hid ((if vals line = true then 0 else 8) = r) := Lib.hid (by have h := HR2.out; rwa [if_neg h3] at h)
        rw [HLL.out] at HRN
        obtain ⟨b, hb⟩ : ∃ b, vals line = b := ⟨_, rfl⟩
        rw [hb] at HR3 HRN
        clear h3 HR2 hb
        cases b with
        | true =>
          go_wp2_with fail
          refine HRN.out.mono ?_
          rintro e w3 ⟨v3, rfl, _, hb3⟩
          have HB3 : Hid (Below w.heap.size w w3) := Lib.hid (HB2.out.trans (hb3.mono HB2.out.size))
          clear hb3 HRN
          go_wp2
          go_ret
          exact ⟨ret_int (by have h := HR3.out; simp at h; omega), HB3.out⟩
        | false =>
          go_wp2_with fail
          refine HRN.out.mono ?_
          rintro e w3 ⟨v3, rfl, _, hb3⟩
          have HB3 : Hid (Below w.heap.size w w3) := Lib.hid (HB2.out.trans (hb3.mono HB2.out.size))
          clear hb3 HRN
          go_wp2
          go_ret
          exact ⟨ret_int (by have h := HR3.out; simp at h; omega), HB3.out⟩
    · rw [if_pos (by simpa using h2)] at hr
      rw [decide_eq_false h2] at HS
      have HR2 := Lib.hid hr
      clear h1 h2 hr hq
      go_wp2_with fail
      refine HS.out.mono ?_
      rintro e w2 ⟨rfl, hb2⟩
      have HB2 : Hid (Below w.heap.size w w2) := Lib.hid (HB1.out.trans (hb2.mono HB1.out.size))
      clear hb2 HS
      go_wp2
      go_ret
      exact ⟨ret_int (by rw [← HR2.out]; rfl), HB2.out⟩
  · have j1 : ((k1 : Int) != 0) = true := by simp [h1]
    have HR2 : Hid (r = k1) := Lib.hid (by have h := HR.out; rw [if_pos (by simpa using h1)] at h; exact h.symm)
    clear h1
    go_wp2
    go_ret
    exact ⟨ret_int (by rw [HR2.out]), HB1.out⟩

/-! ### Text -/
set_option maxHeartbeats 800000 in
theorem rtext_any (s : List UInt8) (w : World) (h : s.length ≤ 1099511627776) :
    Calls Try.prog 29 #[S8 s] w fun e w' => ∃ v, e = .returned v ∧ w'.ownsRow w.heap.size 5 1 v (text s).length ((text s).map B8) ∧ Below w.heap.size w w' := by
  obtain ⟨i1, gi, gz0, gz1, gz2⟩ := info_parts Put.info_u8
  have HO := Lib.hid (RefPut.one64 s.length w (by omega))
  have e2 : (⟨s.toArray⟩ : ByteArray).size = s.length := size_len s
  have hw := run_lenN s.length h
  obtain ⟨V, hV⟩ : ∃ V, V = (⟨s.toArray⟩ : ByteArray) := ⟨_, rfl⟩
  have HVD : Hid (Lib.strCells V = s.map B8) := Lib.hid (by rw [hV]; rfl)
  unfold S8
  simp only [← hV] at e2 ⊢
  clear hV
  obtain ⟨U, hU⟩ : ∃ U, Lib.uvarint s.length = U := ⟨_, rfl⟩
  have HU := Lib.hid hU
  rw [hU] at HO
  have hul : U.length ≤ 10 := by rw [← hU]; exact Lib.uvarint_length64 (by omega)
  clear hU
  go_enter Try.func29, Try.ntmps29
  go_wp2_with fail
  refine HO.out.mono ?_
  rintro e w1 ⟨v1, rfl, hown, hb1⟩
  have HO1 := Lib.hid hown
  have HB1 := Lib.hid hb1
  have hbase := hb1.size
  clear hown hb1 HO
  go_wp2_with (at_builtin; refine Lib.wpList_append_own_string _ rfl (.tmp 6) (.tmp 7) 24 9 rfl w.heap.size 5 i1 Try.underlying24 Try.underlying9 gi gz0 gz1 gz2 _ _ _ rfl HO1.out V rfl ?f1 ?f2 hbase ?_)
  case f1 => unfold maxLen; omega
  case f2 => omega
  intro v' w2 hown2 hg _
  have HO2 : Hid (w2.ownsRow w.heap.size 5 1 v' (text s).length ((text s).map B8)) := Lib.hid (by
    unfold text
    rw [HU.out, List.length_append, List.map_append, ← HVD.out]
    exact hown2)
  have HB2 := Lib.hid (below_app HO1.out HB1.out hg)
  clear hown2 hg
  go_wp2
  go_ret
  exact ⟨_, rfl, HO2.out, HB2.out⟩

/-! ### Put -/
/-- Bytes and an error, the bytes in new memory. -/
def BPost (r : Nat × List UInt8) (w : World) (e : Ending) (w' : World) : Prop :=
  ∃ v, e = .returned (.tuple #[v, .int .i64 (r.1 : Int)]) ∧ w'.ownsRow w.heap.size 5 1 v r.2.length (r.2.map B8) ∧ Below w.heap.size w w'
/-- On the way: the bytes so far in a row of the call's own, the parameter's box behind the entry. -/
structure St (w : World) (m : RM) (acc : List UInt8) (v : Value) (wr : World) : Prop where
  own : wr.ownsRow (w.heap.size + 1) 5 1 v acc.length (acc.map B8)
  below : Below w.heap.size w wr
  box : wr.heap[w.heap.size]? = some (.cells #[.int .i64 m.1.time, .int .u64 (m.1.seq : Int), slV m.2, S8 m.1.line] 33 (0, 0))
theorem St.lt {w wr : World} {m : RM} {acc : List UInt8} {v : Value} (h : St w m acc v wr) : w.heap.size < wr.heap.size := (Array.getElem?_eq_some_iff.1 h.box).1
theorem St.call {w wr w1 : World} {m : RM} {acc : List UInt8} {v : Value} (h : St w m acc v wr) (hb : Below wr.heap.size wr w1) : St w m acc v w1 :=
  ⟨own_keep h.own hb, h.below.trans (hb.mono h.below.size), (hb.block _ h.lt).trans h.box⟩
theorem St.app {w w1 w2 : World} {m : RM} {acc t : List UInt8} {v v' : Value} (h : St w m acc v w1) (ho : w2.ownsRow (w.heap.size + 1) 5 1 v' (acc.length + t.length) (acc.map B8 ++ t.map B8)) (hg : w1.grownBy w2 v.ownBlock) : St w m (acc ++ t) v' w2 := by
  refine ⟨by simpa using ho, h.below.grown hg (Nat.le_of_lt h.lt) (fun k hk => by have := own_lt h.own k hk; omega), ?_⟩
  refine (hg.block _ h.lt (fun e => ?_)).trans h.box
  have := own_lt h.own _ e.symm
  omega
theorem St.cells {w wr : World} {m : RM} {acc : List UInt8} {v : Value} (h : St w m acc v wr) : wr.cell? ⟨w.heap.size, 2, none⟩ = some (slV m.2) ∧ wr.cell? ⟨w.heap.size, 3, none⟩ = some (S8 m.1.line) := by
  have hb := h.box
  constructor <;> (unfold World.cell?; rw [hb]; rfl)
theorem zig_nat (t : Int) : Zig.zig t = (zigN t : Int) := by unfold Zig.zig zigN; split <;> omega
def PlRel (w : World) (m : RM) (head : List UInt8) (v vi : Value) (wr : World) : Prop :=
  ∃ (k : Nat) (acc : List UInt8), vi = .int .i64 (k : Int) ∧ k ≤ m.1.labels.length ∧ Hid (St w m acc v wr) ∧ Hid (acc = head ++ putL (m.1.labels.take k)) ∧ acc.length ≤ 40 + 320 * k
theorem putL_snoc : ∀ (l : List Lab) (x : Lab), putL (l ++ [x]) = putL l ++ (text x.1 ++ text x.2)
  | [], x => by simp [putL]
  | y :: l, x => by rw [List.cons_append, putL, putL, putL_snoc l x]; simp
theorem putL_next {l : List Lab} {k : Nat} (h : k < l.length) : putL (l.take (k + 1)) = putL (l.take k) ++ (text (l[k]).1 ++ text (l[k]).2) := by
  rw [List.take_succ_eq_append_getElem h, putL_snoc]
theorem text_len {s : List UInt8} (h : s.length < 18446744073709551616) : (text s).length ≤ 10 + s.length := by
  unfold text
  rw [List.length_append]
  have := Lib.uvarint_length64 h
  omega

set_option maxHeartbeats 6400000 in
set_option maxRecDepth 100000 in
theorem rput_any (w : World) (m : RM) (h : Okm w m) : Calls Try.prog 12 #[aggR m] w (BPost (RcAll.put m.1) w) := by
  obtain ⟨i1, gi, gz0, gz1, gz2⟩ := info_parts Put.info_u8
  have HOK := Lib.hid h
  have HW : Hid (Below w.heap.size w (w.alloc (boxR m))) := Lib.hid ((Below.refl _ w).alloc (Nat.le_refl _) _)
  have HBOX := Lib.hid (heap_alloc_new w (boxR m))
  have HCK := Lib.hid (rcheck_any _ m (h.below HW.out))
  obtain ⟨q, hq⟩ : ∃ q, check m.1 = q := ⟨_, rfl⟩
  rw [hq] at HCK
  have HQ := Lib.hid hq
  have HZ : w.heap.size < (w.alloc (boxR m)).heap.size := by simp
  clear h hq
  unfold boxR at *
  unfold aggR at *
  obtain ⟨⟨t, s, l, line⟩, A, n, c⟩ := m
  simp only at HW HBOX HCK HZ HQ ⊢
  unfold slV S8 at *
  simp only at HW HBOX HCK HZ
  by_cases hq0 : q = 0
  · have j1 : ((q : Int) != 0) = false := by simp [hq0]
    have HPUT : Hid (RcAll.put ⟨t, s, l, line⟩ = (0, bytesR ⟨t, s, l, line⟩)) := Lib.hid (by unfold RcAll.put; rw [HQ.out, if_pos hq0])
    have HOKP := Lib.hid (check_ok.1 (HQ.out.trans hq0))
    have HFT := Lib.hid HOK.out.fits
    clear hq0
    go_enter Try.func12, Try.ntmps12
    go_wp2_with fail
    refine HCK.out.mono ?_
    rintro e w1 ⟨rfl, hb1⟩
    have HB1 : Hid (Below w.heap.size w w1) := Lib.hid (HW.out.trans (hb1.mono HW.out.size))
    have hbox : w1.heap[w.heap.size]? = some (.cells #[.int .i64 t, .int .u64 (s : Int), .slice A n c, .string ⟨line.toArray⟩] 33 (0, 0)) := (hb1.block w.heap.size HZ).trans HBOX.out
    have HX1 := Lib.hid hbox
    have k0 : w1.cell? ⟨w.heap.size, 0, none⟩ = some (.int .i64 t) := by unfold World.cell?; rw [hbox]; rfl
    have k1 : w1.cell? ⟨w.heap.size, 1, none⟩ = some (.int .u64 (s : Int)) := by unfold World.cell?; rw [hbox]; rfl
    have k2 : w1.cell? ⟨w.heap.size, 2, none⟩ = some (.slice A n c) := by unfold World.cell?; rw [hbox]; rfl
    clear hb1 HCK hbox HBOX
    have hnl : n = l.length := HOK.out.labs.1
    subst hnl
    have hl16 : l.length ≤ 16 := HOKP.out.may.few
    have HLAB := Lib.hid HOK.out.labs
    have hw3 : IntKind.u64.wrap (l.length : Int) = (l.length : Int) := by rw [IntKind.wrap_u64]; omega
    have HZG := fun w => Lib.hid (Zig.refzig_any t w HFT.out.1.1 HFT.out.1.2)
    rw [zig_nat] at HZG
    have hz64 := zig64 HFT.out.1
    have hs64 := HFT.out.2
    obtain ⟨L3, hL3⟩ : ∃ L3 : List UInt64, L3 = [UInt64.ofNat (zigN t), UInt64.ofNat s, UInt64.ofNat l.length] := ⟨_, rfl⟩
    have hb3 : L3.map B64 = [.int .u64 (zigN t : Int), .int .u64 (s : Int), .int .u64 (l.length : Int)] := by
      rw [hL3]
      simp only [List.map_cons, List.map_nil, B64, UInt64.toNat_ofNat']
      rw [Nat.mod_eq_of_lt hz64, Nat.mod_eq_of_lt hs64, Nat.mod_eq_of_lt (by omega)]
    have he3 : Plain.encs L3 = Lib.uvarint (zigN t) ++ (Lib.uvarint s ++ Lib.uvarint l.length) := by
      rw [hL3]
      simp only [Plain.encs, List.flatMap_cons, List.flatMap_nil, UInt64.toNat_ofNat', List.append_nil]
      rw [Nat.mod_eq_of_lt hz64, Nat.mod_eq_of_lt hs64, Nat.mod_eq_of_lt (by omega)]
    have HP3 : Hid (Calls Try.prog 27 #[.slice (some ⟨w1.heap.size, 0, none⟩) 3 3] (w1.alloc (.cells #[.int .u64 (zigN t : Int), .int .u64 (s : Int), .int .u64 (l.length : Int)] 30)).drew fun e w' => ∃ v, e = .returned v ∧ w'.ownsRow (w.heap.size + 1) 5 1 v (Lib.uvarint (zigN t) ++ (Lib.uvarint s ++ Lib.uvarint l.length)).length ((Lib.uvarint (zigN t) ++ (Lib.uvarint s ++ Lib.uvarint l.length)).map B8) ∧ Below w1.heap.size w1 w') := Lib.hid (by
      have hr := Rd.made' w1 #[.int .u64 (zigN t : Int), .int .u64 (s : Int), .int .u64 (l.length : Int)] 30
      have hp := RefPut.refput_any L3 (some ⟨w1.heap.size, 0, none⟩) 3 (w1.alloc (.cells #[.int .u64 (zigN t : Int), .int .u64 (s : Int), .int .u64 (l.length : Int)] 30)).drew (by rw [hb3]; exact hr) (by rw [hL3]; simp)
      rw [show L3.length = 3 by rw [hL3]; rfl, he3] at hp
      refine hp.mono ?_
      rintro e w2 ⟨v, he, ho, hb⟩
      have hge : w.heap.size + 1 ≤ (w1.alloc (.cells #[.int .u64 (zigN t : Int), .int .u64 (s : Int), .int .u64 (l.length : Int)] 30)).drew.heap.size := by
        have : w.heap.size < w1.heap.size := (Array.getElem?_eq_some_iff.1 HX1.out).1
        show w.heap.size + 1 ≤ (w1.alloc (.cells #[.int .u64 (zigN t : Int), .int .u64 (s : Int), .int .u64 (l.length : Int)] 30)).heap.size
        simp
        omega
      refine ⟨v, he, UtOwn.own_mono ho hge, ?_⟩
      have hb0 : Below w1.heap.size w1 (w1.alloc (.cells #[.int .u64 (zigN t : Int), .int .u64 (s : Int), .int .u64 (l.length : Int)] 30)).drew := below_drew1 ((Below.refl _ w1).alloc (Nat.le_refl _) _)
      exact hb0.trans (hb.mono hb0.size))
    clear hb3 he3 hL3
    go_wp2
    refine wp_region_still_tail 9 (by kernel_rfl) (by kernel_rfl) ?_
    simp only [List.take_succ_cons, List.take_zero, List.drop_succ_cons, List.drop_zero]
    iterate 2 (refine wpStill_step (fun K hK => ?_); go_simp; refine hK _ ?_; clear hK K)
    refine wpStill_step (fun K hK => ?_)
    go_simp
    refine ⟨_, (HZG _).out.mono fun _ _ h => ⟨h.1, h.2.symm⟩, hK _ ?_⟩
    clear hK K
    iterate 6 (refine wpStill_step (fun K hK => ?_); go_simp; refine hK _ ?_; clear hK K)
    refine wpStill_nil ?_
    change wpList _ _ _ _ _ w1.drew
    go_wp2_with fail
    refine HP3.out.mono ?_
    rintro e w2 ⟨v2, rfl, hown2, hb2⟩
    obtain ⟨head, hhead⟩ : ∃ head, head = Lib.uvarint (zigN t) ++ (Lib.uvarint s ++ Lib.uvarint l.length) := ⟨_, rfl⟩
    have hhl : head.length ≤ 30 := by
      rw [hhead, List.length_append, List.length_append]
      have h1 := Lib.uvarint_length64 hz64
      have h2 := Lib.uvarint_length64 hs64
      have h3 := Lib.uvarint_length64 (x := l.length) (by omega)
      omega
    rw [← hhead] at hown2
    have HH := Lib.hid hhead
    have HST : Hid (St w ⟨⟨t, s, l, line⟩, A, l.length, c⟩ head v2 w2) := Lib.hid ⟨hown2, HB1.out.trans (hb2.mono HB1.out.size), (hb2.block _ (Array.getElem?_eq_some_iff.1 HX1.out).1).trans HX1.out⟩
    have k3 : w2.cell? ⟨w.heap.size, 2, none⟩ = some (.slice A l.length c) := HST.out.cells.1
    clear hown2 hb2 HP3 HZG k0 k1 k2 HX1 HB1 hhead hw3 hz64 hs64
    go_wp2
    go_loopw [5, 6] (fun v vi wr => PlRel w ⟨⟨t, s, l, line⟩, A, l.length, c⟩ head v vi wr) (fun _ vi _ => l.length - (intOf vi).toNat)
    case atStart => exact ⟨0, head, rfl, Nat.zero_le _, HST, Lib.hid (by simp [putL]), by omega⟩
    case round =>
      obtain ⟨k, acc, rfl, hk, HS, HA, hal⟩ := hrel
      have hk' : k ≤ l.length := hk
      clear hk HST k3
      have k3 : wr.cell? ⟨w.heap.size, 2, none⟩ = some (.slice A l.length c) := HS.out.cells.1
      have hbase : w.heap.size + 1 ≤ wr.heap.size := HS.out.lt
      by_cases hlt : k < l.length
      · have hLr := (HLAB.out.2.2.2.below HS.out.below)
        obtain ⟨g1, o1, rfl, hg1, hc1⟩ := hLr (by rw [flat_len]; omega)
        obtain ⟨p0, p1⟩ := cellsL hc1 hlt
        have hlen := HOKP.out.len _ (List.getElem_mem hlt)
        have hln := lerr_len (HOKP.out.may.each _ (List.getElem_mem hlt))
        have HNX := Lib.hid (putL_next hlt)
        obtain ⟨x, hx⟩ : ∃ x, l[k] = x := ⟨_, rfl⟩
        rw [hx] at p0 p1 hlen hln HNX
        obtain ⟨x1, x2⟩ := x
        simp only at p0 p1 hlen hln HNX
        have HT1 := Lib.hid (rtext_any x1 wr (by omega))
        have HT2 := fun w' => Lib.hid (rtext_any x2 w' (by omega))
        have hl1 := text_len hlen.1
        have hl2 := text_len hlen.2
        unfold S8 at HT1 HT2
        have hi1 : (0 : Int) ≤ (k : Int) := by omega
        have hi2 : (k : Int) < (l.length : Int) := by omega
        clear hc1 hLr hx hlen
        go_wp2_with fail
        refine HT1.out.mono ?_
        rintro e w3 ⟨v3, rfl, hown3, hb3⟩
        have HS3 := Lib.hid (HS.out.call hb3)
        obtain ⟨T1, hT1⟩ : ∃ T, text x1 = T := ⟨_, rfl⟩
        rw [hT1] at hown3 hl1
        obtain ⟨A3, c3, rfl, _, _, _⟩ := own_slice hown3
        have HRD3 := Lib.hid (Rd.of_own hown3)
        have hb3s : w.heap.size + 1 ≤ w3.heap.size := HS3.out.lt
        have p1' : w3.cell? ⟨g1, o1 + k * 2 + 1, none⟩ = some (.string ⟨x2.toArray⟩) := (hb3.cell (p := ⟨g1, o1 + k * 2 + 1, none⟩) (by show g1 < wr.heap.size; omega)).trans p1
        have HT1E := Lib.hid hT1
        clear hown3 hb3 HT1 hT1 p0 p1 k3 HS
        go_wp2_with (at_builtin; refine wpList_append_rd _ rfl (.tmp 30) (.tmp 37) 24 rfl (w.heap.size + 1) 1 5 i1 (.int .u8 0) 1 Try.underlying24 gi gz0 gz1 gz2 rfl (by omega) _ _ _ rfl HS3.out.own w3.heap.size A3 T1.length c3 (T1.map B8) rfl (by simp) HRD3.out (one8 T1) ?f1 ?f2 ?f3 ?_)
        case f1 => unfold maxLen; omega
        case f2 => omega
        case f3 => exact hb3s
        intro v4 w4 hown4 hg4 _
        have HS4 := Lib.hid (HS3.out.app hown4 hg4)
        have k4 : w4.cell? ⟨w.heap.size, 2, none⟩ = some (.slice (some ⟨g1, o1, none⟩) l.length c) := HS4.out.cells.1
        have p1'' : w4.cell? ⟨g1, o1 + k * 2 + 1, none⟩ = some (.string ⟨x2.toArray⟩) := by
          refine (World.cell?_of_block (hg4.block g1 (by omega) (fun e => ?_))).trans p1'
          have := own_lt HS3.out.own _ e.symm
          omega
        have HT5 := HT2 w4
        clear hown4 hg4 HS3 HRD3 p1' HT2 hb3s
        go_wp2_with fail
        refine HT5.out.mono ?_
        rintro e w5 ⟨v5, rfl, hown5, hb5⟩
        have HS5 := Lib.hid (HS4.out.call hb5)
        obtain ⟨T2, hT2⟩ : ∃ T, text x2 = T := ⟨_, rfl⟩
        rw [hT2] at hown5 hl2
        obtain ⟨A5, c5, rfl, _, _, _⟩ := own_slice hown5
        have HRD5 := Lib.hid (Rd.of_own hown5)
        have hb5s : w.heap.size + 1 ≤ w5.heap.size := HS5.out.lt
        have HT2E := Lib.hid hT2
        have hal5 : (acc ++ T1).length = acc.length + T1.length := List.length_append
        have HAL5 := Lib.hid hal5
        clear hown5 hb5 HT5 hT2 p1'' k4 HS4 hal5
        go_wp2_with (at_builtin; refine wpList_append_rd _ rfl (.tmp 39) (.tmp 46) 24 rfl (w.heap.size + 1) 1 5 i1 (.int .u8 0) 1 Try.underlying24 gi gz0 gz1 gz2 rfl (by omega) _ _ _ rfl HS5.out.own w5.heap.size A5 T2.length c5 (T2.map B8) rfl (by simp) HRD5.out (one8 T2) ?f1 ?f2 ?f3 ?_)
        case f1 => have := HAL5.out; unfold maxLen; omega
        case f2 => have := HAL5.out; omega
        case f3 => exact hb5s
        intro v6 w6 hown6 hg6 _
        have HS6 := Lib.hid (HS5.out.app (t := T2) (by simpa using hown6) hg6)
        have HA6 : Hid (acc ++ T1 ++ T2 = head ++ putL (l.take (k + 1))) := Lib.hid (by rw [HNX.out, HA.out, HT1E.out, HT2E.out]; simp)
        have hal6 : (acc ++ T1 ++ T2).length ≤ 40 + 320 * (k + 1) := by rw [List.length_append, List.length_append]; omega
        have HAL6 := Lib.hid hal6
        clear hown6 hg6 HS5 HRD5 hal6
        go_wp2
        go_roundw
        case rel => exact ⟨k + 1, acc ++ T1 ++ T2, by go_num, by show k + 1 ≤ l.length; omega, HS6, HA6, HAL6.out⟩
        case measure => simp [intOf]; omega
      · have hkl : k = l.length := by omega
        have k3f : wr.cell? ⟨w.heap.size, 3, none⟩ = some (.string ⟨line.toArray⟩) := HS.out.cells.2
        have hline := HOKP.out.line
        simp only at hline
        have HT1 := Lib.hid (rtext_any line wr (by omega))
        have hl1 := text_len (s := line) (by omega)
        unfold S8 at HT1
        have HAE : Hid (acc ++ text line = bytesR ⟨t, s, l, line⟩) := Lib.hid (by
          rw [HA.out, hkl, List.take_length, HH.out]
          unfold bytesR
          simp)
        clear hlt HA
        subst hkl
        go_wp2_with fail
        refine HT1.out.mono ?_
        rintro e w3 ⟨v3, rfl, hown3, hb3⟩
        have HS3 := Lib.hid (HS.out.call hb3)
        obtain ⟨T1, hT1⟩ : ∃ T, text line = T := ⟨_, rfl⟩
        rw [hT1] at hown3 hl1 HAE
        obtain ⟨A3, c3, rfl, _, _, _⟩ := own_slice hown3
        have HRD3 := Lib.hid (Rd.of_own hown3)
        have hb3s : w.heap.size + 1 ≤ w3.heap.size := HS3.out.lt
        clear hown3 hb3 HT1 hT1 k3 k3f HS
        go_wp2_with (at_builtin; refine wpList_append_rd _ rfl (.tmp 48) (.tmp 51) 24 rfl (w.heap.size + 1) 1 5 i1 (.int .u8 0) 1 Try.underlying24 gi gz0 gz1 gz2 rfl (by omega) _ _ _ rfl HS3.out.own w3.heap.size A3 T1.length c3 (T1.map B8) rfl (by simp) HRD3.out (one8 T1) ?f1 ?f2 ?f3 ?_)
        case f1 => unfold maxLen; omega
        case f2 => omega
        case f3 => exact hb3s
        intro v4 w4 hown4 hg4 _
        have HS4 := Lib.hid (HS3.out.app hown4 hg4)
        clear hown4 hg4 HS3 HRD3
        go_wp2
        go_ret2
        rw [HPUT.out]
        refine ⟨_, rfl, ?_, HS4.out.below⟩
        rw [← HAE.out]
        exact own_mono HS4.out.own (Nat.le_succ _)
  · have j1 : ((q : Int) != 0) = true := by simp [hq0]
    have HPUT : Hid (RcAll.put ⟨t, s, l, line⟩ = (q, [])) := Lib.hid (by unfold RcAll.put; rw [HQ.out, if_neg hq0])
    clear hq0
    go_enter Try.func12, Try.ntmps12
    go_wp2_with fail
    refine HCK.out.mono ?_
    rintro e w1 ⟨rfl, hb1⟩
    have HB1 : Hid (Below w.heap.size w w1) := Lib.hid (HW.out.trans (hb1.mono HW.out.size))
    clear hb1 HCK
    go_wp2
    go_ret2
    rw [HPUT.out]
    exact ⟨_, rfl, World.ownsRow_nil .., HB1.out⟩
end Go.Proofs.Ytahbaifbihpppaa.RcRefPut
