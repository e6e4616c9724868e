/- RecordBack, walked over the contracts of record's calls. -/
import Derived.Test.YtahbaifbihpppaaRcPutsW
namespace Go.Proofs.Ytahbaifbihpppaa.RcBackW
open Go Go.RowKit Words AppN Less LbSpec LbText LbMem LbRef LbCmp LbCanon RcSpec RcAll RcMem RcRef RcRefPut RcRefAll RcRefGt RcRefRd RcRefGa RcLaw RcPutsW UtOwn

theorem many_len : ∀ {l : List Rec}, (∀ r ∈ l, Ok r) → Fit l → (many l).length ≤ 7000 * l.length
  | [], _, _ => by simp [many]
  | r :: l, h, hf => by
    have h1 := bytes_len (h r (by simp)) (hf r (by simp))
    have h2 := many_len (l := l) (fun x hx => h x (by simp [hx])) (fun x hx => hf x (by simp [hx]))
    rw [many, List.length_append, List.length_cons]
    omega
theorem batch_len {l : List Rec} (h : All l) (hf : Fit l) : (batch l).length ≤ 500000000 := by
  have h1 := many_len h.ok hf
  have h2 := h.few
  have h3 := Lib.uvarint_length64 (x := l.length) (by omega)
  unfold batch
  rw [List.length_append]
  omega
theorem own_empty (w : World) (e : TypeId) (s : Nat) : (w.alloc (.cells #[] e)).ownsRow w.heap.size e s (.slice (some ⟨w.heap.size, 0, .none⟩) 0 0) 0 [] := by
  refine ⟨by simp, .inr ⟨w.heap.size, 0, #[], rfl, Nat.le_refl _, heap_alloc_new w _, Nat.le_refl _, by unfold maxLen; omega, by simp, by simp⟩⟩
def EPost (r : Nat × List UInt8) (w : World) (e : Ending) (w' : World) : Prop :=
  ∃ A c, e = .returned (.tuple #[.slice A r.2.length c, .int .i64 (r.1 : Int)]) ∧ r.2.length ≤ c ∧ c ≤ maxLen ∧ Rd w' w'.heap.size A (r.2.map B8) ∧ Below w.heap.size w w'
theorem bpost_e {r : Nat × List UInt8} {w w' : World} {e : Ending} (h : BPost r w e w') : EPost r w e w' := by
  obtain ⟨v, rfl, ho, hb⟩ := h
  obtain ⟨A, c, rfl, h1, h2, hr⟩ := own_row ho (by simp)
  exact ⟨A, c, rfl, h1, h2, hr, hb⟩
def KRel (w7 : World) (v : Value) (wr : World) : Prop := ∃ k : Nat, v = .int .i64 (k : Int) ∧ Hid (Below w7.heap.size w7 wr)
theorem recs_fit {w : World} {A : Option Addr} {n c : Nat} {ms : List RM} (h : Rl w A n c ms) : Fit (recsOf ms) := fun r hr => by
  obtain ⟨m, hm, rfl⟩ := List.mem_map.1 hr
  exact (h.each m hm).fits

set_option maxHeartbeats 12800000 in
set_option maxRecDepth 100000 in
theorem walk0 (P : Rcd) (w : World) (ms : List RM) (A : Option Addr) (c : Nat) (h : Rl w A ms.length c ms) (b : List UInt8) (B : Option Addr) (cb : Nat) (hlb : b.length ≤ cb) (hmb : cb ≤ maxLen) (hrb : Rd w w.heap.size B (b.map B8)) :
    Calls Try.prog 5 #[.slice A ms.length c, .slice B b.length cb] w fun e w' => e = .returned (.bool true) ∧ Below w.heap.size w w' := by
  obtain ⟨i1, gi, gz0, gz1, gz2⟩ := info_parts Put.info_u8
  have A0 := Lib.hid (awake_any P w)
  have AG := fun w h => Lib.hid (P.getAll w b B cb h hlb hmb)
  have HRL := Lib.hid h
  have HRB := Lib.hid hrb
  have HFIT := Lib.hid (recs_fit h)
  unfold GaPost at AG
  obtain ⟨L, hL⟩ : ∃ L, getAll b = L := ⟨_, rfl⟩
  simp only [hL] at AG
  obtain ⟨qe, l⟩ := L
  simp only at AG
  have HINV : Hid (qe = 0 → putAll l = (0, b)) := Lib.hid fun h0 => by
    subst h0
    obtain ⟨h1, h2, h3⟩ := getAll_inv hL
    rw [putAll_ok h2, ← h1]
  clear h hrb hL
  go_enter Try.func5, Try.ntmps5
  go_wp2_with fail
  refine A0.out.mono ?_
  rintro e w1 ⟨rfl, hb1⟩
  have HB1 := Lib.hid hb1
  have HR1 := Lib.hid (HRL.out.below hb1)
  have HS1 := Lib.hid ((HRB.out.below hb1).more hb1.size)
  clear hb1 A0 HRL HRB
  rcases Nat.eq_zero_or_pos qe with h0 | h0
  case' inl =>
    subst h0
    have HPA := Lib.hid (HINV.out rfl)
    go_wp2_with fail
    refine (AG w1 HS1.out).out.mono ?_
    rintro e w2 ⟨X, cx, ms1, rfl, hm1, hrl1, hb2⟩
    have HB2 := Lib.hid (RcPutsW.step HB1.out HB1.out.size hb2)
    have HR2 := Lib.hid (HR1.out.below hb2)
    have HS2 := Lib.hid ((HS1.out.below hb2).more hb2.size)
    have AP := Lib.hid ((P.putAll w2 ms1 X _ cx hrl1).mono fun _ _ h => bpost_d h)
    rw [hm1, HPA.out] at AP
    unfold DPost at AP
    simp only at AP
    clear hb2 hrl1 hm1 HB1 HR1 HS1 AG HINV HPA
    go_wp2_with fail
    refine AP.out.mono ?_
    rintro e wz ⟨Y, cy, rfl, hy, hbz⟩
    have HBZ := Lib.hid (RcPutsW.step HB2.out HB2.out.size hbz)
    have HRZ := Lib.hid (HR2.out.below hbz)
    have hcy := run_bytes (P := Try.prog) wz 24 9 5 Try.underlying24 Try.underlying5 Try.underlying9 _ b cy wz.heap.size hy
    have hcb := run_bytes (P := Try.prog) wz 24 9 5 Try.underlying24 Try.underlying5 Try.underlying9 _ b cb wz.heap.size ((HS2.out.below hbz).more hbz.size)
    have e1 : (b == b) = true := by simp
    clear hbz HB2 HR2 HS2 hy AP
  case' inr =>
    have j0 : ((qe : Int) == 0) = false := beq_eq_false_iff_ne.2 (by omega)
    go_wp2_with fail
    refine (AG w1 HS1.out).out.mono ?_
    rintro e wz ⟨X, cx, ms1, rfl, hm1, hrl1, hbz⟩
    have HBZ := Lib.hid (RcPutsW.step HB1.out HB1.out.size hbz)
    have HRZ := Lib.hid (HR1.out.below hbz)
    clear hbz hrl1 hm1 HB1 HR1 HS1 AG HINV h0
  all_goals
    have AP := Lib.hid ((P.putAll wz ms A _ c HRZ.out).mono fun _ _ h => bpost_e h)
    unfold EPost at AP
    by_cases hall : All (recsOf ms)
    · obtain ⟨T, hT⟩ : ∃ T, batch (recsOf ms) = T := ⟨_, rfl⟩
      rw [putAll_ok hall, hT] at AP
      simp only at AP
      have hTl : T.length ≤ 500000000 := by rw [← hT]; exact batch_len hall HFIT.out
      have HG0 : Hid (getAll T = (0, recsOf ms)) := Lib.hid (by rw [← hT]; exact getAll_put hall HFIT.out)
      have HCUT : Hid (∀ j, j < T.length → (getAll (T.take j)).1 = 5) := Lib.hid fun j hj => by rw [← hT] at hj ⊢; exact getAll_cut hall HFIT.out hj
      have HMORE : Hid ((getAll (T ++ [0])).1 = 6) := Lib.hid (by rw [← hT]; exact getAll_more hall HFIT.out (by simp))
      clear hall hT HFIT
      go_wp2_with fail
      refine AP.out.mono ?_
      rintro e w5 ⟨C, cc, rfl, hc1, hc2, hcr, hb5⟩
      have HB5 := Lib.hid (RcPutsW.step HBZ.out HBZ.out.size hb5)
      have HR5 := Lib.hid (HRZ.out.below hb5)
      have HC5 := Lib.hid hcr
      have AG2 := Lib.hid (P.getAll w5 T C cc hcr hc1 hc2)
      rw [HG0.out] at AG2
      unfold GaPost at AG2
      simp only at AG2
      clear hb5 hcr HBZ HRZ AP HG0
      go_wp2_with fail
      refine AG2.out.mono ?_
      rintro e w6 ⟨D, cd, ms2, rfl, hm2, hrl2, hb6⟩
      have HB6 := Lib.hid (RcPutsW.step HB5.out HB5.out.size hb6)
      have HC6 := Lib.hid ((HC5.out.below hb6).more hb6.size)
      have AS := Lib.hid (rsamea_any w6 ms ms2 A D _ _ c cd (HR5.out.below hb6) hrl2)
      rw [show eqA (recsOf ms) (recsOf ms2) = true from eqA_iff.2 hm2.symm] at AS
      clear hb6 hrl2 hm2 HB5 HR5 HC5 AG2
      go_wp2_with fail
      refine AS.out.mono ?_
      rintro e w7 ⟨rfl, hb7⟩
      have HB7 := Lib.hid (RcPutsW.step HB6.out HB6.out.size hb7)
      have HC7 := Lib.hid ((HC6.out.below hb7).more hb7.size)
      clear hb7 HB6 HC6 AS
      go_wp2
      go_loopw [10] (fun v wr => KRel w7 v wr) (fun v _ => T.length - (intOf v).toNat)
      case atStart => exact ⟨0, rfl, Lib.hid (Below.refl _ _)⟩
      case round =>
        obtain ⟨k, rfl, HB⟩ := hrel
        by_cases hlt : k < T.length
        · have ht : Hid (Rd wr wr.heap.size C ((T.take k).map B8)) := Lib.hid (by
            have h := (HC7.out.below HB.out).more HB.out.size
            rw [List.map_take]
            exact h.take k)
          have AG3 := Lib.hid (P.getAll wr (T.take k) C cc ht.out (by rw [List.length_take]; omega) hc2)
          unfold GaPost at AG3
          rw [HCUT.out k hlt, show (T.take k).length = k by rw [List.length_take]; omega] at AG3
          have hi1 : (0 : Int) ≤ (k : Int) := by omega
          have hi2 : (k : Int) ≤ (cc : Int) := by omega
          have hi3 : (k : Int) < (T.length : Int) := by omega
          clear ht
          go_wp2_with fail
          refine AG3.out.mono ?_
          rintro e w8 ⟨D8, c8, ms8, rfl, _, _, hb8⟩
          have HB8 := Lib.hid (RcPutsW.step HB.out HB.out.size hb8)
          clear hb8 AG3 HB
          go_wp2
          go_roundw
          case rel => exact ⟨k + (1 + T.length / 40), by go_num, HB8⟩
          case measure => simp [intOf]; omega
        · have hge : ¬ (k : Int) < (T.length : Int) := by omega
          clear hlt
          have HOE := Lib.hid (own_empty wr 5 1)
          have HBA : Hid (Below wr.heap.size wr (wr.alloc (.cells #[] 5))) := Lib.hid ((Below.refl _ wr).alloc (Nat.le_refl _) _)
          have HCA := Lib.hid ((((HC7.out.below HB.out).more HB.out.size).below HBA.out).more HBA.out.size)
          have HW := Lib.hid (HB7.out.trans (HB.out.mono HB7.out.size))
          clear HB HB7 HC7 HCUT
          go_wp2_with (at_builtin; refine wpList_append_rd _ rfl (.tmp 81) (.tmp 82) 24 rfl wr.heap.size 1 5 i1 (.int .u8 0) 1 Try.underlying24 gi gz0 gz1 gz2 rfl (by omega) _ _ _ rfl HOE.out _ C T.length cc (T.map B8) rfl (by simp) HCA.out (one8 T) (by unfold maxLen; omega) (by omega) (by simp) ?_)
          intro v8 w8 hown8 hg8 _
          have HO8 : Hid (w8.ownsRow wr.heap.size 5 1 v8 T.length (T.map B8)) := Lib.hid (by simpa using hown8)
          have HB8 := Lib.hid (HBA.out.grown hg8 (by simp) (fun k hk => (HOE.out.lt k hk).1))
          have HO8A := Lib.hid (HO8.out.alloc (.cells #[.int .u8 0] 5))
          have HB8A := Lib.hid (HB8.out.alloc HB8.out.size (.cells #[.int .u8 0] 5))
          have HRZ0 := Lib.hid (Rd.made' w8 #[.int .u8 0] 5)
          have hb8s : wr.heap.size ≤ w8.heap.size := HB8.out.size
          clear hown8 hg8 HOE HCA HBA HO8 HB8
          go_wp2_with (at_builtin; refine wpList_append_rd _ rfl (.tmp 83) (.tmp 84) 24 rfl wr.heap.size 1 5 i1 (.int .u8 0) 1 Try.underlying24 gi gz0 gz1 gz2 rfl (by omega) _ _ _ rfl HO8A.out _ (some ⟨w8.heap.size, 0, .none⟩) 1 1 [.int .u8 0] rfl rfl HRZ0.out (by intro u hu; simp at hu; subst hu; rfl) (by unfold maxLen; omega) (by omega) (by simp; omega) ?_)
          intro v9 w9 hown9 hg9 _
          have HB9 := Lib.hid (HB8A.out.grown hg9 HB8A.out.size (fun k hk => (HO8A.out.lt k hk).1))
          have hown : w9.ownsRow wr.heap.size 5 1 v9 (T.length + 1) ((T ++ [0]).map B8) := by
            rw [List.map_append]
            exact hown9
          obtain ⟨C9, c9, rfl, hd1, hd2, hd3⟩ := own_row hown (by simp)
          have AG4 := Lib.hid (P.getAll w9 (T ++ [0]) C9 c9 hd3 (by simpa using hd1) hd2)
          unfold GaPost at AG4
          rw [HMORE.out, show (T ++ [(0 : UInt8)]).length = T.length + 1 by simp] at AG4
          clear hown9 hg9 hown hd1 hd2 hd3 HB8A HO8A HRZ0 HMORE
          go_wp2_with fail
          refine AG4.out.mono ?_
          rintro e w10 ⟨D10, c10, ms10, rfl, _, _, hb10⟩
          have HF := Lib.hid (HW.out.trans ((RcPutsW.step HB9.out HB9.out.size hb10).mono HW.out.size))
          clear hb10 AG4 HB9
          go_wp2
          go_ret
          exact ⟨rfl, HF.out⟩
    · obtain ⟨n1, n2⟩ := putAll_not hall
      obtain ⟨Q, hQ⟩ : ∃ Q, putAll (recsOf ms) = Q := ⟨_, rfl⟩
      rw [hQ] at AP n1 n2
      obtain ⟨q, T⟩ := Q
      simp only at AP n1 n2
      subst n2
      have j : ((q : Int) != 0) = true := by simp [n1]
      clear hall hQ HFIT
      go_wp2_with fail
      refine AP.out.mono ?_
      rintro e w5 ⟨C, cc, rfl, _, _, hcr, hb5⟩
      have HB5 := Lib.hid (RcPutsW.step HBZ.out HBZ.out.size hb5)
      clear hcr hb5 HBZ HRZ
      go_wp2
      go_ret
      exact ⟨rfl, HB5.out⟩
end Go.Proofs.Ytahbaifbihpppaa.RcBackW
