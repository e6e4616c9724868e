/- RecordKeeps, walked. Condition: the list is no longer than memory holds. -/
import Derived.Test.YtahbaifbihpppaaRcKeepM
import Derived.Test.YtahbaifbihpppaaRcProg
namespace Go.Proofs.Ytahbaifbihpppaa.RcKeepsW
open Go Go.RowKit Words AppN Less LbSpec LbText LbMem LbRef LbCmp LbCanon RcSpec RcAll RcMem RcRef RcRefPut RcRefGt RcRefRd RcRefGa RcLaw RpGa RcKeepM RcBackW RcProg UtOwn

def m77 : RM := (⟨0, 77, [], []⟩, .none, 0, 0)
theorem batch_fits {w : World} {A : Option Addr} {n c : Nat} {ms : List RM} (h : Rl w A n c ms) : Fit (recsOf ms) := by
  intro r hr
  obtain ⟨m, hm, rfl⟩ := List.mem_map.1 hr
  exact (h.each m hm).fits

def L1 (w8 : World) (B g n : Nat) (v : Value) (wr : World) : Prop := ∃ i : Nat, i ≤ n ∧ v = .int .i64 (i : Int) ∧ Hid (RoomR B g n wr) ∧ Hid (w8.grownBy wr (some g))
def L2 (w9 : World) (msM : List RM) (B : Nat) (v : Value) (wr : World) : Prop := ∃ i : Nat, i ≤ msM.length ∧ v = .int .i64 (i : Int) ∧ Hid (OnlyM msM w9 wr) ∧ Hid (RowsFrom msM B i wr)
def L3 (w9 : World) (msM : List RM) (B i n : Nat) (v : Value) (wr : World) : Prop := ∃ k : Nat, k ≤ n ∧ v = .int .i64 (k : Int) ∧ Hid (OnlyM msM w9 wr) ∧ Hid (RowsFrom msM B i wr)
theorem bytes_hth {w5 wB W : World} {n cap CS : Nat} (hc : CS = n + (cap - n)) (h : ∀ j, j < CS → (wB.cell? ⟨w5.heap.size, j, .none⟩).isSome = true ∧ wB.frozen? ⟨w5.heap.size, j, .none⟩ = false) (he : W.heap[w5.heap.size]? = wB.heap[w5.heap.size]?) :
    ∀ j, (j < n ∨ j < cap) → (W.cell? ⟨w5.heap.size, j, .none⟩).isSome = true ∧ W.frozen? ⟨w5.heap.size, j, .none⟩ = false := fun j hj => by
  rw [World.cell?_of_block (a := ⟨w5.heap.size, j, .none⟩) he, World.frozen?_of_block (a := ⟨w5.heap.size, j, .none⟩) he]
  exact h j (by omega)
theorem keep_cells {B : Nat} {msM : List RM} {AM : Option Addr} {cM : Nat} {w9 : World} (h : ArO B msM (.slice AM msM.length cM) w9) {i : Nat} (hi : i < msM.length) :
    ∃ gm, AM = some ⟨gm, 0, .none⟩ ∧ ∀ wr, OnlyM msM w9 wr → wr.cell? ⟨gm, i * 4 + 2, .none⟩ = some (slV (msM[i]).2) := by
  rcases h.own.2 with ⟨_, h0⟩ | ⟨gm, cap, cur, h1, _⟩
  · omega
  · simp only [Value.slice.injEq] at h1
    obtain ⟨rfl, _, rfl⟩ := h1
    refine ⟨gm, rfl, fun wr ho => ?_⟩
    have h2 := (h.keep ho).cells (g := gm) rfl _ _ (flatR_at hi).2.2.1
    rwa [add_off, Nat.zero_add] at h2
theorem row_cells {B i k nx cx : Nat} {msM : List RM} {wr : World} {r : Rec} {X : Option Addr} (h : RowsFrom msM B i wr) (hi : i < msM.length) (hm : msM[i] = (r, X, nx, cx)) (hn : nx = r.labels.length) (hk : k < nx) :
    ∃ g, X = some ⟨g, 0, .none⟩ ∧ (∃ u, wr.cell? ⟨g, k * 2, .none⟩ = some u) ∧ wr.frozen? ⟨g, k * 2, .none⟩ = false := by
  obtain ⟨xs, ho⟩ := h i hi (Nat.le_refl _)
  rw [hm] at ho
  unfold slV at ho
  simp only at ho
  have hlen := ho.1
  have ho2 := ho
  rcases ho.2 with ⟨h1, _⟩ | ⟨g, cap, cur, h1, _⟩
  · simp only [Value.slice.injEq] at h1
    omega
  · simp only [Value.slice.injEq] at h1
    obtain ⟨rfl, rfl, rfl⟩ := h1
    refine ⟨g, rfl, ⟨xs[k * 2]'(by omega), ?_⟩, ho2.frozenAt _⟩
    have h2 := ho2.cells (g := g) rfl (k * 2) _ (List.getElem?_eq_getElem (by omega))
    rwa [add_off, Nat.zero_add] at h2
theorem few_of {l : List Rec} (h : All l) {ms : List RM} (he : recsOf ms = l) : ∀ m ∈ ms, m.1.labels.length ≤ 16 := fun m hm =>
  (h.ok m.1 (by rw [← he]; exact List.mem_map.2 ⟨m, hm, rfl⟩)).may.few

set_option maxHeartbeats 12800000 in
set_option maxRecDepth 100000 in
theorem walk0 (w : World) (ms : List RM) (A : Option Addr) (c : Nat) (h : Rl w A ms.length c ms) (hbk : ms.length * 56 ≤ 140737488351232) :
    Calls Try.prog 6 #[.slice A ms.length c] w fun e w' => e = .returned (.bool true) ∧ Below w.heap.size w w' := by
  obtain ⟨i1, gi, gz0, gz1, gz2⟩ := info_parts info_record
  obtain ⟨l1, li, lz0, lz1, lz2⟩ := info_parts info_label
  have A0 := Lib.hid (awake_any rcd w)
  have HRL := Lib.hid h
  have HFIT := Lib.hid (batch_fits h)
  clear h
  go_enter Try.func6, Try.ntmps6
  go_wp2_with fail
  refine A0.out.mono ?_
  rintro e w1 ⟨rfl, hb1⟩
  have HB1 := Lib.hid hb1
  have hba : Below w1.heap.size w1 (w1.alloc (.cells #[] 33)) := (Below.refl _ w1).alloc (Nat.le_refl _) _
  have HBA := Lib.hid hba
  have HRA := Lib.hid ((HRL.out.below hb1).below hba)
  have HO0 := Lib.hid (own_empty w1 33 4)
  clear hb1 hba A0
  go_wp2_with (at_builtin; refine wpList_append_rd _ rfl (.tmp 17) (.tmp 18) 22 rfl w1.heap.size 4 33 i1 (.agg #[.int .i64 0, .int .u64 0, .slice .none 0 0, .string ByteArray.empty]) 56 Try.underlying22 gi gz0 gz1 gz2 rfl (by omega) _ _ _ rfl HO0.out _ A ms.length c (flatR ms) rfl (flatR_len ms) HRA.out.rd (flatR_ones ms) ?f1 ?f2 ?f3 ?_)
  case f1 => unfold maxLen; omega
  case f2 => omega
  case f3 => simp
  intro v2 w2 hown2 hg2 _
  have hown2' : w2.ownsRow w1.heap.size 33 4 v2 ms.length (flatR ms) := by simpa using hown2
  have HO2 := Lib.hid (hown2'.alloc (.cells #[.int .i64 0, .int .u64 77, .slice .none 0 0, .string ⟨#[]⟩] 33))
  have hb2 : Below w1.heap.size w1 w2 := HBA.out.grown hg2 HBA.out.size (fun k hk => (HO0.out.lt k hk).1)
  have HB2 := Lib.hid (hb2.alloc hb2.size (.cells #[.int .i64 0, .int .u64 77, .slice .none 0 0, .string ⟨#[]⟩] 33))
  have HMD := Lib.hid (Rd.made w2 #[.int .i64 0, .int .u64 77, .slice .none 0 0, .string ⟨#[]⟩] 33)
  clear hown2 hown2' hg2 hb2 HO0 HBA HRA
  go_wp2_with (at_builtin; refine wpList_append_rd _ rfl (.tmp 19) (.tmp 21) 22 rfl w1.heap.size 4 33 i1 (.agg #[.int .i64 0, .int .u64 0, .slice .none 0 0, .string ByteArray.empty]) 56 Try.underlying22 gi gz0 gz1 gz2 rfl (by omega) _ _ _ rfl HO2.out (w2.heap.size + 1) (some ⟨w2.heap.size, 0, .none⟩) 1 1 [.int .i64 0, .int .u64 77, .slice .none 0 0, .string ⟨#[]⟩] rfl rfl HMD.out ?f1 ?f2 ?f3 ?f4 ?_)
  case f1 => exact ⟨rfl, rfl, rfl, rfl⟩
  case f2 => unfold maxLen; omega
  case f3 => omega
  case f4 => have := HB2.out.size; simpa using this
  intro v3 w3 hown3 hg3 _
  have hb3 : Below w1.heap.size w1 w3 := HB2.out.grown hg3 HB2.out.size (fun k hk => (HO2.out.lt k hk).1)
  have HB3 := Lib.hid hb3
  have HR3 := Lib.hid ((HRL.out.below HB1.out).below hb3)
  obtain ⟨g, c3, rfl, hg1, hc3, hm3, hcell⟩ : ∃ g c3, v3 = .slice (some ⟨g, 0, .none⟩) (ms.length + 1) c3 ∧ g < w3.heap.size ∧ ms.length + 1 ≤ c3 ∧ c3 ≤ maxLen ∧ ∀ j u, (flatR ms ++ [.int .i64 0, .int .u64 77, .slice .none 0 0, .string ⟨#[]⟩])[j]? = some u → w3.cell? ⟨g, j, .none⟩ = some u := by
    rcases hown3.2 with ⟨_, h0⟩ | ⟨g, cap, cur, rfl, hb, hg, h1, h2, h3, h4⟩
    · omega
    · exact ⟨g, cap, rfl, (Array.getElem?_eq_some_iff.1 hg).1, h1, h2, fun j u hu => by have := hown3.cells (g := g) rfl j u hu; rwa [add_off, Nat.zero_add] at this⟩
  have HRF : Hid (Rl w3 (some ⟨g, 0, .none⟩) ms.length c3 ms) := Lib.hid ⟨rfl, by omega, hm3, fun _ => ⟨g, 0, rfl, hg1, fun j u hu => by
    rw [Nat.zero_add]
    exact hcell j u (by rw [List.getElem?_append_left (List.getElem?_eq_some_iff.1 hu).1]; exact hu)⟩, HR3.out.each⟩
  have H77 : Hid (w3.cell? ⟨g, ms.length * 4 + 1, .none⟩ = some (.int .u64 77)) := Lib.hid (hcell _ _ (by
    rw [List.getElem?_append_right (by rw [flatR_len]; omega), flatR_len]
    rw [show ms.length * 4 + 1 - ms.length * 4 = 1 by omega]
    rfl))
  have HPA := Lib.hid (rcd.putAll w3 ms _ _ c3 HRF.out)
  unfold BPost at HPA
  obtain ⟨q, hq⟩ : ∃ q, putAll (recsOf ms) = q := ⟨_, rfl⟩
  rw [hq] at HPA
  obtain ⟨qe, T⟩ := q
  simp only at HPA
  have HQ := Lib.hid hq
  have hi1 : (0 : Int) ≤ (ms.length : Int) := by omega
  have hi2 : (ms.length : Int) ≤ (c3 : Int) := by omega
  have hi3 : (ms.length : Int) < (ms.length : Int) + 1 := by omega
  unfold maxLen at hm3
  clear hown3 hg3 hb3 HB2 HO2 HMD hcell hq gi gz0 gz1 gz2
  go_wp2_with fail
  refine HPA.out.mono ?_
  rintro e w4 ⟨v4, rfl, hown4, hb4⟩
  obtain ⟨A4, c4, rfl, hc4, hm4, _⟩ := own_slice hown4
  have HB4 := Lib.hid (RcPutsW.step HB3.out HB3.out.size hb4)
  have HO4 := Lib.hid hown4
  have HR4 := Lib.hid (HR3.out.below hb4)
  have HF4 := Lib.hid (HRF.out.below hb4)
  have H774 := Lib.hid ((hb4.cell (p := ⟨g, ms.length * 4 + 1, .none⟩) hg1).trans H77.out)
  have hg4 : g < w4.heap.size := Nat.lt_of_lt_of_le hg1 hb4.size
  have AS := Lib.hid (rsamea_any w4 ms ms _ A _ _ c3 c HF4.out HR4.out)
  rw [show eqA (recsOf ms) (recsOf ms) = true from eqA_iff.2 rfl] at AS
  clear hown4 hb4 HPA HB3 HR3 HRF H77
  go_wp2_with fail
  refine AS.out.mono ?_
  rintro e w5 ⟨rfl, hb5⟩
  have HB5 := Lib.hid (RcPutsW.step HB4.out HB4.out.size hb5)
  have HO5 := Lib.hid (own_keep HO4.out hb5)
  have HR5 := Lib.hid (HR4.out.below hb5)
  have HF5 := Lib.hid (HF4.out.below hb5)
  have h77 := (hb5.cell (p := ⟨g, ms.length * 4 + 1, .none⟩) hg4).trans H774.out
  have hg5 : g < w5.heap.size := Nat.lt_of_lt_of_le hg4 hb5.size
  have h34 : w1.heap.size ≤ w4.heap.size := HB4.out.size
  clear hb5 AS HB4 HO4 HR4 HF4 H774
  by_cases hqe : qe = 0
  · subst hqe
    have hall : All (recsOf ms) := by
      by_cases ha : All (recsOf ms)
      · exact ha
      · exact absurd (by have := (putAll_not ha).1; rw [HQ.out] at this; exact this) (by simp)
    have hT : batch (recsOf ms) = T := by
      have h1 := putAll_ok hall
      rw [HQ.out] at h1
      exact (Prod.mk.inj h1).2.symm
    have hTl : T.length ≤ 500000000 := by rw [← hT]; exact batch_len hall HFIT.out
    have HG0 : Hid (getAll T = (0, recsOf ms)) := Lib.hid (by rw [← hT]; exact getAll_put hall HFIT.out)
    have hcv5 := run_bytes (P := Try.prog) w5 24 9 5 Try.underlying24 Try.underlying5 Try.underlying9 _ T c4 w5.heap.size (Rd.of_own HO5.out)
    have hvs : (⟨T.toArray⟩ : ByteArray).size = T.length := size_len T
    have hcs := Lib.run_convert_string_bytes (P := Try.prog) w5 9 24 5 ⟨T.toArray⟩ Try.underlying9 Try.underlying24 Try.underlying5
    have HBW := Lib.hid (below_bytes w5 5 ⟨T.toArray⟩)
    have HBC := Lib.hid (bytes_cell w5 5 ⟨T.toArray⟩ T (by simp))
    have HBT := Lib.hid (fun j hj => bytes_there w5 5 ⟨T.toArray⟩ (j := j) hj)
    have HCAP : Hid ((Lib.bytesCells w5 5 ⟨T.toArray⟩).size = T.length + (grownCap w5 T.length 0 5 - T.length)) := Lib.hid (by rw [bytes_cap, hvs])
    have hws : (Lib.bytesWorld w5 5 ⟨T.toArray⟩).heap.size = w5.heap.size + 1 := Lib.bytesWorld_size _ _ _
    rw [hvs] at hcs
    generalize Lib.bytesWorld w5 5 ⟨T.toArray⟩ = wB at *
    generalize (Lib.bytesCells w5 5 ⟨T.toArray⟩).size = CS at *
    have hcapm : grownCap w5 T.length 0 5 ≤ maxLen := grownCap_le_maxLen w5 T.length 0 5 (by unfold maxLen; omega)
    generalize hcap : grownCap w5 T.length 0 5 = cap at *
    have HAL := Lib.hid hall
    have HWS := Lib.hid hws
    have hal : Below wB.heap.size wB (wB.alloc (.cells #[.int .u8 9, .int .u8 9] 5)) := (Below.refl _ wB).alloc (Nat.le_refl _) _
    have HBWA := Lib.hid (HBW.out.trans (hal.mono HBW.out.size))
    have HC1 : Hid (∀ j u, (T.map B8)[j]? = some u → (wB.alloc (.cells #[.int .u8 9, .int .u8 9] 5)).cell? ⟨w5.heap.size, 0 + j, .none⟩ = some u) := Lib.hid fun j u hu => (hal.cell (p := ⟨w5.heap.size, 0 + j, .none⟩) (by show w5.heap.size < wB.heap.size; omega)).trans (HBC.out j u hu)
    have HC2 := Lib.hid (bytes_hth (W := wB.alloc (.cells #[.int .u8 9, .int .u8 9] 5)) HCAP.out HBT.out (hal.block _ (by omega)))
    have HC3 := Lib.hid (Rd.made wB #[.int .u8 9, .int .u8 9] 5)
    have hsz : w5.heap.size < (wB.alloc (.cells #[.int .u8 9, .int .u8 9] 5)).heap.size := by simp; omega
    have HSZ := Lib.hid hsz
    clear hcap hall hT HQ hws hal hsz HBC HBT HCAP HBW HF5
    go_wp2_with (at_builtin; refine wpList_append_two rfl (.tmp 69) (.tmp 70) rfl w5.heap.size w5.heap.size T.length cap (T.map B8) rfl (by simp) (Nat.le_refl _) HSZ.out HC1.out HC2.out ⟨wB.heap.size, 0, .none⟩ (.int .u8 9) (.int .u8 9) rfl HC3.out.add_ rfl rfl hcapm (by omega) ?_)
    intro gR cR w6 hroom hb6 hcR1 hcR2
    have HB6 : Hid (Below w5.heap.size w5 w6) := Lib.hid (HBWA.out.trans hb6)
    have HRM := Lib.hid hroom
    have hrd : Rd w6 w6.heap.size (some ⟨gR, 0, .none⟩) (T.map B8) := by
      have h := hroom.rd T.length
      rwa [List.take_left' (by simp)] at h
    have HG6 := Lib.hid (getall_any w6 T (some ⟨gR, 0, .none⟩) cR hrd (by omega) hcR2)
    rw [HG0.out] at HG6
    unfold GnPost at HG6
    simp only at HG6
    have HRD6 := Lib.hid hrd
    have c1 : (0 : Int) ≤ (T.length : Int) := by omega
    have c2 : (T.length : Int) ≤ (cR : Int) := by omega
    have hgR6 : gR < w6.heap.size := hroom.lt
    have hgR5 : w5.heap.size ≤ gR := hroom.ge
    clear hroom hb6 hrd HBWA HC1 HC2 HC3 HSZ hcapm
    go_wp2_with fail
    refine HG6.out.mono ?_
    rintro e w7 ⟨AM, cM, msM, rfl, hmM, harM⟩
    have HG7 := Lib.hid (getall_any w7 T (some ⟨gR, 0, .none⟩) cR ((HRD6.out.below harM.below).more harM.below.size) (by omega) hcR2)
    rw [HG0.out] at HG7
    unfold GnPost at HG7
    simp only at HG7
    have HAM := Lib.hid harM
    have HFM := Lib.hid (few_of HAL.out hmM)
    have hmL : msM.length ≤ 65536 := by
      have h1 := congrArg List.length hmM
      have h2 := HAL.out.few
      unfold recsOf at h1 h2
      rw [List.length_map] at h1 h2
      rw [List.length_map] at h1
      omega
    have HRM7 := Lib.hid (HRM.out.call harM.below)
    have HB7 : Hid (Below w5.heap.size w5 w7) := Lib.hid (HB6.out.trans (harM.below.mono HB6.out.size))
    clear harM HG6 HRD6 HRM HB6 hmM
    go_wp2_with fail
    refine HG7.out.mono ?_
    rintro e w8 ⟨AN, cN, msN, rfl, hmN, harN⟩
    have HM8 := Lib.hid ((ArO.of HAM.out).call harN.below)
    have HN8 := Lib.hid (ArO.of harN)
    have HR8 := Lib.hid ((HRM7.out.call harN.below).room)
    rw [show (T.map B8 ++ [Value.int .u8 9, Value.int .u8 9]).length = T.length + 2 by simp] at HR8
    have HB8 : Hid (Below w5.heap.size w5 w8) := Lib.hid (HB7.out.trans (harN.below.mono HB7.out.size))
    have h67 : w6.heap.size ≤ w7.heap.size := HAM.out.below.size
    have h68 : w6.heap.size ≤ w8.heap.size := Nat.le_trans h67 harN.below.size
    have HIM : Hid (∀ k, InB msM k → k < w7.heap.size) := Lib.hid fun k hk => ((ArO.of HAM.out).inb hk).2
    have HMN := Lib.hid hmN
    clear harN HG7 HRM7 HB7 HAM hmN HAL HG0
    go_wp2
    go_loopw [11] (fun v wr => L1 w8 w5.heap.size gR (T.length + 2) v wr) (fun v _ => T.length + 2 - (intOf v).toNat)
    case atStart => exact ⟨0, Nat.zero_le _, rfl, HR8, Lib.hid (RpRead.grown_refl _ _)⟩
    case round =>
      obtain ⟨i, hi, rfl, HR, HG⟩ := hrel
      clear HR8
      by_cases hlt : i < T.length + 2
      · obtain ⟨⟨u0, f0⟩, f1⟩ := HR.out.cell i hlt
        have HRn := Lib.hid (HR.out.set hlt (.int .u8 238))
        have HGn := Lib.hid (RpRead.grown_set HG.out i (.int .u8 238))
        have a1 : (0 : Int) ≤ (i : Int) := by omega
        have a2 : (i : Int) < (T.length : Int) + 2 := by omega
        clear HR HG
        go_wp2
        go_roundw
        case rel => exact ⟨i + 1, by omega, by go_num, HRn, HGn⟩
        case measure => simp [intOf]; omega
      · have hie : ¬ (i : Int) < (T.length : Int) + 2 := by omega
        have HM9 := Lib.hid (HM8.out.grown HG.out (fun k hk => by have := Option.some.inj hk; omega))
        have HN9 := Lib.hid (HN8.out.grown HG.out (fun k hk => by have := Option.some.inj hk; omega))
        have HB9 : Hid (Below w5.heap.size w5 wr) := Lib.hid (HB8.out.grown HG.out HB8.out.size (fun k hk => by have := Option.some.inj hk; omega))
        have HAPT := Lib.hid HM9.out.apart
        have H69 : Hid (w6.heap.size ≤ wr.heap.size) := Lib.hid (Nat.le_trans h68 HG.out.size)
        have H56 : Hid (w5.heap.size ≤ w6.heap.size) := Lib.hid (Nat.le_of_lt (Nat.lt_of_le_of_lt hgR5 hgR6))
        obtain ⟨w9, hw9⟩ : ∃ w9, w9 = wr := ⟨_, rfl⟩
        subst hw9
        clear hlt hi HR HG HM8 HN8 HB8
        go_wp2
        go_loopw [12] (fun v wr => L2 w9 msM w6.heap.size v wr) (fun v _ => msM.length - (intOf v).toNat)
        case atStart => exact ⟨0, Nat.zero_le _, rfl, Lib.hid (OnlyM.refl _ _), Lib.hid HM9.out.rows⟩
        case round =>
          obtain ⟨i2, hi2', rfl, HOM, HRF⟩ := hrel
          by_cases hl2 : i2 < msM.length
          · have HKC := Lib.hid (keep_cells HM9.out hl2)
            obtain ⟨mi, hmi⟩ : ∃ mi, msM[i2] = mi := ⟨_, rfl⟩
            obtain ⟨⟨t, sq, ls, ln⟩, X, nx, cx⟩ := mi
            have HMI := Lib.hid hmi
            have hfew : ls.length ≤ 16 := by have := HFM.out _ (List.getElem_mem hl2); rwa [hmi] at this
            obtain ⟨gm, rfl, hk2⟩ := HKC.out
            rw [hmi] at hk2
            unfold slV at hk2
            simp only at hk2
            have HK2 := Lib.hid hk2
            have hnx : nx = ls.length := by
              obtain ⟨xs, ho⟩ := HRF.out i2 hl2 (Nat.le_refl _)
              rw [hmi] at ho
              obtain ⟨A1, c1, e1, _⟩ := own_lab ho
              unfold slV at e1
              simp only [Value.slice.injEq] at e1
              exact e1.2.1
            have hnx16 : nx ≤ 16 := by omega
            have HNX := Lib.hid hnx
            obtain ⟨wa, hwa⟩ : ∃ wa, wa = wr := ⟨_, rfl⟩
            subst hwa
            have hc0 := HK2.out wa HOM.out
            have b1 : (0 : Int) ≤ (i2 : Int) := by omega
            have b2 : (i2 : Int) < (msM.length : Int) := by omega
            clear hmi hk2 HKC hnx
            go_wp2
            go_loopw [13] (fun v wr => L3 w9 msM w6.heap.size i2 nx v wr) (fun v _ => nx - (intOf v).toNat)
            case atStart => exact ⟨0, Nat.zero_le _, rfl, HOM, HRF⟩
            case round =>
              obtain ⟨k, hk, rfl, HOMk, HRFk⟩ := hrel
              clear hc0
              have hc0 := HK2.out wr HOMk.out
              by_cases hlk : k < nx
              · obtain ⟨gx, rfl, ⟨u1, q0⟩, q1⟩ := row_cells HRFk.out hl2 HMI.out HNX.out hlk
                have HRn := Lib.hid (HRFk.out.set (k := k * 2) HAPT.out hl2 (by rw [HMI.out]) (.string ⟨#[99, 104, 97, 110, 103, 101, 100]⟩))
                have HOn : Hid (OnlyM msM w9 (wr.setCell ⟨gx, k * 2, .none⟩ (.string ⟨#[99, 104, 97, 110, 103, 101, 100]⟩))) := Lib.hid (HOMk.out.grown (r := some gx) (fun j hj => .inl (by rw [← Option.some.inj hj]; exact ⟨msM[i2], List.getElem_mem hl2, by rw [HMI.out]; rfl⟩)) (RpRead.grown_set (RpRead.grown_refl _ _) _ _))
                have b3 : (0 : Int) ≤ (k : Int) := by omega
                have b4 : (k : Int) < (nx : Int) := by omega
                clear HRFk HOMk
                go_wp2
                go_roundw
                case rel => exact ⟨k + 1, by omega, by go_num, HOn, HRn⟩
                case measure => simp [intOf]; omega
              · have hkn : k = nx := by omega
                obtain ⟨xs, ho⟩ := HRFk.out i2 hl2 (Nat.le_refl _)
                rw [HMI.out] at ho
                have hown : (slV (msM[i2]).2).ownBlock = (Value.slice X nx cx).ownBlock := by rw [HMI.out]; rfl
                have HOWN := Lib.hid hown
                unfold slV at ho
                simp only at ho
                rw [← HNX.out] at ho
                have HO := Lib.hid ho
                have hal : Below wr.heap.size wr (wr.alloc (.cells #[.string ⟨#[109, 111, 114, 101]⟩, .string ⟨#[]⟩] 46)) := (Below.refl _ wr).alloc (Nat.le_refl _) _
                have HOA := Lib.hid (HOMk.out.call hal)
                have HRA := Lib.hid (HRFk.out.call hal)
                have HSB : Hid (w6.heap.size ≤ wr.heap.size) := Lib.hid (by have := HOMk.out.size; have := H69.out; omega)
                clear ho hown hal HOMk HRFk hlk
                subst hkn
                go_wp2_with (at_builtin; refine wpList_append_rd _ rfl (.tmp 125) (.tmp 127) 31 rfl w6.heap.size 2 46 l1 (.agg #[.string ByteArray.empty, .string ByteArray.empty]) 32 Try.underlying31 li lz0 lz1 lz2 rfl (by omega) _ _ _ rfl (HO.out.alloc _) (wr.heap.size + 1) (some ⟨wr.heap.size, 0, .none⟩) 1 1 [.string ⟨#[109, 111, 114, 101]⟩, .string ⟨#[]⟩] rfl rfl (Rd.made wr #[.string ⟨#[109, 111, 114, 101]⟩, .string ⟨#[]⟩] 46) ?f1 ?f2 ?f3 ?f4 ?_)
                case f1 => first | exact ⟨rfl, rfl⟩ | (intro u hu; simp at hu; rcases hu with rfl | rfl <;> rfl)
                case f2 => unfold maxLen; omega
                case f3 => omega
                case f4 => have := HSB.out; simp; omega
                intro v9 wn hown9 hg9 _
                obtain ⟨A9, c9, rfl, _⟩ := own_lab hown9
                rw [← HOWN.out] at hg9
                have HOn : Hid (OnlyM msM w9 wn) := Lib.hid (HOA.out.grown (fun j hj => .inl ⟨msM[i2], List.getElem_mem hl2, hj⟩) hg9)
                have HRn := Lib.hid (HRA.out.app HAPT.out hl2 hg9)
                have hc1 := HK2.out wn HOn.out
                have e5 : (((k : Int) + 1) != ((k : Int) + 1)) = false := by simp
                clear hown9 hg9 HOA HRA HO hc0
                go_wp2
                go_roundw
                case rel => exact ⟨i2 + 1, by omega, by go_num, HOn, HRn⟩
                case measure => simp [intOf]; omega
          · have hge : ¬ (i2 : Int) < (msM.length : Int) := by omega
            have hN := HN9.out.only HOM.out HIM.out
            obtain ⟨A1, c1, e1, hrl⟩ := hN.rl
            simp only [Value.slice.injEq] at e1
            obtain ⟨rfl, _, rfl⟩ := e1
            have hb10 : Below w5.heap.size w5 wr := HB9.out.trans ((HOM.out.below H69.out (fun k hk => (HM9.out.inb hk).1)).mono H56.out)
            have AS := Lib.hid (rsamea_any wr msN ms _ A _ _ _ c hrl (HR5.out.below hb10))
            rw [show eqA (recsOf msN) (recsOf ms) = true from eqA_iff.2 HMN.out] at AS
            have HB10 := Lib.hid hb10
            clear hN hrl hb10 HOM HRF hl2 hi2'
            go_wp2_with fail
            refine AS.out.mono ?_
            rintro e w11 ⟨rfl, hb11⟩
            have hb12 : Below w5.heap.size w5 w11 := RcPutsW.step HB10.out HB10.out.size hb11
            have hcv11 := run_bytes (P := Try.prog) w11 24 9 5 Try.underlying24 Try.underlying5 Try.underlying9 _ T c4 w11.heap.size (Rd.of_own (own_keep HO5.out hb12))
            have HB12 := Lib.hid (HB1.out.trans ((RcPutsW.step HB5.out HB5.out.size hb12).mono HB1.out.size))
            have e1 : (T == T) = true := by simp
            clear hb11 hb12 AS
            go_wp2
            go_ret
            exact ⟨rfl, HB12.out⟩
  · have hj : ((qe : Int) != 0) = true := by simp [hqe]
    have AS := Lib.hid (rsamea_any w5 ms ms _ A _ _ c3 c HF5.out HR5.out)
    rw [show eqA (recsOf ms) (recsOf ms) = true from eqA_iff.2 rfl] at AS
    clear hqe
    go_wp2_with fail
    refine AS.out.mono ?_
    rintro e w6 ⟨rfl, hb6⟩
    have h776 := (hb6.cell (p := ⟨g, ms.length * 4 + 1, .none⟩) hg5).trans h77
    have HB6 := Lib.hid (HB1.out.trans ((RcPutsW.step HB5.out HB5.out.size hb6).mono HB1.out.size))
    clear hb6 AS
    go_wp2
    go_ret
    exact ⟨rfl, HB6.out⟩
end Go.Proofs.Ytahbaifbihpppaa.RcKeepsW
