/- The contract of the log's Append. Conditions: those of the text ahead; the payload lies neither in the disk's memory nor in the log's. · The contract of the log's Drop. Conditions: those of the texts ahead. -/
import Derived.Test.YtapbjmbakpopcaaGreatDoorWpOps
import Derived.Test.YtapbjmbakpopcaaGreatDoorRefRows
namespace Go.Proofs.YtapbjmbakpopcaaGreatDoor.WpApp
open Go Go.RowKit Words DkSpec PdLook RefDisk PdDisk PdOps WlSpec WlName WlHeld WlLog WlMv Parts5 WlLaw WlSt WpPlain WpName WpOps Framed

theorem appendL_long {b : List UInt8} {l : LSt} {d : DSt} (h : 65536 < b.length) : appendL b l d = (4, l, d) := by unfold appendL; rw [if_pos h]
theorem appendL_in {b : List UInt8} {l : LSt} {d : DSt} (h : ¬ 65536 < b.length) : appendL b l d = ((append (name l.n) (frm b) d).1, { l with wrote := l.wrote || (append (name l.n) (frm b) d).1 == 0 }, (append (name l.n) (frm b) d).2) := by
  unfold appendL appendL.frm'
  rw [if_neg h]
theorem wrote_true (l : LSt) : ({ l with wrote := l.wrote || ((0 : Nat) == 0) } : LSt) = { l with wrote := true } := by simp
theorem wrote_same (l : LSt) {r : Nat} (h : r ≠ 0) : ({ l with wrote := l.wrote || (r == 0) } : LSt) = l := by
  have : (r == 0) = false := by simpa using h
  rw [this, Bool.or_false]
section
variable (w : World) (K : Nat → Nat) (p g : Nat) (d : DSt) (l : LSt)
set_option maxHeartbeats 1600000 in
set_option maxRecDepth 100000 in
theorem append_in (b : List UInt8) (A : Option Addr) (c : Nat) (hd : PDisk w K 1 p d) (h : LogR w g p l) (hk : K g = 2) (hfit : Fit d) (hroom : tot d + b.length + 100 ≤ 1099511627776) (hm : l.n ≤ most) (hL : WlTab.Lays w w.heap.size)
    (hr : Rd w w.heap.size A (b.map B8)) (hc : b.length ≤ c) (hmc : c ≤ maxLen) (hs : ¬ 65536 < b.length) :
    Calls Tryz.prog 12 #[.pointer (some ⟨g, 0, none⟩), .slice A b.length c] w (LgPost LogR w K p g (appendL b l d)) := by
  have hne := eq_nil g
  have H1 := Lib.hid (frame_ok b A b.length c w rfl hr hc hmc hL.halves (by omega))
  have HX := Lib.hid (appendL_in (l := l) (d := d) hs)
  have hfl := WlTot.frm_small b (by omega)
  have HST : Hid (∀ w1 v, Below w.heap.size w w1 → w1.ownsRow w.heap.size 5 1 v (frm b).length ((frm b).map B8) →
      LogR w1 g p l ∧ kmark K w.heap.size 3 g = 2 ∧ Mv K (kmark K w.heap.size 3) (fun o => o = 1 ∨ o = 2) w w1 ∧
      Hid (Calls Tryz.prog 5 #[.int .i64 (l.n : Int)] w1.drew fun e w' => e = .returned (.string ⟨(name l.n).toArray⟩) ∧ Below w1.drew.heap.size w1.drew w') ∧
      ∀ w2, Below w1.heap.size w1 w2 → Hid (Calls Tryz.prog 26 #[.pointer (some ⟨p, 0, none⟩), .string ⟨(name l.n).toArray⟩, v] w2 (OPost w2 (kmark K w.heap.size 3) 1 p (append (name l.n) (frm b) d)))) := Lib.hid fun w1 v hb hown => by
    have hl1 := h.below hb
    refine ⟨hl1, (kmark_old h.lt).trans hk, Mv.new hb 3, Lib.hid (name_ok_any w1.drew l.n h.num hm ((lays_keep hL hb).below (drew_below w1))), fun w2 hb2 => Lib.hid ?_⟩
    obtain ⟨A1, c1, rfl, _, _, hrd, hA⟩ := RefTake.own_rd hown
    have hd2 : PDisk w2 (kmark K w.heap.size 3) 1 p d := by
      obtain ⟨M, D, L, G, Q, hp⟩ := hd
      have hp1 := hp.keep (K' := kmark K w.heap.size 3) (fun i hi _ => hb.block i hi) (fun i hi => kmark_old hi)
      exact disk_grow p d ⟨M, D, L, G, Q, hp1⟩ hb2
    refine PdApp.append_any w2 _ 1 p d (name l.n) (frm b) A1 c1 hd2 (by have := name_len32 l.n hm; omega) hfit.few (by have := old_le (name l.n) d; omega) ((hrd.below hb2).more hb2.size) (fun bb off e _ => ?_)
    rw [kmark_new (hA bb off e).1]
    decide
  have HST2 : Hid (∀ w1 w2 w3 K3, LogR w1 g p l → kmark K w.heap.size 3 g = 2 → Below w1.heap.size w1 w2 → Turned (kmark K w.heap.size 3) K3 1 w2 w3 → LogR w3 g p l ∧ K3 g = 2) := Lib.hid fun w1 w2 w3 K3 hl hk hb ht => turned_all p g hl hk hb ht
  obtain ⟨F, hF⟩ : ∃ F, frm b = F := ⟨_, rfl⟩
  rw [hF] at H1 HX HST
  obtain ⟨nm, hnm⟩ : ∃ nm, name l.n = nm := ⟨_, rfl⟩
  rw [hnm] at HX HST
  obtain ⟨R, hR⟩ : ∃ R, append nm F d = R := ⟨_, rfl⟩
  rw [hR] at HX HST
  obtain ⟨r, d'⟩ := R
  simp only at HX
  clear hF hnm hR hd h hk hfit hroom hm hL hr hc hmc hs hfl
  go_enter Tryz.func12, Tryz.ntmps12
  go_wp2_with fail
  refine H1.out.mono ?_
  rintro e w1 ⟨v, rfl, hown, hb1⟩
  obtain ⟨hl1, hk1, hm1, HN, HAP⟩ := HST.out w1 v hb1 hown
  have HL1 := Lib.hid hl1
  have HK1 := Lib.hid hk1
  have HM1 := Lib.hid hm1
  have HAP1 := Lib.hid HAP
  have HS3 := Lib.hid fun w2 w3 K3 hb ht => HST2.out w1 w2 w3 K3 HL1.out HK1.out hb ht
  obtain ⟨c0, _, c2, _⟩ := hl1.cells
  have HCL : Hid (∀ w2, Below w1.heap.size w1 w2 → w2.cell? ⟨g, 0, none⟩ = some (.pointer (some ⟨p, 0, none⟩)) ∧ w2.cell? ⟨g, 2, none⟩ = some (.int .i64 (l.n : Int))) := Lib.hid fun w2 hb => by
    have h2 := (HL1.out.below hb).cells
    exact ⟨h2.1, h2.2.2.1⟩
  clear hown hb1 hl1 hk1 hm1 HAP H1 HST HST2
  go_wp2
  by_cases hr0 : r = 0
  case' pos =>
    have hr1 : ((r : Int) != 0) = false := by simp [hr0]
    go_region_held3 (fun w' => w'.cell? ⟨g, 0, none⟩ = some (.pointer (some ⟨p, 0, none⟩)) ∧ w'.cell? ⟨g, 2, none⟩ = some (.int .i64 (l.n : Int))) (first | go_keep | assumption) (first
      | (go_at_call 5; refine HN.out.mono ?_; rintro e w2 ⟨rfl, hb2'⟩; have hb2 := below_drew hb2'; obtain ⟨k0, k2⟩ := HCL.out w2 hb2)
      | (go_at_call 26; refine (HAP1.out w2 hb2).out.mono ?_; rintro e w3 ⟨rfl, K3, hd3, ht3⟩; obtain ⟨m0, _, m2, m3⟩ := (HS3.out w2 w3 K3 hb2 ht3).1.cells; have hfz := (HS3.out w2 w3 K3 hb2 ht3).1.free 3))
  case' neg =>
    have hr1 : ((r : Int) != 0) = true := by simp; omega
    go_region_held3 (fun w' => w'.cell? ⟨g, 0, none⟩ = some (.pointer (some ⟨p, 0, none⟩)) ∧ w'.cell? ⟨g, 2, none⟩ = some (.int .i64 (l.n : Int))) (first | go_keep | assumption) (first
      | (go_at_call 5; refine HN.out.mono ?_; rintro e w2 ⟨rfl, hb2'⟩; have hb2 := below_drew hb2'; obtain ⟨k0, k2⟩ := HCL.out w2 hb2)
      | (go_at_call 26; refine (HAP1.out w2 hb2).out.mono ?_; rintro e w3 ⟨rfl, K3, hd3, ht3⟩; obtain ⟨m0, _, m2, m3⟩ := (HS3.out w2 w3 K3 hb2 ht3).1.cells))
  case pos =>
    all_goals
      have HR0 := Lib.hid hr0
      clear hr0
      go_wp2
      go_ret
      rw [HX.out, HR0.out, wrote_true]
      obtain ⟨hl3, hk3⟩ := HS3.out w2 w3 K3 hb2 ht3
      exact post_poke w K p g rfl hd3 hk3 (hl3.wrote true) (mv_all w K HM1.out hb2 ht3)
  case neg =>
    all_goals
      have HR0 := Lib.hid hr0
      clear hr0
      go_wp2
      go_ret
      rw [HX.out, wrote_same l HR0.out]
      exact post_same w K p g rfl hd3 (HS3.out w2 w3 K3 hb2 ht3).1 (mv_all w K HM1.out hb2 ht3)
theorem append_any (b : List UInt8) (A : Option Addr) (c : Nat) (hd : PDisk w K 1 p d) (h : LogR w g p l) (hk : K g = 2) (_ : DkSpec.Good d) (hfit : Fit d) (hroom : tot d + b.length + 100 ≤ 1099511627776) (hm : l.n ≤ most) (hL : WlTab.Lays w w.heap.size)
    (hr : Rd w w.heap.size A (b.map B8)) (hc : b.length ≤ c) (hmc : c ≤ maxLen) (_ : ∀ o off, A = some ⟨o, off, none⟩ → 0 < b.length → K o ≠ 1 ∧ K o ≠ 2) :
    Calls Tryz.prog 12 #[.pointer (some ⟨g, 0, none⟩), .slice A b.length c] w (LgPost LogR w K p g (appendL b l d)) := by
  by_cases hs : 65536 < b.length
  · have hne := eq_nil g
    have H1 := Lib.hid (frame_long b A b.length c w rfl hs)
    have HX := Lib.hid (appendL_long (l := l) (d := d) hs)
    have HD := Lib.hid hd
    have HH := Lib.hid h
    clear hd h hk hfit hroom hm hL hr hc hmc hs
    go_enter Tryz.func12, Tryz.ntmps12
    go_wp2_with fail
    refine H1.out.mono ?_
    rintro e w1 ⟨rfl, rfl⟩
    go_wp2
    go_ret
    rw [HX.out]
    exact post_same w K p g rfl HD.out HH.out (Mv.refl _ _ _)
  · exact append_in w K p g d l b A c hd h hk hfit hroom hm hL hr hc hmc hs
end
end Go.Proofs.YtapbjmbakpopcaaGreatDoor.WpApp

namespace Go.Proofs.YtapbjmbakpopcaaGreatDoor.WpDrop
open Go Go.RowKit Words DkSpec PdLook RefDisk PdDisk PdOps WlSpec WlName WlHeld WlLog WlMv Parts5 WlLaw WlSt WpPlain WpName WpOps

theorem drop_end {f n : Nat} {below : Int} {l : LSt} {d : DSt} (hl : l.first = f) (hn : l.n = n) (h : ¬ ((f : Int) < below ∧ f < n)) : ∀ k, dropL k below l d = (0, l, d)
  | 0 => rfl
  | k + 1 => by rw [dropL, if_neg (by rw [hl, hn]; exact h)]
theorem drop_bad {f n : Nat} {below : Int} {l : LSt} {d : DSt} (hl : l.first = f) (hn : l.n = n) (h : (f : Int) < below ∧ f < n) (hr : (delete (name f) d).1 ≠ 0 ∧ (delete (name f) d).1 ≠ 21) : dropL (n - f) below l d = ((delete (name f) d).1, l, (delete (name f) d).2) := by
  obtain ⟨k, hk⟩ : ∃ k, n - f = k + 1 := ⟨n - f - 1, by omega⟩
  rw [hk, dropL, if_pos (by rw [hl, hn]; exact h), hl, if_pos hr]
theorem drop_next {f n : Nat} {below : Int} {l : LSt} {d : DSt} (hl : l.first = f) (hn : l.n = n) (h : (f : Int) < below ∧ f < n) (hr : ¬ ((delete (name f) d).1 ≠ 0 ∧ (delete (name f) d).1 ≠ 21)) : dropL (n - f) below l d = dropL (n - (f + 1)) below { l with first := f + 1 } (delete (name f) d).2 := by
  obtain ⟨k, hk⟩ : ∃ k, n - f = k + 1 := ⟨n - f - 1, by omega⟩
  rw [hk, dropL, if_pos (by rw [hl, hn]; exact h), hl, if_neg hr, show n - (f + 1) = k by omega]
def firstOf (wr : World) (g : Nat) : Nat := match wr.cell? ⟨g, 1, none⟩ with | some v => (intOf v).toNat | none => 0
theorem first_of {wr : World} {g f : Nat} (h : wr.cell? ⟨g, 1, none⟩ = some (.int .i64 (f : Int))) : firstOf wr g = f := by unfold firstOf; rw [h]; simp [intOf]
/-- The round: the files below f are gone. -/
structure DR (w : World) (K : Nat → Nat) (p g : Nat) (l : LSt) (below : Int) (R : Nat × LSt × DSt) (f : Nat) (wr : World) (K' : Nat → Nat) (d' : DSt) : Prop where
  disk : PDisk wr K' 1 p d'
  log : LogR wr g p { l with first := f }
  kg : K' g = 2
  mv : Mv K K' (fun o => o = 1 ∨ o = 2) w wr
  is : R = dropL (l.n - f) below { l with first := f } d'
def DRel (w : World) (K : Nat → Nat) (p g : Nat) (l : LSt) (below : Int) (R : Nat × LSt × DSt) (wr : World) : Prop := ∃ (f : Nat), 1 ≤ f ∧ Hid (∃ K' d', DR w K p g l below R f wr K' d')
theorem DR.drewN {w wr : World} {K K' : Nat → Nat} {p g f : Nat} {l : LSt} {below : Int} {R : Nat × LSt × DSt} {d' : DSt} (h : DR w K p g l below R f wr K' d') (n : Nat) : DR w K p g l below R f (wr.drewN n) K' d' :=
  ⟨h.disk.grow fun _ _ => rfl, h.log.keep rfl, h.kg, h.mv.trans (Mv.same (below_drewN (Below.refl _ wr) n)), h.is⟩
theorem below_q (wr : World) (n : Nat) : Below wr.heap.size wr ((wr.drewN n).drew) := (below_drewN (Below.refl _ wr) n).drew

section
variable (w : World) (K : Nat → Nat) (p g : Nat) (d : DSt) (l : LSt) (below : Int)
set_option maxHeartbeats 3200000 in
set_option maxRecDepth 100000 in
theorem drop_any (_ : In64 below) (hd : PDisk w K 1 p d) (h : LogR w g p l) (hk : K g = 2) (_ : DkSpec.Good d) (_ : Fit d) (hm : l.n ≤ most) (hL : WlTab.Lays w w.heap.size) (hO : WlTab.Out K) :
    Calls Tryz.prog 18 #[.pointer (some ⟨g, 0, none⟩), .int .i64 below] w (LgPost LogR w K p g (dropL (l.n - l.first) below l d)) := by
  obtain ⟨R, hR⟩ : ∃ R, dropL (l.n - l.first) below l d = R := ⟨_, rfl⟩
  rw [hR]
  have H0 : Hid (DR w K p g l below R l.first w K d) := Lib.hid ⟨hd, h, hk, Mv.refl _ _ _, hR.symm⟩
  have HL := Lib.hid hL
  have HO := Lib.hid hO
  have h1 := h.one
  have hne := eq_nil g
  unfold most at hm
  have HM := Lib.hid hm
  clear hd h hk hL hO hR
  go_enter Tryz.func18, Tryz.ntmps18
  go_wp2
  go_loopw [] (fun wr => DRel w K p g l below R wr) (fun wr => l.n - firstOf wr g)
  case atStart => exact ⟨l.first, h1, Lib.hid ⟨K, d, H0.out⟩⟩
  case round =>
    clear H0
    obtain ⟨f, hf, HDR⟩ := hrel
    obtain ⟨K', d', hdr⟩ := HDR.out
    obtain ⟨c0, c1, c2, _⟩ := hdr.log.cells
    simp only at c1 c2
    by_cases hlt : (f : Int) < below ∧ f < l.n
    · obtain ⟨hlb, hln⟩ := hlt
      have HN : Hid (∀ wz, Below wr.heap.size wr wz → Calls Tryz.prog 5 #[.int .i64 (f : Int)] wz fun e w' => e = .returned (.string ⟨(name f).toArray⟩) ∧ Below wz.heap.size wz w') := Lib.hid fun wz hb =>
        name_ok_any wz f hf (by unfold most; omega) (lays_keep (HL.out.mv HO.out hdr.mv.size hdr.mv.block) hb)
      have HDL : Hid (∀ w2, Below wr.heap.size wr w2 → w2.cell? ⟨g, 0, none⟩ = some (.pointer (some ⟨p, 0, none⟩)) ∧ w2.cell? ⟨g, 1, none⟩ = some (.int .i64 (f : Int)) ∧
          Hid (Calls Tryz.prog 28 #[.pointer (some ⟨p, 0, none⟩), .string ⟨(name f).toArray⟩] w2 (OPost w2 K' 1 p (delete (name f) d')))) := Lib.hid fun w2 hb => by
        have h2 := (hdr.log.below hb).cells
        exact ⟨h2.1, h2.2.1, Lib.hid (PdOps.delete_any w2 K' 1 p d' _ (disk_grow p d' hdr.disk hb) (by have := name_len32 f (by unfold most; omega); unfold maxLen; omega))⟩
      have HTA : Hid (∀ w2 w3 K3, Below wr.heap.size wr w2 → Turned K' K3 1 w2 w3 → LogR w3 g p { l with first := f } ∧ K3 g = 2) := Lib.hid fun w2 w3 K3 hb ht => turned_all p g hdr.log hdr.kg hb ht
      have HMV : Hid (∀ w2 w3 K3, Below wr.heap.size wr w2 → Turned K' K3 1 w2 w3 → Mv K K3 (fun o => o = 1 ∨ o = 2) w w3) := Lib.hid fun w2 w3 K3 hb ht => mv_all w K hdr.mv hb ht
      have j1 : decide ((f : Int) < min below (l.n : Int)) = true := decide_eq_true (by omega)
      have HBAD : Hid ((delete (name f) d').1 ≠ 0 ∧ (delete (name f) d').1 ≠ 21 → R = ((delete (name f) d').1, { l with first := f }, (delete (name f) d').2)) := Lib.hid fun hr => hdr.is.trans (drop_bad (l := { l with first := f }) rfl rfl ⟨hlb, hln⟩ hr)
      have HNEXT : Hid (¬ ((delete (name f) d').1 ≠ 0 ∧ (delete (name f) d').1 ≠ 21) → R = dropL (l.n - (f + 1)) below { l with first := f + 1 } (delete (name f) d').2) := Lib.hid fun hr => hdr.is.trans (drop_next (l := { l with first := f }) rfl rfl ⟨hlb, hln⟩ hr)
      obtain ⟨nm, hnm⟩ : ∃ nm, name f = nm := ⟨_, rfl⟩
      rw [hnm] at HN HDL HBAD HNEXT
      obtain ⟨D, hD⟩ : ∃ D, delete nm d' = D := ⟨_, rfl⟩
      rw [hD] at HDL HBAD HNEXT
      obtain ⟨r, d2⟩ := D
      simp only at HBAD HNEXT
      have hlf : (f : Int) < (l.n : Int) := by omega
      have HF := Lib.hid hf
      clear hdr HDR hnm hD hf
      by_cases hr : r ≠ 0 ∧ r ≠ 21
      case' pos =>
        have r1 : ((r : Int) != 0) = true := by simp; omega
        have r2 : ((r : Int) != 21) = true := by simp; omega
        have HRR := Lib.hid (HBAD.out hr)
        clear hr HBAD HNEXT
        go_wp2
        go_quiet (fail)
        go_wp2
        go_region_held3 (fun w' => w'.cell? ⟨g, 0, none⟩ = some (.pointer (some ⟨p, 0, none⟩)) ∧ w'.cell? ⟨g, 1, none⟩ = some (.int .i64 (f : Int))) (first | go_keep | assumption) (first
          | (go_at_call 5; refine (HN.out _ (below_q wr nq)).mono ?_; rintro e w2 ⟨rfl, hb2'⟩; have hb2 := (below_q wr nq).trans (hb2'.mono (Nat.le_refl _)); obtain ⟨k0, k1, HC⟩ := HDL.out w2 hb2)
          | (go_at_call 28; refine HC.out.mono ?_; rintro e w3 ⟨rfl, K3, hd3, ht3⟩; obtain ⟨m0, m1, _, _⟩ := (HTA.out w2 w3 K3 hb2 ht3).1.cells))
      case pos =>
        all_goals
          go_wp2
          go_ret
          rw [HRR.out]
          exact post_same w K p g rfl hd3 (HTA.out w2 w3 K3 hb2 ht3).1 (HMV.out w2 w3 K3 hb2 ht3)
      have HRR := Lib.hid (HNEXT.out hr)
      have hr3 : r = 0 ∨ r = 21 := by omega
      clear hr HBAD HNEXT
      rcases hr3 with rfl | rfl
      all_goals
        go_wp2
        go_quiet (fail)
        go_wp2
        go_region_held3 (fun w' => w'.cell? ⟨g, 0, none⟩ = some (.pointer (some ⟨p, 0, none⟩)) ∧ w'.cell? ⟨g, 1, none⟩ = some (.int .i64 (f : Int))) (first | go_keep | assumption) (first
          | (go_at_call 5; refine (HN.out _ (below_q wr nq)).mono ?_; rintro e w2 ⟨rfl, hb2'⟩; have hb2 := (below_q wr nq).trans (hb2'.mono (Nat.le_refl _)); obtain ⟨k0, k1, HC⟩ := HDL.out w2 hb2)
          | (go_at_call 28; refine HC.out.mono ?_; rintro e w3 ⟨rfl, K3, hd3, ht3⟩; obtain ⟨m0, m1, _, _⟩ := (HTA.out w2 w3 K3 hb2 ht3).1.cells; have hfz := (HTA.out w2 w3 K3 hb2 ht3).1.free 1))
      all_goals
        go_wp2
        go_roundw
        case rel =>
          obtain ⟨hl3, hk3⟩ := HTA.out w2 w3 K3 hb2 ht3
          have hn := hl3.have_ (f + 1) (by omega)
          exact ⟨f + 1, by omega, Lib.hid ⟨K3, d2, PDisk.mv hd3 (Mv.poke (S := fun o => o = 2) _ hk3) (by decide), hn, hk3, (HMV.out w2 w3 K3 hb2 ht3).trans (Mv.poke _ (.inr hk3)), HRR.out⟩⟩
        case measure =>
          obtain ⟨hl3, hk3⟩ := HTA.out w2 w3 K3 hb2 ht3
          rw [first_of c1, show ((f : Int) + 1) = ((f + 1 : Nat) : Int) by simp, first_of (hl3.have_ (f + 1) (by omega)).cells.2.1]
          show l.n - (f + 1) < l.n - f
          omega
    · have HX := Lib.hid (hdr.is.trans (drop_end (f := f) (n := l.n) (below := below) (l := { l with first := f }) (d := d') rfl rfl hlt _))
      have HS := fun n => Lib.hid (hdr.drewN n)
      have j1 : decide ((f : Int) < min below (l.n : Int)) = false := decide_eq_false (by omega)
      clear hdr HDR hlt
      go_wp2
      go_quiet (fail)
      go_wp2
      go_ret
      rw [HX.out]
      exact post_same w K p g rfl (HS nq).out.disk (HS nq).out.log (HS nq).out.mv
end
end Go.Proofs.YtapbjmbakpopcaaGreatDoor.WpDrop

