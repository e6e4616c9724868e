/- The contract of the log's Append. Conditions: those of the text ahead; the payload lies neither in the disk's memory nor in the log's. -/
import Derived.Test.YtapbjmbakpopcaaDoorWpOps
import Derived.Test.YtapbjmbakpopcaaDoorRefRows
namespace Go.Proofs.YtapbjmbakpopcaaDoor.WpApp
open Go Go.RowKit Words DkSpec PdLook RefDisk PdDisk PdOps WlSpec WlName WlHeld WlLog WlMv Parts5 WlLaw WlSt WpPlain WpName WpOps Framed

theorem appendL_long {b : List UInt8} {l : LSt} {d : DSt} (h : 65536 < b.length) : appendL b l d = (4, l, d) := by unfold appendL; rw [if_pos h]
theorem appendL_in {b : List UInt8} {l : LSt} {d : DSt} (h : ¬ 65536 < b.length) : appendL b l d = ((append (name l.n) (frm b) d).1, { l with wrote := l.wrote || (append (name l.n) (frm b) d).1 == 0 }, (append (name l.n) (frm b) d).2) := by
  unfold appendL appendL.frm'
  rw [if_neg h]
theorem wrote_true (l : LSt) : ({ l with wrote := l.wrote || ((0 : Nat) == 0) } : LSt) = { l with wrote := true } := by simp
theorem wrote_same (l : LSt) {r : Nat} (h : r ≠ 0) : ({ l with wrote := l.wrote || (r == 0) } : LSt) = l := by
  have : (r == 0) = false := by simpa using h
  rw [this, Bool.or_false]
section
variable (w : World) (K : Nat → Nat) (p g : Nat) (d : DSt) (l : LSt)
set_option maxHeartbeats 1600000 in
set_option maxRecDepth 100000 in
theorem append_in (b : List UInt8) (A : Option Addr) (c : Nat) (hd : PDisk w K 1 p d) (h : LogR w g p l) (hk : K g = 2) (hfit : Fit d) (hroom : tot d + b.length + 100 ≤ 1099511627776) (hm : l.n ≤ most) (hL : WlTab.Lays w w.heap.size)
    (hr : Rd w w.heap.size A (b.map B8)) (hc : b.length ≤ c) (hmc : c ≤ maxLen) (hs : ¬ 65536 < b.length) :
    Calls Tryd.prog 10 #[.pointer (some ⟨g, 0, none⟩), .slice A b.length c] w (LgPost LogR w K p g (appendL b l d)) := by
  have hne := eq_nil g
  have H1 := Lib.hid (frame_ok b A b.length c w rfl hr hc hmc hL.halves (by omega))
  have HX := Lib.hid (appendL_in (l := l) (d := d) hs)
  have hfl := WlTot.frm_small b (by omega)
  have HST : Hid (∀ w1 v, Below w.heap.size w w1 → w1.ownsRow w.heap.size 5 1 v (frm b).length ((frm b).map B8) →
      LogR w1 g p l ∧ kmark K w.heap.size 3 g = 2 ∧ Mv K (kmark K w.heap.size 3) (fun o => o = 1 ∨ o = 2) w w1 ∧
      Hid (Calls Tryd.prog 19 #[.int .i64 (l.n : Int)] w1.drew fun e w' => e = .returned (.string ⟨(name l.n).toArray⟩) ∧ Below w1.drew.heap.size w1.drew w') ∧
      ∀ w2, Below w1.heap.size w1 w2 → Hid (Calls Tryd.prog 17 #[.pointer (some ⟨p, 0, none⟩), .string ⟨(name l.n).toArray⟩, v] w2 (OPost w2 (kmark K w.heap.size 3) 1 p (append (name l.n) (frm b) d)))) := Lib.hid fun w1 v hb hown => by
    have hl1 := h.below hb
    refine ⟨hl1, (kmark_old h.lt).trans hk, Mv.new hb 3, Lib.hid (name_ok_any w1.drew l.n h.num hm ((lays_keep hL hb).below (drew_below w1))), fun w2 hb2 => Lib.hid ?_⟩
    obtain ⟨A1, c1, rfl, _, _, hrd, hA⟩ := RefTake.own_rd hown
    have hd2 : PDisk w2 (kmark K w.heap.size 3) 1 p d := by
      obtain ⟨M, D, L, G, Q, hp⟩ := hd
      have hp1 := hp.keep (K' := kmark K w.heap.size 3) (fun i hi _ => hb.block i hi) (fun i hi => kmark_old hi)
      exact disk_grow p d ⟨M, D, L, G, Q, hp1⟩ hb2
    refine PdApp.append_any w2 _ 1 p d (name l.n) (frm b) A1 c1 hd2 (by have := name_len32 l.n hm; omega) hfit.few (by have := old_le (name l.n) d; omega) ((hrd.below hb2).more hb2.size) (fun bb off e _ => ?_)
    rw [kmark_new (hA bb off e).1]
    decide
  have HST2 : Hid (∀ w1 w2 w3 K3, LogR w1 g p l → kmark K w.heap.size 3 g = 2 → Below w1.heap.size w1 w2 → Turned (kmark K w.heap.size 3) K3 1 w2 w3 → LogR w3 g p l ∧ K3 g = 2) := Lib.hid fun w1 w2 w3 K3 hl hk hb ht => turned_all p g hl hk hb ht
  obtain ⟨F, hF⟩ : ∃ F, frm b = F := ⟨_, rfl⟩
  rw [hF] at H1 HX HST
  obtain ⟨nm, hnm⟩ : ∃ nm, name l.n = nm := ⟨_, rfl⟩
  rw [hnm] at HX HST
  obtain ⟨R, hR⟩ : ∃ R, append nm F d = R := ⟨_, rfl⟩
  rw [hR] at HX HST
  obtain ⟨r, d'⟩ := R
  simp only at HX
  clear hF hnm hR hd h hk hfit hroom hm hL hr hc hmc hs hfl
  go_enter Tryd.func10, Tryd.ntmps10
  go_wp2_with fail
  refine H1.out.mono ?_
  rintro e w1 ⟨v, rfl, hown, hb1⟩
  obtain ⟨hl1, hk1, hm1, HN, HAP⟩ := HST.out w1 v hb1 hown
  have HL1 := Lib.hid hl1
  have HK1 := Lib.hid hk1
  have HM1 := Lib.hid hm1
  have HAP1 := Lib.hid HAP
  have HS3 := Lib.hid fun w2 w3 K3 hb ht => HST2.out w1 w2 w3 K3 HL1.out HK1.out hb ht
  obtain ⟨c0, _, c2, _⟩ := hl1.cells
  have HCL : Hid (∀ w2, Below w1.heap.size w1 w2 → w2.cell? ⟨g, 0, none⟩ = some (.pointer (some ⟨p, 0, none⟩)) ∧ w2.cell? ⟨g, 2, none⟩ = some (.int .i64 (l.n : Int))) := Lib.hid fun w2 hb => by
    have h2 := (HL1.out.below hb).cells
    exact ⟨h2.1, h2.2.2.1⟩
  clear hown hb1 hl1 hk1 hm1 HAP H1 HST HST2
  go_wp2
  by_cases hr0 : r = 0
  case' pos =>
    have hr1 : ((r : Int) != 0) = false := by simp [hr0]
    go_region_held3 (fun w' => w'.cell? ⟨g, 0, none⟩ = some (.pointer (some ⟨p, 0, none⟩)) ∧ w'.cell? ⟨g, 2, none⟩ = some (.int .i64 (l.n : Int))) (first | go_keep | assumption) (first
      | (go_at_call 19; refine HN.out.mono ?_; rintro e w2 ⟨rfl, hb2'⟩; have hb2 := below_drew hb2'; obtain ⟨k0, k2⟩ := HCL.out w2 hb2)
      | (go_at_call 17; refine (HAP1.out w2 hb2).out.mono ?_; rintro e w3 ⟨rfl, K3, hd3, ht3⟩; obtain ⟨m0, _, m2, m3⟩ := (HS3.out w2 w3 K3 hb2 ht3).1.cells; have hfz := (HS3.out w2 w3 K3 hb2 ht3).1.free 3))
  case' neg =>
    have hr1 : ((r : Int) != 0) = true := by simp; omega
    go_region_held3 (fun w' => w'.cell? ⟨g, 0, none⟩ = some (.pointer (some ⟨p, 0, none⟩)) ∧ w'.cell? ⟨g, 2, none⟩ = some (.int .i64 (l.n : Int))) (first | go_keep | assumption) (first
      | (go_at_call 19; refine HN.out.mono ?_; rintro e w2 ⟨rfl, hb2'⟩; have hb2 := below_drew hb2'; obtain ⟨k0, k2⟩ := HCL.out w2 hb2)
      | (go_at_call 17; refine (HAP1.out w2 hb2).out.mono ?_; rintro e w3 ⟨rfl, K3, hd3, ht3⟩; obtain ⟨m0, _, m2, m3⟩ := (HS3.out w2 w3 K3 hb2 ht3).1.cells))
  case pos =>
    all_goals
      have HR0 := Lib.hid hr0
      clear hr0
      go_wp2
      go_ret
      rw [HX.out, HR0.out, wrote_true]
      obtain ⟨hl3, hk3⟩ := HS3.out w2 w3 K3 hb2 ht3
      exact post_poke w K p g rfl hd3 hk3 (hl3.wrote true) (mv_all w K HM1.out hb2 ht3)
  case neg =>
    all_goals
      have HR0 := Lib.hid hr0
      clear hr0
      go_wp2
      go_ret
      rw [HX.out, wrote_same l HR0.out]
      exact post_same w K p g rfl hd3 (HS3.out w2 w3 K3 hb2 ht3).1 (mv_all w K HM1.out hb2 ht3)
theorem append_any (b : List UInt8) (A : Option Addr) (c : Nat) (hd : PDisk w K 1 p d) (h : LogR w g p l) (hk : K g = 2) (_ : DkSpec.Good d) (hfit : Fit d) (hroom : tot d + b.length + 100 ≤ 1099511627776) (hm : l.n ≤ most) (hL : WlTab.Lays w w.heap.size)
    (hr : Rd w w.heap.size A (b.map B8)) (hc : b.length ≤ c) (hmc : c ≤ maxLen) (_ : ∀ o off, A = some ⟨o, off, none⟩ → 0 < b.length → K o ≠ 1 ∧ K o ≠ 2) :
    Calls Tryd.prog 10 #[.pointer (some ⟨g, 0, none⟩), .slice A b.length c] w (LgPost LogR w K p g (appendL b l d)) := by
  by_cases hs : 65536 < b.length
  · have hne := eq_nil g
    have H1 := Lib.hid (frame_long b A b.length c w rfl hs)
    have HX := Lib.hid (appendL_long (l := l) (d := d) hs)
    have HD := Lib.hid hd
    have HH := Lib.hid h
    clear hd h hk hfit hroom hm hL hr hc hmc hs
    go_enter Tryd.func10, Tryd.ntmps10
    go_wp2_with fail
    refine H1.out.mono ?_
    rintro e w1 ⟨rfl, rfl⟩
    go_wp2
    go_ret
    rw [HX.out]
    exact post_same w K p g rfl HD.out HH.out (Mv.refl _ _ _)
  · exact append_in w K p g d l b A c hd h hk hfit hroom hm hL hr hc hmc hs
end
end Go.Proofs.YtapbjmbakpopcaaDoor.WpApp
