/- The program's All, Take, Len and New, over its head in memory. Conditions: the head lies in memory; at most 65536 records, each of the size that one may be of. · The program's check of a batch against its head: record by record, then the numbers, then how many. Conditions: the head and the batch lie in memory. -/
import Derived.Test.YtkgmcabamhpjhaaGreatHpCopied
import Derived.Test.YtkgmcabamhpjhaaGreatHdSorts
import Derived.Test.YtkgmcabamhpjhaaGreatRpCheck
import Derived.BigQuiet
namespace Go.Proofs.YtkgmcabamhpjhaaGreat.HpAll
open Go Go.RowKit Words AppN Less HdSort LbSpec LbText LbMem LbRef LbCmp UtOwn LpOrd LpBoth LpCmp LpCopy RcAll RcMem RcRef HdMem HdSpec HpSpec HpBox HpMem HpCopied
open RcSpec hiding none

theorem lim_ok {r : Rec} (h : Ok r) : Lim r := by
  refine ⟨by have := h.may.few; omega, fun x hx => ?_, by have := h.line; omega⟩
  have := RcSpec.lerr_len (h.may.each x hx)
  omega
theorem pin_okm {w : World} {J : Nat → Nat} {x : Pin} (h : PinAt w J x) : Okm w x.2 := by
  obtain ⟨A, c, e, hl⟩ := RcRef.own_lb h.labs
  unfold slV at e
  simp only [Value.slice.injEq] at e
  obtain ⟨e1, e2, e3⟩ := e
  exact ⟨by rw [e1, e2, e3]; exact hl, h.fits⟩
theorem row_own {w : World} {base g : Nat} {l : List Lab} (h : Row w g l) (hb : base ≤ g) (hm : l.length ≤ maxLen) : w.ownsRow base 70 2 (.slice (some ⟨g, 0, none⟩) l.length l.length) l.length (flat l) :=
  ⟨by rw [flat_len], .inr ⟨g, l.length, (flat l).toArray, rfl, hb, h, Nat.le_refl _, hm, by simp [flat_len], by rw [show (flat l).toArray.toList = flat l from rfl, List.take_of_length_le (by rw [flat_len]; omega)]⟩⟩
theorem eq_some (b o : Nat) (w : World) : (binOp .eql 24 (.pointer (some ⟨b, o, .none⟩)) (.pointer .none)).run Tryz.prog w = .ok (.bool false) w := by kernel_rfl
theorem eq_nil (w : World) : (binOp .eql 24 (.pointer .none) (.pointer .none)).run Tryz.prog w = .ok (.bool true) w := by kernel_rfl
theorem ptrs_at {l : List Pin} {k : Nat} (h : k < l.length) : (ptrs l)[k]? = some (ptr l[k].1) := by simp [ptrs, h]

def ARel (w : World) (ss : List Pin) (vl vi : Value) (wr : World) : Prop := ∃ (k : Nat) (ms : List RM), k ≤ ss.length ∧ vi = .int .i64 (k : Int) ∧ Hid (recsOf ms = (ss.take k).map rcp) ∧ Hid (ArN w ms vl wr)
/-- What All answers. -/
def APost (w : World) (L : List Rec) (e : Ending) (w' : World) : Prop := ∃ v ms, e = .returned v ∧ recsOf ms = L ∧ ArN w ms v w'

set_option maxHeartbeats 6400000 in
set_option maxRecDepth 100000 in
theorem all_any (w : World) (J : Nat → Nat) (p n : Nat) (last : Option Nat) (V : List UInt8 → List Pin) (ss : List Pin) (sv : Value) (mv : Option Nat) (R : List UInt8 → Value) (h : HM w J p last V ss sv mv R n) (hL : ∀ x ∈ ss, Lim (rcp x)) (hn : ss.length ≤ 65536) :
    Calls Tryz.prog 15 #[(.pointer (some ⟨p, 0, none⟩))] w (APost w (ss.map rcp)) := by
  obtain ⟨i1, gi, gz0, gz1, gz2⟩ := info_parts info_record
  obtain ⟨Ag, cg, rfl, hc1, hc2, hrd⟩ := own_row h.srt (by rw [ptrs_len]; omega)
  have k0 : w.cell? ⟨p, 0, none⟩ = some (.slice Ag ss.length cg) := HpBox.cell_of_heap h.box rfl
  have HS := Lib.hid h.spin
  have HRD := Lib.hid hrd
  have HL := Lib.hid hL
  have hn0 := eq_some p 0
  clear h hrd hL
  unfold maxLen at hc2
  go_enter Tryz.func15, Tryz.ntmps15
  go_wp2
  clear k0
  go_loopw [3, 13] (fun vl vi wr => ARel w ss vl vi wr) (fun _ vi _ => ss.length - (intOf vi).toNat)
  case atStart => exact ⟨0, [], Nat.zero_le _, rfl, Lib.hid rfl, Lib.hid (arn_nil w)⟩
  case round =>
    obtain ⟨k, ms, hk, rfl, HR, HA⟩ := hrel
    clear hn0
    by_cases hlt : k < ss.length
    · obtain ⟨gs, os, rfl, hgs, hcell⟩ := HRD.out (by rw [ptrs_len]; omega)
      have hbw := HA.out.below
      have q := (hbw.cell (p := ⟨gs, os + k, none⟩) hgs).trans (hcell k _ (ptrs_at hlt))
      have hpin := HS.out ss[k] (List.getElem_mem hlt)
      have HLIM := Lib.hid (HL.out ss[k] (List.getElem_mem hlt))
      have HSN : Hid ((ss.take (k + 1)).map rcp = (ss.take k).map rcp ++ [rcp ss[k]]) := Lib.hid (by rw [List.take_succ_eq_append_getElem hlt, List.map_append]; rfl)
      have hok := (pin_okm hpin).below hbw
      have hml : ms.length ≤ 65536 := by
        have h1 : (recsOf ms).length = _ := congrArg List.length HR.out
        simp [recsOf] at h1
        omega
      have hbox : Box wr ss[k] := (hbw.block _ hpin.box.lt).trans hpin.box
      have HFT := Lib.hid hpin.fits
      obtain ⟨x, hx⟩ : ∃ x, ss[k] = x := ⟨_, rfl⟩
      rw [hx] at q hbox hok HLIM HSN HFT
      clear hcell hpin hx hbw
      obtain ⟨g, m⟩ := x
      obtain ⟨b0, b1, b2, b3⟩ := hbox.cells
      have HC := Lib.hid (copied_any wr m hok HLIM.out)
      have hsz := HA.out.below.size
      have hi1 : (0 : Int) ≤ (k : Int) := by omega
      have hi2 : (k : Int) < (ss.length : Int) := by omega
      clear hok hbox
      obtain ⟨⟨tm, s, ls, ln⟩, Am, lm, cm⟩ := m
      have hfew := HLIM.out.few
      unfold rcp aggR slV S8 at *
      unfold ptr at q
      simp only at b0 b1 b2 b3 HC HLIM HSN HFT hfew
      obtain ⟨Av, cv, rfl, _, _, _⟩ := own_row HA.out.own (flatR_len ms)
      go_wp2_with fail
      refine HC.out.mono ?_
      rintro e w1 ⟨g1, rfl, hg1, hrow, hb1⟩
      have hs1 := hb1.size
      have HA1 := Lib.hid ((HA.out.call hb1).call ((Below.refl _ w1).alloc (Nat.le_refl _) (.cells #[.int .i64 tm, .int .u64 (s : Int), .slice (some ⟨g1, 0, none⟩) ls.length ls.length, .string ⟨ln.toArray⟩] 47)))
      have hrow : Row w1 g1 ls := hrow
      have hlt1 := hrow.lt
      have hown1 := row_own hrow hg1 (by unfold maxLen; omega)
      have HMN : Hid (MNew w (.slice Av ms.length cv) ms ((⟨tm, s, ls, ln⟩, some ⟨g1, 0, .none⟩, ls.length, ls.length) : RM) (w1.alloc (.cells #[.int .i64 tm, .int .u64 (s : Int), .slice (some ⟨g1, 0, none⟩) ls.length ls.length, .string ⟨ln.toArray⟩] 47))) := Lib.hid ⟨HFT.out, own_monoN ((show w1.ownsRow wr.heap.size 70 2 (slV (some ⟨g1, 0, .none⟩, ls.length, ls.length)) _ _ from hown1).alloc _) hsz, fun g h1 h2 => by
          have h3 := (HA.out.own.lt g h1).2
          have h4 : g1 = g := by unfold slV at h2; simpa [Value.ownBlock] using h2
          omega, fun x hx g h1 h2 => by
          have h3 := ((HA.out.each x hx).lt g h1).2
          have h4 : g1 = g := by unfold slV at h2; simpa [Value.ownBlock] using h2
          omega⟩
      have HME := Lib.hid (Rd.made w1 #[.int .i64 tm, .int .u64 (s : Int), .slice (some ⟨g1, 0, none⟩) ls.length ls.length, .string ⟨ln.toArray⟩] 47)
      clear hrow hb1 hown1 HC
      unfold aggR slV S8
      go_wp2_with (at_builtin; refine wpList_append_rd _ rfl (.tmp 17) (.tmp 22) 28 rfl w.heap.size 4 47 i1 (.agg #[.int .i64 0, .int .u64 0, .slice none 0 0, .string ByteArray.empty]) 56 Tryz.underlying28 gi gz0 gz1 gz2 rfl (by omega) _ _ _ rfl HA1.out.own (w1.heap.size + 1) (some ⟨w1.heap.size, 0, none⟩) 1 1 [.int .i64 tm, .int .u64 (s : Int), .slice (some ⟨g1, 0, none⟩) ls.length ls.length, .string ⟨ln.toArray⟩] rfl rfl ?f0 ?f1 ?f2 ?f3 ?f4 ?_)
      case f0 => exact HME.out
      case f1 => exact rcells_ones ((⟨tm, s, ls, ln⟩, some ⟨g1, 0, .none⟩, ls.length, ls.length) : RM)
      case f2 => unfold maxLen; omega
      case f3 => omega
      case f4 => simp; omega
      intro v' w9 hown9 hg9 hv9
      have HA9 := Lib.hid (HA1.out.app HMN.out hown9 hg9 (by simpa using hv9))
      have HR9 : Hid (recsOf (ms ++ [((⟨tm, s, ls, ln⟩, some ⟨g1, 0, .none⟩, ls.length, ls.length) : RM)]) = (ss.take (k + 1)).map (fun x => x.2.1)) := Lib.hid (by
        rw [HSN.out, ← HR.out]
        simp [recsOf])
      clear hown9 hg9 hv9 HA1 HMN HME HA HR
      go_wp2
      exact ⟨⟨k + 1, ms ++ [((⟨tm, s, ls, ln⟩, some ⟨g1, 0, .none⟩, ls.length, ls.length) : RM)], by omega, by go_num, HR9, HA9⟩, by simp [intOf]; omega⟩
    · obtain rfl : k = ss.length := by omega
      rw [List.take_length] at HR
      go_wp2
      go_ret
      exact ⟨_, ms, rfl, HR.out, HA.out⟩

set_option maxHeartbeats 1600000 in
theorem allNil_any (w : World) : Calls Tryz.prog 15 #[.pointer none] w fun e w' => e = .returned (.slice none 0 0) ∧ w' = w := by
  have hn := eq_nil
  go_enter Tryz.func15, Tryz.ntmps15
  go_wp2
  go_ret
  exact ⟨rfl, rfl⟩
set_option maxHeartbeats 1600000 in
theorem lenNil_any (w : World) : Calls Tryz.prog 22 #[.pointer none] w fun e w' => e = .returned (.int .i64 0) ∧ w' = w := by
  have hn := eq_nil
  go_enter Tryz.func22, Tryz.ntmps22
  go_wp2
  go_ret
  exact ⟨rfl, rfl⟩
set_option maxHeartbeats 1600000 in
theorem takeNil_any (w : World) : Calls Tryz.prog 20 #[.pointer none] w fun e w' => e = .returned (.slice none 0 0) ∧ w' = w := by
  have hn := eq_nil
  go_enter Tryz.func20, Tryz.ntmps20
  go_wp2
  go_ret
  exact ⟨rfl, rfl⟩
set_option maxHeartbeats 1600000 in
theorem findNil_any (w : World) (t : ByteArray) : Calls Tryz.prog 18 #[.pointer none, .string t] w fun e w' => e = .returned (.slice none 0 0) ∧ w' = w := by
  have hn := eq_nil
  go_enter Tryz.func18, Tryz.ntmps18
  go_wp2
  go_ret
  exact ⟨rfl, rfl⟩
set_option maxHeartbeats 1600000 in
theorem addNil_any (w : World) (A : Option Addr) (n c : Nat) : Calls Tryz.prog 11 #[.pointer none, .slice A n c] w fun e w' => e = .returned (.int .i64 2) ∧ w' = w := by
  have hn := eq_nil
  go_enter Tryz.func11, Tryz.ntmps11
  go_wp2
  go_ret
  exact ⟨rfl, rfl⟩
set_option maxHeartbeats 1600000 in
theorem new_any (w : World) : Calls Tryz.prog 8 #[] w fun e w' => e = .returned (.pointer (some ⟨w.heap.size, 0, none⟩)) ∧ w' = w.alloc (.cells #[.slice none 0 0, .map none, .int .u64 0, .bool false] 60) := by
  go_enter Tryz.func8, Tryz.ntmps8
  go_wp2
  go_ret
  exact ⟨rfl, rfl⟩
set_option maxHeartbeats 1600000 in
theorem len_any (w : World) (J : Nat → Nat) (p n : Nat) (last : Option Nat) (V : List UInt8 → List Pin) (ss : List Pin) (sv : Value) (mv : Option Nat) (R : List UInt8 → Value) (h : HM w J p last V ss sv mv R n) :
    Calls Tryz.prog 22 #[(.pointer (some ⟨p, 0, none⟩))] w fun e w' => e = .returned (.int .i64 (ss.length : Int)) ∧ w' = w := by
  obtain ⟨Ag, cg, rfl, _, _, _⟩ := own_row h.srt (by rw [ptrs_len]; omega)
  have k0 : w.cell? ⟨p, 0, none⟩ = some (.slice Ag ss.length cg) := HpBox.cell_of_heap h.box rfl
  have hn0 := eq_some p 0
  clear h
  go_enter Tryz.func22, Tryz.ntmps22
  go_wp2
  go_ret
  exact ⟨rfl, rfl⟩
/-- What Take leaves: All's answer, and the box without its records. -/
def TPost (w : World) (p : Nat) (L : List Rec) (e : Ending) (w' : World) : Prop := ∃ v ms w1, e = .returned v ∧ recsOf ms = L ∧ ArN w ms v w1 ∧ w' = (w1.setCell ⟨p, 0, none⟩ (.slice none 0 0)).setCell ⟨p, 1, none⟩ (.map none)
set_option maxHeartbeats 3200000 in
set_option maxRecDepth 100000 in
theorem take_any (w : World) (J : Nat → Nat) (p n : Nat) (last : Option Nat) (V : List UInt8 → List Pin) (ss : List Pin) (sv : Value) (mv : Option Nat) (R : List UInt8 → Value) (h : HM w J p last V ss sv mv R n) (hL : ∀ x ∈ ss, Lim (rcp x)) (hn : ss.length ≤ 65536) :
    Calls Tryz.prog 20 #[(.pointer (some ⟨p, 0, none⟩))] w (TPost w p (ss.map rcp)) := by
  have CA := Lib.hid (all_any w J p n last V ss sv mv R h hL hn)
  have HBX := Lib.hid h.box
  have hlt := h.lt
  have hn0 := eq_some p 0
  clear h hL
  go_enter Tryz.func20, Tryz.ntmps20
  go_wp2_with fail
  refine CA.out.mono ?_
  rintro e w1 ⟨v, ms, rfl, hms, har⟩
  have HMS := Lib.hid hms
  have HAR := Lib.hid har
  have hbox1 := (har.below.block p hlt).trans HBX.out
  have k0 := HpBox.cell_of_heap (j := 0) hbox1 rfl
  have k1 := HpBox.cell_of_heap (j := 1) hbox1 rfl
  have kf := fun j => HpBox.frozen_of_heap (j := j) hbox1
  clear hms har hbox1 CA
  go_wp2
  go_ret
  exact ⟨v, ms, w1, rfl, HMS.out, HAR.out, rfl⟩
end Go.Proofs.YtkgmcabamhpjhaaGreat.HpAll

namespace Go.Proofs.YtkgmcabamhpjhaaGreat.HpCheck
open Go Go.RowKit Words AppN Less LbSpec LbText LbMem LbRef LbCmp UtOwn LpOrd RcAll RcMem RcRef HdMem HdSpec HpSpec HpBox HpMem HpAll
open RcSpec hiding none

theorem firstBad_at {l : List Rec} {k : Nat} (h : k < l.length) : firstBad (l.drop k) = if check l[k] = 0 then firstBad (l.drop (k + 1)) else check l[k] := by
  rw [List.drop_eq_getElem_cons h, firstBad]
theorem bad_at {s : Option Nat} {l : List Rec} {k : Nat} (h : k < l.length) : bad s (l.drop k) = (notMore s l[k].seq || bad (some l[k].seq) (l.drop (k + 1))) := by
  rw [List.drop_eq_getElem_cons h, bad]
def B1 (w : World) (L : List Rec) (vi : Value) (wr : World) : Prop := ∃ k : Nat, k ≤ L.length ∧ vi = .int .i64 (k : Int) ∧ Hid (firstBad L = firstBad (L.drop k)) ∧ Hid (Below w.heap.size w wr)
def B2 (w : World) (s : Option Nat) (L : List Rec) (vl vb vi : Value) (wr : World) : Prop := ∃ (k : Nat) (y : Nat) (b : Bool), k ≤ L.length ∧ vi = .int .i64 (k : Int) ∧ vl = .int .u64 (y : Int) ∧ vb = .bool b ∧ Hid (bad s L = bad (if b = true then some y else .none) (L.drop k)) ∧ Hid (Below w.heap.size w wr)

set_option maxHeartbeats 6400000 in
set_option maxRecDepth 100000 in
theorem check_any (w : World) (J : Nat → Nat) (p n : Nat) (last : Option Nat) (V : List UInt8 → List Pin) (ss : List Pin) (sv : Value) (mv : Option Nat) (R : List UInt8 → Value) (h : HM w J p last V ss sv mv R n)
    (ms : List RM) (A : Option Addr) (c : Nat) (hl : Rl w A ms.length c ms) (hn : ss.length ≤ 65536) (hm : ms.length ≤ 1099511627776) (E : Nat)
    (hE : E = if firstBad (recsOf ms) ≠ 0 then firstBad (recsOf ms) else if bad last (recsOf ms) = true then 6 else if 65536 < ss.length + ms.length then 3 else 0) :
    Calls Tryz.prog 28 #[(.pointer (some ⟨p, 0, none⟩)), .slice A ms.length c] w fun e w' => e = .returned (.int .i64 (E : Int)) ∧ Below w.heap.size w w' := by
  obtain ⟨Ag, cg, rfl, _, _, _⟩ := own_row h.srt (by rw [ptrs_len]; omega)
  have HBX := Lib.hid h.box
  have hp := h.lt
  have HL := Lib.hid hl
  have HE := Lib.hid hE
  have hrl : (recsOf ms).length = ms.length := by simp [recsOf]
  clear h hl hE
  go_enter Tryz.func28, Tryz.ntmps28
  go_wp2
  go_loopw [14] (fun vi wr => B1 w (recsOf ms) vi wr) (fun vi _ => ms.length - (intOf vi).toNat)
  case atStart => exact ⟨0, Nat.zero_le _, rfl, Lib.hid rfl, Lib.hid (Below.refl _ _)⟩
  case round =>
    obtain ⟨k, hk, rfl, HF, HB⟩ := hrel
    rw [hrl] at hk
    by_cases hlt : k < ms.length
    · obtain ⟨b1, o1, rfl, hbb, hc⟩ := HL.out.rd (by rw [flatR_len]; omega)
      obtain ⟨q0, q1, q2, q3⟩ := cellsR hc hlt
      have k0 := (HB.out.cell (p := ⟨b1, o1 + k * 4, .none⟩) hbb).trans q0
      have k1 := (HB.out.cell (p := ⟨b1, o1 + k * 4 + 1, .none⟩) hbb).trans q1
      have k2 := (HB.out.cell (p := ⟨b1, o1 + k * 4 + 2, .none⟩) hbb).trans q2
      have k3 := (HB.out.cell (p := ⟨b1, o1 + k * 4 + 3, .none⟩) hbb).trans q3
      have hok := (HL.out.each ms[k] (List.getElem_mem hlt)).below HB.out
      have hrk : (recsOf ms)[k]'(by rw [hrl]; exact hlt) = ms[k].1 := by simp [recsOf]
      have hst := firstBad_at (l := recsOf ms) (k := k) (by rw [hrl]; exact hlt)
      rw [hrk] at hst
      obtain ⟨x, hx⟩ : ∃ x, ms[k] = x := ⟨_, rfl⟩
      rw [hx] at k0 k1 k2 k3 hok hst
      have hi1 : (0 : Int) ≤ (k : Int) := by omega
      have hi2 : (k : Int) < (ms.length : Int) := by omega
      have HC := fun (W : World) (hb : Below wr.heap.size wr W) => Lib.hid (RpCheck.check_any W x (hok.below hb))
      have HAL := Lib.hid ((Below.refl _ wr).alloc (Nat.le_refl _) (.cells #[.int .i64 x.1.time, .int .u64 (x.1.seq : Int), slV x.2, .string ⟨x.1.line.toArray⟩] 47))
      have HC1 := HC _ HAL.out
      clear hc q0 q1 q2 q3 hok hx hrk HC
      obtain ⟨⟨tm, s, ls, ln⟩, Am, lm, cm⟩ := x
      unfold aggR slV S8 at *
      simp only at k0 k1 k2 k3 HC1 hst
      by_cases hch : check ⟨tm, s, ls, ln⟩ = 0
      · rw [if_pos hch] at hst
        rw [hch] at HC1
        have HF2 : Hid (firstBad (recsOf ms) = firstBad ((recsOf ms).drop (k + 1))) := Lib.hid (HF.out.trans hst)
        clear hst hch HF
        go_wp2_with fail
        refine HC1.out.mono ?_
        rintro e w1 ⟨rfl, hb1⟩
        have HB1 : Hid (Below w.heap.size w w1) := Lib.hid (HB.out.trans ((HAL.out.trans (hb1.mono (by simp))).mono HB.out.size))
        clear hb1 HC1 HB HAL
        go_wp2
        exact ⟨⟨k + 1, by rw [hrl]; omega, by go_num, HF2, HB1⟩, by simp [intOf]; omega⟩
      · rw [if_neg hch] at hst
        have hF2 := HF.out.trans hst
        have j1 : ((check ⟨tm, s, ls, ln⟩ : Int) != 0) = true := by simp; omega
        have HEE : Hid (E = check ⟨tm, s, ls, ln⟩) := Lib.hid (by rw [HE.out, hF2, if_pos hch])
        clear hst hF2 HF
        generalize check ⟨tm, s, ls, ln⟩ = q at *
        clear hch
        go_wp2_with fail
        refine HC1.out.mono ?_
        rintro e w1 ⟨rfl, hb1⟩
        have HB1 : Hid (Below w.heap.size w w1) := Lib.hid (HB.out.trans ((HAL.out.trans (hb1.mono (by simp))).mono HB.out.size))
        clear hb1 HC1 HB HAL
        go_wp2
        go_ret
        exact ⟨ret_int (by rw [HEE.out]), HB1.out⟩
    · obtain rfl : k = ms.length := by omega
      have h0 : firstBad (recsOf ms) = 0 := by
        rw [HF.out, List.drop_eq_nil_of_le (by omega)]
        rfl
      have HE2 : Hid (E = if bad last (recsOf ms) = true then 6 else if 65536 < ss.length + ms.length then 3 else 0) := Lib.hid (by rw [HE.out, if_neg (by omega)])
      have hbox := (HB.out.block p hp).trans HBX.out
      have c0 := HpBox.cell_of_heap (j := 0) hbox rfl
      have c2 := HpBox.cell_of_heap (j := 2) hbox rfl
      have c3 := HpBox.cell_of_heap (j := 3) hbox rfl
      clear hbox HE HF h0 hlt hk
      obtain ⟨y0, b0, hy0, hy1, hy2⟩ : ∃ (y0 : Nat) (b0 : Bool), last.getD 0 = y0 ∧ last.isSome = b0 ∧ last = (if b0 = true then some y0 else .none) := by
        cases last with
        | none => exact ⟨0, false, rfl, rfl, rfl⟩
        | some y => exact ⟨y, true, rfl, rfl, rfl⟩
      rw [hy0] at c2
      rw [hy1] at c3
      rw [hy2] at HE2
      clear hy0 hy1 hy2
      have hi0 : decide ((ms.length : Int) < (ms.length : Int)) = false := by simp
      go_wp2
      go_quiet (fail)
      go_wp2
      have HBQ : Hid (Below w.heap.size w (wr.drewN nq)) := Lib.hid ⟨HB.out.os, HB.out.tape, HB.out.output, HB.out.size, HB.out.block⟩
      clear c0 c2 c3 HB
      go_loopw [8, 9, 34] (fun vl vb vi wr => B2 w (if b0 = true then some y0 else .none) (recsOf ms) vl vb vi wr) (fun _ _ vi _ => ms.length - (intOf vi).toNat)
      case atStart => exact ⟨0, y0, b0, Nat.zero_le _, rfl, rfl, rfl, Lib.hid rfl, HBQ⟩
      case round =>
        obtain ⟨k, y, b, hk, rfl, rfl, rfl, HF, HB⟩ := hrel
        rw [hrl] at hk
        clear HBQ
        by_cases hlt : k < ms.length
        · obtain ⟨b1, o1, rfl, hbb, hc⟩ := HL.out.rd (by rw [flatR_len]; omega)
          obtain ⟨q0, q1, q2, q3⟩ := cellsR hc hlt
          have k0 := (HB.out.cell (p := ⟨b1, o1 + k * 4, .none⟩) hbb).trans q0
          have k1 := (HB.out.cell (p := ⟨b1, o1 + k * 4 + 1, .none⟩) hbb).trans q1
          have k2 := (HB.out.cell (p := ⟨b1, o1 + k * 4 + 2, .none⟩) hbb).trans q2
          have k3 := (HB.out.cell (p := ⟨b1, o1 + k * 4 + 3, .none⟩) hbb).trans q3
          have hrk : (recsOf ms)[k]'(by rw [hrl]; exact hlt) = ms[k].1 := by simp [recsOf]
          have hst := bad_at (s := if b = true then some y else .none) (l := recsOf ms) (k := k) (by rw [hrl]; exact hlt)
          rw [hrk] at hst
          have hft := (HL.out.each ms[k] (List.getElem_mem hlt)).fits.2
          obtain ⟨x, hx⟩ : ∃ x, ms[k] = x := ⟨_, rfl⟩
          rw [hx] at k0 k1 k2 k3 hst hft
          have hi1 : (0 : Int) ≤ (k : Int) := by omega
          have hi2 : (k : Int) < (ms.length : Int) := by omega
          have hsz := HB.out.size
          clear hc q0 q1 q2 q3 hx hrk
          obtain ⟨⟨tm, sq, ls, ln⟩, Am, lm, cm⟩ := x
          unfold slV at k2
          simp only at k0 k1 k2 k3 hst hft
          by_cases hbad : b = true ∧ sq ≤ y
          · obtain ⟨rfl, hle⟩ := hbad
            have j1 : ((sq : Int) ≤ (y : Int)) := by omega
            have hb6 : bad (if b0 = true then some y0 else .none) (recsOf ms) = true := by
              rw [HF.out, hst]
              simp [notMore, hle]
            have HEE : Hid (E = 6) := Lib.hid (by rw [HE2.out, if_pos hb6])
            have HB9 : ∀ o, Hid (Below w.heap.size w (wr.alloc o)) := fun o => Lib.hid (HB.out.alloc hsz o)
            clear hst hb6 HF HE2
            go_wp2
            go_ret
            exact ⟨ret_int (by rw [HEE.out]; rfl), (HB9 _).out⟩
          · have HF2 : Hid (bad (if b0 = true then some y0 else .none) (recsOf ms) = bad (if true = true then some sq else .none) ((recsOf ms).drop (k + 1))) := Lib.hid (by
              rw [HF.out, hst, if_pos rfl]
              have : notMore (if b = true then some y else .none) sq = false := by
                cases b with
                | false => rfl
                | true =>
                  simp only [if_true, notMore, decide_eq_false_iff_not]
                  exact fun h => hbad ⟨rfl, h⟩
              rw [this, Bool.false_or])
            have HB9 : ∀ o, Hid (Below w.heap.size w (wr.alloc o)) := fun o => Lib.hid (HB.out.alloc hsz o)
            clear hst HF HB
            cases b with
            | false =>
              go_wp2
              exact ⟨⟨k + 1, sq, true, by rw [hrl]; omega, by go_num, rfl, rfl, HF2, HB9 _⟩, by simp [intOf]; omega⟩
            | true =>
              have j1 : ¬ ((sq : Int) ≤ (y : Int)) := fun h => hbad ⟨rfl, by omega⟩
              clear hbad
              go_wp2
              exact ⟨⟨k + 1, sq, true, by rw [hrl]; omega, by go_num, rfl, rfl, HF2, HB9 _⟩, by simp [intOf]; omega⟩
        · obtain rfl : k = ms.length := by omega
          have h0 : bad (if b0 = true then some y0 else .none) (recsOf ms) = false := by
            rw [HF.out, List.drop_eq_nil_of_le (by omega)]
            rfl
          have hE3 := HE2.out
          rw [if_neg (by rw [h0]; decide)] at hE3
          have hbox := (HB.out.block p hp).trans HBX.out
          have c0 := HpBox.cell_of_heap (j := 0) hbox rfl
          clear hbox HE2 HF h0 hlt hk
          by_cases hmany : 65536 < ss.length + ms.length
          · rw [if_pos hmany] at hE3
            have j1 : (65536 : Int) < (ss.length : Int) + (ms.length : Int) := by omega
            subst hE3
            go_wp2
            go_ret
            exact ⟨ret_int rfl, HB.out⟩
          · rw [if_neg hmany] at hE3
            have j1 : ¬ (65536 : Int) < (ss.length : Int) + (ms.length : Int) := by omega
            subst hE3
            go_wp2
            go_ret
            exact ⟨ret_int rfl, HB.out⟩
end Go.Proofs.YtkgmcabamhpjhaaGreat.HpCheck

