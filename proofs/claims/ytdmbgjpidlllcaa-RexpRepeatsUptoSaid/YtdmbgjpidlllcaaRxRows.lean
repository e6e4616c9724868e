/- The contract of the document's row, by that of its item at texts no longer. Conditions: the parser lies in memory and may go on. · An alternative while it is parsed, in plain words. No conditions but those that the theorems name. · The contract of the document's alt, by that of its row at texts no longer. Conditions: the parser lies in memory and may go on. · An item's frame, and an item's end in plain words. No conditions but those that the theorems name. -/
import Derived.Test.YtdmbgjpidlllcaaRxNodes
namespace Go.Proofs.Ytdmbgjpidlllcaa.RxRow
open Go Go.RowKit Words AppN Km Mo_ RxSpec RxEq RxMem RxPeek RxIn RxEsc RxCln RxHas RxClean RxNode RxPost RxRowP

def lenOf : Value → Nat
  | .slice _ n _ => n
  | _ => 0
/-- item, at texts of at most N runes. -/
def ItemC (S : Sl) (rs : List Nat) (N : Nat) : Prop := ∀ (w : World) (K : Nat → Nat) (o p : Nat) (q : PSt) (ms : List NM) (v : Value), RP w K o p S rs q ms v → Pre rs q ms → rs.length - q.at_ ≤ N → q.at_ < rs.length →
  Calls Try.prog 36 #[.pointer (some ⟨p, 0, none⟩)] w (NPost w K o p S rs 0 q ms (itemS (rs.drop q.at_)))
def RowC (S : Sl) (rs : List Nat) (N : Nat) : Prop := ∀ (w : World) (K : Nat → Nat) (o p : Nat) (q : PSt) (ms : List NM) (v : Value), RP w K o p S rs q ms v → Pre rs q ms → rs.length - q.at_ ≤ N →
  Calls Try.prog 30 #[.pointer (some ⟨p, 0, none⟩)] w (NPost w K o p S rs 1 q ms (rowL [] 0 (rs.drop q.at_)))
def RRel (W : World) (K : Nat → Nat) (o p : Nat) (S : Sl) (rs : List Nat) (q : PSt) (ms : List NM) (v3 : Value) (wr : World) : Prop :=
  ∃ (K' : Nat → Nat) (q' : PSt) (ms' : List NM) (v' : Value) (l : List Nat), Hid (Fr W wr K K' o p S rs q' ms' v' v3 l) ∧ Hid (RowSt rs q ms q' ms' l)
/-- A node of a frame's kids. -/
theorem okn_of {w : World} {K : Nat → Nat} {o : Nat} {A : Option Addr} {c : Nat} {l : List Nat} (kind : Nat) (h : Sd w K o (A, l.length, c) (l.map IV)) : Okn w K o ⟨⟨kind, l, 0, 0, []⟩, (A, l.length, c), (none, 0, 0)⟩ := ⟨h, Sd.nil_ _ _ _⟩
set_option maxHeartbeats 12800000 in
set_option maxRecDepth 100000 in
theorem row_of {S : Sl} {rs : List Nat} {N : Nat} (HI : ItemC S rs N) : RowC S rs N := by
  intro w K o p q ms v hr hp hN
  obtain ⟨i0, hi, hz0, hz1, hz2⟩ := info_int
  have HP := Lib.hid hp
  have HR := Lib.hid hr
  clear hr hp
  go_enter Try.func30, Try.ntmps30
  go_wp2
  go_loopw [3] (fun v3 wr => RRel w K o p S rs q ms v3 wr) (fun v _ => 1002 - lenOf v)
  case atStart => exact ⟨K, q, ms, v, [], Lib.hid (Fr.start HR.out), Lib.hid (.inl ⟨[], 0, RowG.start HP.out⟩)⟩
  case round =>
    obtain ⟨K', q', ms', v', l, HF, HS⟩ := hrel
    obtain ⟨A3, c3, rfl⟩ := own_sl HF.out.fk.own
    have hfew := HS.out.fewN HP.out
    have hlen := HP.out.len
    have hkl := HS.out.len
    have HPK : ∀ (wz : World), Below wr.heap.size wr wz → Calls Try.prog 35 #[.pointer (some ⟨p, 0, none⟩)] wz fun e w' => e = .returned (.int .i32 (pkz rs q')) ∧ Below wz.heap.size wz w' := fun wz hb => peek_any (HF.out.below hb).rp (by omega)
    obtain ⟨z, hz⟩ : ∃ z, pkz rs q' = z := ⟨_, rfl⟩
    rw [hz] at HPK
    have HZS : Hid (z = -1 ∨ z = 124 ∨ z = 41 → q'.bad = false → RxRowP.stop (rs.drop q'.at_)) := Lib.hid fun h hb => by
      cases hd0 : rs.drop q'.at_ with
      | nil => exact .inl rfl
      | cons r t =>
        obtain ⟨e, _, _⟩ := pkz_cons hb hd0
        rw [hz] at e
        rcases h with h | h | h
        · omega
        · exact .inr (.inl (by rw [hd_cons]; simp; omega))
        · exact .inr (.inr (by rw [hd_cons]; simp; omega))
    by_cases hz1' : z = -1
    · have d1 : (z != -1) = false := by simp [hz1']
      have HSTOP := Lib.hid (HZS.out (.inl hz1'))
      clear hz HZS hz1'
      go_wp2_with fail
      refine (HPK _ (Below.refl _ _)).mono ?_
      rintro _ WZ ⟨rfl, hb⟩
      have HBZ := Lib.hid hb
      have HNX : Hid (Fr w WZ K K' o p S rs q' ms' v' (.slice A3 l.length c3) l) := Lib.hid (HF.out.below HBZ.out)
      clear HF HPK hb
      by_cases h0 : l.length = 0
      · have HE := Lib.hid (fun ms2 h2 => HS.out.end0 (ms2 := ms2) HSTOP.out h0 h2)
        have HN := node_any (m := ⟨⟨1, [], 0, 0, []⟩, (none, 0, 0), (none, 0, 0)⟩) HNX.out.rp ⟨Sd.nil_ _ _ _, Sd.nil_ _ _ _⟩ (by omega)
        unfold aggN slV at HN
        simp only at HN
        rw [show (((1 : Nat)) : Int) = 1 from rfl] at HN
        rw [h0] at HNX ⊢
        clear h0
        go_wp2_with fail
        refine HN.mono ?_
        rintro _ w9 ⟨rfl, v9, K9, hr9, hm9⟩
        have HRES := Lib.hid (show NPost w K o p S rs 1 q ms (rowL [] 0 (rs.drop q.at_)) (.returned (.int .i64 (ms'.length : Int))) w9 from ⟨ms'.length, K9, q', _, v9, rfl, hr9, HNX.out.mo.trans hm9, HE.out _ (by rw [nds_snoc])⟩)
        clear hr9 hm9 HN HE
        go_wp2
        go_ret
        exact HRES.out
      by_cases h1 : l.length = 1
      · have HE := Lib.hid (HS.out.end1 HSTOP.out h1)
        obtain ⟨g3, cap3, hv3, hb3, _⟩ := HNX.out.fk.own.form (show 0 < l.length by omega)
        injection hv3 with hv3 _ hv4
        subst hv3
        subst hv4
        have hc0 := HNX.out.fk.own.cells (g := g3) rfl 0 (IV (l.getD 0 0)) (by
          rw [List.getD_eq_getElem?_getD, List.getElem?_eq_getElem (show 0 < l.length by omega)]; simp [List.getElem?_eq_getElem (show 0 < l.length by omega)])
        rw [add_off, Nat.zero_add] at hc0
        have HRES := Lib.hid (show NPost w K o p S rs 1 q ms (rowL [] 0 (rs.drop q.at_)) (.returned (.int .i64 ((l.getD 0 0 : Nat) : Int))) WZ from ⟨_, K', q', ms', v', rfl, HNX.out.rp, HNX.out.mo, HE.out⟩)
        clear HE
        rw [h1] at HNX ⊢
        clear h1 h0
        unfold IV at hc0
        go_wp2
        go_ret
        exact HRES.out
      · have HE := Lib.hid (fun ms2 h2 => HS.out.end2 (ms2 := ms2) HSTOP.out (by omega) h2)
        obtain ⟨K5, hr5, hm5, _, hsd5⟩ := HNX.out.give
        have HN := node_any hr5 (okn_of 3 hsd5) (show ms'.length < 100000 by omega)
        unfold aggN slV at HN
        simp only at HN
        rw [show (((3 : Nat)) : Int) = 3 from rfl] at HN
        have j0 : ((l.length : Int) == 0) = false := by simp only [beq_eq_false_iff_ne, ne_eq]; omega
        have j1 : ((l.length : Int) == 1) = false := by simp only [beq_eq_false_iff_ne, ne_eq]; omega
        have HM5 := Lib.hid hm5
        clear hm5 hr5 hsd5 HNX
        go_wp2_with fail
        refine HN.mono ?_
        rintro _ w9 ⟨rfl, v9, K9, hr9, hm9⟩
        have HRES := Lib.hid (show NPost w K o p S rs 1 q ms (rowL [] 0 (rs.drop q.at_)) (.returned (.int .i64 (ms'.length : Int))) w9 from ⟨ms'.length, K9, q', _, v9, rfl, hr9, HM5.out.trans hm9, HE.out _ (by rw [nds_snoc])⟩)
        clear hr9 hm9 HN HE HM5
        go_wp2
        go_ret
        exact HRES.out
    have d1 : (z != -1) = true := by simpa using hz1'
    by_cases hz2' : z = 124
    · have d2 : (z != 124) = false := by simp [hz2']
      have HSTOP := Lib.hid (HZS.out (.inr (.inl hz2')))
      clear hz HZS hz1' hz2'
      go_wp2_with fail
      refine (HPK _ (Below.refl _ _)).mono ?_
      rintro _ WY ⟨rfl, hb1⟩
      go_wp2_with fail
      refine (HPK _ hb1).mono ?_
      rintro _ WZ ⟨rfl, hb⟩
      have HBZ := Lib.hid (hb1.trans (hb.mono hb1.size))
      clear hb1
      have HNX : Hid (Fr w WZ K K' o p S rs q' ms' v' (.slice A3 l.length c3) l) := Lib.hid (HF.out.below HBZ.out)
      clear HF HPK hb
      by_cases h0 : l.length = 0
      · have HE := Lib.hid (fun ms2 h2 => HS.out.end0 (ms2 := ms2) HSTOP.out h0 h2)
        have HN := node_any (m := ⟨⟨1, [], 0, 0, []⟩, (none, 0, 0), (none, 0, 0)⟩) HNX.out.rp ⟨Sd.nil_ _ _ _, Sd.nil_ _ _ _⟩ (by omega)
        unfold aggN slV at HN
        simp only at HN
        rw [show (((1 : Nat)) : Int) = 1 from rfl] at HN
        rw [h0] at HNX ⊢
        clear h0
        go_wp2_with fail
        refine HN.mono ?_
        rintro _ w9 ⟨rfl, v9, K9, hr9, hm9⟩
        have HRES := Lib.hid (show NPost w K o p S rs 1 q ms (rowL [] 0 (rs.drop q.at_)) (.returned (.int .i64 (ms'.length : Int))) w9 from ⟨ms'.length, K9, q', _, v9, rfl, hr9, HNX.out.mo.trans hm9, HE.out _ (by rw [nds_snoc])⟩)
        clear hr9 hm9 HN HE
        go_wp2
        go_ret
        exact HRES.out
      by_cases h1 : l.length = 1
      · have HE := Lib.hid (HS.out.end1 HSTOP.out h1)
        obtain ⟨g3, cap3, hv3, hb3, _⟩ := HNX.out.fk.own.form (show 0 < l.length by omega)
        injection hv3 with hv3 _ hv4
        subst hv3
        subst hv4
        have hc0 := HNX.out.fk.own.cells (g := g3) rfl 0 (IV (l.getD 0 0)) (by
          rw [List.getD_eq_getElem?_getD, List.getElem?_eq_getElem (show 0 < l.length by omega)]; simp [List.getElem?_eq_getElem (show 0 < l.length by omega)])
        rw [add_off, Nat.zero_add] at hc0
        have HRES := Lib.hid (show NPost w K o p S rs 1 q ms (rowL [] 0 (rs.drop q.at_)) (.returned (.int .i64 ((l.getD 0 0 : Nat) : Int))) WZ from ⟨_, K', q', ms', v', rfl, HNX.out.rp, HNX.out.mo, HE.out⟩)
        clear HE
        rw [h1] at HNX ⊢
        clear h1 h0
        unfold IV at hc0
        go_wp2
        go_ret
        exact HRES.out
      · have HE := Lib.hid (fun ms2 h2 => HS.out.end2 (ms2 := ms2) HSTOP.out (by omega) h2)
        obtain ⟨K5, hr5, hm5, _, hsd5⟩ := HNX.out.give
        have HN := node_any hr5 (okn_of 3 hsd5) (show ms'.length < 100000 by omega)
        unfold aggN slV at HN
        simp only at HN
        rw [show (((3 : Nat)) : Int) = 3 from rfl] at HN
        have j0 : ((l.length : Int) == 0) = false := by simp only [beq_eq_false_iff_ne, ne_eq]; omega
        have j1 : ((l.length : Int) == 1) = false := by simp only [beq_eq_false_iff_ne, ne_eq]; omega
        have HM5 := Lib.hid hm5
        clear hm5 hr5 hsd5 HNX
        go_wp2_with fail
        refine HN.mono ?_
        rintro _ w9 ⟨rfl, v9, K9, hr9, hm9⟩
        have HRES := Lib.hid (show NPost w K o p S rs 1 q ms (rowL [] 0 (rs.drop q.at_)) (.returned (.int .i64 (ms'.length : Int))) w9 from ⟨ms'.length, K9, q', _, v9, rfl, hr9, HM5.out.trans hm9, HE.out _ (by rw [nds_snoc])⟩)
        clear hr9 hm9 HN HE HM5
        go_wp2
        go_ret
        exact HRES.out
    have d2 : (z != 124) = true := by simpa using hz2'
    by_cases hz3' : z = 41
    · have d3 : (z != 41) = false := by simp [hz3']
      have HSTOP := Lib.hid (HZS.out (.inr (.inr hz3')))
      clear hz HZS hz1' hz2' hz3'
      go_wp2_with fail
      refine (HPK _ (Below.refl _ _)).mono ?_
      rintro _ WY ⟨rfl, hb1⟩
      go_wp2_with fail
      refine (HPK _ hb1).mono ?_
      rintro _ WX ⟨rfl, hb2⟩
      have hb3 := hb1.trans (hb2.mono hb1.size)
      go_wp2_with fail
      refine (HPK _ hb3).mono ?_
      rintro _ WZ ⟨rfl, hb⟩
      have HBZ := Lib.hid (hb3.trans (hb.mono hb3.size))
      clear hb1 hb2 hb3
      have HNX : Hid (Fr w WZ K K' o p S rs q' ms' v' (.slice A3 l.length c3) l) := Lib.hid (HF.out.below HBZ.out)
      clear HF HPK hb
      by_cases h0 : l.length = 0
      · have HE := Lib.hid (fun ms2 h2 => HS.out.end0 (ms2 := ms2) HSTOP.out h0 h2)
        have HN := node_any (m := ⟨⟨1, [], 0, 0, []⟩, (none, 0, 0), (none, 0, 0)⟩) HNX.out.rp ⟨Sd.nil_ _ _ _, Sd.nil_ _ _ _⟩ (by omega)
        unfold aggN slV at HN
        simp only at HN
        rw [show (((1 : Nat)) : Int) = 1 from rfl] at HN
        rw [h0] at HNX ⊢
        clear h0
        go_wp2_with fail
        refine HN.mono ?_
        rintro _ w9 ⟨rfl, v9, K9, hr9, hm9⟩
        have HRES := Lib.hid (show NPost w K o p S rs 1 q ms (rowL [] 0 (rs.drop q.at_)) (.returned (.int .i64 (ms'.length : Int))) w9 from ⟨ms'.length, K9, q', _, v9, rfl, hr9, HNX.out.mo.trans hm9, HE.out _ (by rw [nds_snoc])⟩)
        clear hr9 hm9 HN HE
        go_wp2
        go_ret
        exact HRES.out
      by_cases h1 : l.length = 1
      · have HE := Lib.hid (HS.out.end1 HSTOP.out h1)
        obtain ⟨g3, cap3, hv3, hb3, _⟩ := HNX.out.fk.own.form (show 0 < l.length by omega)
        injection hv3 with hv3 _ hv4
        subst hv3
        subst hv4
        have hc0 := HNX.out.fk.own.cells (g := g3) rfl 0 (IV (l.getD 0 0)) (by
          rw [List.getD_eq_getElem?_getD, List.getElem?_eq_getElem (show 0 < l.length by omega)]; simp [List.getElem?_eq_getElem (show 0 < l.length by omega)])
        rw [add_off, Nat.zero_add] at hc0
        have HRES := Lib.hid (show NPost w K o p S rs 1 q ms (rowL [] 0 (rs.drop q.at_)) (.returned (.int .i64 ((l.getD 0 0 : Nat) : Int))) WZ from ⟨_, K', q', ms', v', rfl, HNX.out.rp, HNX.out.mo, HE.out⟩)
        clear HE
        rw [h1] at HNX ⊢
        clear h1 h0
        unfold IV at hc0
        go_wp2
        go_ret
        exact HRES.out
      · have HE := Lib.hid (fun ms2 h2 => HS.out.end2 (ms2 := ms2) HSTOP.out (by omega) h2)
        obtain ⟨K5, hr5, hm5, _, hsd5⟩ := HNX.out.give
        have HN := node_any hr5 (okn_of 3 hsd5) (show ms'.length < 100000 by omega)
        unfold aggN slV at HN
        simp only at HN
        rw [show (((3 : Nat)) : Int) = 3 from rfl] at HN
        have j0 : ((l.length : Int) == 0) = false := by simp only [beq_eq_false_iff_ne, ne_eq]; omega
        have j1 : ((l.length : Int) == 1) = false := by simp only [beq_eq_false_iff_ne, ne_eq]; omega
        have HM5 := Lib.hid hm5
        clear hm5 hr5 hsd5 HNX
        go_wp2_with fail
        refine HN.mono ?_
        rintro _ w9 ⟨rfl, v9, K9, hr9, hm9⟩
        have HRES := Lib.hid (show NPost w K o p S rs 1 q ms (rowL [] 0 (rs.drop q.at_)) (.returned (.int .i64 (ms'.length : Int))) w9 from ⟨ms'.length, K9, q', _, v9, rfl, hr9, HM5.out.trans hm9, HE.out _ (by rw [nds_snoc])⟩)
        clear hr9 hm9 HN HE HM5
        go_wp2
        go_ret
        exact HRES.out
    have d3 : (z != 41) = true := by simpa using hz3'
    have hgood : q'.bad = false := by
      cases hb : q'.bad with
      | false => rfl
      | true => rw [pkz_bad hb] at hz; omega
    have hG : ∃ ps k, RowG rs q ms q' ms' l ps k := by
      rcases HS.out with h | h
      · exact h
      · rw [h.bad] at hgood; cases hgood
    obtain ⟨ps, k, hG⟩ := hG
    have hlt : q'.at_ < rs.length := by
      by_cases hlt : q'.at_ < rs.length
      · exact hlt
      · rw [pkz_nil (List.drop_eq_nil_iff.2 (by omega))] at hz; omega
    have hns : ¬ RxRowP.stop (rs.drop q'.at_) := by
      cases hd0 : rs.drop q'.at_ with
      | nil => rw [List.drop_eq_nil_iff] at hd0; omega
      | cons r t =>
        obtain ⟨e, _, _⟩ := pkz_cons hgood hd0
        rw [hz] at e
        rintro (h | h | h)
        · cases h
        · rw [hd_cons] at h; simp at h; omega
        · rw [hd_cons] at h; simp at h; omega
    have hon := hG.on
    have HG := Lib.hid hG
    have HNS := Lib.hid hns
    clear hz HZS hz1' hz2' hz3' hgood hG hns
    go_wp2_with fail
    refine (HPK _ (Below.refl _ _)).mono ?_
    rintro _ WY ⟨rfl, hb1⟩
    go_wp2_with fail
    refine (HPK _ hb1).mono ?_
    rintro _ WX ⟨rfl, hb2⟩
    have hb3 := hb1.trans (hb2.mono hb1.size)
    go_wp2_with fail
    refine (HPK _ hb3).mono ?_
    rintro _ WZ ⟨rfl, hb⟩
    have HF2 := Lib.hid (HF.out.below (hb3.trans (hb.mono hb3.size)))
    clear hb1 hb2 hb3 hb HF HPK
    have HIC := HI WZ K' o p q' ms' v' HF2.out.rp HG.out.pre (by omega) hlt
    go_wp2_with fail
    refine HIC.mono ?_
    rintro _ w5 ⟨x, K5, q5, ms5, v5, rfl, hr5, hm5, hn5⟩
    have HF5 := Lib.hid (HF2.out.call hr5 hm5)
    have HS5 := Lib.hid (HG.out.next HNS.out hn5)
    clear hr5 hm5 hn5 HF2 HIC HG HNS
    have HOA : Hid ((w5.alloc (.cells #[.int .i64 (x : Int)] 3)).ownsRow w.heap.size 3 1 (.slice A3 l.length c3) l.length (l.map IV)) := Lib.hid (HF5.out.fk.own.alloc _)
    have hsz5 := HF5.out.mo.size
    go_wp2_with (at_builtin; refine wpList_append_own_at _ rfl (.tmp 17) (.tmp 20) 30 rfl w.heap.size 3 i0 (.int .i64 0) 1 8 Try.underlying30 hi hz0 hz1 hz2 rfl (by decide) _ _ _ rfl HOA.out ⟨w5.heap.size, 0, none⟩ 1 1 ([x].map IV) rfl (by simp) (cellNewI _ _ _) (iv_ones _) ?c3 ?c4 ?c5 ?_)
    case c3 => unfold maxLen; omega
    case c4 => omega
    case c5 => simp; omega
    intro v6 w6 hown6 hg6 _ hat6
    have HF6 := Lib.hid (HF5.out.push (x := x) hown6 hg6 (by simpa using hat6))
    have HS6 := HS5
    obtain ⟨A6, c6, hv6⟩ := own_sl hown6
    subst hv6
    have hm : 1002 - lenOf (.slice A6 (l.length + 1) c6) < 1002 - lenOf (.slice A3 l.length c3) := by simp [lenOf]; omega
    clear hown6 hg6 hat6 HOA HF5
    go_wp2
    exact ⟨⟨_, q5, ms5, v5, l ++ [x], HF6, HS6⟩, hm⟩
end Go.Proofs.Ytdmbgjpidlllcaa.RxRow

namespace Go.Proofs.Ytdmbgjpidlllcaa.RxAltP
open RxSpec RxEq RxMem RxPost RxRowP

def after (ps : List Pat) (k : Nat) (a : Res) : Res := match a with
  | none => none
  | some (p, k', r1) => altL (ps ++ [p]) (max k k') r1
/-- A row is next. -/
structure AltA (rs : List Nat) (q : PSt) (ms : List NM) (q' : PSt) (ms' : List NM) (l : List Nat) (ps : List Pat) (k : Nat) : Prop where
  pre : Pre rs q' ms'
  deep : q'.deep = q.deep
  same : altS (rs.drop q.at_) = after ps k (rowL [] 0 (rs.drop q'.at_))
  kids : l = roots ps ms.length
  nodes : nds ms' = nds ms ++ emits ps ms.length
  most : q'.most = max q.most (q.deep + k)
  few : ms'.length + 4 * (rs.length - q'.at_) ≤ ms.length + 4 * (rs.length - q.at_)
  on : q.at_ + ps.length ≤ q'.at_
/-- The rows are done. -/
structure AltB (rs : List Nat) (q : PSt) (ms : List NM) (q' : PSt) (ms' : List NM) (l : List Nat) (ps : List Pat) (k : Nat) : Prop where
  good : q'.bad = false
  here : q'.at_ ≤ rs.length
  deep : q'.deep = q.deep
  same : altS (rs.drop q.at_) = some (mkAlt ps, k, rs.drop q'.at_)
  kids : l = roots ps ms.length
  nodes : nds ms' = nds ms ++ emits ps ms.length
  most : q'.most = max q.most (q.deep + k)
  few : ms'.length + 4 * (rs.length - q'.at_) ≤ ms.length + 4 * (rs.length - q.at_) + 1
  on : l.length ≤ 1001
  some_ : 1 ≤ ps.length
structure AltC (rs : List Nat) (q : PSt) (ms : List NM) (q' : PSt) (ms' : List NM) (l : List Nat) : Prop where
  bad : q'.bad = true
  none_ : altS (rs.drop q.at_) = none
  here : q'.at_ ≤ rs.length + 3
  deep : q'.deep = q.deep
  few : ms'.length ≤ ms.length + 4 * (rs.length - q.at_) + 1
  kids : l.length ≤ 1001
def AltE (rs : List Nat) (q : PSt) (ms : List NM) (q' : PSt) (ms' : List NM) (l : List Nat) : Prop := (∃ ps k, AltB rs q ms q' ms' l ps k) ∨ AltC rs q ms q' ms' l
/-- With 'more', and without. -/
def AltSt (rs : List Nat) (q : PSt) (ms : List NM) (q' : PSt) (ms' : List NM) (l : List Nat) (more : Bool) : Prop := (more = true ∧ ∃ ps k, AltA rs q ms q' ms' l ps k) ∨ (more = false ∧ AltE rs q ms q' ms' l)
section
variable {rs : List Nat} {q q' q2 : PSt} {ms ms' ms2 : List NM} {l : List Nat} {ps : List Pat} {k x : Nat}
theorem AltA.start (h : Pre rs q ms) : AltA rs q ms q ms [] [] 0 :=
  ⟨h, rfl, by rw [altS_eq]; cases rowL [] 0 (rs.drop q.at_) with
    | none => rfl
    | some x => obtain ⟨p, k, r1⟩ := x; simp [after], by simp [roots], by simp [emits], by have := h.top; omega, Nat.le_refl _, Nat.le_refl _⟩
theorem AltA.len (h : AltA rs q ms q' ms' l ps k) : l.length = ps.length ∧ l.length ≤ 1000 := by
  have h1 : l.length = ps.length := by rw [h.kids, roots_len]
  have h2 := h.on
  have h3 := h.pre.here
  have h4 := h.pre.len
  exact ⟨h1, by omega⟩
theorem AltE.len (h : AltE rs q ms q' ms' l) : l.length ≤ 1001 := by
  rcases h with ⟨ps, k, h⟩ | h
  · exact h.on
  · exact h.kids
theorem AltE.fewN (h : AltE rs q ms q' ms' l) (hp : Pre rs q ms) : ms'.length ≤ 5001 := by
  have h0 := hp.few
  rcases h with ⟨ps, k, h⟩ | h
  · have h1 := h.few; omega
  · have h1 := h.few; omega
/-- Behind a row that was found, and no | behind it. -/
theorem AltA.last (h : AltA rs q ms q' ms' l ps k) (hn : NOk rs 1 q' ms' (rowL [] 0 (rs.drop q'.at_)) x q2 ms2) (hbar : q2.bad = false → hd (rs.drop q2.at_) 124 = false) : AltE rs q ms q2 ms2 (l ++ [x]) := by
  have hsame := h.same
  have h1 := h.few
  have h4 := h.len
  have h2 := h.on
  have h3 := h.pre.here
  cases hi : rowL [] 0 (rs.drop q'.at_) with
  | none =>
    rw [hi] at hsame hn
    have h5 := hn.few
    exact .inr ⟨hn.no rfl, hsame, hn.here, hn.deep.trans h.deep, by omega, by rw [List.length_append]; simp; omega⟩
  | some y =>
    obtain ⟨p, k', r1⟩ := y
    rw [hi] at hsame hn
    obtain ⟨y1, y2, y3, y4, y5, y6, y7⟩ := hn.yes p k' r1 rfl
    have hml := nodes_len h.nodes
    have hml2 := nodes_len y2
    refine .inl ⟨ps ++ [p], max k k', ⟨y3, y4, hn.deep.trans h.deep, ?_, ?_, ?_, ?_, by omega, by rw [List.length_append]; simp; omega, by simp⟩⟩
    · rw [hsame]
      unfold after
      simp only
      rw [altL_eq, ← y5, if_neg (by rw [hbar y3]; simp)]
    · rw [roots_snoc, ← h.kids, ← hml]
      congr 2
      omega
    · rw [y2, h.nodes, emits_snoc, hml, List.append_assoc]
    · rw [y6, h.most, h.deep]; omega
/-- Behind a row that was found, and a | behind it, which is passed. -/
theorem AltA.next (h : AltA rs q ms q' ms' l ps k) (hn : NOk rs 1 q' ms' (rowL [] 0 (rs.drop q'.at_)) x q2 ms2) (hg : q2.bad = false) (hbar : hd (rs.drop q2.at_) 124 = true) : ∃ ps k, AltA rs q ms { q2 with at_ := q2.at_ + 1 } ms2 (l ++ [x]) ps k := by
  have hsame := h.same
  have h1 := h.few
  have h4 := h.len
  have h2 := h.on
  have h3 := h.pre.here
  cases hi : rowL [] 0 (rs.drop q'.at_) with
  | none => rw [hi] at hn; rw [hn.no rfl] at hg; cases hg
  | some y =>
    obtain ⟨p, k', r1⟩ := y
    rw [hi] at hsame hn
    obtain ⟨y1, y2, y3, y4, y5, y6, y7⟩ := hn.yes p k' r1 rfl
    have hml := nodes_len h.nodes
    have hml2 := nodes_len y2
    have ht := hd_tail hbar
    rw [List.length_tail, List.length_drop] at ht
    have hsh := row_short hi
    rw [← y5, List.length_drop, List.length_drop] at hsh
    have hdp := h.pre.deep
    have hd2 := hn.deep
    have hd1 := h.deep
    refine ⟨ps ++ [p], max k k', ⟨⟨y3, by simp only; omega, h.pre.len, by simp only; omega, by have := h.pre.few; simp only; omega, h.pre.runes, ?_⟩, hd2.trans hd1, ?_, ?_, ?_, ?_, by simp only; omega, by rw [List.length_append]; simp; omega⟩⟩
    · have := h.pre.top; simp only; rw [y6, hd2]; omega
    · rw [hsame]
      unfold after
      simp only
      rw [altL_eq, ← y5, if_pos hbar, List.tail_drop]
      rfl
    · rw [roots_snoc, ← h.kids, ← hml]
      congr 2
      omega
    · rw [y2, h.nodes, emits_snoc, hml, List.append_assoc]
    · simp only; rw [y6, h.most, hd1]; omega
theorem AltE.end1 (h : AltE rs q ms q' ms' l) (hl : l.length = 1) : NOk rs 2 q ms (altS (rs.drop q.at_)) (l.getD 0 0) q' ms' := by
  rcases h with ⟨ps, k, h⟩ | h
  · have hp1 : ps.length = 1 := by rw [h.kids, roots_len] at hl; exact hl
    match ps, hp1 with
    | [p], _ =>
      have hn := h.nodes
      simp only [emits, List.append_nil] at hn
      have hm := nodes_len hn
      have hpos := emit_pos p ms.length
      have h1 := h.few
      have h3 := h.here
      refine ⟨by omega, h.deep, by omega, fun p' k' r1 he => ?_, fun he => ?_⟩
      · rw [h.same] at he
        injection he with he
        injection he with e1 e2
        injection e2 with e2 e3
        subst e1 e2 e3
        exact ⟨by rw [h.kids]; simp only [roots, List.getD_cons_zero]; omega, by rw [hn]; simp [mkAlt], h.good, h3, rfl, h.most, by omega⟩
      · rw [h.same] at he; cases he
  · have h1 := h.few
    exact ⟨h.here, h.deep, by omega, (fun p' k' r1 he => by rw [h.none_] at he; cases he), fun _ => h.bad⟩
theorem AltE.end2 (h : AltE rs q ms q' ms' l) (hl : l.length ≠ 1) (h2 : nds ms2 = nds ms' ++ [⟨4, l, 0, 0, []⟩]) : NOk rs 2 q ms (altS (rs.drop q.at_)) ms'.length q' ms2 := by
  have hm := nodes_len h2
  simp at hm
  rcases h with ⟨ps, k, h⟩ | h
  · have hll : l.length = ps.length := by rw [h.kids, roots_len]
    have h1 := h.few
    have h3 := h.here
    have h4 := h.some_
    refine ⟨by omega, h.deep, by omega, fun p' k' r1 he => ?_, fun he => ?_⟩
    · rw [h.same] at he
      injection he with he
      injection he with e1 e2
      injection e2 with e2 e3
      subst e1 e2 e3
      refine ⟨by omega, ?_, h.good, h3, rfl, h.most, by omega⟩
      match ps, hll with
      | [], hll => simp at h4
      | [_], hll => exact absurd hll hl
      | a :: b :: ps, _ => rw [h2, h.nodes, h.kids]; simp only [mkAlt, emit, List.append_assoc]
    · rw [h.same] at he; cases he
  · have h1 := h.few
    exact ⟨h.here, h.deep, by omega, (fun p' k' r1 he => by rw [h.none_] at he; cases he), fun _ => h.bad⟩
end
end Go.Proofs.Ytdmbgjpidlllcaa.RxAltP

namespace Go.Proofs.Ytdmbgjpidlllcaa.RxAlt
open Go Go.RowKit Words AppN Km Mo_ RxSpec RxEq RxMem RxPeek RxIn RxEsc RxCln RxHas RxClean RxNode RxPost RxRowP RxRow RxAltP

def AltC' (S : Sl) (rs : List Nat) (N : Nat) : Prop := ∀ (w : World) (K : Nat → Nat) (o p : Nat) (q : PSt) (ms : List NM) (v : Value), RP w K o p S rs q ms v → Pre rs q ms → rs.length - q.at_ ≤ N →
  Calls Try.prog 21 #[.pointer (some ⟨p, 0, none⟩)] w (NPost w K o p S rs 2 q ms (altS (rs.drop q.at_)))
def ARel (W : World) (K : Nat → Nat) (o p : Nat) (S : Sl) (rs : List Nat) (q : PSt) (ms : List NM) (v3 v4 : Value) (wr : World) : Prop :=
  ∃ (K' : Nat → Nat) (q' : PSt) (ms' : List NM) (v' : Value) (l : List Nat) (more : Bool), v4 = .bool more ∧ Hid (Fr W wr K K' o p S rs q' ms' v' v3 l) ∧ Hid (AltSt rs q ms q' ms' l more)
set_option maxHeartbeats 12800000 in
set_option maxRecDepth 100000 in
theorem alt_of {S : Sl} {rs : List Nat} {N : Nat} (HI : RowC S rs N) : AltC' S rs N := by
  intro w K o p q ms v hr hp hN
  obtain ⟨i0, hi, hz0, hz1, hz2⟩ := info_int
  have HP := Lib.hid hp
  have HR := Lib.hid hr
  clear hr hp
  go_enter Try.func21, Try.ntmps21
  go_wp2
  go_loopw [3, 4] (fun v3 v4 wr => ARel w K o p S rs q ms v3 v4 wr) (fun v _ _ => 1003 - lenOf v)
  case atStart => exact ⟨K, q, ms, v, [], true, rfl, Lib.hid (Fr.start HR.out), Lib.hid (.inl ⟨rfl, [], 0, AltA.start HP.out⟩)⟩
  case round =>
    obtain ⟨K', q', ms', v', l, more, rfl, HF, HS⟩ := hrel
    obtain ⟨A3, c3, rfl⟩ := own_sl HF.out.fk.own
    have hlen := HP.out.len
    rcases HS.out with ⟨rfl, ps, k, hA⟩ | ⟨rfl, hE⟩
    · have hpre := hA.pre
      have hon := hA.on
      have hfew := hpre.few
      have hhere := hpre.here
      have hkl := hA.len.2
      obtain ⟨c0, c1, c2, c3', c4, c5⟩ := HF.out.rp.cells
      rw [hpre.good] at c5
      have HA := Lib.hid hA
      clear HS hA
      have HRC := fun wz (h : RP wz K' o p S rs q' ms' v') => HI wz K' o p q' ms' v' h hpre (by omega)
      have HRC := HRC _ HF.out.rp
      go_wp2_with fail
      refine HRC.mono ?_
      rintro _ w5 ⟨x, K5, q5, ms5, v5, rfl, hr5, hm5, hn5⟩
      have HF5 := Lib.hid (HF.out.call hr5 hm5)
      have HN5 := Lib.hid hn5
      have hat5 := hn5.here
      clear hr5 hm5 hn5 HF HRC c0 c1 c2 c3' c4 c5
      have HOA : Hid ((w5.alloc (.cells #[.int .i64 (x : Int)] 3)).ownsRow w.heap.size 3 1 (.slice A3 l.length c3) l.length (l.map IV)) := Lib.hid (HF5.out.fk.own.alloc _)
      have hsz5 := HF5.out.mo.size
      go_wp2_with (at_builtin; refine wpList_append_own_at _ rfl (.tmp 15) (.tmp 18) 30 rfl w.heap.size 3 i0 (.int .i64 0) 1 8 Try.underlying30 hi hz0 hz1 hz2 rfl (by decide) _ _ _ rfl HOA.out ⟨w5.heap.size, 0, none⟩ 1 1 ([x].map IV) rfl (by simp) (cellNewI _ _ _) (iv_ones _) ?c3 ?c4 ?c5 ?_)
      case c3 => unfold maxLen; omega
      case c4 => omega
      case c5 => simp; omega
      intro v6 w6 hown6 hg6 _ hat6
      have HF6 := Lib.hid (HF5.out.push (x := x) hown6 hg6 (by simpa using hat6))
      obtain ⟨A6, c6, hv6⟩ := own_sl hown6
      subst hv6
      clear hown6 hg6 hat6 HOA HF5
      by_cases hbar : pkz rs q5 = 124
      · have hg5 : q5.bad = false := by
          cases hb : q5.bad with
          | false => rfl
          | true => rw [pkz_bad hb] at hbar; omega
        have hhd : hd (rs.drop q5.at_) 124 = true := by
          cases hd0 : rs.drop q5.at_ with
          | nil => rw [pkz_nil hd0] at hbar; omega
          | cons r t =>
            obtain ⟨e, _, _⟩ := pkz_cons hg5 hd0
            rw [hbar] at e
            rw [hd_cons]; simp; omega
        have HS7 := Lib.hid (HA.out.next HN5.out hg5 hhd)
        have HIS := is_yes HF6.out.rp (by omega) 124 hbar
        clear HN5 HA hbar hg5 hhd
        go_wp2_with fail
        refine HIS.mono ?_
        rintro _ w7 ⟨rfl, hr7, hm7⟩
        have HF7 := Lib.hid (HF6.out.call hr7 hm7)
        clear hr7 hm7 HF6 HIS
        go_wp2
        exact ⟨⟨_, _, ms5, v5, l ++ [x], true, rfl, HF7, Lib.hid (.inl ⟨rfl, HS7.out⟩)⟩, by simp [lenOf]; omega⟩
      · have HS7 := Lib.hid (HA.out.last HN5.out (fun hg5 => by
          cases hd0 : rs.drop q5.at_ with
          | nil => rfl
          | cons r t =>
            obtain ⟨e, _, _⟩ := pkz_cons hg5 hd0
            rw [e] at hbar
            rw [hd_cons]; simp; omega))
        have HIS := is_no HF6.out.rp (by omega) 124 hbar
        clear HN5 HA hbar
        go_wp2_with fail
        refine HIS.mono ?_
        rintro _ w7 ⟨rfl, hb7⟩
        have HF7 := Lib.hid (HF6.out.below hb7)
        clear hb7 HF6 HIS
        go_wp2
        exact ⟨⟨_, _, ms5, v5, l ++ [x], false, rfl, HF7, Lib.hid (.inr ⟨rfl, HS7.out⟩)⟩, by simp [lenOf]; omega⟩
    · have hkl := hE.len
      have hfew := hE.fewN HP.out
      have HE' := Lib.hid hE
      clear hE HS
      by_cases h1 : l.length = 1
      · have HE := Lib.hid (HE'.out.end1 h1)
        obtain ⟨g3, cap3, hv3, hb3, _⟩ := HF.out.fk.own.form (show 0 < l.length by omega)
        injection hv3 with hv3 _ hv4
        subst hv3
        subst hv4
        have hc0 := HF.out.fk.own.cells (g := g3) rfl 0 (IV (l.getD 0 0)) (by
          rw [List.getD_eq_getElem?_getD, List.getElem?_eq_getElem (show 0 < l.length by omega)]; simp [List.getElem?_eq_getElem (show 0 < l.length by omega)])
        rw [add_off, Nat.zero_add] at hc0
        have HRES := Lib.hid (show NPost w K o p S rs 2 q ms (altS (rs.drop q.at_)) (.returned (.int .i64 ((l.getD 0 0 : Nat) : Int))) wr from ⟨_, K', q', ms', v', rfl, HF.out.rp, HF.out.mo, HE.out⟩)
        clear HE HE'
        rw [h1] at HF ⊢
        clear h1
        unfold IV at hc0
        go_wp2
        go_ret
        exact HRES.out
      · have HE := Lib.hid (fun ms2 h2 => HE'.out.end2 (ms2 := ms2) h1 h2)
        obtain ⟨K5, hr5, hm5, _, hsd5⟩ := HF.out.give
        have HN := node_any hr5 (okn_of 4 hsd5) (show ms'.length < 100000 by omega)
        unfold aggN slV at HN
        simp only at HN
        rw [show (((4 : Nat)) : Int) = 4 from rfl] at HN
        have j1 : ((l.length : Int) == 1) = false := by simp only [beq_eq_false_iff_ne, ne_eq]; omega
        have HM5 := Lib.hid hm5
        clear hm5 hr5 hsd5 HF HE'
        go_wp2_with fail
        refine HN.mono ?_
        rintro _ w9 ⟨rfl, v9, K9, hr9, hm9⟩
        have HRES := Lib.hid (show NPost w K o p S rs 2 q ms (altS (rs.drop q.at_)) (.returned (.int .i64 (ms'.length : Int))) w9 from ⟨ms'.length, K9, q', _, v9, rfl, hr9, HM5.out.trans hm9, HE.out _ (by rw [nds_snoc])⟩)
        clear hr9 hm9 HN HE HM5
        go_wp2
        go_ret
        exact HRES.out
end Go.Proofs.Ytdmbgjpidlllcaa.RxAlt

namespace Go.Proofs.Ytdmbgjpidlllcaa.RxItemP
open Go Go.RowKit Words AppN Km Mo_ RxSpec RxEq RxMem RxPeek RxIn RxEsc RxMbr RxClean RxNode RxPost RxRowP RxRow RxAlt

theorem itemS_of {rest : List Nat} {p : Pat} {k : Nat} {r1 : List Nat} (h : atomS rest = some (p, k, r1)) : itemS rest = (repS p r1).map fun x => (x.1, k, x.2) := by
  rw [itemS, h]
section
variable {rs : List Nat} {q q1 q2 : PSt} {ms ms1 ms2 : List NM} {x : Nat} {p : Pat} {k : Nat} {r1 r2 : List Nat}
theorem item_none (hA : NOk rs 0 q ms (atomS (rs.drop q.at_)) x q1 ms1) (hb : q1.bad = true) : NOk rs 0 q ms (itemS (rs.drop q.at_)) x q1 ms1 := by
  have hn : atomS (rs.drop q.at_) = none := by
    cases ha : atomS (rs.drop q.at_) with
    | none => rfl
    | some y => obtain ⟨p, k, r1⟩ := y; rw [(hA.yes p k r1 ha).2.2.1] at hb; cases hb
  have hi : itemS (rs.drop q.at_) = none := by rw [itemS, hn]
  exact ⟨hA.here, hA.deep, hA.few, (fun p k r1 he => by rw [hi] at he; cases he), fun _ => hb⟩
theorem item_plain (hA : NOk rs 0 q ms (atomS (rs.drop q.at_)) x q1 ms1) (ha : atomS (rs.drop q.at_) = some (p, k, r1)) (hr : repS p r1 = some (p, r1)) : NOk rs 0 q ms (itemS (rs.drop q.at_)) x q1 ms1 := by
  have hi : itemS (rs.drop q.at_) = some (p, k, r1) := by rw [itemS_of ha, hr]; rfl
  rw [hi, ← ha]
  exact hA
theorem item_rep (hA : NOk rs 0 q ms (atomS (rs.drop q.at_)) x q1 ms1) (ha : atomS (rs.drop q.at_) = some (p, k, r1)) {lo : Nat} {hi : Int} (hr : repS p r1 = some (.rep p lo hi, r2)) (hb : q2.bad = false) (hd : q2.deep = q1.deep) (hm : q2.most = q1.most) (hh : q2.at_ ≤ rs.length) (h2 : rs.drop q2.at_ = r2) (hlt : q1.at_ < q2.at_) (hn : nds ms2 = nds ms1 ++ [⟨5, [x], lo, hi, []⟩]) : NOk rs 0 q ms (itemS (rs.drop q.at_)) ms1.length q2 ms2 := by
  have hi' : itemS (rs.drop q.at_) = some (.rep p lo hi, k, r2) := by rw [itemS_of ha, hr]; rfl
  obtain ⟨y1, y2, y3, y4, y5, y6, y7⟩ := hA.yes p k r1 ha
  have hl := nodes_len hn
  simp only [List.length_cons, List.length_nil] at hl
  have hl1 := nodes_len y2
  have hfew := hA.few
  refine ⟨by omega, hd.trans hA.deep, by omega, fun p' k' r' he => ?_, fun he => by rw [hi'] at he; cases he⟩
  rw [hi'] at he
  injection he with he
  injection he with e1 e2
  injection e2 with e2 e3
  subst e1 e2 e3
  refine ⟨by omega, ?_, hb, hh, h2, by rw [hm, y6], by omega⟩
  rw [hn, y2, emit, List.append_assoc, show x = ms.length + (emit p ms.length).length - 1 by omega]
theorem item_bad (hA : NOk rs 0 q ms (atomS (rs.drop q.at_)) x q1 ms1) (ha : atomS (rs.drop q.at_) = some (p, k, r1)) (hr : repS p r1 = none) (hb : q2.bad = true) (hd : q2.deep = q1.deep) (hh : q2.at_ ≤ rs.length + 3) (hne : r1 ≠ []) (hn : ms2.length = ms1.length + 1) : NOk rs 0 q ms (itemS (rs.drop q.at_)) ms1.length q2 ms2 := by
  have hi' : itemS (rs.drop q.at_) = none := by rw [itemS_of ha, hr]; rfl
  obtain ⟨y1, y2, y3, y4, y5, y6, y7⟩ := hA.yes p k r1 ha
  have hpos : 0 < r1.length := List.length_pos_iff.2 hne
  rw [← y5, List.length_drop] at hpos
  exact ⟨hh, hd.trans hA.deep, by omega, (fun p k r1 he => by rw [hi'] at he; cases he), fun _ => hb⟩
end
/-- An item's frame: the parser, the node in a box of its own, its kid. -/
structure It (w0 w : World) (K0 K : Nat → Nat) (o p : Nat) (S : Sl) (rs : List Nat) (q : PSt) (ms : List NM) (v : Value) (x nb kb : Nat) (lo hi : Int) : Prop where
  rp : RP w K o p S rs q ms v
  box : w.heap[nb]? = some (.cells #[.int .i64 5, .slice (some ⟨kb, 0, none⟩) 1 1, .int .i64 lo, .int .i64 hi, .slice none 0 0] 33 (0, 0))
  nk : K nb = o + 1
  new : w0.heap.size ≤ nb
  kids : Sd w K o (some ⟨kb, 0, none⟩, 1, 1) [IV x]
  mo : Mo K0 K (fun y => y = o) w0 w
section
variable {w0 w w' : World} {K0 K K' : Nat → Nat} {o p : Nat} {S : Sl} {rs : List Nat} {q q' : PSt} {ms ms' : List NM} {v v' : Value} {x nb kb : Nat} {lo hi : Int}
theorem It.call (h : It w0 w K0 K o p S rs q ms v x nb kb lo hi) (hr : RP w' K' o p S rs q' ms' v') (hm : Mo K K' (fun y => y = o) w w') : It w0 w' K0 K' o p S rs q' ms' v' x nb kb lo hi := by
  obtain ⟨a1, a2⟩ := hm.keep nb (Array.getElem?_eq_some_iff.1 h.box).1 (by rw [h.nk]; omega)
  exact ⟨hr, a1.trans h.box, a2.trans h.nk, h.new, h.kids.mo hm, h.mo.trans hm⟩
theorem It.below (h : It w0 w K0 K o p S rs q ms v x nb kb lo hi) (hb : Below w.heap.size w w') : It w0 w' K0 K o p S rs q ms v x nb kb lo hi := h.call (h.rp.below hb) (Mo.same hb)
theorem It.pokeMo (h : It w0 w K0 K o p S rs q ms v x nb kb lo hi) (j : Nat) (u : Value) : Mo K K (fun y => y = o + 1) w (w.setCell ⟨nb, j, none⟩ u) := Mo.poke (a := ⟨nb, j, none⟩) u h.nk
theorem It.poke (h : It w0 w K0 K o p S rs q ms v x nb kb lo hi) (j : Nat) (u : Value) (lo' hi' : Int) (he : (#[.int .i64 5, .slice (some ⟨kb, 0, none⟩) 1 1, .int .i64 lo, .int .i64 hi, .slice none 0 0] : Array Value).setIfInBounds j u = #[.int .i64 5, .slice (some ⟨kb, 0, none⟩) 1 1, .int .i64 lo', .int .i64 hi', .slice none 0 0]) :
    It w0 (w.setCell ⟨nb, j, none⟩ u) K0 K o p S rs q ms v x nb kb lo' hi' := by
  have hm := h.pokeMo j u
  refine ⟨h.rp.moT hm fun _ h => h, ?_, h.nk, h.new, h.kids.moT hm (fun _ h => .inr h), ⟨h.mo.os, h.mo.tape, h.mo.output, by simpa using h.mo.size, fun i hi hk => ?_⟩⟩
  · rw [← he]; exact heap_setCell_same _ _ _ _ _ _ h.box
  · obtain ⟨a1, a2⟩ := h.mo.keep i hi hk
    exact ⟨(heap_setCell_other _ ⟨nb, j, none⟩ _ _ (by have := h.new; simp only; omega)).trans a1, a2⟩
theorem It.cells (h : It w0 w K0 K o p S rs q ms v x nb kb lo hi) : w.cell? ⟨nb, 0, none⟩ = some (.int .i64 5) ∧ w.cell? ⟨nb, 1, none⟩ = some (.slice (some ⟨kb, 0, none⟩) 1 1) ∧ w.cell? ⟨nb, 2, none⟩ = some (.int .i64 lo) ∧ w.cell? ⟨nb, 3, none⟩ = some (.int .i64 hi) ∧ w.cell? ⟨nb, 4, none⟩ = some (.slice none 0 0) :=
  ⟨RxMem.cell_of_row h.box rfl, RxMem.cell_of_row h.box rfl, RxMem.cell_of_row h.box rfl, RxMem.cell_of_row h.box rfl, RxMem.cell_of_row h.box rfl⟩
theorem It.frozen (h : It w0 w K0 K o p S rs q ms v x nb kb lo hi) (j : Nat) : w.frozen? ⟨nb, j, none⟩ = false := frozen_of_row _ _ _ _ _ h.box
/-- The frame begins behind the atom. -/
theorem It.start (h : RP w K o p S rs q ms v) (hm : Mo K0 K (fun y => y = o) w0 w) (x : Nat) (hi : Int) :
    It w0 ((w.alloc (.cells #[.int .i64 (x : Int)] 3)).alloc (.cells #[.int .i64 5, .slice (some ⟨w.heap.size, 0, none⟩) 1 1, .int .i64 0, .int .i64 hi, .slice none 0 0] 33)) K0 (fun b => if b < w.heap.size then K b else if b = w.heap.size + 1 then o + 1 else o + 2) o p S rs q ms v x (w.heap.size + 1) w.heap.size 0 hi := by
  have hb : Below w.heap.size w ((w.alloc (.cells #[.int .i64 (x : Int)] 3)).alloc (.cells #[.int .i64 5, .slice (some ⟨w.heap.size, 0, none⟩) 1 1, .int .i64 0, .int .i64 hi, .slice none 0 0] 33)) := ((Below.refl _ w).alloc (Nat.le_refl _) _).alloc (by simp) _
  have hmo : Mo K (fun b => if b < w.heap.size then K b else if b = w.heap.size + 1 then o + 1 else o + 2) (fun _ => False) w ((w.alloc (.cells #[.int .i64 (x : Int)] 3)).alloc (.cells #[.int .i64 5, .slice (some ⟨w.heap.size, 0, none⟩) 1 1, .int .i64 0, .int .i64 hi, .slice none 0 0] 33)) := ⟨hb.os, hb.tape, hb.output, hb.size, fun i hi _ => ⟨hb.block i hi, if_pos hi⟩⟩
  refine ⟨h.mo hmo, heap_alloc2_new _ _ _, by rw [if_neg (by omega), if_pos rfl], by have := hm.size; omega, ⟨rfl, Nat.le_refl _, show 1 ≤ maxLen by unfold maxLen; omega, fun _ => ⟨w.heap.size, 0, rfl, by simp; omega, fun j u hu => ?_⟩, fun b off e _ => ?_⟩, hm.trans (hmo.widen fun _ h => h.elim)⟩
  · obtain rfl : j = 0 := by by_cases hj : j = 0; exact hj; rw [List.getElem?_eq_none (by simp; omega)] at hu; simp at hu
    simp only [List.getElem?_cons_zero, Option.some.injEq] at hu
    subst hu
    exact RxMem.cell_of_row (heap_alloc2_old _ _ _) rfl
  · injection e with e
    injection e with e _
    subst e
    simp
theorem It.okn (h : It w0 w K0 K o p S rs q ms v x nb kb lo hi) : Okn w K o ⟨⟨5, [x], lo, hi, []⟩, (some ⟨kb, 0, none⟩, 1, 1), (none, 0, 0)⟩ := ⟨h.kids, Sd.nil_ _ _ _⟩
end
end Go.Proofs.Ytdmbgjpidlllcaa.RxItemP

