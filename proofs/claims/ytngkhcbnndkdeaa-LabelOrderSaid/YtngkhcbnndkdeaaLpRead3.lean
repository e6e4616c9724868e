/- The program's reading of a list's text: parse. Conditions: a text of at most 2^24 bytes; that the library's variable that its search reads holds some number. -/
import Derived.Test.YtngkhcbnndkdeaaLpRead2
import Derived.Test.YtngkhcbnndkdeaaLbCanon
import Derived.OneCell
namespace Go.Proofs.Ytngkhcbnndkdeaa.LpRead3
open Go Go.RowKit Words AppN UtSpec UtShelf UtRange Less LbSpec LbText LbMem LbRef LbCmp LbCanon UtOwn LpOrd LpBoth LpCan1 LpCopy LpText LpRead1 LpRead2 Ml

theorem cutp_any (s : List UInt8) (c : UInt8) (w : World) : Calls Try.prog 43 #[S8 s, .string ⟨#[c]⟩] w fun e w' => e = .returned (.tuple #[S8 (if s.head? = some c then s.tail else s), .bool (decide (s.head? = some c))]) ∧ w' = w := by
  have h := Try.strings_CutPrefix ⟨s.toArray⟩ ⟨#[c]⟩ w
  rw [show (⟨s.toArray⟩ : ByteArray).data.toList = s from rfl, show (⟨#[c]⟩ : ByteArray).data.toList = [c] from rfl, trim1, pre1] at h
  exact h
/-- What is read: a row of the call's own, and whether there is one. -/
def PsPost (r : Option (List Lab)) (w : World) (e : Ending) (w' : World) : Prop :=
  ∃ v, e = .returned (.tuple #[v, .bool r.isSome]) ∧ w'.ownsRow w.heap.size 37 2 v (r.getD []).length (flat (r.getD [])) ∧ Below w.heap.size w w'
def sz : Value → Nat
  | .string b => b.size
  | _ => 0
def PsRel (s : List UInt8) (w : World) (vr vl : Value) (wr : World) : Prop :=
  ∃ (t : List UInt8) (acc : List Lab), vr = S8 t ∧ wr.ownsRow w.heap.size 37 2 vl acc.length (flat acc) ∧ Below w.heap.size w wr ∧ acc.length + t.length ≤ s.length ∧ Hid (parse s = parseI t acc)
theorem ps_none {w w' : World} {r : Option (List Lab)} (hr : r = none) (hb : Below w.heap.size w w') : PsPost r w (.returned (.tuple #[.slice none 0 0, .bool false])) w' := by
  rw [hr]
  exact ⟨_, rfl, World.ownsRow_nil .., hb⟩

theorem box_facts {w1 wr : World} {vl : Value} {acc : List Lab} (hown : wr.ownsRow w1.heap.size 37 2 vl acc.length (flat acc)) (hb : Below w1.heap.size w1 wr) :
    ∀ w2, Below (wr.alloc (.cells #[.string ⟨#[]⟩, .string ⟨#[]⟩] 37)).heap.size (wr.alloc (.cells #[.string ⟨#[]⟩, .string ⟨#[]⟩] 37)) w2 →
      (w2.cell? ⟨wr.heap.size, 0, none⟩ = some (.string ⟨#[]⟩) ∧ w2.cell? ⟨wr.heap.size, 1, none⟩ = some (.string ⟨#[]⟩) ∧ w2.frozen? ⟨wr.heap.size, 0, none⟩ = false ∧ w2.frozen? ⟨wr.heap.size, 1, none⟩ = false) ∧
      Hid (∀ a b, Below w1.heap.size w1 ((w2.setCell ⟨wr.heap.size, 0, none⟩ a).setCell ⟨wr.heap.size, 1, none⟩ b) ∧ ((w2.setCell ⟨wr.heap.size, 0, none⟩ a).setCell ⟨wr.heap.size, 1, none⟩ b).ownsRow w1.heap.size 37 2 vl acc.length (flat acc)) := fun w2 hb2 => by
  have hbase := hb.size
  have hxb : Below w1.heap.size w1 (wr.alloc (.cells #[.string ⟨#[]⟩, .string ⟨#[]⟩] 37)) := hb.alloc hbase _
  have hz : wr.heap.size < (wr.alloc (.cells #[.string ⟨#[]⟩, .string ⟨#[]⟩] 37)).heap.size := by simp
  have hbox : w2.heap[wr.heap.size]? = some (.cells #[.string ⟨#[]⟩, .string ⟨#[]⟩] 37 (0, 0)) := (hb2.block wr.heap.size hz).trans (heap_alloc_new wr _)
  refine ⟨⟨cell_of hbox rfl, cell_of hbox rfl, frozen_of hbox, frozen_of hbox⟩, Lib.hid (fun a b => ⟨?_, ?_⟩)⟩
  · exact ((hxb.trans (hb2.mono hxb.size)).setCell hbase _).setCell hbase _
  · have h1 := (hown.alloc (.cells #[.string ⟨#[]⟩, .string ⟨#[]⟩] 37)).kept (only_of_below hb2 none) (by cases vl.ownBlock <;> simp)
    have hne : vl.ownBlock ≠ some wr.heap.size := fun e => by have := (hown.lt _ e).2; omega
    exact ownsRow_setCell_other (ownsRow_setCell_other h1 hne _) hne _

set_option maxHeartbeats 6400000 in
set_option maxRecDepth 100000 in
theorem parse_any (s : List UInt8) (w : World) (hM : ML w) (hs : s.length ≤ 16777216) : Calls Try.prog 31 #[S8 s] w (PsPost (parse s) w) := by
  obtain ⟨i1, gi, gz0, gz1, gz2⟩ := info_parts info_label
  obtain ⟨R, hR⟩ : ∃ R, parse s = R := ⟨_, rfl⟩
  rw [hR]
  have HP := Lib.hid hR
  have h0 := parse_eq s
  rw [hR] at h0
  have HC1 := fun w => Lib.hid (cutp_any s 123 w)
  clear hR
  by_cases c1 : s.head? = some 123
  · rw [if_pos c1] at h0
    simp only [if_pos c1, decide_eq_true c1] at HC1
    obtain ⟨t, ht⟩ : ∃ t, s.tail = t := ⟨_, rfl⟩
    rw [ht] at h0
    simp only [ht] at HC1
    have htl : t.length ≤ s.length := by rw [← ht, List.length_tail]; omega
    unfold S8 at *
    clear ht c1
    by_cases c2 : t = [125]
    · rw [if_pos c2] at h0
      have he : (t == [125]) = true := by simpa using c2
      subst h0
      clear c2 gi gz0 gz1 gz2
      go_enter Try.func31, Try.ntmps31
      go_wp2_with fail
      refine (HC1 _).out.mono ?_
      rintro e w1 ⟨rfl, rfl⟩
      go_wp2
      go_ret2
      exact ⟨_, rfl, World.ownsRow_nil .., Below.refl _ _⟩
    · rw [if_neg c2] at h0
      have he : (t == [125]) = false := by simpa using c2
      have HI : Hid (R = parseI t []) := Lib.hid h0
      have HPI : Hid (parse s = parseI t []) := Lib.hid (HP.out.trans h0)
      clear c2 h0
      go_enter Try.func31, Try.ntmps31
      go_wp2_with fail
      refine (HC1 _).out.mono ?_
      rintro e w1 ⟨rfl, rfl⟩
      clear HC1
      go_wp2
      go_loopw [4, 6] (fun vr vl wr => PsRel s w1 vr vl wr) (fun vr _ _ => sz vr)
      case atStart => exact ⟨t, [], rfl, World.ownsRow_nil .., Below.refl _ _, by simpa using htl, HPI⟩
      case round =>
        clear he htl HI HPI
        obtain ⟨t, acc, rfl, hown, hb, hlen, HU⟩ := hrel
        have HO := Lib.hid hown
        have HB := Lib.hid hb
        have hbase := hb.size
        have HXB : Hid (Below w1.heap.size w1 (wr.alloc (.cells #[.string ⟨#[]⟩, .string ⟨#[]⟩] 37))) := Lib.hid (hb.alloc hbase _)
        have HLB := Lib.hid (cutLabel_any t _ (hM.below HXB.out) (by omega))
        unfold S8 at HLB
        clear hown hb
        have HF := Lib.hid (box_facts HO.out HB.out)
        have HB2S : Hid (w1.heap.size ≤ wr.heap.size) := Lib.hid hbase
        cases ho : oneR t with
        | none =>
          have HE : Hid (R = none) := Lib.hid (by rw [← HP.out, HU.out, parseI_none acc ho])
          rw [ho] at HLB
          unfold lab S8 at HLB
          simp only at HLB
          clear ho HU
          go_wp2_with fail
          refine HLB.out.mono ?_
          rintro e w2 ⟨rfl, hb2⟩
          obtain ⟨⟨k0, k1, z0, z1⟩, HFF⟩ := HF.out w2 hb2
          clear hb2 HLB HF
          go_wp2
          go_ret2
          exact ps_none HE.out (HFF.out _ _).1
        | some p =>
          obtain ⟨x, r⟩ := p
          have HST := Lib.hid (by have h := HU.out; rw [parseI_some acc ho] at h; exact h)
          have hrl := one_less ho
          rw [ho] at HLB
          unfold lab S8 at HLB
          simp only at HLB
          obtain ⟨x1, x2⟩ := x
          simp only at HLB
          clear ho HU
          obtain ⟨q, hq⟩ : ∃ q, (r == [125]) = q := ⟨_, rfl⟩
          have HQ : Hid (q = true ↔ r = [125]) := Lib.hid (by rw [← hq]; simp)
          have HC2 := fun w => Lib.hid (cutp_any r 44 w)
          unfold S8 at HC2
          go_wp2_with fail
          refine HLB.out.mono ?_
          rintro e w2 ⟨rfl, hb2⟩
          obtain ⟨⟨k0, k1, z0, z1⟩, HFF⟩ := HF.out w2 hb2
          have HOW := Lib.hid (HFF.out (.string ⟨x1.toArray⟩) (.string ⟨x2.toArray⟩)).2
          have HBW := Lib.hid (HFF.out (.string ⟨x1.toArray⟩) (.string ⟨x2.toArray⟩)).1
          have HMD : Hid (Rd (((w2.setCell ⟨wr.heap.size, 0, none⟩ (.string ⟨x1.toArray⟩)).setCell ⟨wr.heap.size, 1, none⟩ (.string ⟨x2.toArray⟩)).alloc (.cells #[.string ⟨x1.toArray⟩, .string ⟨x2.toArray⟩] 37)) (w2.heap.size + 1) (some ⟨w2.heap.size, 0, none⟩) [.string ⟨x1.toArray⟩, .string ⟨x2.toArray⟩]) := Lib.hid (by
            have h := Rd.made ((w2.setCell ⟨wr.heap.size, 0, none⟩ (.string ⟨x1.toArray⟩)).setCell ⟨wr.heap.size, 1, none⟩ (.string ⟨x2.toArray⟩)) #[.string ⟨x1.toArray⟩, .string ⟨x2.toArray⟩] 37
            rwa [show ((w2.setCell ⟨wr.heap.size, 0, none⟩ (.string ⟨x1.toArray⟩)).setCell ⟨wr.heap.size, 1, none⟩ (.string ⟨x2.toArray⟩)).heap.size = w2.heap.size by simp] at h)
          have HSZ : Hid (wr.heap.size < w2.heap.size) := Lib.hid (by have := hb2.size; simp at this; omega)
          clear hb2 HLB HF HFF
          go_wp2_with (at_builtin; refine wpList_append_rd _ rfl (.tmp 25) (.tmp 27) 22 rfl w1.heap.size 2 37 i1 (.agg #[.string ByteArray.empty, .string ByteArray.empty]) 32 Try.underlying22 gi gz0 gz1 gz2 rfl (by omega) _ _ _ rfl (HOW.out.alloc _) (w2.heap.size + 1) (some ⟨w2.heap.size, 0, none⟩) 1 1 [.string ⟨x1.toArray⟩, .string ⟨x2.toArray⟩] rfl rfl HMD.out ?f1 ?f2 ?f3 ?f4 ?_)
          case f1 => intro u hu; simp at hu; rcases hu with rfl | rfl <;> rfl
          case f2 => unfold maxLen; omega
          case f3 => omega
          case f4 => have := HBW.out.size; simp at this ⊢; omega
          intro v' w3 hown3 hg _
          have HO3 : Hid (w3.ownsRow w1.heap.size 37 2 v' (acc ++ [(x1, x2)]).length (flat (acc ++ [(x1, x2)]))) := Lib.hid (by
            rw [flat_append, flat_one, List.length_append]
            exact hown3)
          have HB3 : Hid (Below w1.heap.size w1 w3) := Lib.hid ((HBW.out.alloc HBW.out.size _).grown hg (by have := HBW.out.size; simp at this ⊢; omega) (fun k hk => (HOW.out.lt k hk).1))
          clear hown3 hg HOW HBW HMD HO HB HXB k0 k1 z0 z1
          cases q with
          | true =>
            have HE : Hid (R = some (acc ++ [(x1, x2)])) := Lib.hid (by rw [← HP.out, HST.out, if_pos (HQ.out.1 rfl)])
            clear HST
            go_wp2
            go_ret2
            rw [HE.out]
            exact ⟨_, rfl, HO3.out, HB3.out⟩
          | false =>
            have HST2 : Hid (parse s = if r.head? = some 44 then parseI r.tail (acc ++ [(x1, x2)]) else none) := Lib.hid (by
              have h := HST.out
              rwa [if_neg (fun e => by have := HQ.out.2 e; cases this)] at h)
            clear HST
            by_cases c4 : r.head? = some 44
            · have HST3 : Hid (parse s = parseI r.tail (acc ++ [(x1, x2)])) := Lib.hid (by have h := HST2.out; rwa [if_pos c4] at h)
              have hne : r ≠ [] := by intro e; rw [e] at c4; cases c4
              have hpos : 0 < r.length := List.length_pos_iff.2 hne
              simp only [if_pos c4, decide_eq_true c4] at HC2
              obtain ⟨r2, hr2⟩ : ∃ r2, r.tail = r2 := ⟨_, rfl⟩
              have hl2 : r2.length + 1 = r.length := by rw [← hr2, List.length_tail]; omega
              have HL2 : Hid (r2.length + 4 ≤ t.length) := Lib.hid (by omega)
              rw [hr2] at HST3
              simp only [hr2] at HC2
              clear HST2 c4 hne hpos hr2 hl2 hrl
              go_wp2_with fail
              refine (HC2 _).out.mono ?_
              rintro e w4 ⟨rfl, rfl⟩
              go_wp2
              go_roundw
              case rel => exact ⟨r2, acc ++ [(x1, x2)], rfl, HO3.out, HB3.out, by have := HL2.out; simp; omega, HST3⟩
              case measure =>
                have := HL2.out
                unfold S8 sz
                simp only [size_len]
                omega
            · have HE : Hid (R = none) := Lib.hid (by rw [← HP.out, HST2.out, if_neg c4])
              simp only [if_neg c4, decide_eq_false c4] at HC2
              clear HST2 c4
              go_wp2_with fail
              refine (HC2 _).out.mono ?_
              rintro e w4 ⟨rfl, rfl⟩
              go_wp2
              go_ret2
              exact ps_none HE.out HB3.out
  · rw [if_neg c1] at h0
    simp only [if_neg c1, decide_eq_false c1] at HC1
    unfold S8 at *
    subst h0
    clear c1 gi gz0 gz1 gz2
    go_enter Try.func31, Try.ntmps31
    go_wp2_with fail
    refine (HC1 _).out.mono ?_
    rintro e w1 ⟨rfl, rfl⟩
    go_wp2
    go_ret2
    exact ⟨_, rfl, World.ownsRow_nil .., Below.refl _ _⟩
end Go.Proofs.Ytngkhcbnndkdeaa.LpRead3
