/- The contract of the document's own Expand: for all bytes and every 'most' the error and the bytes that 'LaySpec.exp' says, in memory of the call's own; nothing that was there has changed. Conditions: the slice's length is at most its capacity, the capacity at most the model's greatest length, the length at most 2^47; 'most' is an int. -/
import Derived.Test.YtifndcjjlhjgiaaExpand
import Derived.Test.YtifndcjjlhjgiaaRefGet
namespace Go.Proofs.Ytifndcjjlhjgiaa.RefExp
open Go Go.RowKit Words Plain Put Get RefGet Own LaySpec Echo Part App Expand

/-- The loop over the parts. -/
def RelR (b : List UInt8) (size : Nat) (R : Nat × List UInt8) (w : World) (x v : Value) (wr : World) : Prop := ∃ (at_ : Nat) (l : List UInt8), at_ ≤ b.length ∧ x = .int .i64 (at_ : Int) ∧ l.length ≤ size ∧
  Hid (lay size (b.drop at_) l = R) ∧ wr.ownsRow w.heap.size 5 1 v l.length (l.map B8) ∧ Below w.heap.size w wr
/-- The loop over a part's own bytes: j are laid. -/
def RelP (bs l : List UInt8) (n : Nat) (w0 : World) (v i : Value) (wr : World) : Prop := ∃ (j : Nat) (l' : List UInt8), j ≤ n ∧ i = .int .i64 (j : Int) ∧ l'.length = l.length + j ∧
  Hid (l' = l ++ bs.take j) ∧ wr.ownsRow w0.heap.size 5 1 v l'.length (l'.map B8) ∧ Below w0.heap.size w0 wr


set_option maxHeartbeats 800000 in
set_option maxRecDepth 100000 in
theorem ref_err (b : List UInt8) (A : Option Addr) (c : Nat) (most : Int) (w : World) (hr : Rd w w.heap.size A (b.map B8)) (hc : b.length ≤ c) (hm : c ≤ maxLen) {p k e : Nat} (hd : dec 0 0 b = (p, k, e)) (he : e ≠ 0) :
    Calls Try.prog 10 #[.slice A b.length c, .int .i64 most] w (XPost w (exp b most)) := by
  have hg := RefGet.ref_any b A c ((0 : Nat) : Int) w w.heap.size hr hc hm
  obtain ⟨f1, f2, f3⟩ := fin (p := 0) (Nat.zero_le _) hd
  rw [f1, f2, f3, if_neg he] at hg
  have HG := Lib.hid hg
  have HX := Lib.hid (show exp b most = (e, []) by unfold exp; rw [hd, if_pos he])
  have h1 : ((e : Int) != 0) = true := by simp; omega
  clear hg f1 f2 f3 hd hr hc hm he
  go_enter Try.func10, Try.ntmps10
  go_wp2_with fail
  refine HG.out.mono ?_
  rintro e w1 ⟨rfl, rfl⟩
  go_wp2
  go_ret2
  exact xpost_err HX.out rfl (Below.refl _ _)

set_option maxHeartbeats 1600000 in
set_option maxRecDepth 100000 in
theorem ref_long (b : List UInt8) (A : Option Addr) (c : Nat) (most : Int) (w : World) (hr : Rd w w.heap.size A (b.map B8)) (hc : b.length ≤ c) (hm : c ≤ maxLen) {p k : Nat} (hmost : most ≤ 9223372036854775807) (hd : dec 0 0 b = (p, k, 0)) (hl : most < (p : Int) ∨ 65536 < p) :
    Calls Try.prog 10 #[.slice A b.length c, .int .i64 most] w (XPost w (exp b most)) := by
  have hg := RefGet.ref_any b A c ((0 : Nat) : Int) w w.heap.size hr hc hm
  obtain ⟨f1, f2, f3⟩ := fin (p := 0) (Nat.zero_le _) hd
  rw [f1, f2, f3, if_pos rfl] at hg
  have HG := Lib.hid hg
  have HX := Lib.hid (show exp b most = (4, []) by unfold exp; rw [hd, if_neg (by simp), if_pos hl])
  have hp := (dec_takes hd).2.2
  clear hg f1 f2 f3 hd hr hc hm
  by_cases hm0 : most < 0
  · clear hl
    go_enter Try.func10, Try.ntmps10
    go_wp2_with fail
    refine HG.out.mono ?_
    rintro e w1 ⟨rfl, rfl⟩
    go_wp2
    go_ret2
    exact xpost_err HX.out rfl (Below.refl _ _)
  · obtain ⟨q, rfl⟩ := Int.eq_ofNat_of_zero_le (Int.not_lt.1 hm0)
    have hq : q ≤ 9223372036854775807 := by omega
    clear hm0 hmost
    by_cases hqp : q < p
    · have h1 : decide ((q : Int) < (p : Int)) = true := by simp; omega
      have h2 : decide (q < p) = true := by simp; omega
      clear hl
      go_enter Try.func10, Try.ntmps10
      go_wp2_with fail
      refine HG.out.mono ?_
      rintro e w1 ⟨rfl, rfl⟩
      go_wp2
      go_ret2
      exact xpost_err HX.out rfl (Below.refl _ _)
    · have h1 : decide ((q : Int) < (p : Int)) = false := by simp; omega
      have h2 : decide (q < p) = false := by simp; omega
      have h3 : decide (65536 < (p : Int)) = true := by simp; omega
      clear hl
      go_enter Try.func10, Try.ntmps10
      go_wp2_with fail
      refine HG.out.mono ?_
      rintro e w1 ⟨rfl, rfl⟩
      go_wp2
      go_ret2
      exact xpost_err HX.out rfl (Below.refl _ _)

set_option maxHeartbeats 6400000 in
set_option maxRecDepth 100000 in
theorem ref_in (b : List UInt8) (A : Option Addr) (c : Nat) (most : Int) (w : World) (hr : Rd w w.heap.size A (b.map B8)) (hc : b.length ≤ c) (hm : c ≤ maxLen) (hbl : b.length ≤ 140737488355327) (hmost : most ≤ 9223372036854775807) {p0 k : Nat} (hd : dec 0 0 b = (p0, k, 0)) (hl : ¬ (most < (p0 : Int) ∨ 65536 < p0)) :
    Calls Try.prog 10 #[.slice A b.length c, .int .i64 most] w (XPost w (exp b most)) := by
  obtain ⟨i0, hi, hz0, hz1, hz2⟩ := info_parts info_u8
  have hg := RefGet.ref_any b A c ((0 : Nat) : Int) w w.heap.size hr hc hm
  obtain ⟨f1, f2, f3⟩ := fin (p := 0) (Nat.zero_le _) hd
  rw [f1, f2, f3, if_pos rfl, show (((0 : Nat) : Int) + (k : Int)) = (k : Int) by omega] at hg
  have HG := Lib.hid hg
  have hkt := dec_takes hd
  obtain ⟨R, hR⟩ : ∃ R, exp b most = R := ⟨_, rfl⟩
  have HX : Hid (lay p0 (b.drop k) [] = R) := by
    refine Lib.hid ?_
    rw [← hR]
    unfold exp
    rw [hd, if_neg (by simp), if_neg hl]
  rw [hR]
  have hsz : p0 ≤ 65536 := by omega
  obtain ⟨q, rfl⟩ := Int.eq_ofNat_of_zero_le (show 0 ≤ most by omega)
  have hq : q ≤ 9223372036854775807 := by omega
  have h1 : decide (65536 < (p0 : Int)) = false := by simp; omega
  have h2 : decide ((q : Int) < (p0 : Int)) = false := by simp; omega
  have h3 : decide (q < p0) = false := by simp; omega
  have hq0 : decide ((q : Int) < 0) = false := by simp
  have hk : k ≤ b.length := hkt.2.1
  have HR := Lib.hid hr
  have HM := Lib.hid hm
  clear hg f1 f2 f3 hd hr hm hR hl hkt hmost
  go_enter Try.func10, Try.ntmps10
  go_wp2_with fail
  refine HG.out.mono ?_
  rintro e w1 ⟨rfl, rfl⟩
  go_wp2
  go_loopw [7, 9] (fun x v wr => RelR b p0 R w x v wr) (fun x _ _ => b.length - (intOf x).toNat)
  case atStart => exact ⟨k, [], hk, rfl, by simp, HX, World.ownsRow_nil _ _ _ _, Below.refl _ _⟩
  case round =>
    obtain ⟨at_, l, hat, rfl, hlp, hlay, hown, hb⟩ := hrel
    clear HX
    obtain ⟨A1, c1, rfl, _, _, _⟩ := own_slice hown
    by_cases hlt : at_ < b.length
    · have hne : b.drop at_ ≠ [] := by
        intro h
        have := congrArg List.length h
        simp at this
        omega
      obtain ⟨p, k1, e, hd⟩ : ∃ p' k' e', dec 0 0 (b.drop at_) = (p', k', e') := ⟨_, _, _, rfl⟩
      have hg := RefGet.ref_any b A c at_ wr w.heap.size (HR.out.below hb) hc HM.out
      obtain ⟨f1, f2, f3⟩ := fin hat hd
      rw [f1, f2, f3] at hg
      have HO := Lib.hid hown
      have HB := Lib.hid hb
      clear hown hb f1 f2 f3
      by_cases he : e = 0
      · subst he
        have ht := dec_takes hd
        rw [List.length_drop] at ht
        obtain ⟨ht1, ht2, hp⟩ := ht
        rw [if_pos rfl, show ((at_ : Int) + (k1 : Int)) = ((at_ + k1 : Nat) : Int) by omega] at hg
        have HG := Lib.hid hg
        clear hg
        have q1 : ((p : Int) / 2) = ((p / 2 : Nat) : Int) := by omega
        have hn : p / 2 < 9223372036854775808 := by omega
        have ho : p % 2 = 0 ∨ p % 2 = 1 := by omega
        have hll : l.length ≤ 65536 := by omega
        by_cases hf : p / 2 = 0 ∨ (p % 2 = 1 ∧ p / 2 < 4) ∨ p0 < l.length + p / 2
        · have HL : Hid (R = (6, [])) := by
            refine Lib.hid ?_
            rw [← hlay.out, lay_err hne (part_form hd hf) (by omega)]
          clear hlay hd hne
          have q2 : ((p : Int) % 2) = ((p % 2 : Nat) : Int) := by omega
          generalize p / 2 = n at *
          generalize p % 2 = o at *
          by_cases hz : n = 0
          · subst hz
            clear hf
            go_wp2_with fail
            refine HG.out.mono ?_
            rintro e w2 ⟨rfl, rfl⟩
            go_wp2
            all_goals
              go_ret2
              exact xpost_err HL.out rfl HB.out
          · have h4 : decide ((n : Int) < 1) = false := by simp; omega
            by_cases hs : p0 < l.length + n
            · have h5 : decide ((p0 : Int) < (l.length : Int) + (n : Int)) = true := by simp; omega
              have h6 : decide (p0 < l.length + n) = true := by simp; omega
              clear hf
              rcases ho with rfl | rfl
              · go_wp2_with fail
                refine HG.out.mono ?_
                rintro e w2 ⟨rfl, rfl⟩
                go_wp2
                all_goals
                  go_ret2
                  exact xpost_err HL.out rfl HB.out
              · go_wp2_with fail
                refine HG.out.mono ?_
                rintro e w2 ⟨rfl, rfl⟩
                go_wp2
                all_goals
                  go_ret2
                  exact xpost_err HL.out rfl HB.out
            · have h7 : decide ((n : Int) < 4) = true := by simp; omega
              obtain rfl : o = 1 := by omega
              clear hf
              go_wp2_with fail
              refine HG.out.mono ?_
              rintro e w2 ⟨rfl, rfl⟩
              go_wp2
              all_goals
                go_ret2
                exact xpost_err HL.out rfl HB.out
        · have HF := Lib.hid hf
          have hn1 : 1 ≤ p / 2 := by omega
          have hnl : l.length + p / 2 ≤ p0 := by omega
          have h4 : decide (((p / 2 : Nat) : Int) < 1) = false := by simp; omega
          have h5 : decide ((p0 : Int) < (l.length : Int) + ((p / 2 : Nat) : Int)) = false := by simp; omega
          have h6 : decide (p0 < l.length + p / 2) = false := by simp; omega
          have h8 : decide (65536 < ((p / 2 : Nat) : Int)) = false := by simp; omega
          have hbt : ((b.length : Int) - ((at_ + k1 : Nat) : Int)) = ((b.length - (at_ + k1) : Nat) : Int) := by omega
          have hbt2 : b.length - (at_ + k1) ≤ 140737488355327 := by omega
          have ht3 : at_ + k1 ≤ 140737488355327 := by omega
          by_cases hev : p % 2 = 0
          · have qa : ((p : Int) % 2 == 1) = false := beq_eq_false_iff_ne.2 (by omega)
            have qb : ((p : Int) % 2 == 0) = true := beq_iff_eq.2 (by omega)
            by_cases hsh : b.length - at_ - k1 < p / 2
            · have HL : Hid (R = (5, [])) := by
                refine Lib.hid ?_
                rw [← hlay.out, lay_err hne (part_short hd hf hev (by rw [List.length_drop]; exact hsh)) (by omega)]
              have h9 : decide (((b.length - (at_ + k1) : Nat) : Int) < ((p / 2 : Nat) : Int)) = true := by simp; omega
              have h10 : decide (b.length - (at_ + k1) < p / 2) = true := by simp; omega
              clear hlay hd hne hf HF ho hev hsh
              generalize p / 2 = n at *
              generalize b.length - (at_ + k1) = m at *
              generalize at_ + k1 = t at *
              go_wp2_with fail
              refine HG.out.mono ?_
              rintro e w2 ⟨rfl, rfl⟩
              go_wp2
              all_goals
                go_ret2
                exact xpost_err HL.out rfl HB.out
            · have hp := part_plain hd hf hev (by rw [List.length_drop]; exact hsh)
              have HL : Hid (lay p0 (b.drop (at_ + k1 + p / 2)) (l ++ (b.drop (at_ + k1)).take (p / 2)) = R) := by
                refine Lib.hid ?_
                rw [← hlay.out, lay_ok hne hp, List.drop_drop, List.drop_drop, Nat.add_assoc]
              have h9 : decide (((b.length - (at_ + k1) : Nat) : Int) < ((p / 2 : Nat) : Int)) = false := by simp; omega
              have h10 : decide (b.length - (at_ + k1) < p / 2) = false := by simp; omega
              have hend : at_ + k1 + p / 2 ≤ b.length := by omega
              have hn65 : p / 2 ≤ 65536 := by omega
              have hkt : at_ < at_ + k1 := by omega
              have HRB := Lib.hid (HR.out.below HB.out)
              clear hlay hd hne hf HF ho hev hsh hp
              generalize p / 2 = n at *
              generalize b.length - (at_ + k1) = m at *
              generalize at_ + k1 = t at *
              go_wp2_with fail
              refine HG.out.mono ?_
              rintro e w2 ⟨rfl, rfl⟩
              go_wp2
              all_goals
                go_loopw [9, 14] (fun v i wr => RelP (b.drop t) l n w v i wr) (fun _ i _ => n - (intOf i).toNat)
                case atStart => exact ⟨0, l, by omega, rfl, by omega, Lib.hid (by simp), HO.out, HB.out⟩
                case round =>
                  obtain ⟨j, l', hj, rfl, hlen, he, hown, hb⟩ := hrel
                  clear HO HB HRB
                  by_cases hjn : j < n
                  · obtain ⟨g, off, hA, hbg, hcell⟩ := HR.out (by simp; omega)
                    subst hA
                    have hX : b[t + j]? = some (b[t + j]'(by omega)) := List.getElem?_eq_getElem (by omega)
                    have hcx : wr.cell? ⟨g, off + (t + j), none⟩ = some (.int .u8 (((b[t + j]'(by omega)).toNat : Nat) : Int)) := (hb.cell (p := ⟨g, off + (t + j), none⟩) hbg).trans (cell8 hcell (by omega))
                    have hsn : Hid (l' ++ [b[t + j]'(by omega)] = l ++ (b.drop t).take (j + 1)) := by
                      refine Lib.hid ?_
                      rw [he.out, List.append_assoc, List.take_add_one, List.getElem?_drop, hX]
                      rfl
                    have hxl := (b[t + j]'(by omega)).toNat_lt
                    generalize (b[t + j]'(by omega)) = X at *
                    have HL2 := Lib.hid hlen
                    have HOw := Lib.hid hown
                    have HCE := Lib.hid hcell
                    have hl1 : l'.length ≤ 65536 := by omega
                    clear hX hcell hown he hlen
                    go_wp2_with (at_builtin; refine wpList_append_own _ rfl (.tmp 96) (.tmp 103) 22 rfl w.heap.size 5 i0 (.int .u8 0) 1 1 Try.underlying22 hi hz0 hz1 hz2 rfl (by decide) _ _ _ rfl (HOw.out.alloc _) ⟨wr.heap.size, 0, none⟩ 1 1 [.int .u8 ((X.toNat : Nat) : Int)] rfl rfl ?c1 ?c2 ?c3 ?c4 ?c5 ?_)
                    case c1 => exact new1 _ _ _
                    case c2 => intro u hu; simp at hu; subst hu; rfl
                    case c3 => unfold maxLen; omega
                    case c4 => omega
                    case c5 => have := hb.size; simp; omega
                    intro v' w2 hown2 hg2 _
                    have hb2 := below_appw HOw.out hb hg2
                    have hown3 := own_one hown2
                    clear hown2 hg2 HOw hb
                    go_wp2
                    go_roundw
                    case rel => exact ⟨j + 1, _, by omega, by go_num, by simp [HL2.out]; omega, hsn, hown3, hb2⟩
                    case measure => simp [intOf]; omega
                  · obtain rfl : j = n := by omega
                    have HOw := Lib.hid hown
                    have HBw := Lib.hid hb
                    have HE2 := Lib.hid hlen
                    clear hown hb hlen
                    go_wp2
                    go_roundw
                    case rel => exact ⟨t + j, l', by omega, by go_num, by rw [HE2.out]; omega, by rw [he.out]; exact HL, HOw.out, HBw.out⟩
                    case measure => simp [intOf]; omega
          · have hod : p % 2 = 1 := by omega
            have qa : ((p : Int) % 2 == 1) = true := beq_iff_eq.2 (by omega)
            have qb : ((p : Int) % 2 == 0) = false := beq_eq_false_iff_ne.2 (by omega)
            have h7 : decide (((p / 2 : Nat) : Int) < 4) = false := by simp; omega
            obtain ⟨d, k2, e2, hd2⟩ : ∃ p' k' e', dec 0 0 ((b.drop at_).drop k1) = (p', k', e') := ⟨_, _, _, rfl⟩
            have hd3 := hd2
            rw [List.drop_drop] at hd3
            have hg2 := RefGet.ref_any b A c ((at_ + k1 : Nat) : Int) wr w.heap.size (HR.out.below HB.out) hc HM.out
            obtain ⟨f1, f2, f3⟩ := fin (p := at_ + k1) (by omega) hd3
            rw [f1, f2, f3] at hg2
            clear f1 f2 f3
            by_cases he2 : e2 = 0
            · subst he2
              have htt := dec_takes hd3
              rw [List.length_drop] at htt
              obtain ⟨tt1, tt2, hp2⟩ := htt
              rw [if_pos rfl, show (((at_ + k1 : Nat) : Int) + (k2 : Int)) = ((at_ + k1 + k2 : Nat) : Int) by omega] at hg2
              have HG2 := Lib.hid hg2
              clear hg2
              by_cases hfar : d = 0 ∨ l.length < d
              · have HL : Hid (R = (6, [])) := by
                  refine Lib.hid ?_
                  rw [← hlay.out, lay_err hne (part_far hd hf hod hd2 hfar) (by omega)]
                clear hlay hd hne hf HF ho hev hod hd2 hd3 tt1 tt2
                generalize p / 2 = n at *
                generalize b.length - (at_ + k1) = m at *
                generalize at_ + k1 + k2 = t2 at *
                generalize at_ + k1 = t at *
                by_cases hd0 : d = 0
                · subst hd0
                  clear hfar
                  go_wp2_with fail
                  refine HG.out.mono ?_
                  rintro e w2 ⟨rfl, rfl⟩
                  go_wp2_with fail
                  refine HG2.out.mono ?_
                  rintro e w2 ⟨rfl, rfl⟩
                  go_wp2
                  all_goals
                    go_ret2
                    exact xpost_err HL.out rfl HB.out
                · have h11 : decide ((d : Int) < 1) = false := by simp; omega
                  have h12 : decide ((l.length : Int) < (d : Int)) = true := by simp; omega
                  have h13 : decide (l.length < d) = true := by simp; omega
                  clear hfar
                  go_wp2_with fail
                  refine HG.out.mono ?_
                  rintro e w2 ⟨rfl, rfl⟩
                  go_wp2_with fail
                  refine HG2.out.mono ?_
                  rintro e w2 ⟨rfl, rfl⟩
                  go_wp2
                  all_goals
                    go_ret2
                    exact xpost_err HL.out rfl HB.out
              · have hp := part_echo hd hf hod hd2 hfar
                have HL : Hid (lay p0 (b.drop (at_ + k1 + k2)) (echoN d (p / 2) l) = R) := by
                  refine Lib.hid ?_
                  rw [← hlay.out, lay_ok hne hp, List.drop_drop, Nat.add_assoc]
                have hd1 : 1 ≤ d := by omega
                have hdl : d ≤ l.length := by omega
                have h11 : decide ((d : Int) < 1) = false := by simp; omega
                have h12 : decide ((l.length : Int) < (d : Int)) = false := by simp; omega
                have h13 : decide (l.length < d) = false := by simp; omega
                have hsub : ((l.length : Int) - (d : Int)) = ((l.length - d : Nat) : Int) := by omega
                have hsx : l.length - d + d = l.length := by omega
                have hn65 : p / 2 ≤ 65536 := by omega
                have hkt : at_ < at_ + k1 + k2 := by omega
                have hte : at_ + k1 + k2 ≤ b.length := by omega
                clear hlay hd hne hf HF ho hev hod hd2 hd3 tt1 tt2 hfar hp
                generalize p / 2 = n at *
                generalize b.length - (at_ + k1) = m at *
                generalize at_ + k1 + k2 = t2 at *
                generalize at_ + k1 = t at *
                generalize l.length - d = s at *
                have HSX := Lib.hid hsx
                clear hsx
                go_wp2_with fail
                refine HG.out.mono ?_
                rintro e w2 ⟨rfl, rfl⟩
                go_wp2_with fail
                refine HG2.out.mono ?_
                rintro e w2 ⟨rfl, rfl⟩
                go_wp2
                go_loopw [9, 17] (fun v i wr => Echo.Rel d n l w v i wr) (fun _ i _ => n - (intOf i).toNat)
                case atStart => exact ⟨0, l, by omega, rfl, by omega, Lib.hid rfl, HO.out, HB.out⟩
                case round =>
                  obtain ⟨j, l', hj, rfl, hlen, he, hown, hb⟩ := hrel
                  clear HO HB
                  by_cases hjn : j < n
                  · have hSX := HSX.out
                    have hsj : l'.length - d = s + j := by omega
                    obtain ⟨g, cg, rfl, hg1, hg2, _⟩ := own_addr hown (by omega)
                    have hx : s + j < l'.length := by omega
                    have hcell : wr.cell? ⟨g, s + j, none⟩ = some (.int .u8 (((l'.getD (s + j) 0).toNat : Nat) : Int)) := by
                      rw [hown.cellAt (s + j) (by simp; omega)]
                      simp [B8, List.getD, hx]
                    have hsn : Hid (echoN d n l = echoN d (n - (j + 1)) (l' ++ [l'.getD (s + j) 0])) := by
                      refine Lib.hid ?_
                      rw [he.out]
                      obtain ⟨m', hm'⟩ : ∃ m', n - j = m' + 1 := ⟨n - j - 1, by omega⟩
                      rw [hm', show n - (j + 1) = m' by omega, echoN, hsj]
                    have hxl := (l'.getD (s + j) 0).toNat_lt
                    generalize hX : l'.getD (s + j) 0 = X at *
                    have HOw := Lib.hid hown
                    have HLe := Lib.hid hlen
                    have hl1 : l'.length ≤ 65536 := by omega
                    clear hX hown hlen he hsj hSX
                    go_wp2_with (at_builtin; refine wpList_append_own _ rfl (.tmp 140) (.tmp 147) 22 rfl w.heap.size 5 i0 (.int .u8 0) 1 1 Try.underlying22 hi hz0 hz1 hz2 rfl (by decide) _ _ _ rfl (HOw.out.alloc _) ⟨wr.heap.size, 0, none⟩ 1 1 [.int .u8 ((X.toNat : Nat) : Int)] rfl rfl ?d1 ?d2 ?d3 ?d4 ?d5 ?_)
                    case d1 => exact new1 _ _ _
                    case d2 => intro u hu; simp at hu; subst hu; rfl
                    case d3 => unfold maxLen; omega
                    case d4 => omega
                    case d5 => have := hb.size; simp; omega
                    intro v' w2 hown2 hg2 _
                    have hb2 := below_appw HOw.out hb hg2
                    have hown3 := own_one hown2
                    clear hown2 hg2 HOw hb
                    go_wp2
                    go_roundw
                    case rel => exact ⟨j + 1, _, by omega, by go_num, by simp [HLe.out]; omega, hsn, hown3, hb2⟩
                    case measure => simp [intOf]; omega
                  · obtain rfl : j = n := by omega
                    have HE : Hid (echoN d j l = l') := by
                      refine Lib.hid ?_
                      rw [he.out, Nat.sub_self, echoN]
                    have HOw := Lib.hid hown
                    have HBw := Lib.hid hb
                    have HE2 := Lib.hid hlen
                    clear hown hb hlen he
                    go_wp2
                    go_roundw
                    case rel => exact ⟨t2, l', by omega, by go_num, by rw [HE2.out]; omega, by rw [← HE.out]; exact HL, HOw.out, HBw.out⟩
                    case measure => simp [intOf]; omega
            · rw [if_neg he2] at hg2
              have HG2 := Lib.hid hg2
              have HL : Hid (R = (e2, [])) := by
                refine Lib.hid ?_
                rw [← hlay.out, lay_err hne (part_err2 hd hf hod hd2 he2) he2]
              have h14 : ((e2 : Int) != 0) = true := by simp; omega
              clear hg2 hlay hd hne hf HF ho hev hod hd2 hd3 he2
              generalize p / 2 = n at *
              generalize b.length - (at_ + k1) = m at *
              generalize at_ + k1 = t at *
              go_wp2_with fail
              refine HG.out.mono ?_
              rintro e w2 ⟨rfl, rfl⟩
              go_wp2_with fail
              refine HG2.out.mono ?_
              rintro e w2 ⟨rfl, rfl⟩
              go_wp2
              all_goals
                go_ret2
                exact xpost_err HL.out rfl HB.out
      · rw [if_neg he] at hg
        have HG := Lib.hid hg
        have HL : Hid (R = (e, [])) := by
          refine Lib.hid ?_
          rw [← hlay.out, lay_err hne (LaySpec.part_err hd he) he]
        have h5 : ((e : Int) != 0) = true := by simp; omega
        clear hg hlay hd hne he
        go_wp2_with fail
        refine HG.out.mono ?_
        rintro e w2 ⟨rfl, rfl⟩
        go_wp2
        go_ret2
        exact xpost_err HL.out rfl HB.out
    · have hle : at_ = b.length := by omega
      have HL : Hid (R = if l.length < p0 then (5, []) else (0, l)) := by
        refine Lib.hid ?_
        rw [← hlay.out, hle, List.drop_length, lay_nil]
      have HO := Lib.hid hown
      have HB := Lib.hid hb
      have h6 : decide (at_ < b.length) = false := by simp; omega
      clear hown hb hlay hle
      by_cases hs : l.length < p0
      · rw [if_pos hs] at HL
        have h7 : ((l.length : Int) != (p0 : Int)) = true := by simp; omega
        go_wp2
        go_ret2
        exact xpost_err HL.out rfl HB.out
      · rw [if_neg hs] at HL
        have h7 : ((l.length : Int) != (p0 : Int)) = false := by simp; omega
        go_wp2
        go_ret2
        rw [HL.out]
        exact ⟨_, rfl, HO.out, HB.out⟩

/-- The document's own Expand. -/
theorem refexp_any (b : List UInt8) (A : Option Addr) (c : Nat) (most : Int) (w : World) (hr : Rd w w.heap.size A (b.map B8)) (hc : b.length ≤ c) (hm : c ≤ maxLen) (hbl : b.length ≤ 140737488355327) (hmost : most ≤ 9223372036854775807) : Calls Try.prog 10 #[.slice A b.length c, .int .i64 most] w (XPost w (exp b most)) := by
  obtain ⟨p, k, e, hd⟩ : ∃ p k e, dec 0 0 b = (p, k, e) := ⟨_, _, _, rfl⟩
  by_cases he : e = 0
  · subst he
    by_cases hl : most < (p : Int) ∨ 65536 < p
    · exact ref_long b A c most w hr hc hm hmost hd hl
    · exact ref_in b A c most w hr hc hm hbl hmost hd hl
  · exact ref_err b A c most w hr hc hm hd he
end Go.Proofs.Ytifndcjjlhjgiaa.RefExp
