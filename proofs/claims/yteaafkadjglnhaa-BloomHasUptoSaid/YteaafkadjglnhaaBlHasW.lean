/- The walk of BloomHas over what stage 12 asks of the program. -/
import Derived.Test.YteaafkadjglnhaaBlLaw
import Derived.Deep.RegionLaw
import Derived.BigRegion
namespace Go.Proofs.Yteaafkadjglnhaa.BlHasW
open Go Go.RowKit Words Less BlSpec BlRef UtOwn BlMake BlLaw
open App (wpList_append_rd)

/-- A filter, its first j bytes with another's bits set besides. -/
def orJ (f m : List UInt8) : Nat → List UInt8
  | 0 => f
  | j + 1 => (orJ f m j).set j (UInt8.ofNat (((orJ f m j)[j]?.getD 0).toNat ||| (m[j]?.getD 0).toNat))
theorem orJ_len (f m : List UInt8) : ∀ j, (orJ f m j).length = f.length
  | 0 => rfl
  | j + 1 => by rw [orJ, List.length_set, orJ_len f m j]
theorem orJ_bit (f m : List UInt8) : ∀ j q, bit f q = true → bit (orJ f m j) q = true
  | 0, _, h => h
  | j + 1, q, h => by
    have ih := orJ_bit f m j q h
    rw [orJ]
    unfold bit at ih ⊢
    by_cases e : j = q / 8
    · subst e
      by_cases hl : q / 8 < (orJ f m (q / 8)).length
      · have hx := ((orJ f m (q / 8))[q / 8]?.getD 0).toNat_lt
        have hy := (m[q / 8]?.getD 0).toNat_lt
        have h3 : ((orJ f m (q / 8))[q / 8]?.getD 0).toNat ||| (m[q / 8]?.getD 0).toNat < 2 ^ 8 := Nat.or_lt_two_pow (by simpa using hx) (by simpa using hy)
        rw [List.getElem?_set_self hl, Option.getD_some, UInt8.toNat_ofNat_of_lt' h3, Nat.testBit_or, ih, Bool.true_or]
      · rw [List.set_eq_of_length_le (by omega)]
        exact ih
    · rw [List.getElem?_set_ne e]
      exact ih
theorem has_orJ {f m s : List UInt8} {j : Nat} (h : has f s = true) : has (orJ f m j) s = true := has_more (orJ_len f m j) (orJ_bit f m j) h
theorem orJ_next (f m : List UInt8) {j : Nat} (h1 : j < f.length) (h2 : j < m.length) : orJ f m (j + 1) = (orJ f m j).set j (UInt8.ofNat (((orJ f m j)[j]'(by rw [orJ_len]; exact h1)).toNat ||| (m[j]).toNat)) := by
  rw [orJ, List.getElem?_eq_getElem (by rw [orJ_len]; exact h1), List.getElem?_eq_getElem h2]
  rfl
def GRel (w2 : World) (F m : List UInt8) (A7 : Option Addr) (c7 : Nat) (v : Value) (wr : World) : Prop :=
  ∃ j : Nat, j ≤ F.length ∧ v = .int .i64 (j : Int) ∧ Hid (wr.ownsRow w2.heap.size 5 1 (.slice A7 F.length c7) F.length ((orJ F m j).map B8)) ∧ Hid (Below w2.heap.size w2 wr)
def WRel (l : List (List UInt8)) (wq : World) (v : Value) (wz : World) : Prop := ∃ i : Nat, i ≤ l.length ∧ v = .int .i64 (i : Int) ∧ Hid (Below wq.heap.size wq wz)
theorem make_turned (l : List (List UInt8)) (k : Nat) : make (l.drop k ++ l) = make l := make_ext fun z => by
  rw [List.mem_append]
  exact ⟨fun h => h.elim List.mem_of_mem_drop id, .inr⟩

theorem conv_bytes {w : World} {B : Nat} {A : Option Addr} {F : List UInt8} {c : Nat} (h : Rd w B A (F.map B8)) : (convert 23 9 (.slice A F.length c)).run Try.prog w = .ok (.string ⟨F.toArray⟩) w :=
  run_bytes w 23 9 5 Try.underlying23 Try.underlying5 Try.underlying9 A F c B h
set_option maxHeartbeats 6400000 in
set_option maxRecDepth 100000 in
theorem has_any {N : Nat} (P : Bloom N) (w : World) (l : List (List UInt8)) (A : Option Addr) (c : Nat) (h1 : Rd w w.heap.size A (l.map S8)) (hm : l.length ≤ c) (hc : c ≤ maxLen) (hl : l.length ≤ 1048576) (hs : ∀ s ∈ l, s.length ≤ maxLen)
    (at_ : Int) (m : List UInt8) (A1 : Option Addr) (c1 : Nat) (h2 : Rd w w.heap.size A1 (m.map B8)) (hm1 : m.length ≤ c1) (hc1 : c1 ≤ maxLen) (hf : m.length ≤ 1048576) :
    Calls Try.prog 4 #[.slice A l.length c, .int .i64 at_, .slice A1 m.length c1] w fun e w' => e = .returned (.bool true) ∧ Below w.heap.size w w' := by
  obtain ⟨i1, gi, gz0, gz1, gz2⟩ := info_parts info_str
  obtain ⟨i2, bi, bz0, bz1, bz2⟩ := info_parts info_b8
  have HA := Lib.hid (awake_any P w)
  have H1 := Lib.hid h1
  have H2 := Lib.hid h2
  have HS := Lib.hid hs
  have hN := P.big
  obtain ⟨k, hk⟩ : ∃ k : Nat, (k : Int) = (IntKind.u64.wrap at_).tmod ((l.length : Int) + 1) ∧ k ≤ l.length := by
    refine ⟨((IntKind.u64.wrap at_).tmod ((l.length : Int) + 1)).toNat, ?_, ?_⟩
    · rw [Int.toNat_of_nonneg]
      exact Int.tmod_nonneg _ (by rw [IntKind.wrap_u64]; omega)
    · have := Int.tmod_lt_of_pos (IntKind.u64.wrap at_) (show (0 : Int) < (l.length : Int) + 1 by omega)
      omega
  obtain ⟨hk1, hk2⟩ := hk
  have hk3 := hk1.symm
  clear hk1
  have hk4 : (k : Int) ≤ (l.length : Int) := by omega
  have hk5 : (k : Int) ≤ (c : Int) := by omega
  have hk6 : (0 : Int) ≤ (k : Int) := by omega
  unfold maxLen at hc hc1
  clear h1 h2 hs
  go_enter Try.func4, Try.ntmps4
  go_wp2_with fail
  refine HA.out.mono ?_
  rintro e w1 ⟨rfl, hb1⟩
  have HB1 := Lib.hid hb1
  have HM := Lib.hid (P.make_ w1 l A c ((H1.out.below hb1).more hb1.size) hm (by unfold maxLen; omega) (by omega) HS.out)
  clear hb1 HA
  go_wp2_with fail
  refine HM.out.mono ?_
  rintro e w2 ⟨v2, rfl, ho2, hb2⟩
  obtain ⟨A2, c2, rfl, g1, g2, g3, g4⟩ := own_rd ho2
  have HB2 : Hid (Below w.heap.size w w2) := HB1.out.trans (hb2.mono HB1.out.size)
  have HR := Lib.hid g3
  have hfl : (make l).length ≤ 8 * l.length := by
    have h := once_length l
    rw [make_len, size]
    omega
  obtain ⟨F, hF⟩ : ∃ F, make l = F := ⟨_, rfl⟩
  rw [hF] at g1 HR hfl ⊢
  have HF := Lib.hid hF
  unfold maxLen at g2
  clear hb2 HM HB1 ho2 g3 g4 hF
  have hT : ((l.drop k).map S8).length = l.length - k := by simp
  have HL2 : Hid (Rd w2 w2.heap.size A (l.map S8)) := (H1.out.below HB2.out).more HB2.out.size
  have HD1 : Hid (c = k → Rd w2 w2.heap.size A ((l.drop k).map S8)) := fun h => by
    rw [List.drop_eq_nil_of_le (by omega)]
    exact Rd.nil_
  have HD2 : Hid (¬ c = k → Rd w2 w2.heap.size (A.map (·.add k)) ((l.drop k).map S8)) := fun h => by
    have h3 := HL2.out.cut (k := k) (cap := c) (by rw [List.length_map]; exact hm)
    rw [if_neg h, ← List.map_drop] at h3
    exact h3
  have F1 : Hid (∀ u ∈ (l.drop k).map S8, u.oneCell' = true) := oneS _
  have F2 : Hid (∀ u ∈ l.map S8, u.oneCell' = true) := oneS _
  have q1 : 0 + (l.length - k) ≤ maxLen := by unfold maxLen; omega
  have q2 : (0 + (l.length - k)) * 16 ≤ 140737488355328 := by omega
  have q3 : l.length - k + l.length ≤ maxLen := by unfold maxLen; omega
  have q4 : (l.length - k + l.length) * 16 ≤ 140737488355328 := by omega
  have q5 : 0 + F.length ≤ maxLen := by unfold maxLen; omega
  have q6 : (0 + F.length) * 1 ≤ 140737488355328 := by omega
  have HT := Lib.hid hT
  clear hT
  by_cases hck : c = k
  case' pos => go_wp2_with (at_builtin; refine wpList_append_rd (v := .slice none 0 0) _ rfl (.tmp 25) (.tmp 28) 22 rfl w2.heap.size 9 i1 (.string ByteArray.empty) 16 Try.underlying22 gi gz0 gz1 gz2 rfl 0 [] rfl (World.ownsRow_nil ..) w2.heap.size _ (l.length - k) _ ((l.drop k).map S8) rfl HT.out (HD1.out hck) F1.out q1 q2 (Nat.le_refl _) ?_)
  case' neg => go_wp2_with (at_builtin; refine wpList_append_rd (v := .slice none 0 0) _ rfl (.tmp 25) (.tmp 28) 22 rfl w2.heap.size 9 i1 (.string ByteArray.empty) 16 Try.underlying22 gi gz0 gz1 gz2 rfl 0 [] rfl (World.ownsRow_nil ..) w2.heap.size _ (l.length - k) _ ((l.drop k).map S8) rfl HT.out (HD2.out hck) F1.out q1 q2 (Nat.le_refl _) ?_)
  all_goals
    intro v3 w3 hown3 hg3 _
    try generalize Option.map (fun x : Addr => x.add k) A = Ak
    have HO3 : Hid (w3.ownsRow w2.heap.size 9 1 v3 (l.length - k) ((l.drop k).map S8)) := by
      show World.ownsRow _ _ _ _ _ _ _
      rw [List.map_drop]
      simpa using hown3
    have HB3 : Hid (Below w2.heap.size w2 w3) := below_app (World.ownsRow_nil (base := w2.heap.size) (e := 9) (size := 1) (w := w2)) (Below.refl _ _) hg3
    clear hown3 hg3
    have HL3 : Hid (Rd w3 w3.heap.size A (l.map S8)) := (HL2.out.below HB3.out).more HB3.out.size
    go_wp2_with (at_builtin; refine wpList_append_rd (v := v3) _ rfl (.tmp 30) (.tmp 31) 22 rfl w2.heap.size 9 i1 (.string ByteArray.empty) 16 Try.underlying22 gi gz0 gz1 gz2 rfl _ _ rfl HO3.out w3.heap.size _ l.length _ (l.map S8) rfl (List.length_map _) HL3.out F2.out q3 q4 HB3.out.size ?_)
    intro v4 w4 hown4 hg4 _
    have HB4 : Hid (Below w2.heap.size w2 w4) := below_app HO3.out HB3.out hg4
    have HO4 : Hid (∃ A4 c4, v4 = .slice A4 (l.drop k ++ l).length c4 ∧ (l.drop k ++ l).length ≤ c4 ∧ c4 ≤ maxLen ∧ Rd w4 w4.heap.size A4 ((l.drop k ++ l).map S8)) := by
      obtain ⟨A4, c4, hv4, e1, e2, e3, _⟩ := own_rd hown4
      have hTL : l.length - k + l.length = (l.drop k ++ l).length := by simp
      rw [hTL] at hv4 e1
      exact ⟨A4, c4, hv4, e1, e2, by rw [List.map_append, List.map_drop]; exact e3⟩
    clear hown4 hg4 HO3 HL3
    obtain ⟨A4, c4, rfl, e1, e2, e3⟩ := HO4.out
    have HZ : Hid (Below w2.heap.size w2 w4.drew) := HB4.out.trans ⟨rfl, rfl, rfl, Nat.le_refl _, fun _ _ => rfl⟩
    have HM4 : Hid (Calls Try.prog 8 #[.slice A4 (l.drop k ++ l).length c4] w4.drew fun e w' => ∃ A5 c5, e = .returned (.slice A5 F.length c5) ∧ (convert 23 9 (.slice A5 F.length c5)).run Try.prog w' = .ok (.string ⟨F.toArray⟩) w' ∧ (convert 23 9 (.slice A2 F.length c2)).run Try.prog w' = .ok (.string ⟨F.toArray⟩) w' ∧ Hid (Below w2.heap.size w2 w')) :=
      (P.make_ w4.drew (l.drop k ++ l) A4 c4 e3.drew e1 e2 (by simp; omega) (fun s hs => HS.out s ((List.mem_append.1 hs).elim List.mem_of_mem_drop id))).mono fun e w' ⟨v, he, ho, hb⟩ => by
        rw [make_turned, HF.out] at ho
        obtain ⟨A5, c5, rfl, r1, _, r3, _⟩ := own_rd ho
        exact ⟨A5, c5, he, conv_bytes r3, conv_bytes (HR.out.below (below_step HZ.out hb)), below_step HZ.out hb⟩
    have cF := conv_bytes (c := c2) (HR.out.below HZ.out)
    have eF : (F == F) = true := by simp
    clear HO4 e1 e2 e3 HZ
    generalize (l.drop k ++ l).length = tn at *
    go_wp2_with fail
    go_region_law (first
      | (go_simp; go_at_call 8; ((with_reducible refine HM4.out.mono ?_); rintro e w' ⟨A5, c5, rfl, v1, v2, g'⟩)))
    all_goals
      clear v1 v2 HM4 cF eF
      have HB6 := Lib.hid g'.out
      clear g' HB3 HB4
      have hown0 := World.ownsRow_lit (base := w2.heap.size) (e := 5) (size := 1) w' #[] 0 HB6.out.size (by unfold maxLen; omega) rfl
      have HBz := Lib.hid (HB6.out.alloc HB6.out.size (.cells #[] 5))
      go_wp2_with (at_builtin; refine wpList_append_rd (v := .slice (some ⟨w'.heap.size, 0, none⟩) 0 0) _ rfl (.tmp 39) (.tmp 40) 23 rfl w2.heap.size 5 i2 (.int .u8 0) 1 Try.underlying23 bi bz0 bz1 bz2 rfl 0 [] rfl hown0 w2.heap.size A2 F.length c2 (F.map B8) rfl (List.length_map _) (HR.out.below HBz.out) (one8 F) q5 q6 HBz.out.size ?_)
      intro v7 w7 hown7 hg7 _
      have HB7 := Lib.hid (below_app hown0 HBz.out hg7)
      have HO7 : Hid (w7.ownsRow w2.heap.size 5 1 v7 F.length ((orJ F m 0).map B8)) := by
        show World.ownsRow _ _ _ _ _ _ _
        simpa [orJ] using hown7
      clear hown0 hown7 hg7 HB6 HBz
      obtain ⟨A7, c7, rfl, e71, e72, _⟩ := own_rd HO7.out
      go_wp2_with fail
      go_loopw [11] (fun v wr => GRel w2 F m A7 c7 v wr) (fun v _ => F.length - (intOf v).toNat)
      case atStart => exact ⟨0, Nat.zero_le _, rfl, HO7, HB7⟩
      case round =>
        obtain ⟨j, hj, rfl, HOj, HBj⟩ := hrel
        clear HO7 HB7
        by_cases hj12 : j < F.length ∧ j < m.length
        · obtain ⟨hj1, hj2⟩ := hj12
          · obtain ⟨bm, om, rfl, hbm, hcm⟩ := H2.out (by simp; omega)
            have k1 := (HBj.out.cell (p := ⟨bm, om + j, none⟩) (Nat.lt_of_lt_of_le hbm HB2.out.size)).trans ((HB2.out.cell (p := ⟨bm, om + j, none⟩) hbm).trans (cell8 hcm hj2))
            have HNX := Lib.hid (orJ_next F m hj1 hj2)
            obtain ⟨gb, gc, hgv, hgb, _⟩ := HOj.out.form (by omega)
            injection hgv with e1 _ e3
            subst e1 e3
            have k2 := HOj.out.cellAt j (by omega)
            rw [List.getElem?_map, List.getElem?_eq_getElem (by rw [orJ_len]; exact hj1)] at k2
            have k3 := HOj.out.frozenAt j
            have hx := ((orJ F m j)[j]'(by rw [orJ_len]; exact hj1)).toNat_lt
            have hy := (m[j]).toNat_lt
            generalize (orJ F m j)[j]'(by rw [orJ_len]; exact hj1) = x at *
            generalize m[j] = y at *
            have hv := u8_or_nat x.toNat y.toNat (by omega) (by omega)
            have i1 : (0 : Int) ≤ (j : Int) := by omega
            have i2 : (j : Int) < (F.length : Int) := by omega
            have i3 : (j : Int) < (m.length : Int) := by omega
            have hz : x.toNat ||| y.toNat < 2 ^ 8 := Nat.or_lt_two_pow (by omega) (by omega)
            have hB : B8 (UInt8.ofNat (x.toNat ||| y.toNat)) = .int .u8 ((x.toNat ||| y.toNat : Nat) : Int) := by rw [B8, UInt8.toNat_ofNat_of_lt' hz]
            have HOW : Hid ((wr.setCell ⟨gb, j, none⟩ (.int .u8 ((x.toNat ||| y.toNat : Nat) : Int))).ownsRow w2.heap.size 5 1 (.slice (some ⟨gb, 0, none⟩) F.length c7) F.length ((orJ F m (j + 1)).map B8)) := by
              have h := (HOj.out.stored j (B8 (UInt8.ofNat (x.toNat ||| y.toNat)))).1
              rw [hB] at h
              show World.ownsRow _ _ _ _ _ _ _
              rw [HNX.out, List.map_set, hB]
              exact h
            have HBW := Lib.hid (HBj.out.setCell (p := ⟨gb, j, none⟩) hgb (.int .u8 ((x.toNat ||| y.toNat : Nat) : Int)))
            simp only [Option.map_some, B8] at k2
            clear hcm hx hy hz hB HNX
            go_wp2_with fail
            go_region
            generalize HWR : (wr.setCell ⟨gb, j, none⟩ (.int .u8 ((x.toNat ||| y.toNat : Nat) : Int))).drew = wq
            have HO2 : Hid (wq.ownsRow w2.heap.size 5 1 (.slice (some ⟨gb, 0, none⟩) F.length c7) F.length ((orJ F m (j + 1)).map B8)) := by rw [← HWR]; exact HOW.out.drew
            have HB9 : Hid (Below w2.heap.size w2 wq) := by rw [← HWR]; exact HBW.out.drew
            clear HWR HOW HBW hv k2 k3 k1 HOj HBj
            go_wp2_with fail
            exact ⟨⟨j + 1, by omega, by go_num, HO2, HB9⟩, by simp only [intOf]; omega⟩
        · have hcase : ¬ j < m.length ∨ (j < m.length ∧ ¬ j < F.length) := by omega
          clear hj12
          rcases hcase with hj2 | ⟨hj2, hj1⟩
          all_goals
            obtain ⟨wq, rfl⟩ : ∃ wq : World, wq = wr := ⟨_, rfl⟩
            obtain ⟨_, _, hA7, g71, g72, g73, _⟩ := own_rd HOj.out
            injection hA7 with hA7 _ hc7
            subst hA7 hc7
            have HG7 := Lib.hid g73
            have hgl : (orJ F m j).length = F.length := orJ_len F m j
            have HBQ : Hid (Below w.heap.size w wq) := HB2.out.trans (HBj.out.mono HB2.out.size)
            have HRQ : Hid (Rd wq wq.heap.size A2 (F.map B8)) := (HR.out.below HBj.out).more HBj.out.size
            have HHF : Hid (∀ s ∈ l, has F s = true) := fun s hs => by rw [← HF.out]; exact has_make hs
            have HHG : Hid (∀ s ∈ l, has (orJ F m j) s = true) := fun s hs => has_orJ (HHF.out s hs)
            generalize orJ F m j = G at *
            clear HOj HBj g73 HF HR
            go_wp2_with fail
            go_loopw [12] (fun v wr => WRel l wq v wr) (fun v _ => l.length - (intOf v).toNat)
            case atStart => exact ⟨0, Nat.zero_le _, rfl, Lib.hid (Below.refl _ _)⟩
            case round =>
              obtain ⟨i, hi, rfl, HBi⟩ := hrel
              by_cases hlt : i < l.length
              · obtain ⟨b1, o1, rfl, hbb, hcl⟩ := H1.out (by simp; omega)
                have hbw : Below w.heap.size w wr := HBQ.out.trans (HBi.out.mono HBQ.out.size)
                have k1 : wr.cell? ⟨b1, o1 + i, none⟩ = some (.string ⟨(l[i]).toArray⟩) := (hbw.cell (p := ⟨b1, o1 + i, none⟩) hbb).trans (cellS hcl hlt)
                have hsl := HS.out _ (List.getElem_mem hlt)
                have hh1 := HHF.out _ (List.getElem_mem hlt)
                have hh2 := HHG.out _ (List.getElem_mem hlt)
                generalize l[i] = s at *
                have C1 : Hid (Calls Try.prog 10 #[.slice A2 F.length c2, .string ⟨s.toArray⟩] wr fun e w' => e = .returned (.bool true) ∧ Below wr.heap.size wr w') := by
                  have h := P.has_ wr F s A2 c2 ((HRQ.out.below HBi.out).more HBi.out.size) g1 (by unfold maxLen; omega) (by omega) hsl
                  rw [hh1] at h
                  exact h
                have C2 : Hid (∀ wy, Below wq.heap.size wq wy → Calls Try.prog 10 #[.slice A7 F.length c7, .string ⟨s.toArray⟩] wy fun e w' => e = .returned (.bool true) ∧ Below wy.heap.size wy w') := fun wy hy => by
                  have h := P.has_ wy G s A7 c7 ((HG7.out.below hy).more hy.size) (by omega) g72 (by omega) hsl
                  rw [hh2, hgl] at h
                  exact h
                have hbl : b1 < wr.heap.size := Nat.lt_of_lt_of_le hbb hbw.size
                clear hcl hbw hh1 hh2 hsl
                go_wp2_with fail
                refine C1.out.mono ?_
                rintro e wx ⟨rfl, hbx⟩
                have HBX : Hid (Below wq.heap.size wq wx) := below_step HBi.out hbx
                have C3 := Lib.hid (C2.out wx HBX.out)
                have k5 : wx.cell? ⟨b1, o1 + i, none⟩ = some (.string ⟨s.toArray⟩) := (hbx.cell (p := ⟨b1, o1 + i, none⟩) hbl).trans k1
                clear C1 C2 hbx k1 hbl
                go_wp2_with fail
                refine C3.out.mono ?_
                rintro e wy ⟨rfl, hby⟩
                have HBY : Hid (Below wq.heap.size wq wy) := below_step HBX.out hby
                clear C3 hby HBX
                go_wp2_with fail
                go_roundw
                case rel => exact ⟨i + 1, by omega, by go_num, HBY⟩
                case measure => simp [intOf]; omega
              · obtain rfl : i = l.length := by omega
                go_wp2_with fail
                go_ret
                exact ⟨rfl, HBQ.out.trans (HBi.out.mono HBQ.out.size)⟩
end Go.Proofs.Yteaafkadjglnhaa.BlHasW
