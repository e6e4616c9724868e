/- TextLays, walked over the contracts of text's calls. -/
import Derived.Test.YtebdolfcemplnaaTxJoin
namespace Go.Proofs.Ytebdolfcemplnaa.TxLaysW
open Go Go.RowKit Words App UtSpec UtOwn TxSpec Less TxSame TxOnce TxHas TxAll TxLaw TxJoin

theorem word_len {s x : List UInt8} (h : x ∈ words s) : x.length ≤ 128 := by
  obtain ⟨c, rfl, _, _, hs⟩ := words_are s x h
  exact wof_len hs
/-- The loop that lays the words: k are laid. -/
def JRel (M : List UInt8) (W : List (List UInt8)) (vt vi : Value) : Prop := ∃ (k : Nat) (T : ByteArray), k ≤ W.length ∧ vi = .int .i64 (k : Int) ∧ vt = .string T ∧ Hid (T = ⟨(jn M (W.take k)).toArray⟩) ∧ T.size ≤ 200000000
/-- The loop that takes the inner ones. -/
def NRel (W : List (List UInt8)) (w0 w : World) (vn vi : Value) (wr : World) : Prop := ∃ k : Nat, 1 ≤ k ∧ (k = 1 ∨ k + 1 ≤ W.length) ∧ vi = .int .i64 (k : Int) ∧ wr.ownsRow w0.heap.size 9 1 vn (k - 1) (((W.drop 1).take (k - 1)).map S8) ∧ Hid (Below w0.heap.size w0 wr) ∧ Hid (w.heap.size ≤ w0.heap.size)
theorem own_next {w : World} {base k nn : Nat} {v : Value} {W : List (List UInt8)} {L : List Value} {x : List UInt8} (hk : 1 ≤ k) (hl : k < W.length) (hx : W[k] = x) (hn : k - 1 = nn) (hL : ((W.drop 1).take (k - 1)).map S8 = L) (h : w.ownsRow base 9 1 v (nn + 1) (L ++ [.string ⟨x.toArray⟩])) :
    w.ownsRow base 9 1 v (k + 1 - 1) (((W.drop 1).take (k + 1 - 1)).map S8) := by
  subst hn
  subst hL
  have e : (W.drop 1).take (k + 1 - 1) = (W.drop 1).take (k - 1) ++ [x] := by
    obtain ⟨j, rfl⟩ : ∃ j, k = j + 1 := ⟨k - 1, by omega⟩
    rw [show j + 1 + 1 - 1 = j + 1 by omega, show j + 1 - 1 = j by omega, List.take_succ_eq_append_getElem (by rw [List.length_drop]; omega), List.getElem_drop]
    simp only [Nat.add_comm 1 j, hx]
  rw [e, List.map_append, show k + 1 - 1 = k - 1 + 1 by omega]
  exact h

set_option maxHeartbeats 6400000 in
set_option maxRecDepth 100000 in
theorem walk1 (P : Txt) (w : World) (hML : ML w) (s : ByteArray) (hb : s.size ≤ 1048576) (X q : Int) (hq : X % 4 = q) (hX0 : 0 ≤ X) (hX1 : X ≤ 255) (m : List Nat) (M : List UInt8) (hM : M = encs m) (hMl : M.length ≤ 3) (hm : ∀ x ∈ m, wd x = false) (hmn : m ≠ []) (hms : ∀ x ∈ m, sc x)
    (hidx : ∀ w, (Instr.index 36 (.agg #[.string { data := #[32] }, .string { data := #[45] }, .string { data := #[47, 32] }, .string { data := #[226, 128, 148] }]) (.int .u8 q)).run Try.prog w = .ok (.string ⟨M.toArray⟩) w) :
    Calls Try.prog 7 #[.string s, .int .u8 X] w fun e w' => e = .returned (.bool true) ∧ Below w.heap.size w w' := by
  obtain ⟨i1, gi, gz0, gz1, gz2⟩ := info_parts info_str
  have HA := Lib.hid (awake_any P w hML)
  clear hML
  have H1 := fun w => Lib.hid (P.words s w (by omega))
  have e2 : s.data.toList.length = s.size := by simp
  have hwl := words_len s.data.toList
  rw [e2] at hwl
  obtain ⟨l1, l2⟩ := words_laid (s := s.data.toList) hm hmn hms
  rw [← hM] at l1 l2
  have HWL := Lib.hid (fun x (h : x ∈ words s.data.toList) => word_len h)
  unfold LPost at H1
  generalize words s.data.toList = W at *
  have HJL : Hid (∀ k, (jn M (W.take k)).length ≤ 137364000) := Lib.hid (fun k => by
    have h := jn_len (m := M) (B := 128) hMl (ws := W.take k) (fun x hx => HWL.out x (List.mem_of_mem_take hx))
    have h2 : (W.take k).length ≤ W.length := List.length_take_le' _ _
    have h3 := Nat.mul_le_mul_right 131 (show (W.take k).length ≤ 1048577 by omega)
    omega)
  have HSN := Lib.hid (fun k (h : k < W.length) => by
    have h9 := jn_snoc M W[k] (W.take k)
    rw [← List.take_succ_eq_append_getElem h] at h9
    exact h9)
  have hJs : (⟨(jn M W).toArray⟩ : ByteArray).size ≤ 1073741824 := by
    rw [size_len]
    have h := HJL.out W.length
    rw [List.take_length] at h
    omega
  have J1 := fun w => Lib.hid (P.words ⟨(jn M W).toArray⟩ w hJs)
  have J2 := fun w => Lib.hid (P.set ⟨(jn M W).toArray⟩ w hJs)
  have J3 := fun w => Lib.hid (P.inner ⟨(jn M W).toArray⟩ w hJs)
  have hJd : (⟨(jn M W).toArray⟩ : ByteArray).data.toList = jn M W := rfl
  simp only [hJd, l1, l2] at J1 J2 J3
  unfold LPost at J1 J2 J3
  obtain ⟨D, hD⟩ : ∃ D, (W.drop 1).dropLast = D := ⟨_, rfl⟩
  rw [hD] at J3
  have hDl : D.length ≤ W.length := by rw [← hD, List.length_dropLast, List.length_drop]; omega
  have HS1 := fun w A1 A2 c1 c2 h1 h2 m1 m2 k1 k2 => Lib.hid (same_eq W w A1 A2 c1 c2 W.length W.length w.heap.size w.heap.size rfl rfl h1 h2 m1 m2 k1 k2)
  have HS2 := fun w A1 A2 c1 c2 h1 h2 m1 m2 k1 k2 => Lib.hid (same_eq (once D) w A1 A2 c1 c2 (once D).length (once D).length w.heap.size w.heap.size rfl rfl h1 h2 m1 m2 k1 k2)
  have HS3 := fun w A1 A2 c1 c2 h1 h2 m1 m2 k1 k2 => Lib.hid (same_eq (once W) w A1 A2 c1 c2 (once W).length (once W).length w.heap.size w.heap.size rfl rfl h1 h2 m1 m2 k1 k2)
  have HO1 := fun w A n c hn h1 hm hc => Lib.hid (once_l D w A n c hn h1 hm hc (by omega))
  have HO2 := fun w A n c hn h1 hm hc => Lib.hid (once_l W w A n c hn h1 hm hc (by omega))
  unfold LPost at HO1 HO2
  have HD := Lib.hid hD
  have HMl := Lib.hid hMl
  have hMs : (⟨M.toArray⟩ : ByteArray).size ≤ 3 := by rw [size_len]; exact hMl
  obtain ⟨JB, hJB⟩ : ∃ JB : ByteArray, ⟨(jn M W).toArray⟩ = JB := ⟨_, rfl⟩
  rw [hJB] at J1 J2 J3
  have HJB := Lib.hid hJB
  obtain ⟨MB, hMB⟩ : ∃ MB : ByteArray, ⟨M.toArray⟩ = MB := ⟨_, rfl⟩
  rw [hMB] at hidx hMs
  have HMB := Lib.hid hMB
  clear e2 hM hMl hm hmn hms l1 l2 hJs hJd hD hJB hMB
  generalize once D = OD at *
  generalize once W = OW at *
  go_enter Try.func7, Try.ntmps7
  go_wp2_with fail
  refine HA.out.mono ?_
  rintro e w1 ⟨rfl, hb1⟩
  have HB1 := Lib.hid hb1
  clear hb1 HA
  go_wp2_with fail
  refine (H1 w1).out.mono ?_
  rintro e w2 ⟨A2, c2, rfl, hc2, hm2, hr2, hb2⟩
  have HB2 := Lib.hid (below_step HB1.out hb2)
  have HR2 := Lib.hid hr2
  have HC2 := Lib.hid (And.intro hc2 hm2)
  unfold maxLen at hm2
  clear hb2 hr2 H1
  go_wp2
  go_loop [7, 8] (fun vt vi => JRel M W vt vi) (fun _ vi => W.length - (intOf vi).toNat)
  case atStart => exact ⟨0, ByteArray.empty, Nat.zero_le _, rfl, rfl, Lib.hid rfl, by decide⟩
  case round =>
    obtain ⟨k, T, hk, rfl, rfl, HT, hTs⟩ := hrel
    by_cases hlt : k < W.length
    · obtain ⟨b, off, rfl, _, hcell⟩ := HR2.out (by simp; omega)
      have hck := cellS hcell hlt
      have hsn := HSN.out k hlt
      have hjl := HJL.out (k + 1)
      have hxl := HWL.out W[k] (List.getElem_mem hlt)
      have hxs := size_len W[k]
      generalize W[k] = x at *
      obtain ⟨XB, hXB⟩ : ∃ XB : ByteArray, ⟨x.toArray⟩ = XB := ⟨_, rfl⟩
      rcases Nat.eq_zero_or_pos k with rfl | hk0
      · have HT2 : Hid (T ++ XB = ⟨(jn M (W.take (0 + 1))).toArray⟩) := Lib.hid (by
          rw [hsn, HT.out, ← hXB, if_pos (by simp)]
          apply ByteArray.ext
          simp [jn])
        rw [hXB] at hck hxs
        have hTs2 : (T ++ XB).size ≤ 200000000 := by rw [HT2.out, size_len]; omega
        have hd0 : decide ((0 : Int) < ((0 : Nat) : Int)) = false := by decide
        rw [Nat.add_zero] at hck
        clear hcell hsn hXB HT
        go_wp2
        go_round
        case rel => exact ⟨0 + 1, T ++ XB, by omega, by go_num, rfl, HT2, hTs2⟩
        case measure => simp [intOf]; omega
      · have HT2 : Hid (T ++ MB ++ XB = ⟨(jn M (W.take (k + 1))).toArray⟩) := Lib.hid (by
          have hne : W.take k ≠ [] := by
            intro h
            have := congrArg List.length h
            rw [List.length_take, List.length_nil] at this
            omega
          rw [hsn, HT.out, ← hXB, ← HMB.out, if_neg hne]
          apply ByteArray.ext
          simp)
        rw [hXB] at hck hxs
        have hTs2 : (T ++ MB ++ XB).size ≤ 200000000 := by rw [HT2.out, size_len]; omega
        have hTM : (T ++ MB).size ≤ 200000003 := by rw [ByteArray.size_append]; omega
        have hd0 : decide ((0 : Int) < (k : Int)) = true := by simp; omega
        clear hcell hsn hXB HT
        go_wp2
        go_round
        case rel => exact ⟨k + 1, T ++ MB ++ XB, by omega, by go_num, rfl, HT2, hTs2⟩
        case measure => simp [intOf]; omega
    · have hkn : k = W.length := by omega
      have hTJ : T = JB := by
        have h := HT.out
        rw [hkn, List.take_length, HJB.out] at h
        exact h
      subst hTJ
      clear hkn HT HSN HJL HJB
      go_wp2_with fail
      refine (J1 w2).out.mono ?_
      rintro e w3 ⟨A3, c3, rfl, hc3, hm3, hr3, hb3⟩
      have HB3 := Lib.hid (below_step HB2.out hb3)
      have HR23 := Lib.hid (rd_keep HR2.out hb3)
      have T1 := Lib.hid (HS1 w3 A3 A2 c3 c2 hr3 HR23.out hc3 HC2.out.1 hm3 HC2.out.2).out
      clear hb3 hr3 hc3 hm3 HR2 J1 HS1
      go_wp2_with fail
      refine T1.out.mono ?_
      rintro e w4 ⟨rfl, hb4⟩
      have HB4 := Lib.hid (below_step HB3.out hb4)
      have HR24 := Lib.hid (rd_keep HR23.out hb4)
      have HZ4 := Lib.hid HB4.out.size
      clear hb4 HR23 T1
      go_wp2
      go_loopw [9, 10] (fun vn vi wr => NRel W w4 w vn vi wr) (fun _ vi _ => W.length - (intOf vi).toNat)
      case atStart => exact ⟨1, Nat.le_refl _, .inl rfl, rfl, World.ownsRow_nil .., Lib.hid (Below.refl _ _), HZ4⟩
      case round =>
        obtain ⟨j, hj1, hj2, rfl, hown, HB5, _⟩ := hrel
        by_cases hjl : j + 1 < W.length
        · obtain ⟨b, off, rfl, hbb, hcell⟩ := HR24.out (by simp; omega)
          have hjl' : j < W.length := by omega
          obtain ⟨x, hx⟩ : ∃ x, W[j] = x := ⟨_, rfl⟩
          have hck : wr.cell? ⟨b, off + j, none⟩ = some (.string ⟨x.toArray⟩) := by
            rw [HB5.out.cell (p := ⟨b, off + j, none⟩) hbb, cellS hcell hjl', hx]
          obtain ⟨nn, hnn⟩ : ∃ nn, j - 1 = nn := ⟨_, rfl⟩
          obtain ⟨L, hL⟩ : ∃ L, ((W.drop 1).take (j - 1)).map S8 = L := ⟨_, rfl⟩
          have HON := fun (w3 : World) v3 => Lib.hid (own_next (w := w3) (base := w4.heap.size) (v := v3) hj1 hjl' hx hnn hL)
          rw [hL, hnn] at hown
          have HO := Lib.hid hown
          have FX1 : Hid (∀ u ∈ [Value.string ⟨x.toArray⟩], u.oneCell' = true) := Lib.hid (by intro u hu; simp at hu; subst hu; rfl)
          have HM := Lib.hid (Rd.made wr #[.string ⟨x.toArray⟩] 9)
          have g2 : nn + 1 ≤ maxLen := by unfold maxLen; omega
          have g3 : (nn + 1) * 16 ≤ 140737488355328 := by omega
          have g4 : w4.heap.size ≤ (wr.alloc (.cells #[.string ⟨x.toArray⟩] 9)).heap.size := by have := HB5.out.size; simp; omega
          clear hcell hx hown hnn hL
          go_wp2_with (at_builtin; refine wpList_append_rd _ rfl (.tmp 49) (.tmp 54) 23 rfl w4.heap.size 9 i1 (.string ByteArray.empty) 16 Try.underlying23 gi gz0 gz1 gz2 rfl _ _ _ rfl (HO.out.alloc _) (wr.heap.size + 1) (some ⟨wr.heap.size, 0, none⟩) 1 1 [.string ⟨x.toArray⟩] rfl rfl HM.out FX1.out g2 g3 g4 ?_)
          intro v6 w6 hown6 hg6 _
          have HO6 := Lib.hid ((HON w6 v6).out hown6)
          have HB6 := Lib.hid (below_appw HO.out HB5.out hg6)
          clear hown6 hg6 HON HM
          go_wp2
          go_roundw
          case rel => exact ⟨j + 1, by omega, .inr (by omega), by go_num, HO6.out, HB6, HZ4⟩
          case measure => simp [intOf]; omega
        · have hDj : (W.drop 1).take (j - 1) = D := by
            rw [← HD.out, List.dropLast_eq_take, List.length_drop]
            rcases hj2 with rfl | hj2
            · rw [show W.length - 1 - 1 = 0 by omega]
            · rw [show W.length - 1 - 1 = j - 1 by omega]
          have hDn : j - 1 = D.length := by
            rw [← hDj, List.length_take, List.length_drop]
            omega
          rw [hDj] at hown
          obtain ⟨A5, c5, rfl, h51, h52, _⟩ := own_slice hown
          have hrd := Rd.of_own hown
          have T2 := Lib.hid (HO1 wr A5 (j - 1) c5 hDn hrd (by omega) h52).out
          have HBW := Lib.hid (HB4.out.trans (HB5.out.mono HZ4.out))
          have HR25 := Lib.hid (rd_keep HR24.out HB5.out)
          clear hDj hDn hown hrd h51 h52 HR24 HO1 HD HB4
          go_wp2_with fail
          refine T2.out.mono ?_
          rintro e w6 ⟨A6, c6, rfl, hc6, hm6, hr6, hb6⟩
          have HB6 := Lib.hid (below_step HBW.out hb6)
          have HR26 := Lib.hid (rd_keep HR25.out hb6)
          have HR6 := Lib.hid hr6
          have HC6 := Lib.hid (And.intro hc6 hm6)
          clear hb6 hr6 hc6 hm6 HR25 T2 HB5
          go_wp2_with fail
          refine (J3 w6).out.mono ?_
          rintro e w7 ⟨A7, c7, rfl, hc7, hm7, hr7, hb7⟩
          have HB7 := Lib.hid (below_step HB6.out hb7)
          have HR27 := Lib.hid (rd_keep HR26.out hb7)
          have T3 := Lib.hid (HS2 w7 A7 A6 c7 c6 hr7 (rd_keep HR6.out hb7) hc7 HC6.out.1 hm7 HC6.out.2).out
          clear hb7 hr7 hc7 hm7 HR26 HR6 HS2 J3
          go_wp2_with fail
          refine T3.out.mono ?_
          rintro e w8 ⟨rfl, hb8⟩
          have HB8 := Lib.hid (below_step HB7.out hb8)
          have HR28 := Lib.hid (rd_keep HR27.out hb8)
          clear hb8 T3 HR27
          go_wp2_with fail
          refine (J2 w8).out.mono ?_
          rintro e w9 ⟨A9, c9, rfl, hc9, hm9, hr9, hb9⟩
          have HB9 := Lib.hid (below_step HB8.out hb9)
          have HR29 := Lib.hid (rd_keep HR28.out hb9)
          have HR9 := Lib.hid hr9
          have HC9 := Lib.hid (And.intro hc9 hm9)
          have T4 := Lib.hid (HO2 w9 A2 W.length c2 rfl HR29.out HC2.out.1 HC2.out.2).out
          clear hb9 hr9 hc9 hm9 HR28 J2 HO2
          go_wp2_with fail
          refine T4.out.mono ?_
          rintro e w10 ⟨A10, c10, rfl, hc10, hm10, hr10, hb10⟩
          have HB10 := Lib.hid (below_step HB9.out hb10)
          have T5 := Lib.hid (HS3 w10 A9 A10 c9 c10 (rd_keep HR9.out hb10) hr10 HC9.out.1 hc10 HC9.out.2 hm10).out
          clear hb10 hr10 hc10 hm10 HR9 HS3 T4
          go_wp2_with fail
          refine T5.out.mono ?_
          rintro e w11 ⟨rfl, hb11⟩
          have HB11 := Lib.hid (below_step HB10.out hb11)
          clear hb11 T5
          go_wp2
          go_ret
          exact ⟨rfl, HB11.out⟩

theorem walk0 (P : Txt) (w : World) (hML : ML w) (s : ByteArray) (hb : s.size ≤ 1048576) (X : Int) (hX0 : 0 ≤ X) (hX1 : X ≤ 255) :
    Calls Try.prog 7 #[.string s, .int .u8 X] w fun e w' => e = .returned (.bool true) ∧ Below w.heap.size w w' := by
  have h : X % 4 = 0 ∨ X % 4 = 1 ∨ X % 4 = 2 ∨ X % 4 = 3 := by omega
  rcases h with h | h | h | h
  · exact walk1 P w hML s hb X 0 h hX0 hX1 [32] [32] (by decide) (by decide) (by decide) (by decide) (by intro x hx; simp at hx; subst hx; exact .inl (by decide)) (fun _ => by kernel_rfl)
  · exact walk1 P w hML s hb X 1 h hX0 hX1 [45] [45] (by decide) (by decide) (by decide) (by decide) (by intro x hx; simp at hx; subst hx; exact .inl (by decide)) (fun _ => by kernel_rfl)
  · exact walk1 P w hML s hb X 2 h hX0 hX1 [47, 32] [47, 32] (by decide) (by decide) (by decide) (by decide) (by intro x hx; simp at hx; rcases hx with rfl | rfl <;> exact .inl (by decide)) (fun _ => by kernel_rfl)
  · exact walk1 P w hML s hb X 3 h hX0 hX1 [8212] [226, 128, 148] (by decide) (by decide) (by decide) (by decide) (by intro x hx; simp at hx; subst hx; exact .inl (by decide)) (fun _ => by kernel_rfl)
end Go.Proofs.Ytebdolfcemplnaa.TxLaysW
