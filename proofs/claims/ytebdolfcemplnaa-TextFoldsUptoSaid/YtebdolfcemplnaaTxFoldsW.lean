/- TextFolds, walked over the contracts of text's calls. -/
import Derived.Test.YtebdolfcemplnaaTxLaw
import Derived.Test.YtebdolfcemplnaaUtFold
import Derived.Deep.RegionHeld3
namespace Go.Proofs.Ytebdolfcemplnaa.TxFoldsW
open Go Go.RowKit Words App UtSpec UtOwn UtRange UtFold TxSpec Less TxSame TxOnce TxHas TxAll TxLaw

theorem count_at (s : ByteArray) (w : World) (n : Nat) (hs : s.size ≤ maxLen) (hb : cnt s.data.toList = n) : Calls Try.prog 21 #[.string s] w fun e w' => e = .returned (.int .i64 (n : Int)) ∧ Below w.heap.size w w' := by
  subst hb
  exact count_any s w hs
theorem fold_at (s : ByteArray) (w : World) (F : List UInt8) (hs : s.size ≤ 281474976710656) (hb : fold s.data.toList = F) (hF : F.length + 4 ≤ 140737488355328) : Calls Try.prog 20 #[.string s] w fun e w' => e = .returned (.string ⟨F.toArray⟩) ∧ Below w.heap.size w w' := by
  subst hb
  exact fold_any s w hs hF
theorem word_len {s x : List UInt8} (h : x ∈ words s) : x.length ≤ 128 := by
  obtain ⟨c, rfl, _, _, hs⟩ := words_are s x h
  exact wof_len hs
theorem word_is {s x : List UInt8} (h : x ∈ words s) : words x = [x] ∧ 1 ≤ cnt x ∧ cnt x ≤ 32 := by
  obtain ⟨c, rfl, hn, hw, hs⟩ := words_are s x h
  have h := wof_self hn hw hs
  exact ⟨h.2.2.2.1, h.2.2.2.2⟩
/-- The loop over the words. -/
def FRel (n : Nat) (w0 : World) (vi : Value) (wr : World) : Prop := ∃ k : Nat, k ≤ n ∧ vi = .int .i64 (k : Int) ∧ Hid (Below w0.heap.size w0 wr)

set_option maxHeartbeats 6400000 in
set_option maxRecDepth 100000 in
theorem walk0 (P : Txt) (w : World) (hM : ML w) (s : ByteArray) (hb : s.size ≤ 1048576) (t : ByteArray) (hbt : t.size ≤ 1048576) :
    Calls Try.prog 6 #[.string s, .string t] w fun e w' => e = .returned (.bool true) ∧ Below w.heap.size w w' := by
  obtain ⟨i1, gi, gz0, gz1, gz2⟩ := info_parts info_str
  have HA := Lib.hid (awake_any P w hM)
  clear hM
  have H1 := fun w => Lib.hid (P.words s w (by omega))
  have H2 := fun w => Lib.hid (P.words t w (by omega))
  have e2 : s.data.toList.length = s.size := by simp
  have e3 : t.data.toList.length = t.size := by simp
  have hfl := fold_len s.data.toList
  obtain ⟨F, hF⟩ : ∃ F, fold s.data.toList = F := ⟨_, rfl⟩
  have hwF : words F = words s.data.toList := by rw [← hF]; exact words_fold _
  rw [hF] at hfl
  have hsF : (⟨F.toArray⟩ : ByteArray).size = F.length := size_len F
  have H3 := fun w => Lib.hid (fold_at s w F (by omega) hF (by omega))
  have H4 := fun w => Lib.hid (P.words ⟨F.toArray⟩ w (by omega))
  have hO : (s ++ ⟨#[32]⟩ ++ t).data.toList = s.data.toList ++ 32 :: t.data.toList := by simp
  have hOs : (s ++ ⟨#[32]⟩ ++ t).size ≤ 2097153 := by
    rw [ByteArray.size_append, ByteArray.size_append]
    have z1 : (⟨#[32]⟩ : ByteArray).size = 1 := rfl
    omega
  obtain ⟨O, hOO⟩ : ∃ O, s ++ ⟨#[32]⟩ ++ t = O := ⟨_, rfl⟩
  rw [hOO] at hO hOs
  have hOW : words O.data.toList = words s.data.toList ++ words t.data.toList := by rw [hO]; exact words_mark s.data.toList t.data.toList (x := 32) (by decide) (by decide)
  have H5 := fun w => Lib.hid (P.words O w (by omega))
  have hwl := words_len s.data.toList
  have htl := words_len t.data.toList
  have HWI := Lib.hid (fun x (h : x ∈ words s.data.toList) => word_is h)
  have HWL := Lib.hid (fun x (h : x ∈ words s.data.toList) => word_len h)
  rw [hOW] at H5
  have hF2 : (⟨F.toArray⟩ : ByteArray).data.toList = F := rfl
  simp only [hF2, hwF] at H4
  unfold LPost at *
  rw [e2] at hwl
  rw [e3] at htl
  generalize words s.data.toList = W at *
  generalize words t.data.toList = T at *
  have HS1 := fun w A1 A2 c1 c2 h1 h2 m1 m2 k1 k2 => Lib.hid (same_eq W w A1 A2 c1 c2 W.length W.length w.heap.size w.heap.size rfl rfl h1 h2 m1 m2 k1 k2)
  obtain ⟨WT, hWT⟩ : ∃ WT, W ++ T = WT := ⟨_, rfl⟩
  have HWT := Lib.hid hWT
  have hWl : W.length + T.length = WT.length := by rw [← hWT, List.length_append]
  have HWTL := Lib.hid hWl
  rw [hWT] at H5
  have HS2 := fun w A1 A2 c1 c2 h1 h2 m1 m2 k1 k2 => Lib.hid (same_eq WT w A1 A2 c1 c2 WT.length (W.length + T.length) w.heap.size w.heap.size rfl hWl h1 h2 m1 m2 k1 k2)
  clear hWT hWl
  clear e2 e3 hF hwF hfl hsF hO hOs hOW hF2
  go_enter Try.func6, Try.ntmps6
  go_wp2_with fail
  refine HA.out.mono ?_
  rintro e w1 ⟨rfl, hb1⟩
  have HB1 := Lib.hid hb1
  clear hb1 HA
  go_wp2_with fail
  refine (H1 w1).out.mono ?_
  rintro e w2 ⟨A2, c2, rfl, hc2, hm2, hr2, hb2⟩
  have HB2 := Lib.hid (below_step HB1.out hb2)
  have HR2 := Lib.hid hr2
  have HC2 := Lib.hid (And.intro hc2 hm2)
  clear hb2 hr2 hm2 H1
  go_wp2_with fail
  refine (H3 w2).out.mono ?_
  rintro e w3 ⟨rfl, hb3⟩
  have HB3 := Lib.hid (below_step HB2.out hb3)
  have HR23 := Lib.hid (rd_keep HR2.out hb3)
  clear hb3 HR2 H3
  go_wp2_with fail
  refine (H4 w3).out.mono ?_
  rintro e w4 ⟨A4, c4, rfl, hc4, hm4, hr4, hb4⟩
  have HB4 := Lib.hid (below_step HB3.out hb4)
  have HR24 := Lib.hid (rd_keep HR23.out hb4)
  have T1 := Lib.hid (HS1 w4 A4 A2 c4 c2 hr4 HR24.out hc4 HC2.out.1 hm4 HC2.out.2).out
  clear hb4 hr4 hc4 hm4 HR23 H4 HS1
  go_wp2_with fail
  refine T1.out.mono ?_
  rintro e w5 ⟨rfl, hb5⟩
  have HB5 := Lib.hid (below_step HB4.out hb5)
  have HR25 := Lib.hid (rd_keep HR24.out hb5)
  have hm2 := HC2.out.2
  unfold maxLen at hm2
  clear hb5 HR24 T1
  go_wp2
  go_loopw [6] (fun vi wr => FRel W.length w5 vi wr) (fun vi _ => W.length - (intOf vi).toNat)
  case atStart => exact ⟨0, Nat.zero_le _, rfl, Lib.hid (Below.refl _ _)⟩
  case round =>
    obtain ⟨k, hk, rfl, HB6⟩ := hrel
    by_cases hlt : k < W.length
    · obtain ⟨b, off, rfl, hbb, hcell⟩ := HR25.out (by simp; omega)
      have hck := cellS hcell hlt
      obtain ⟨x, hx⟩ : ∃ x, W[k] = x := ⟨_, rfl⟩
      rw [hx] at hck
      have hmem : x ∈ W := by rw [← hx]; exact List.getElem_mem hlt
      obtain ⟨wx, cx1, cx2⟩ := HWI.out x hmem
      have hxl := HWL.out x hmem
      have hxs : (⟨x.toArray⟩ : ByteArray).size = x.length := size_len x
      obtain ⟨n, hn⟩ : ∃ n, cnt x = n := ⟨_, rfl⟩
      rw [hn] at cx1 cx2
      have HCE : Hid (∀ w', Below w5.heap.size w5 w' → w'.cell? ⟨b, off + k, none⟩ = some (.string ⟨x.toArray⟩)) := Lib.hid (fun w' h => (h.cell (p := ⟨b, off + k, none⟩) hbb).trans hck)
      have hR1 : ∀ w', Below w5.heap.size w5 w' → Rd w' w'.heap.size (some ⟨b, off + k, none⟩) ([x].map S8) := fun w' h _ =>
        ⟨b, off + k, rfl, by have := h.size; omega, fun j u hu => by
          match j, hu with
          | 0, hu =>
            simp at hu
            subst hu
            exact HCE.out w' h⟩
      have GC : ∀ w', Hid (Below w5.heap.size w5 w') → Hid (Calls Try.prog 21 #[.string ⟨x.toArray⟩] w' fun e w'' => e = .returned (.int .i64 (n : Int)) ∧ Hid (Below w5.heap.size w5 w'') ∧ w''.cell? ⟨b, off + k, none⟩ = some (.string ⟨x.toArray⟩)) := fun w' g => Lib.hid ((count_at ⟨x.toArray⟩ w' n (by unfold maxLen; omega) hn).mono fun e w'' ⟨he, h2⟩ => ⟨he, Lib.hid (below_step g.out h2), HCE.out _ (below_step g.out h2)⟩)
      have GW : ∀ w', Hid (Below w5.heap.size w5 w') → Hid (Calls Try.prog 11 #[.string ⟨x.toArray⟩] w' fun e w'' => ∃ A c, e = .returned (.slice A 1 c) ∧ Hid (1 ≤ c ∧ c ≤ maxLen ∧ Rd w'' w''.heap.size A ([x].map S8)) ∧ Hid (Below w5.heap.size w5 w'') ∧ w''.cell? ⟨b, off + k, none⟩ = some (.string ⟨x.toArray⟩)) := fun w' g => Lib.hid (by
        have h := P.words ⟨x.toArray⟩ w' (by omega)
        rw [show (⟨x.toArray⟩ : ByteArray).data.toList = x from rfl, wx] at h
        exact h.mono fun e w'' ⟨A, c, he, h1, h2, h3, h4⟩ => ⟨A, c, he, Lib.hid ⟨h1, h2, h3⟩, Lib.hid (below_step g.out h4), HCE.out _ (below_step g.out h4)⟩)
      have GS : ∀ w' A c, Hid (Below w5.heap.size w5 w') → Hid (1 ≤ c ∧ c ≤ maxLen ∧ Rd w' w'.heap.size A ([x].map S8)) → Hid (Calls Try.prog 10 #[.slice A 1 c, .slice (some ⟨b, off + k, none⟩) 1 (c2 - k)] w' fun e w'' => e = .returned (.bool true) ∧ Hid (Below w5.heap.size w5 w'') ∧ w''.cell? ⟨b, off + k, none⟩ = some (.string ⟨x.toArray⟩)) := fun w' A c g h => Lib.hid
        ((same_eq [x] w' A (some ⟨b, off + k, none⟩) c (c2 - k) 1 1 _ _ rfl rfl h.out.2.2 (hR1 w' g.out) h.out.1 (by simp; omega) h.out.2.1 (by unfold maxLen; omega)).mono fun e w'' ⟨he, h2⟩ => ⟨he, Lib.hid (below_step g.out h2), HCE.out _ (below_step g.out h2)⟩)
      have G0 : Hid (Below w5.heap.size w5 wr.drew) := Lib.hid (HB6.out.trans ⟨rfl, rfl, rfl, Nat.le_refl _, fun _ _ => rfl⟩)
      have kc := HCE.out wr.drew G0.out
      have d1 : decide (32 < (n : Int)) = false := by simp; omega
      have d2 : decide ((n : Int) < 1) = false := by simp; omega
      have hki : 0 ≤ (k : Int) := by omega
      have hkl : (k : Int) < (W.length : Int) := by omega
      have hk1 : 0 ≤ (k : Int) + 1 := by omega
      have hk2 : (k : Int) ≤ (k : Int) + 1 := by omega
      have hk3 : (k : Int) + 1 ≤ (c2 : Int) := by omega
      have hk4 : IntKind.i64.wrap ((k : Int) + 1) = (k : Int) + 1 := IntWalk.i64_in _ (by omega)
      have hk5 : ((k : Int) + 1).toNat = k + 1 := by omega
      have hcq : ¬ c2 = k := by omega
      clear hcell hck hx hmem wx hxl hxs hn hR1 HCE
      go_wp2
      go_region_held3 (fun w' => Hid (Below w5.heap.size w5 w') ∧ w'.cell? ⟨b, off + k, none⟩ = some (.string ⟨x.toArray⟩)) (first | assumption | go_keep) (first
        | (go_at_call 21; ((with_reducible refine (GC _ (by assumption)).out.mono ?_); rintro e w' ⟨rfl, g', x1⟩))
        | (go_at_call 11; ((with_reducible refine (GW _ (by assumption)).out.mono ?_); rintro e w' ⟨A9, c9, rfl, HRW, g', x1⟩))
        | (go_at_call 10; ((with_reducible refine (GS _ _ _ (by assumption) HRW).out.mono ?_); rintro e w' ⟨rfl, g', x1⟩)))
      all_goals
        go_wp2
        go_roundw
        case rel => exact ⟨k + 1, by omega, by go_num, ‹_›⟩
        case measure => simp [intOf]; omega
    · have hkn : k = W.length := by omega
      have HRL := Lib.hid (rd_keep HR25.out HB6.out)
      have hmS : (W.map S8).length = W.length := List.length_map _
      have hmT : (T.map S8).length = T.length := List.length_map _
      have HMS := Lib.hid hmS
      have HMT := Lib.hid hmT
      have FO1 := Lib.hid (oneS W)
      have FO2 := Lib.hid (oneS T)
      have g1 : 0 + W.length ≤ maxLen := by unfold maxLen; omega
      have g2 : (0 + W.length) * 16 ≤ 140737488355328 := by omega
      have g3 : W.length + T.length ≤ maxLen := by unfold maxLen; omega
      have g4 : (W.length + T.length) * 16 ≤ 140737488355328 := by omega
      have HBS : Hid (w.heap.size ≤ wr.heap.size) := Lib.hid (Nat.le_trans HB5.out.size HB6.out.size)
      have HBZ := Lib.hid (HB5.out.trans (HB6.out.mono HB5.out.size))
      clear hkn hmS hmT HR25 HB5 HB6
      go_wp2_with (at_builtin; refine wpList_append_rd _ rfl (.tmp 52) (.tmp 53) 23 rfl wr.heap.size 9 i1 (.string ByteArray.empty) 16 Try.underlying23 gi gz0 gz1 gz2 rfl (.slice none 0 0) 0 [] rfl (World.ownsRow_nil ..) wr.heap.size A2 W.length c2 (W.map S8) rfl HMS.out HRL.out FO1.out g1 g2 (Nat.le_refl _) ?_)
      intro v7 w7 hown7 hg7 _
      have HO7 := Lib.hid hown7
      have HB7 := Lib.hid (HBZ.out.grown hg7 HBZ.out.size (fun g h => by cases h))
      have hs7 : wr.heap.size ≤ w7.heap.size := hg7.size
      clear hown7 hg7 HRL HBZ
      go_wp2_with fail
      refine (H2 w7).out.mono ?_
      rintro e w8 ⟨A8, c8, rfl, hc8, hm8, hr8, hb8⟩
      have HB8 := Lib.hid (below_step HB7.out hb8)
      have HO8 := Lib.hid (own_keep HO7.out hb8)
      have HR8 := Lib.hid hr8
      have hs8 : wr.heap.size ≤ w8.heap.size := Nat.le_trans hs7 hb8.size
      clear hb8 hr8 hc8 hm8 H2 HO7
      go_wp2_with (at_builtin; refine wpList_append_rd _ rfl (.tmp 55) (.tmp 57) 23 rfl wr.heap.size 9 i1 (.string ByteArray.empty) 16 Try.underlying23 gi gz0 gz1 gz2 rfl _ _ _ rfl HO8.out w8.heap.size A8 T.length c8 (T.map S8) rfl HMT.out HR8.out FO2.out g3 g4 hs8 ?_)
      intro v9 w9 hown9 hg9 _
      have HB9 := Lib.hid (HB8.out.grown hg9 HB8.out.size (fun g h => by have := own_lt HO8.out g h; have := HBS.out; omega))
      obtain ⟨A9, c9, rfl, h91, h92, _⟩ := own_slice hown9
      have HR9 : Hid (Rd w9 w9.heap.size A9 (WT.map S8)) := Lib.hid (by rw [← HWT.out, List.map_append]; exact Rd.of_own hown9)
      have HC9 := Lib.hid (And.intro h91 h92)
      clear hown9 hg9 h91 h92 HO8 HR8
      go_wp2_with fail
      refine (H5 w9).out.mono ?_
      rintro e w10 ⟨A10, c10, rfl, hc10, hm10, hr10, hb10⟩
      have HB10 := Lib.hid (below_step HB9.out hb10)
      have T2 := Lib.hid (HS2 w10 A10 A9 c10 c9 hr10 (rd_keep HR9.out hb10) hc10 (by rw [← HWTL.out]; exact HC9.out.1) hm10 HC9.out.2).out
      clear hb10 hr10 hc10 hm10 HR9 HS2 H5
      go_wp2_with fail
      refine T2.out.mono ?_
      rintro e w11 ⟨rfl, hb11⟩
      have HB11 := Lib.hid (below_step HB10.out hb11)
      clear hb11 T2
      go_wp2
      go_ret
      exact ⟨rfl, HB11.out⟩
end Go.Proofs.Ytebdolfcemplnaa.TxFoldsW
