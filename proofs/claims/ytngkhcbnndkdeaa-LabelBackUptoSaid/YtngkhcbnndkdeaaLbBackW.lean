/- LabelBack, walked over the contracts of label's calls. -/
import Derived.Test.YtngkhcbnndkdeaaLbLaw
import Derived.Test.YtngkhcbnndkdeaaLbOpen
namespace Go.Proofs.Ytngkhcbnndkdeaa.LbBackW
open Go Go.RowKit Words AppN UtSpec Less LbSpec LbText LbMem LbRef LbCmp LbCanon LbWrite LbLaw LbOpen UtOwn

theorem place_of (x : Int) (n : Nat) : ∃ k : Nat, (IntKind.u64.wrap x).tmod ((n : Int) + 1) = (k : Int) ∧ k ≤ n := by
  rw [IntKind.wrap_u64]
  have h0 : 0 ≤ x % 18446744073709551616 := Int.emod_nonneg _ (by omega)
  generalize x % 18446744073709551616 = y at *
  rw [Int.tmod_eq_emod_of_nonneg h0]
  have h1 := Int.emod_nonneg y (show (n : Int) + 1 ≠ 0 by omega)
  have h2 := Int.emod_lt_of_pos y (show (0 : Int) < (n : Int) + 1 by omega)
  exact ⟨(y % ((n : Int) + 1)).toNat, by omega, by omega⟩
theorem nameOk_len {n : List UInt8} (h : nameOk n = true) : n.length ≤ 32 := ((name_iff n).1 h).2.1
theorem lerr_len {x : Lab} (h : lerr x = 0) : x.1.length ≤ 32 ∧ x.2.length ≤ 256 := by
  refine ⟨nameOk_len (lerr_name h), ?_⟩
  unfold lerr at h
  rw [if_pos (lerr_name h)] at h
  split at h
  · cases h
  · omega
theorem esc_two (v : List UInt8) : (esc v).length ≤ 2 * v.length := by
  induction v with
  | nil => simp [esc]
  | cons c v ih =>
    rw [esc_cons, List.length_append, List.length_cons]
    have : (esc1 c).length ≤ 2 := by
      unfold esc1
      split
      · simp
      · split <;> simp
    omega
theorem one_two (x : Lab) : (one x).length ≤ x.1.length + 2 * x.2.length + 3 := by
  have := esc_two x.2
  unfold one
  simp
  omega
theorem body_two (l : List Lab) : (body l).length ≤ 2 * total l + 4 * l.length := by
  induction l with
  | nil => simp [body]
  | cons x l ih =>
    have h1 := one_two x
    unfold total at ih ⊢
    rw [body, List.length_append, List.length_cons, List.map_cons, List.sum_cons]
    by_cases e : l = []
    · subst e
      simp
      omega
    · rw [if_neg e, List.length_cons]
      omega
theorem total_may (l : List Lab) (h : ∀ x ∈ l, x.1.length ≤ 32 ∧ x.2.length ≤ 256) : total l ≤ 288 * l.length := by
  unfold total
  induction l with
  | nil => simp
  | cons x l ih =>
    have := h x (by simp)
    have := ih (fun y hy => h y (by simp [hy]))
    rw [List.map_cons, List.sum_cons, List.length_cons]
    omega
theorem write_may {l : List Lab} (h : May l) : (write l).length ≤ 16000 := by
  have h1 := body_two l
  have h2 := total_may l (fun x hx => lerr_len (h.each x hx))
  have h3 := h.few
  rw [write_len]
  omega
theorem own_n {w : World} {base n n' z : Nat} {e : TypeId} {v : Value} {xs : List Value} (h : w.ownsRow base e z v n xs) (hn : n = n') : w.ownsRow base e z v n' xs := hn ▸ h
theorem size_of (s : ByteArray) : s = ⟨s.data.toList.toArray⟩ := by simp
theorem rot_perm (l : List Lab) (k : Nat) : (l.drop k ++ l.take k).Perm l := by
  have h := List.perm_append_comm (l₁ := l.drop k) (l₂ := l.take k)
  rwa [List.take_append_drop] at h

/-- What is written of a canonical list is read as it. -/
theorem read_q (P : Lbl) (w : World) (hM : Ml.ML w) (l : List Lab) (hm : May l) (ha : Asc l) : Calls Try.prog 17 #[S8 (write l)] w (QPost (0, l) w) := by
  have h := P.read w ⟨(write l).toArray⟩ hM (by rw [size_len]; have := write_may hm; omega)
  rw [show (⟨(write l).toArray⟩ : ByteArray).data.toList = write l from rfl, read_back hm ha] at h
  exact h.mono fun _ _ h => cpost_q h

set_option maxHeartbeats 12800000 in
set_option maxRecDepth 100000 in
theorem walk0 (P : Lbl) (w : World) (l : List Lab) (A : Option Addr) (c m : Nat) (hl : Lb w A m c l) (turn : Int) (s : ByteArray) (hs : s.size ≤ 16777216) (hn : l.length ≤ 1099511627776) (hM : Ml.ML w) :
    Calls Try.prog 4 #[.slice A m c, .int .i64 turn, .string s] w fun e w' => e = .returned (.bool true) ∧ Below w.heap.size w w' := by
  obtain ⟨i1, gi, gz0, gz1, gz2⟩ := info_parts info_label
  have A0 := Lib.hid (awake_any P w hM)
  have A1 := fun w hM => Lib.hid ((P.read w s hM hs).mono fun _ _ h => cpost_q h)
  have A2 := fun w l A c m h => Lib.hid ((P.canon w l A c m h).mono fun _ _ h => cpost_q h)
  have A3 := fun w l A c m h h2 => Lib.hid (P.write w l A c m h h2)
  have A4 := fun w x y X Y p q e f h1 h2 => Lib.hid (rsame_any w x y X Y p q e f h1 h2)
  have A5 := fun w x y X Y p q e f h1 h2 => Lib.hid (P.compare w x y X Y p q e f h1 h2)
  have A6 := fun w hM l hm ha => Lib.hid (read_q P w hM l hm ha)
  obtain ⟨S, hS⟩ : ∃ S, s.data.toList = S := ⟨_, rfl⟩
  have hsS : s = ⟨S.toArray⟩ := by rw [← hS]
  rw [hS] at A1
  subst hsS
  have HOK := Lib.hid (fun h => read_ok (s := S) h)
  generalize read S = rd at *
  obtain ⟨f, M⟩ := rd
  obtain ⟨rfl, hc, hm, hr⟩ := hl
  obtain ⟨k, hk, hkl⟩ := place_of turn l.length
  have hll : IntKind.u64.wrap ((l.length : Int) + 1) = (l.length : Int) + 1 := by rw [IntKind.wrap_u64]; omega
  have hkk : IntKind.i64.wrap (k : Int) = (k : Int) := by rw [IntKind.wrap_i64]; omega
  have HR := Lib.hid hr
  have HM := Lib.hid hm
  have HTURN := Lib.hid (canon_turn (rot_perm l k).symm)
  have HLR : Hid ((l.drop k ++ l.take k).length = l.length) := Lib.hid (rot_perm l k).length_eq
  have hLA : Lb w A l.length c l := ⟨rfl, hc, hm, hr⟩
  have HLA := Lib.hid hLA
  unfold maxLen at hm
  clear hr hLA hS
  unfold QPost at A1 A2 A6
  simp only at A1 A6
  go_enter Try.func4, Try.ntmps4
  go_wp2_with fail
  refine A0.out.mono ?_
  rintro e w1 ⟨rfl, hb1⟩
  have HB1 := Lib.hid hb1
  have HL1 := Lib.hid (lb_below HLA.out hb1)
  clear hb1 A0 HLA HR
  go_wp2_with fail
  refine (A1 w1 (hM.below HB1.out)).out.mono ?_
  rintro e w2 ⟨X, cx, rfl, hx, hb2⟩
  have HB2 := Lib.hid (below_step HB1.out hb2)
  have HL2 := Lib.hid (lb_below HL1.out hb2)
  have HX2 := Lib.hid hx
  clear hb2 hx A1 HL1
  by_cases hf : f = 0
  · subst hf
    obtain ⟨hws, hM, hMA⟩ := HOK.out rfl
    have HMM := Lib.hid hM
    have HMA := Lib.hid hMA
    have A3' := A3 w2 M X cx M.length HX2.out (by have := write_may hM; omega)
    rw [hws] at A3'
    have HWS := Lib.hid hws
    have hss : (S == S) = true := by simp
    clear hM hMA hws HOK
    unfold S8 at A3'
    go_wp2_with fail
    refine A3'.out.mono ?_
    rintro e w3 ⟨rfl, hb3⟩
    have HB3 := Lib.hid (below_step HB2.out hb3)
    have HL3 := Lib.hid (lb_below HL2.out hb3)
    have HX3 := Lib.hid (lb_below HX2.out hb3)
    clear hb3 HL2 HX2 A3'
    have A2c := A2 w3 l A c l.length HL3.out
    go_wp2_with fail
    refine A2c.out.mono ?_
    rintro e w4 ⟨Y, cy, rfl, hy, hb4⟩
    by_cases hck : c = k
    · have HL4 := Lib.hid (lb_below HL3.out hb4)
      have HX4 := Lib.hid (lb_below HX3.out hb4)
      have HB4 := Lib.hid (below_step HB3.out hb4)
      have HY4 := Lib.hid hy
      clear hb4 hy HL3 HX3
      have hkc : k = c := by omega
      subst hkc
      have HRC := Lib.hid (by have h := rd_cut2 (k := k) HL4.out.2.2.2 hc; rw [if_pos rfl] at h; exact h)
      have F1 : Hid ((flat (l.drop k)).length = 0 * 2) := Lib.hid (by rw [flat_len, List.length_drop]; omega)
      have F2 : 0 + 0 ≤ maxLen := by unfold maxLen; omega
      have F3 : (0 + 0) * 32 ≤ 140737488355328 := by omega
      have F4 : Hid ((flat (l.take k)).length = k * 2) := Lib.hid (by rw [flat_len, List.length_take]; omega)
      have F5 : 0 + k ≤ maxLen := by unfold maxLen; omega
      have F6 : (0 + k) * 32 ≤ 140737488355328 := by omega
      have HE8 : Hid (k = l.length) := Lib.hid (by omega)
      have F0 := World.ownsRow_nil w4 w4.heap.size 37 2
      have HF0 := Lib.hid F0
      clear F0
      go_wp2_with (at_builtin; refine wpList_append_rd (v := .slice none 0 0) _ rfl (.tmp 45) (.tmp 48) 22 rfl w4.heap.size 2 37 i1 (.agg #[.string ByteArray.empty, .string ByteArray.empty]) 32 Try.underlying22 gi gz0 gz1 gz2 rfl (by omega) 0 [] rfl HF0.out w4.heap.size A 0 0 (flat (l.drop k)) rfl F1.out HRC.out (flat_ones _) F2 F3 (Nat.le_refl _) ?_)
      intro v5 w5 hown5 hg5 _
      have HO5 := Lib.hid hown5
      have HB5r := Lib.hid (show Below w4.heap.size w4 w5 from ((Below.refl _ w4).grown hg5 (Nat.le_refl _) (fun g h => by cases h)))
      have hs5 : w4.heap.size ≤ w5.heap.size := hg5.size
      have HRT := Lib.hid ((rd_take2 HL4.out.2.2.2 k).below HB5r.out)
      clear hown5 hg5 HRC HF0
      go_wp2_with (at_builtin; refine wpList_append_rd _ rfl (.tmp 50) (.tmp 53) 22 rfl w4.heap.size 2 37 i1 (.agg #[.string ByteArray.empty, .string ByteArray.empty]) 32 Try.underlying22 gi gz0 gz1 gz2 rfl (by omega) _ _ _ rfl HO5.out w4.heap.size A k k (flat (l.take k)) rfl F4.out HRT.out (flat_ones _) F5 F6 hs5 ?_)
      intro v6 w6 hown6 hg6 _
      have HO6 : Hid (w6.ownsRow w4.heap.size 37 2 v6 l.length (flat (l.drop k ++ l.take k))) := Lib.hid (by
        have h := hown6
        (try simp only [List.nil_append, Nat.zero_add] at h)
        rw [flat_append]
        first | exact own_n h HE8.out | exact h)
      have HB6r := Lib.hid (HB5r.out.grown hg6 hs5 (fun g h => own_ltN HO5.out g h))
      clear hown6 hg6 HO5 HRT HB5r
      have HB6 := Lib.hid (below_step HB4.out HB6r.out)
      have HL6 := Lib.hid (lb_below HL4.out HB6r.out)
      have HX6 := Lib.hid (lb_below HX4.out HB6r.out)
      have HY6 := Lib.hid (lb_below HY4.out HB6r.out)
      obtain ⟨T, ct, rfl, hT⟩ := (by rw [← HLR.out] at HO6; exact own_lb HO6.out : ∃ A c, v6 = .slice A (l.drop k ++ l.take k).length c ∧ Lb w6 A (l.drop k ++ l.take k).length c (l.drop k ++ l.take k))
      rw [HLR.out] at hT ⊢
      have HT6 := Lib.hid hT
      have A2d := A2 w6 (l.drop k ++ l.take k) T ct l.length HT6.out
      clear hT HL4 HX4 HY4 HB6r HO6
      obtain ⟨r2, hr2⟩ : ∃ r, canon (l.drop k ++ l.take k) = r := ⟨_, rfl⟩
      have HTU := HTURN
      rw [hr2] at HTU A2d
      obtain ⟨g2, D2⟩ := r2
      simp only at HTU A2d
      have HD2 : Hid (D2 = (canon l).2) := Lib.hid HTU.out.2.symm
      have HG2 : Hid ((canon l).1 = 0 ↔ g2 = 0) := Lib.hid HTU.out.1
      clear HTU hr2
      have hd2 := HD2.out
      subst hd2
      have A4d := fun w X Y e f h1 h2 => A4 w (canon l).2 (canon l).2 X Y (canon l).2.length (canon l).2.length e f h1 h2
      rw [show ((canon l).2 == (canon l).2) = true by simp] at A4d
      by_cases hmay : May l
      · have hcl := canon_may hmay
        have hg0 : g2 = 0 := HG2.out.1 (by rw [hcl])
        subst hg0
        have hzz : (((0 : Nat) : Int) == 0) = true := rfl
        have HLN : Hid ((canon l).2.length = l.length) := Lib.hid (by rw [hcl]; exact sort_length l)
        have hcs : (canon l).2 = sort l := by rw [hcl]
        have HMC := Lib.hid (may_sort hmay).1
        have HAC := Lib.hid (may_sort hmay).2
        rw [← hcs] at HMC HAC
        have he0 : (canon l).1 = 0 := by rw [hcl]
        rw [he0]
        obtain ⟨l2, hl2⟩ : ∃ x, (canon l).2 = x := ⟨_, rfl⟩
        rw [hl2] at HMC HAC HLN A4d HY6 A2d ⊢
        have A6c := A6
        clear hcs hcl he0 hl2 HG2 HD2
        rw [HLN.out] at A4d A2d ⊢
        go_wp2_with fail
        refine A2d.out.mono ?_
        rintro e w7 ⟨Z, cz, rfl, hz, hb7⟩
        have HB7 := Lib.hid (below_step HB6.out hb7)
        have HX7 := Lib.hid (lb_below HX6.out hb7)
        have HY7 := Lib.hid (lb_below HY6.out hb7)
        have HZ7 := Lib.hid hz
        clear hb7 hz A2d HX6 HY6 HT6 HL6
        go_wp2_with fail
        refine (A4d w7 _ _ _ _ (by rw [← HLN.out]; exact HY7.out) HZ7.out).out.mono ?_
        rintro e w8 ⟨rfl, hb8⟩
        have HB8 := Lib.hid (below_step HB7.out hb8)
        have HX8 := Lib.hid (lb_below HX7.out hb8)
        have HY8 := Lib.hid (lb_below HY7.out hb8)
        have HYL := HY8
        rw [HLN.out] at HYL
        have A3d := A3 w8 l2 Y cy l.length HYL.out (by have := write_may HMC.out; omega)
        unfold S8 at A3d
        clear hb8 HX7 HY7 HZ7
        go_wp2_with fail
        refine A3d.out.mono ?_
        rintro e w8b ⟨rfl, hb8b⟩
        have HB8b := Lib.hid (below_step HB8.out hb8b)
        have HX8b := Lib.hid (lb_below HX8.out hb8b)
        have HY8b := Lib.hid (lb_below HY8.out hb8b)
        have A6d := A6c w8b (hM.below HB8b.out) l2 HMC.out HAC.out
        unfold S8 at A6d
        rw [HLN.out] at A6d
        clear hb8b HX8 HY8 HYL A3d
        go_wp2_with fail
        refine A6d.out.mono ?_
        rintro e w8c ⟨R, cr, rfl, hrr, hb8c⟩
        have HB8c := Lib.hid (below_step HB8b.out hb8c)
        have HX8c := Lib.hid (lb_below HX8b.out hb8c)
        have HY8c := Lib.hid (lb_below HY8b.out hb8c)
        have HR8c := Lib.hid hrr
        clear hb8c hrr HX8b HY8b A6d
        go_wp2_with fail
        refine (A4d w8c _ _ _ _ HR8c.out (by rw [← HLN.out]; exact HY8c.out)).out.mono ?_
        rintro e w9 ⟨rfl, hb9⟩
        have HB9 := Lib.hid (below_step HB8c.out hb9)
        have HX9 := Lib.hid (lb_below HX8c.out hb9)
        have HY9 := Lib.hid (lb_below HY8c.out hb9)
        clear hb9 HX8c HY8c HR8c A4d
        have hwq : ((write l2 == S) == (cmp l2 M == 0)) = true := by
          rw [beq_iff_eq, Bool.eq_iff_iff, beq_iff_eq, beq_iff_eq, cmp_eq]
          constructor
          · intro h
            exact write_inj HMC.out HMM.out (h.trans HWS.out.symm)
          · intro h
            rw [h]
            exact HWS.out
        have A3c := A3 w9 l2 Y cy l.length (by rw [← HLN.out]; exact HY9.out) (by have := write_may HMC.out; omega)
        have A5c := fun w h1 h2 => A5 w l2 M Y X l.length M.length cy cx h1 h2
        generalize write l2 = W2 at *
        generalize cmp l2 M = cm at *
        unfold S8 at A3c
        obtain ⟨q1, hq1⟩ : ∃ q, (W2 == S) = q := ⟨_, rfl⟩
        obtain ⟨q2, hq2⟩ : ∃ q, (cm == 0) = q := ⟨_, rfl⟩
        rw [hq1, hq2] at hwq
        go_wp2_with fail
        refine A3c.out.mono ?_
        rintro e w10 ⟨rfl, hb10⟩
        have HB10 := Lib.hid (below_step HB9.out hb10)
        have HX10 := Lib.hid (lb_below HX9.out hb10)
        have HY10 := Lib.hid (lb_below HY9.out hb10)
        clear hb10 HX9 HY9 A3c
        go_wp2_with fail
        refine (A5c w10 (by rw [← HLN.out]; exact HY10.out) HX10.out).out.mono ?_
        rintro e w11 ⟨rfl, hb11⟩
        have HB11 := Lib.hid (below_step HB10.out hb11)
        clear hb11 HX10 HY10
        go_wp2
        go_ret
        exact ⟨rfl, HB11.out⟩
      · obtain ⟨hce, hc2⟩ := canon_not hmay
        have hg0 : ¬ g2 = 0 := fun e => hce (HG2.out.2 e)
        have hq2 : ((g2 : Int) == 0) = false := by simp; omega
        obtain ⟨ee, hee⟩ : ∃ x, (canon l).1 = x := ⟨_, rfl⟩
        rw [hee] at hce ⊢
        have hq1 : ((ee : Int) == 0) = false := by simp; omega
        rw [hc2] at A4d HY6 A2d ⊢
        simp only [List.length_nil] at A4d HY6 A2d ⊢
        clear hee hce hg0 HG2 HD2 hc2
        go_wp2_with fail
        refine A2d.out.mono ?_
        rintro e w7 ⟨Z, cz, rfl, hz, hb7⟩
        have HB7 := Lib.hid (below_step HB6.out hb7)
        have HY7 := Lib.hid (lb_below HY6.out hb7)
        have HZ7 := Lib.hid hz
        clear hb7 hz A2d HX6 HY6 HT6 HL6
        go_wp2_with fail
        refine (A4d w7 _ _ _ _ HY7.out HZ7.out).out.mono ?_
        rintro e w8 ⟨rfl, hb8⟩
        have HB8 := Lib.hid (below_step HB7.out hb8)
        clear hb8 HY7 HZ7
        go_wp2
        go_ret
        exact ⟨rfl, HB8.out⟩
    · have HL4 := Lib.hid (lb_below HL3.out hb4)
      have HX4 := Lib.hid (lb_below HX3.out hb4)
      have HB4 := Lib.hid (below_step HB3.out hb4)
      have HY4 := Lib.hid hy
      clear hb4 hy HL3 HX3
      have HRC := Lib.hid (by have h := rd_cut2 (k := k) HL4.out.2.2.2 hc; rw [if_neg hck] at h; exact h)
      have F1 : Hid ((flat (l.drop k)).length = (l.length - k) * 2) := Lib.hid (by rw [flat_len, List.length_drop])
      have F2 : 0 + (l.length - k) ≤ maxLen := by unfold maxLen; omega
      have F3 : (0 + (l.length - k)) * 32 ≤ 140737488355328 := by omega
      have F4 : Hid ((flat (l.take k)).length = k * 2) := Lib.hid (by rw [flat_len, List.length_take]; omega)
      have F5 : l.length - k + k ≤ maxLen := by unfold maxLen; omega
      have F6 : (l.length - k + k) * 32 ≤ 140737488355328 := by omega
      have HE8 : Hid (l.length - k + k = l.length) := Lib.hid (by omega)
      have F0 := World.ownsRow_nil w4 w4.heap.size 37 2
      have HF0 := Lib.hid F0
      clear F0
      go_wp2_with (at_builtin; refine wpList_append_rd (v := .slice none 0 0) _ rfl (.tmp 45) (.tmp 48) 22 rfl w4.heap.size 2 37 i1 (.agg #[.string ByteArray.empty, .string ByteArray.empty]) 32 Try.underlying22 gi gz0 gz1 gz2 rfl (by omega) 0 [] rfl HF0.out w4.heap.size (A.map (·.add (k * 2))) (l.length - k) (c - k) (flat (l.drop k)) rfl F1.out HRC.out (flat_ones _) F2 F3 (Nat.le_refl _) ?_)
      intro v5 w5 hown5 hg5 _
      have HO5 := Lib.hid hown5
      have HB5r := Lib.hid (show Below w4.heap.size w4 w5 from ((Below.refl _ w4).grown hg5 (Nat.le_refl _) (fun g h => by cases h)))
      have hs5 : w4.heap.size ≤ w5.heap.size := hg5.size
      have HRT := Lib.hid ((rd_take2 HL4.out.2.2.2 k).below HB5r.out)
      clear hown5 hg5 HRC HF0
      go_wp2_with (at_builtin; refine wpList_append_rd _ rfl (.tmp 50) (.tmp 53) 22 rfl w4.heap.size 2 37 i1 (.agg #[.string ByteArray.empty, .string ByteArray.empty]) 32 Try.underlying22 gi gz0 gz1 gz2 rfl (by omega) _ _ _ rfl HO5.out w4.heap.size A k c (flat (l.take k)) rfl F4.out HRT.out (flat_ones _) F5 F6 hs5 ?_)
      intro v6 w6 hown6 hg6 _
      have HO6 : Hid (w6.ownsRow w4.heap.size 37 2 v6 l.length (flat (l.drop k ++ l.take k))) := Lib.hid (by
        have h := hown6
        (try simp only [List.nil_append, Nat.zero_add] at h)
        rw [flat_append]
        first | exact own_n h HE8.out | exact h)
      have HB6r := Lib.hid (HB5r.out.grown hg6 hs5 (fun g h => own_ltN HO5.out g h))
      clear hown6 hg6 HO5 HRT HB5r
      have HB6 := Lib.hid (below_step HB4.out HB6r.out)
      have HL6 := Lib.hid (lb_below HL4.out HB6r.out)
      have HX6 := Lib.hid (lb_below HX4.out HB6r.out)
      have HY6 := Lib.hid (lb_below HY4.out HB6r.out)
      obtain ⟨T, ct, rfl, hT⟩ := (by rw [← HLR.out] at HO6; exact own_lb HO6.out : ∃ A c, v6 = .slice A (l.drop k ++ l.take k).length c ∧ Lb w6 A (l.drop k ++ l.take k).length c (l.drop k ++ l.take k))
      rw [HLR.out] at hT ⊢
      have HT6 := Lib.hid hT
      have A2d := A2 w6 (l.drop k ++ l.take k) T ct l.length HT6.out
      clear hT HL4 HX4 HY4 HB6r HO6
      obtain ⟨r2, hr2⟩ : ∃ r, canon (l.drop k ++ l.take k) = r := ⟨_, rfl⟩
      have HTU := HTURN
      rw [hr2] at HTU A2d
      obtain ⟨g2, D2⟩ := r2
      simp only at HTU A2d
      have HD2 : Hid (D2 = (canon l).2) := Lib.hid HTU.out.2.symm
      have HG2 : Hid ((canon l).1 = 0 ↔ g2 = 0) := Lib.hid HTU.out.1
      clear HTU hr2
      have hd2 := HD2.out
      subst hd2
      have A4d := fun w X Y e f h1 h2 => A4 w (canon l).2 (canon l).2 X Y (canon l).2.length (canon l).2.length e f h1 h2
      rw [show ((canon l).2 == (canon l).2) = true by simp] at A4d
      by_cases hmay : May l
      · have hcl := canon_may hmay
        have hg0 : g2 = 0 := HG2.out.1 (by rw [hcl])
        subst hg0
        have hzz : (((0 : Nat) : Int) == 0) = true := rfl
        have HLN : Hid ((canon l).2.length = l.length) := Lib.hid (by rw [hcl]; exact sort_length l)
        have hcs : (canon l).2 = sort l := by rw [hcl]
        have HMC := Lib.hid (may_sort hmay).1
        have HAC := Lib.hid (may_sort hmay).2
        rw [← hcs] at HMC HAC
        have he0 : (canon l).1 = 0 := by rw [hcl]
        rw [he0]
        obtain ⟨l2, hl2⟩ : ∃ x, (canon l).2 = x := ⟨_, rfl⟩
        rw [hl2] at HMC HAC HLN A4d HY6 A2d ⊢
        have A6c := A6
        clear hcs hcl he0 hl2 HG2 HD2
        rw [HLN.out] at A4d A2d ⊢
        go_wp2_with fail
        refine A2d.out.mono ?_
        rintro e w7 ⟨Z, cz, rfl, hz, hb7⟩
        have HB7 := Lib.hid (below_step HB6.out hb7)
        have HX7 := Lib.hid (lb_below HX6.out hb7)
        have HY7 := Lib.hid (lb_below HY6.out hb7)
        have HZ7 := Lib.hid hz
        clear hb7 hz A2d HX6 HY6 HT6 HL6
        go_wp2_with fail
        refine (A4d w7 _ _ _ _ (by rw [← HLN.out]; exact HY7.out) HZ7.out).out.mono ?_
        rintro e w8 ⟨rfl, hb8⟩
        have HB8 := Lib.hid (below_step HB7.out hb8)
        have HX8 := Lib.hid (lb_below HX7.out hb8)
        have HY8 := Lib.hid (lb_below HY7.out hb8)
        have HYL := HY8
        rw [HLN.out] at HYL
        have A3d := A3 w8 l2 Y cy l.length HYL.out (by have := write_may HMC.out; omega)
        unfold S8 at A3d
        clear hb8 HX7 HY7 HZ7
        go_wp2_with fail
        refine A3d.out.mono ?_
        rintro e w8b ⟨rfl, hb8b⟩
        have HB8b := Lib.hid (below_step HB8.out hb8b)
        have HX8b := Lib.hid (lb_below HX8.out hb8b)
        have HY8b := Lib.hid (lb_below HY8.out hb8b)
        have A6d := A6c w8b (hM.below HB8b.out) l2 HMC.out HAC.out
        unfold S8 at A6d
        rw [HLN.out] at A6d
        clear hb8b HX8 HY8 HYL A3d
        go_wp2_with fail
        refine A6d.out.mono ?_
        rintro e w8c ⟨R, cr, rfl, hrr, hb8c⟩
        have HB8c := Lib.hid (below_step HB8b.out hb8c)
        have HX8c := Lib.hid (lb_below HX8b.out hb8c)
        have HY8c := Lib.hid (lb_below HY8b.out hb8c)
        have HR8c := Lib.hid hrr
        clear hb8c hrr HX8b HY8b A6d
        go_wp2_with fail
        refine (A4d w8c _ _ _ _ HR8c.out (by rw [← HLN.out]; exact HY8c.out)).out.mono ?_
        rintro e w9 ⟨rfl, hb9⟩
        have HB9 := Lib.hid (below_step HB8c.out hb9)
        have HX9 := Lib.hid (lb_below HX8c.out hb9)
        have HY9 := Lib.hid (lb_below HY8c.out hb9)
        clear hb9 HX8c HY8c HR8c A4d
        have hwq : ((write l2 == S) == (cmp l2 M == 0)) = true := by
          rw [beq_iff_eq, Bool.eq_iff_iff, beq_iff_eq, beq_iff_eq, cmp_eq]
          constructor
          · intro h
            exact write_inj HMC.out HMM.out (h.trans HWS.out.symm)
          · intro h
            rw [h]
            exact HWS.out
        have A3c := A3 w9 l2 Y cy l.length (by rw [← HLN.out]; exact HY9.out) (by have := write_may HMC.out; omega)
        have A5c := fun w h1 h2 => A5 w l2 M Y X l.length M.length cy cx h1 h2
        generalize write l2 = W2 at *
        generalize cmp l2 M = cm at *
        unfold S8 at A3c
        obtain ⟨q1, hq1⟩ : ∃ q, (W2 == S) = q := ⟨_, rfl⟩
        obtain ⟨q2, hq2⟩ : ∃ q, (cm == 0) = q := ⟨_, rfl⟩
        rw [hq1, hq2] at hwq
        go_wp2_with fail
        refine A3c.out.mono ?_
        rintro e w10 ⟨rfl, hb10⟩
        have HB10 := Lib.hid (below_step HB9.out hb10)
        have HX10 := Lib.hid (lb_below HX9.out hb10)
        have HY10 := Lib.hid (lb_below HY9.out hb10)
        clear hb10 HX9 HY9 A3c
        go_wp2_with fail
        refine (A5c w10 (by rw [← HLN.out]; exact HY10.out) HX10.out).out.mono ?_
        rintro e w11 ⟨rfl, hb11⟩
        have HB11 := Lib.hid (below_step HB10.out hb11)
        clear hb11 HX10 HY10
        go_wp2
        go_ret
        exact ⟨rfl, HB11.out⟩
      · obtain ⟨hce, hc2⟩ := canon_not hmay
        have hg0 : ¬ g2 = 0 := fun e => hce (HG2.out.2 e)
        have hq2 : ((g2 : Int) == 0) = false := by simp; omega
        obtain ⟨ee, hee⟩ : ∃ x, (canon l).1 = x := ⟨_, rfl⟩
        rw [hee] at hce ⊢
        have hq1 : ((ee : Int) == 0) = false := by simp; omega
        rw [hc2] at A4d HY6 A2d ⊢
        simp only [List.length_nil] at A4d HY6 A2d ⊢
        clear hee hce hg0 HG2 HD2 hc2
        go_wp2_with fail
        refine A2d.out.mono ?_
        rintro e w7 ⟨Z, cz, rfl, hz, hb7⟩
        have HB7 := Lib.hid (below_step HB6.out hb7)
        have HY7 := Lib.hid (lb_below HY6.out hb7)
        have HZ7 := Lib.hid hz
        clear hb7 hz A2d HX6 HY6 HT6 HL6
        go_wp2_with fail
        refine (A4d w7 _ _ _ _ HY7.out HZ7.out).out.mono ?_
        rintro e w8 ⟨rfl, hb8⟩
        have HB8 := Lib.hid (below_step HB7.out hb8)
        clear hb8 HY7 HZ7
        go_wp2
        go_ret
        exact ⟨rfl, HB8.out⟩
  · have hf0 : ((f : Int) == 0) = false := by simp; omega
    obtain ⟨w3, hw3⟩ : ∃ w3, w3 = w2 := ⟨_, rfl⟩
    have HB3 := HB2
    have HL3 := HL2
    have HX3 := HX2
    rw [← hw3] at HB3 HL3 HX3
    rw [← hw3]
    clear hw3 HL2 HX2 HB2
    have A2c := A2 w3 l A c l.length HL3.out
    go_wp2_with fail
    refine A2c.out.mono ?_
    rintro e w4 ⟨Y, cy, rfl, hy, hb4⟩
    by_cases hck : c = k
    · have HL4 := Lib.hid (lb_below HL3.out hb4)
      have HX4 := Lib.hid (lb_below HX3.out hb4)
      have HB4 := Lib.hid (below_step HB3.out hb4)
      have HY4 := Lib.hid hy
      clear hb4 hy HL3 HX3
      have hkc : k = c := by omega
      subst hkc
      have HRC := Lib.hid (by have h := rd_cut2 (k := k) HL4.out.2.2.2 hc; rw [if_pos rfl] at h; exact h)
      have F1 : Hid ((flat (l.drop k)).length = 0 * 2) := Lib.hid (by rw [flat_len, List.length_drop]; omega)
      have F2 : 0 + 0 ≤ maxLen := by unfold maxLen; omega
      have F3 : (0 + 0) * 32 ≤ 140737488355328 := by omega
      have F4 : Hid ((flat (l.take k)).length = k * 2) := Lib.hid (by rw [flat_len, List.length_take]; omega)
      have F5 : 0 + k ≤ maxLen := by unfold maxLen; omega
      have F6 : (0 + k) * 32 ≤ 140737488355328 := by omega
      have HE8 : Hid (k = l.length) := Lib.hid (by omega)
      have F0 := World.ownsRow_nil w4 w4.heap.size 37 2
      have HF0 := Lib.hid F0
      clear F0
      go_wp2_with (at_builtin; refine wpList_append_rd (v := .slice none 0 0) _ rfl (.tmp 45) (.tmp 48) 22 rfl w4.heap.size 2 37 i1 (.agg #[.string ByteArray.empty, .string ByteArray.empty]) 32 Try.underlying22 gi gz0 gz1 gz2 rfl (by omega) 0 [] rfl HF0.out w4.heap.size A 0 0 (flat (l.drop k)) rfl F1.out HRC.out (flat_ones _) F2 F3 (Nat.le_refl _) ?_)
      intro v5 w5 hown5 hg5 _
      have HO5 := Lib.hid hown5
      have HB5r := Lib.hid (show Below w4.heap.size w4 w5 from ((Below.refl _ w4).grown hg5 (Nat.le_refl _) (fun g h => by cases h)))
      have hs5 : w4.heap.size ≤ w5.heap.size := hg5.size
      have HRT := Lib.hid ((rd_take2 HL4.out.2.2.2 k).below HB5r.out)
      clear hown5 hg5 HRC HF0
      go_wp2_with (at_builtin; refine wpList_append_rd _ rfl (.tmp 50) (.tmp 53) 22 rfl w4.heap.size 2 37 i1 (.agg #[.string ByteArray.empty, .string ByteArray.empty]) 32 Try.underlying22 gi gz0 gz1 gz2 rfl (by omega) _ _ _ rfl HO5.out w4.heap.size A k k (flat (l.take k)) rfl F4.out HRT.out (flat_ones _) F5 F6 hs5 ?_)
      intro v6 w6 hown6 hg6 _
      have HO6 : Hid (w6.ownsRow w4.heap.size 37 2 v6 l.length (flat (l.drop k ++ l.take k))) := Lib.hid (by
        have h := hown6
        (try simp only [List.nil_append, Nat.zero_add] at h)
        rw [flat_append]
        first | exact own_n h HE8.out | exact h)
      have HB6r := Lib.hid (HB5r.out.grown hg6 hs5 (fun g h => own_ltN HO5.out g h))
      clear hown6 hg6 HO5 HRT HB5r
      have HB6 := Lib.hid (below_step HB4.out HB6r.out)
      have HL6 := Lib.hid (lb_below HL4.out HB6r.out)
      have HX6 := Lib.hid (lb_below HX4.out HB6r.out)
      have HY6 := Lib.hid (lb_below HY4.out HB6r.out)
      obtain ⟨T, ct, rfl, hT⟩ := (by rw [← HLR.out] at HO6; exact own_lb HO6.out : ∃ A c, v6 = .slice A (l.drop k ++ l.take k).length c ∧ Lb w6 A (l.drop k ++ l.take k).length c (l.drop k ++ l.take k))
      rw [HLR.out] at hT ⊢
      have HT6 := Lib.hid hT
      have A2d := A2 w6 (l.drop k ++ l.take k) T ct l.length HT6.out
      clear hT HL4 HX4 HY4 HB6r HO6
      obtain ⟨r2, hr2⟩ : ∃ r, canon (l.drop k ++ l.take k) = r := ⟨_, rfl⟩
      have HTU := HTURN
      rw [hr2] at HTU A2d
      obtain ⟨g2, D2⟩ := r2
      simp only at HTU A2d
      have HD2 : Hid (D2 = (canon l).2) := Lib.hid HTU.out.2.symm
      have HG2 : Hid ((canon l).1 = 0 ↔ g2 = 0) := Lib.hid HTU.out.1
      clear HTU hr2
      have hd2 := HD2.out
      subst hd2
      have A4d := fun w X Y e f h1 h2 => A4 w (canon l).2 (canon l).2 X Y (canon l).2.length (canon l).2.length e f h1 h2
      rw [show ((canon l).2 == (canon l).2) = true by simp] at A4d
      by_cases hmay : May l
      · have hcl := canon_may hmay
        have hg0 : g2 = 0 := HG2.out.1 (by rw [hcl])
        subst hg0
        have hzz : (((0 : Nat) : Int) == 0) = true := rfl
        have HLN : Hid ((canon l).2.length = l.length) := Lib.hid (by rw [hcl]; exact sort_length l)
        have hcs : (canon l).2 = sort l := by rw [hcl]
        have HMC := Lib.hid (may_sort hmay).1
        have HAC := Lib.hid (may_sort hmay).2
        rw [← hcs] at HMC HAC
        have he0 : (canon l).1 = 0 := by rw [hcl]
        rw [he0]
        obtain ⟨l2, hl2⟩ : ∃ x, (canon l).2 = x := ⟨_, rfl⟩
        rw [hl2] at HMC HAC HLN A4d HY6 A2d ⊢
        have A6c := A6
        clear hcs hcl he0 hl2 HG2 HD2
        rw [HLN.out] at A4d A2d ⊢
        go_wp2_with fail
        refine A2d.out.mono ?_
        rintro e w7 ⟨Z, cz, rfl, hz, hb7⟩
        have HB7 := Lib.hid (below_step HB6.out hb7)
        have HX7 := Lib.hid (lb_below HX6.out hb7)
        have HY7 := Lib.hid (lb_below HY6.out hb7)
        have HZ7 := Lib.hid hz
        clear hb7 hz A2d HX6 HY6 HT6 HL6
        go_wp2_with fail
        refine (A4d w7 _ _ _ _ (by rw [← HLN.out]; exact HY7.out) HZ7.out).out.mono ?_
        rintro e w8 ⟨rfl, hb8⟩
        have HB8 := Lib.hid (below_step HB7.out hb8)
        have HX8 := Lib.hid (lb_below HX7.out hb8)
        have HY8 := Lib.hid (lb_below HY7.out hb8)
        have HYL := HY8
        rw [HLN.out] at HYL
        have A3d := A3 w8 l2 Y cy l.length HYL.out (by have := write_may HMC.out; omega)
        unfold S8 at A3d
        clear hb8 HX7 HY7 HZ7
        go_wp2_with fail
        refine A3d.out.mono ?_
        rintro e w8b ⟨rfl, hb8b⟩
        have HB8b := Lib.hid (below_step HB8.out hb8b)
        have HX8b := Lib.hid (lb_below HX8.out hb8b)
        have HY8b := Lib.hid (lb_below HY8.out hb8b)
        have A6d := A6c w8b (hM.below HB8b.out) l2 HMC.out HAC.out
        unfold S8 at A6d
        rw [HLN.out] at A6d
        clear hb8b HX8 HY8 HYL A3d
        go_wp2_with fail
        refine A6d.out.mono ?_
        rintro e w8c ⟨R, cr, rfl, hrr, hb8c⟩
        have HB8c := Lib.hid (below_step HB8b.out hb8c)
        have HX8c := Lib.hid (lb_below HX8b.out hb8c)
        have HY8c := Lib.hid (lb_below HY8b.out hb8c)
        have HR8c := Lib.hid hrr
        clear hb8c hrr HX8b HY8b A6d
        go_wp2_with fail
        refine (A4d w8c _ _ _ _ HR8c.out (by rw [← HLN.out]; exact HY8c.out)).out.mono ?_
        rintro e w9 ⟨rfl, hb9⟩
        have HB9 := Lib.hid (below_step HB8c.out hb9)
        have HX9 := Lib.hid (lb_below HX8c.out hb9)
        have HY9 := Lib.hid (lb_below HY8c.out hb9)
        clear hb9 HX8c HY8c HR8c A4d
        go_wp2
        go_ret
        exact ⟨rfl, HB9.out⟩
      · obtain ⟨hce, hc2⟩ := canon_not hmay
        have hg0 : ¬ g2 = 0 := fun e => hce (HG2.out.2 e)
        have hq2 : ((g2 : Int) == 0) = false := by simp; omega
        obtain ⟨ee, hee⟩ : ∃ x, (canon l).1 = x := ⟨_, rfl⟩
        rw [hee] at hce ⊢
        have hq1 : ((ee : Int) == 0) = false := by simp; omega
        rw [hc2] at A4d HY6 A2d ⊢
        simp only [List.length_nil] at A4d HY6 A2d ⊢
        clear hee hce hg0 HG2 HD2 hc2
        go_wp2_with fail
        refine A2d.out.mono ?_
        rintro e w7 ⟨Z, cz, rfl, hz, hb7⟩
        have HB7 := Lib.hid (below_step HB6.out hb7)
        have HY7 := Lib.hid (lb_below HY6.out hb7)
        have HZ7 := Lib.hid hz
        clear hb7 hz A2d HX6 HY6 HT6 HL6
        go_wp2_with fail
        refine (A4d w7 _ _ _ _ HY7.out HZ7.out).out.mono ?_
        rintro e w8 ⟨rfl, hb8⟩
        have HB8 := Lib.hid (below_step HB7.out hb8)
        clear hb8 HY7 HZ7
        go_wp2
        go_ret
        exact ⟨rfl, HB8.out⟩
    · have HL4 := Lib.hid (lb_below HL3.out hb4)
      have HX4 := Lib.hid (lb_below HX3.out hb4)
      have HB4 := Lib.hid (below_step HB3.out hb4)
      have HY4 := Lib.hid hy
      clear hb4 hy HL3 HX3
      have HRC := Lib.hid (by have h := rd_cut2 (k := k) HL4.out.2.2.2 hc; rw [if_neg hck] at h; exact h)
      have F1 : Hid ((flat (l.drop k)).length = (l.length - k) * 2) := Lib.hid (by rw [flat_len, List.length_drop])
      have F2 : 0 + (l.length - k) ≤ maxLen := by unfold maxLen; omega
      have F3 : (0 + (l.length - k)) * 32 ≤ 140737488355328 := by omega
      have F4 : Hid ((flat (l.take k)).length = k * 2) := Lib.hid (by rw [flat_len, List.length_take]; omega)
      have F5 : l.length - k + k ≤ maxLen := by unfold maxLen; omega
      have F6 : (l.length - k + k) * 32 ≤ 140737488355328 := by omega
      have HE8 : Hid (l.length - k + k = l.length) := Lib.hid (by omega)
      have F0 := World.ownsRow_nil w4 w4.heap.size 37 2
      have HF0 := Lib.hid F0
      clear F0
      go_wp2_with (at_builtin; refine wpList_append_rd (v := .slice none 0 0) _ rfl (.tmp 45) (.tmp 48) 22 rfl w4.heap.size 2 37 i1 (.agg #[.string ByteArray.empty, .string ByteArray.empty]) 32 Try.underlying22 gi gz0 gz1 gz2 rfl (by omega) 0 [] rfl HF0.out w4.heap.size (A.map (·.add (k * 2))) (l.length - k) (c - k) (flat (l.drop k)) rfl F1.out HRC.out (flat_ones _) F2 F3 (Nat.le_refl _) ?_)
      intro v5 w5 hown5 hg5 _
      have HO5 := Lib.hid hown5
      have HB5r := Lib.hid (show Below w4.heap.size w4 w5 from ((Below.refl _ w4).grown hg5 (Nat.le_refl _) (fun g h => by cases h)))
      have hs5 : w4.heap.size ≤ w5.heap.size := hg5.size
      have HRT := Lib.hid ((rd_take2 HL4.out.2.2.2 k).below HB5r.out)
      clear hown5 hg5 HRC HF0
      go_wp2_with (at_builtin; refine wpList_append_rd _ rfl (.tmp 50) (.tmp 53) 22 rfl w4.heap.size 2 37 i1 (.agg #[.string ByteArray.empty, .string ByteArray.empty]) 32 Try.underlying22 gi gz0 gz1 gz2 rfl (by omega) _ _ _ rfl HO5.out w4.heap.size A k c (flat (l.take k)) rfl F4.out HRT.out (flat_ones _) F5 F6 hs5 ?_)
      intro v6 w6 hown6 hg6 _
      have HO6 : Hid (w6.ownsRow w4.heap.size 37 2 v6 l.length (flat (l.drop k ++ l.take k))) := Lib.hid (by
        have h := hown6
        (try simp only [List.nil_append, Nat.zero_add] at h)
        rw [flat_append]
        first | exact own_n h HE8.out | exact h)
      have HB6r := Lib.hid (HB5r.out.grown hg6 hs5 (fun g h => own_ltN HO5.out g h))
      clear hown6 hg6 HO5 HRT HB5r
      have HB6 := Lib.hid (below_step HB4.out HB6r.out)
      have HL6 := Lib.hid (lb_below HL4.out HB6r.out)
      have HX6 := Lib.hid (lb_below HX4.out HB6r.out)
      have HY6 := Lib.hid (lb_below HY4.out HB6r.out)
      obtain ⟨T, ct, rfl, hT⟩ := (by rw [← HLR.out] at HO6; exact own_lb HO6.out : ∃ A c, v6 = .slice A (l.drop k ++ l.take k).length c ∧ Lb w6 A (l.drop k ++ l.take k).length c (l.drop k ++ l.take k))
      rw [HLR.out] at hT ⊢
      have HT6 := Lib.hid hT
      have A2d := A2 w6 (l.drop k ++ l.take k) T ct l.length HT6.out
      clear hT HL4 HX4 HY4 HB6r HO6
      obtain ⟨r2, hr2⟩ : ∃ r, canon (l.drop k ++ l.take k) = r := ⟨_, rfl⟩
      have HTU := HTURN
      rw [hr2] at HTU A2d
      obtain ⟨g2, D2⟩ := r2
      simp only at HTU A2d
      have HD2 : Hid (D2 = (canon l).2) := Lib.hid HTU.out.2.symm
      have HG2 : Hid ((canon l).1 = 0 ↔ g2 = 0) := Lib.hid HTU.out.1
      clear HTU hr2
      have hd2 := HD2.out
      subst hd2
      have A4d := fun w X Y e f h1 h2 => A4 w (canon l).2 (canon l).2 X Y (canon l).2.length (canon l).2.length e f h1 h2
      rw [show ((canon l).2 == (canon l).2) = true by simp] at A4d
      by_cases hmay : May l
      · have hcl := canon_may hmay
        have hg0 : g2 = 0 := HG2.out.1 (by rw [hcl])
        subst hg0
        have hzz : (((0 : Nat) : Int) == 0) = true := rfl
        have HLN : Hid ((canon l).2.length = l.length) := Lib.hid (by rw [hcl]; exact sort_length l)
        have hcs : (canon l).2 = sort l := by rw [hcl]
        have HMC := Lib.hid (may_sort hmay).1
        have HAC := Lib.hid (may_sort hmay).2
        rw [← hcs] at HMC HAC
        have he0 : (canon l).1 = 0 := by rw [hcl]
        rw [he0]
        obtain ⟨l2, hl2⟩ : ∃ x, (canon l).2 = x := ⟨_, rfl⟩
        rw [hl2] at HMC HAC HLN A4d HY6 A2d ⊢
        have A6c := A6
        clear hcs hcl he0 hl2 HG2 HD2
        rw [HLN.out] at A4d A2d ⊢
        go_wp2_with fail
        refine A2d.out.mono ?_
        rintro e w7 ⟨Z, cz, rfl, hz, hb7⟩
        have HB7 := Lib.hid (below_step HB6.out hb7)
        have HX7 := Lib.hid (lb_below HX6.out hb7)
        have HY7 := Lib.hid (lb_below HY6.out hb7)
        have HZ7 := Lib.hid hz
        clear hb7 hz A2d HX6 HY6 HT6 HL6
        go_wp2_with fail
        refine (A4d w7 _ _ _ _ (by rw [← HLN.out]; exact HY7.out) HZ7.out).out.mono ?_
        rintro e w8 ⟨rfl, hb8⟩
        have HB8 := Lib.hid (below_step HB7.out hb8)
        have HX8 := Lib.hid (lb_below HX7.out hb8)
        have HY8 := Lib.hid (lb_below HY7.out hb8)
        have HYL := HY8
        rw [HLN.out] at HYL
        have A3d := A3 w8 l2 Y cy l.length HYL.out (by have := write_may HMC.out; omega)
        unfold S8 at A3d
        clear hb8 HX7 HY7 HZ7
        go_wp2_with fail
        refine A3d.out.mono ?_
        rintro e w8b ⟨rfl, hb8b⟩
        have HB8b := Lib.hid (below_step HB8.out hb8b)
        have HX8b := Lib.hid (lb_below HX8.out hb8b)
        have HY8b := Lib.hid (lb_below HY8.out hb8b)
        have A6d := A6c w8b (hM.below HB8b.out) l2 HMC.out HAC.out
        unfold S8 at A6d
        rw [HLN.out] at A6d
        clear hb8b HX8 HY8 HYL A3d
        go_wp2_with fail
        refine A6d.out.mono ?_
        rintro e w8c ⟨R, cr, rfl, hrr, hb8c⟩
        have HB8c := Lib.hid (below_step HB8b.out hb8c)
        have HX8c := Lib.hid (lb_below HX8b.out hb8c)
        have HY8c := Lib.hid (lb_below HY8b.out hb8c)
        have HR8c := Lib.hid hrr
        clear hb8c hrr HX8b HY8b A6d
        go_wp2_with fail
        refine (A4d w8c _ _ _ _ HR8c.out (by rw [← HLN.out]; exact HY8c.out)).out.mono ?_
        rintro e w9 ⟨rfl, hb9⟩
        have HB9 := Lib.hid (below_step HB8c.out hb9)
        have HX9 := Lib.hid (lb_below HX8c.out hb9)
        have HY9 := Lib.hid (lb_below HY8c.out hb9)
        clear hb9 HX8c HY8c HR8c A4d
        go_wp2
        go_ret
        exact ⟨rfl, HB9.out⟩
      · obtain ⟨hce, hc2⟩ := canon_not hmay
        have hg0 : ¬ g2 = 0 := fun e => hce (HG2.out.2 e)
        have hq2 : ((g2 : Int) == 0) = false := by simp; omega
        obtain ⟨ee, hee⟩ : ∃ x, (canon l).1 = x := ⟨_, rfl⟩
        rw [hee] at hce ⊢
        have hq1 : ((ee : Int) == 0) = false := by simp; omega
        rw [hc2] at A4d HY6 A2d ⊢
        simp only [List.length_nil] at A4d HY6 A2d ⊢
        clear hee hce hg0 HG2 HD2 hc2
        go_wp2_with fail
        refine A2d.out.mono ?_
        rintro e w7 ⟨Z, cz, rfl, hz, hb7⟩
        have HB7 := Lib.hid (below_step HB6.out hb7)
        have HY7 := Lib.hid (lb_below HY6.out hb7)
        have HZ7 := Lib.hid hz
        clear hb7 hz A2d HX6 HY6 HT6 HL6
        go_wp2_with fail
        refine (A4d w7 _ _ _ _ HY7.out HZ7.out).out.mono ?_
        rintro e w8 ⟨rfl, hb8⟩
        have HB8 := Lib.hid (below_step HB7.out hb8)
        clear hb8 HY7 HZ7
        go_wp2
        go_ret
        exact ⟨rfl, HB8.out⟩
end Go.Proofs.Ytngkhcbnndkdeaa.LbBackW
