/- The contract of the document's own Unpack, where differences are there: as XRefUn says. -/
import Derived.Test.YtokmoodiolnfiaaRefUn
namespace Go.Proofs.Ytokmoodiolnfiaa.RefUn2
open Go Go.RowKit Words Plain Put RefPut App PkPlain PkSpec UnSpec Need Get RefGet RefUn

def RelT (sz p : Nat) (v : Value) : Prop := ∃ (s : Nat) (T : Int), s ≤ sz ∧ Hid (T = (p : Int) + 1 + (s : Int)) ∧ v = .int .i64 T
def RelF (sz tot M : Nat) (v : Value) : Prop := ∃ i : Nat, i ≤ 8 * sz ∧ v = .int .i64 (i : Int) ∧ Hid (∀ j, tot ≤ j → j < i → M / 2 ^ j % 2 = 0)

/-- The loop over the differences: i of them went through. -/
def RelG (x m wv M : Nat) (w : World) (vx vl vm vi : Value) (wr : World) : Prop := ∃ (i xc : Nat) (L : List UInt64), i ≤ m ∧ vi = .int .i64 (i : Int) ∧ vx = .int .u64 (xc : Int) ∧ xc ≤ 18446744073709551615 ∧ Hid (xc = x + (cuts M wv i).sum + (cuts M wv i).length) ∧
  Hid (run x (cuts M wv i) = some L) ∧ wr.ownsRow w.heap.size 34 1 vl (i + 1) (L.map B64) ∧ vm = .int .i64 ((width (cuts M wv i) : Nat) : Int) ∧ Below w.heap.size w wr
def RelD (M iw wv : Nat) (vd vk : Value) : Prop := ∃ (t D : Nat) (kk : Int), t ≤ wv ∧ kk + 1 = (t : Int) ∧ vk = .int .i64 kk ∧ vd = .int .u64 (D : Int) ∧ Hid (D = M / 2 ^ (iw + t) % 2 ^ (wv - t))
theorem bit_step (N m s : Nat) : N / 2 ^ m % 2 ^ (s + 1) = 2 * (N / 2 ^ (m + 1) % 2 ^ s) + N / 2 ^ m % 2 := by
  have e : 2 ^ m * 2 = 2 ^ (m + 1) := rfl
  rw [Nat.pow_succ', Nat.mod_mul, Nat.div_div_eq_div_mul, e]
  omega
theorem info_u64 : (Try.prog.info? 34).map (fun i => (i.zero, i.size, i.bytes)) = some (some (.int .u64 0), 1, 8) := by kernel_rfl
theorem bitv (y k : Nat) (h : y < 256) : (IntKind.u64.wrap ((y : Int) / 2 ^ k)).tmod 2 = ((y / 2 ^ k % 2 : Nat) : Int) := by
  have e : (y : Int) / 2 ^ k = ((y / 2 ^ k : Nat) : Int) := by simp
  have hl : y / 2 ^ k ≤ y := Nat.div_le_self _ _
  rw [e, IntKind.wrap_u64]
  generalize y / 2 ^ k = z at *
  rw [Int.tmod_eq_emod_of_nonneg (by omega)]
  omega
theorem high_bit {M tot i : Nat} (h : tot ≤ i) (hb : M / 2 ^ i % 2 = 1) : ¬ M < 2 ^ tot := by
  intro hl
  have : M < 2 ^ i := Nat.lt_of_lt_of_le hl (Nat.pow_le_pow_right (by omega) h)
  rw [Nat.div_eq_of_lt this] at hb
  omega
theorem low_bits {M tot k : Nat} (hM : M < 2 ^ k) (h : ∀ j, tot ≤ j → j < k → M / 2 ^ j % 2 = 0) : M < 2 ^ tot := by
  apply Nat.lt_pow_two_of_testBit
  intro i hi
  by_cases hik : i < k
  · rw [Nat.testBit_eq_decide_div_mod_eq, h i hi hik]
    rfl
  · exact Nat.testBit_lt_two_pow (Nat.lt_of_lt_of_le hM (Nat.pow_le_pow_right (by omega) (by omega)))

set_option maxHeartbeats 4000000 in
set_option maxRecDepth 100000 in
theorem refun_in (b : List UInt8) (A : Option Addr) (c : Nat) (at_ : Int) (w : World) (hr : Rd w w.heap.size A (b.map B8)) (hc : b.length ≤ c) (hm : c ≤ maxLen) (hlen : b.length ≤ 140737488355327) (m : Nat) (f : Int) (x p : Nat) (h : getE b at_ = 0) (hn : getN b at_ = ((m + 1 : Nat) : Int)) (hl : m < 65536) (h1 : 1 ≤ m)
    (hf : getTo b at_ = f) (h2 : getE b f = 0) (hx : getN b f = x) (hp : getTo b f = p) (hx64 : x < 18446744073709551616) (hpl : p < b.length) (hw : (b.getD p 0).toNat ≤ 64) : Calls Try.prog 21 #[.slice A b.length c, .int .i64 at_] w (UnPost b at_ w) := by
  have hg := ref_any b A c at_ w _ hr hc hm
  have hg2 := ref_any b A c f w _ hr hc hm
  have hu : unp b at_ = body b (m + 1) x p := by
    unfold unp
    rw [if_neg (by omega), if_neg (by omega), if_neg (by omega), hf, if_neg (by omega), if_neg (by omega), hx, hp, hn]
    rfl
  rw [h, hn, hf] at hg
  rw [h2, hx, hp] at hg2
  have HG := Lib.hid hg
  have HG2 := Lib.hid hg2
  obtain ⟨bb, off, rfl, hbb, hcell⟩ := hr (by simp; omega)
  have HC : Hid (∀ (o : Obj) (k : Nat), k < b.length → (w.alloc o).cell? ⟨bb, off + k, none⟩ = some (.int .u8 (((b.getD k 0).toNat : Nat) : Int))) := fun o k hk => by
    have h9 := cell8 hcell hk
    rw [World.cell?_alloc_lt w _ _ hbb, h9]
    simp [hk]
  have HC0 : Hid (∀ k, k < b.length → w.cell? ⟨bb, off + k, none⟩ = some (.int .u8 (((b.getD k 0).toNat : Nat) : Int))) := fun k hk => by
    have h9 := cell8 hcell hk
    rw [h9]
    simp [hk]
  have k1 := HC.out (.cells #[.int .u64 (x : Int)] 34) p hpl
  have HBW := Lib.hid ((Below.refl w.heap.size w).alloc (Nat.le_refl _) (.cells #[.int .u64 (x : Int)] 34))
  have HO1 := Lib.hid (World.ownsRow_lit (base := w.heap.size) (e := 34) (size := 1) w #[.int .u64 (x : Int)] 1 (Nat.le_refl _) (by unfold maxLen; omega) rfl)
  unfold body at hu
  rw [if_neg (by omega), if_neg (by omega), Nat.add_sub_cancel] at hu
  generalize (b.getD p 0).toNat = wv at *
  obtain ⟨tot, htot⟩ : ∃ tot, m * wv = tot := ⟨_, rfl⟩
  have htb : tot ≤ 4194304 := by
    rw [← htot]
    have := Nat.mul_le_mul (show m ≤ 65536 by omega) hw
    omega
  have hpr : (m : Int) * (wv : Int) = (tot : Int) := by rw [← htot]; simp
  rw [htot] at hu
  obtain ⟨sz, hsz⟩ : ∃ sz, (tot + 7) / 8 = sz := ⟨_, rfl⟩
  rw [hsz] at hu
  have hs1 : 8 * sz < tot + 8 := by omega
  have hs2 : tot ≤ 8 * sz := by omega
  have HU := Lib.hid hu
  have HTOT := Lib.hid htot
  have e1 : (((m : Int) + 1) == 0) = false := beq_eq_false_iff_ne.2 (by omega)
  have e2 : (((m : Int) + 1) == 1) = false := beq_eq_false_iff_ne.2 (by omega)
  have e3 : decide ((b.length : Int) ≤ (p : Int)) = false := decide_eq_false (by omega)
  have e4 : decide (64 < (wv : Int)) = false := decide_eq_false (by omega)
  have e5 : decide (65536 < (m : Int) + 1) = false := decide_eq_false (by omega)
  unfold maxLen at hm
  clear hg hg2 h hn hr hf h2 hx hp hu hcell htot hsz
  go_enter Try.func21, Try.ntmps21
  go_wp2_with fail
  refine HG.out.mono ?_
  rintro e w1 ⟨rfl, rfl⟩
  go_wp2_with fail
  refine HG2.out.mono ?_
  rintro e w1 ⟨rfl, rfl⟩
  go_wp2
  have HCW : Hid (∀ k, k < b.length → (w.alloc (.cells #[.int .u64 (x : Int)] 34)).cell? ⟨bb, off + k, none⟩ = some (.int .u8 (((b.getD k 0).toNat : Nat) : Int))) := fun k hk => HC.out _ k hk
  have S0 : w.heap.size < (w.alloc (.cells #[.int .u64 (x : Int)] 34)).heap.size := by simp
  clear HC k1
  generalize w.alloc (.cells #[.int .u64 (x : Int)] 34) = wl at *
  go_loop [13] (fun v => RelT sz p v) (fun v => (p + 1 + sz - (intOf v).toNat))
  case atStart => exact ⟨0, (p : Int) + 1, by omega, by show (p : Int) + 1 = _; omega, rfl⟩
  case round =>
    obtain ⟨s, T, hs, hT, rfl⟩ := hrel
    have hTs : T - ((p : Int) + 1) = (s : Int) := by have := hT.out; omega
    have hTb : 0 < T ∧ T < 9000000000000000 := by have := hT.out; omega
    by_cases h8 : 8 * s < tot
    · have c1 : decide (8 * (s : Int) < (tot : Int)) = true := decide_eq_true (by omega)
      go_wp2
      go_round
      case rel => exact ⟨s + 1, T + 1, by omega, by show T + 1 = _; have := hT.out; omega, rfl⟩
      case measure => have := hT.out; simp [intOf]; omega
    · obtain rfl : s = sz := by omega
      have c1 : decide (8 * (s : Int) < (tot : Int)) = false := decide_eq_false (by omega)
      by_cases hTl : b.length < p + 1 + s
      · have HP : Hid (unp b at_ = (5, [], 0)) := by
          show unp b at_ = _
          rw [HU.out, if_pos hTl]
        have c2 : decide ((b.length : Int) < T) = true := decide_eq_true (by have := hT.out; omega)
        clear HU
        go_wp2
        go_ret3
        exact post_nil HP.out rfl HBW.out
      · have c2 : decide ((b.length : Int) < T) = false := decide_eq_false (by have := hT.out; omega)
        rw [if_neg hTl] at HU
        obtain ⟨Bs, hBs⟩ : ∃ Bs, (b.drop (p + 1)).take s = Bs := ⟨_, rfl⟩
        have hBl : Bs.length = s := by rw [← hBs, List.length_take, List.length_drop]; omega
        have HBY : Hid (∀ k, k < s → Bs.getD k 0 = b.getD (p + 1 + k) 0) := fun k hk => by
          rw [← hBs]
          simp [List.getD_eq_getElem?_getD, List.getElem?_take, List.getElem?_drop, hk]
        rw [hBs] at HU
        have HBIT : Hid (∀ j, j < 8 * s → (b.getD (p + 1 + j / 8) 0).toNat / 2 ^ (j % 8) % 2 = num Bs / 2 ^ j % 2) := fun j hj => by
          rw [← HBY.out (j / 8) (by omega), ← num_bit Bs j (by omega)]
          congr 3
          simp [List.getD_eq_getElem?_getD, List.getElem?_eq_getElem (show j / 8 < Bs.length by omega)]
        have HMLT : Hid (num Bs < 2 ^ (8 * s)) := by
          have := num_lt Bs
          rw [hBl, show (256 : Nat) = 2 ^ 8 from rfl, ← Nat.pow_mul] at this
          exact this
        generalize num Bs = M at *
        clear hBs hBl HBY
        go_wp2
        go_loop [15] (fun v => RelF s tot M v) (fun v => 8 * s - (intOf v).toNat)
        case atStart => exact ⟨0, by omega, rfl, fun j _ h => absurd h (by omega)⟩
        case round =>
          obtain ⟨i, hi, rfl, hz⟩ := hrel
          by_cases hi8 : i < 8 * s
          · have hbit := HBIT.out i hi8
            have hcy := HCW.out (p + 1 + i / 8) (by omega)
            have hy8 := (b.getD (p + 1 + i / 8) 0).toNat_lt
            generalize (b.getD (p + 1 + i / 8) 0).toNat = y at *
            have c3 : decide ((i : Int) < 8 * (s : Int)) = true := decide_eq_true (by omega)
            have e9 : (p : Int) + 1 + (i : Int) / 8 = ((p + 1 + i / 8 : Nat) : Int) := by omega
            have hpb : p + 1 + i / 8 < b.length := by omega
            have hpb2 : p + 1 + i / 8 < 9000000000000000 := by omega
            generalize p + 1 + i / 8 = pj at *
            have hbv := bitv y (i % 8) (by omega)
            have hM2 : M / 2 ^ i % 2 < 2 := Nat.mod_lt _ (by omega)
            by_cases ht : tot ≤ i
            · have c4 : decide ((tot : Int) ≤ (i : Int)) = true := decide_eq_true (by omega)
              by_cases hb1 : M / 2 ^ i % 2 = 1
              · have hbb1 : ((IntKind.u64.wrap ((y : Int) / 2 ^ (i % 8))).tmod 2 == 1) = true := by rw [hbv, hbit, hb1]; rfl
                have HP : Hid (unp b at_ = (6, [], 0)) := by
                  have hnl := high_bit ht hb1
                  show unp b at_ = _
                  rw [HU.out]
                  split
                  · rfl
                  · rw [if_neg (fun h => hnl h.1)]
                clear hbv hbit HU
                go_wp2
                go_ret3
                exact post_nil HP.out rfl HBW.out
              · have hbb1 : ((IntKind.u64.wrap ((y : Int) / 2 ^ (i % 8))).tmod 2 == 1) = false := by rw [hbv, hbit]; exact beq_eq_false_iff_ne.2 (by omega)
                have HZ : Hid (∀ j, tot ≤ j → j < i + 1 → M / 2 ^ j % 2 = 0) := fun j h1 h2 => by
                  by_cases e : j = i
                  · subst e; omega
                  · exact hz.out j h1 (by omega)
                clear hbv hbit hz
                go_wp2
                go_round
                case rel => exact ⟨i + 1, by omega, by go_num, HZ⟩
                case measure => simp [intOf]; omega
            · have c4 : decide ((tot : Int) ≤ (i : Int)) = false := decide_eq_false (by omega)
              have HZ : Hid (∀ j, tot ≤ j → j < i + 1 → M / 2 ^ j % 2 = 0) := fun j h1 h2 => absurd h1 (by omega)
              clear hbv hbit hz
              go_wp2
              go_round
              case rel => exact ⟨i + 1, by omega, by go_num, HZ⟩
              case measure => simp [intOf]; omega
          · obtain rfl : i = 8 * s := by omega
            have hlow := low_bits HMLT.out hz.out
            have HU2 : Hid (unp b at_ = match run x (cuts M wv m) with
                | none => (6, [], 0)
                | some l => if width (cuts M wv m) = wv then (0, l, ((p + 1 + s : Nat) : Int)) else (6, [], 0)) := by
              show unp b at_ = _
              rw [HU.out]
              cases run x (cuts M wv m) with
              | none => rfl
              | some l =>
                simp only
                by_cases e : width (cuts M wv m) = wv
                · rw [if_pos ⟨hlow, e⟩, if_pos e]
                · rw [if_neg (fun h => e h.2), if_neg e]
            have c3 : decide (8 * (s : Int) < 8 * (s : Int)) = false := decide_eq_false (by omega)
            clear HU hlow hz HMLT
            obtain ⟨i1, gi, gz0, gz1, gz2⟩ := info_parts info_u64
            go_wp2
            go_loopw [9, 10, 14, 17] (fun vx vl vm vi wr => RelG x m wv M w vx vl vm vi wr) (fun _ _ _ vi _ => m - (intOf vi).toNat)
            case atStart =>
              refine ⟨0, x, [x.toUInt64], by omega, rfl, rfl, by omega, by show x = _; simp [cuts], rfl, ?_, rfl, HBW.out⟩
              have ex : [x.toUInt64].map B64 = (#[Value.int .u64 (x : Int)] : Array Value).toList := by simp [B64]; omega
              rw [ex]
              exact HO1.out
            case round =>
              obtain ⟨i, xc, L, hi, rfl, rfl, hxc, hxe, hrun, hown, rfl, hbl⟩ := hrel
              have HOW := Lib.hid hown
              have HBL := Lib.hid hbl
              clear hown HO1 HBW
              have hW64 : width (cuts M wv i) ≤ 64 := Nat.le_trans ((width_le _ _).2 (cuts_lt M wv i)) hw
              generalize hWd : width (cuts M wv i) = Wd at *
              have HWD := Lib.hid hWd
              clear hWd
              by_cases hlt : i < m
              · obtain ⟨iw, hiw⟩ : ∃ iw, i * wv = iw := ⟨_, rfl⟩
                have hiw2 : (i : Int) * (wv : Int) = (iw : Int) := by rw [← hiw]; simp
                have hiwb : iw + wv ≤ tot := by
                  have := Nat.mul_le_mul_right wv (show i + 1 ≤ m by omega)
                  rw [Nat.succ_mul, hiw, HTOT.out] at this
                  exact this
                have c5 : decide ((i : Int) < (m : Int)) = true := decide_eq_true (by omega)
                clear hbl
                go_wp2
                go_loop [18, 19] (fun vd vk => RelD M iw wv vd vk) (fun _ vk => (intOf vk + 1).toNat)
                case atStart => exact ⟨wv, 0, (wv : Int) - 1, by omega, by omega, rfl, rfl, by show (0 : Nat) = _; simp [Nat.mod_one]⟩
                case round =>
                  obtain ⟨t, D, kk, ht, hkk, rfl, rfl, hD⟩ := hrel
                  by_cases ht0 : t = 0
                  · subst ht0
                    obtain rfl : kk = -1 := by omega
                    have hD2 := hD.out
                    rw [Nat.add_zero, Nat.sub_zero, ← hiw] at hD2
                    have HCUT : Hid (cuts M wv (i + 1) = cuts M wv i ++ [D]) := by
                      show cuts M wv (i + 1) = _
                      rw [cuts, hD2]
                    have hD64 : D < 18446744073709551616 := by
                      rw [hD2]
                      exact Nat.lt_of_lt_of_le (Nat.mod_lt _ (Nat.two_pow_pos _)) (show 2 ^ wv ≤ 2 ^ 64 from Nat.pow_le_pow_right (by omega) hw)
                    have HRUN : Hid (run x (cuts M wv (i + 1)) = if 18446744073709551615 - xc ≤ D then none else some (L ++ [(xc + D + 1).toUInt64])) := by
                      show run x (cuts M wv (i + 1)) = _
                      rw [HCUT.out, run_snoc, hrun.out, Option.bind_some, ← hxe.out]
                    clear hD hD2 hkk
                    by_cases hov : 18446744073709551615 - xc ≤ D
                    · have c6 : decide (18446744073709551615 - (xc : Int) ≤ (D : Int)) = true := decide_eq_true (by omega)
                      have HP : Hid (unp b at_ = (6, [], 0)) := by
                        show unp b at_ = _
                        have h9 := HRUN.out
                        rw [if_pos hov] at h9
                        obtain ⟨r, hr9⟩ := cuts_take M wv (show i + 1 ≤ m by omega)
                        rw [HU2.out, hr9, run_none h9]
                      clear HU2 HRUN
                      go_wp2
                      go_ret3
                      exact post_nil HP.out rfl HBL.out
                    · have c6 : decide (18446744073709551615 - (xc : Int) ≤ (D : Int)) = false := decide_eq_false (by omega)
                      rw [if_neg hov] at HRUN
                      have hx9 : xc + D + 1 ≤ 18446744073709551615 := by omega
                      have HX9 : Hid (xc + D + 1 = x + (cuts M wv (i + 1)).sum + (cuts M wv (i + 1)).length) := by
                        show xc + D + 1 = _
                        have h9 := hxe.out
                        rw [HCUT.out]
                        simp
                        omega
                      have HW9 : Hid (width (cuts M wv (i + 1)) = max Wd (need D)) := by
                        show width (cuts M wv (i + 1)) = _
                        rw [HCUT.out, width_snoc, HWD.out]
                      have eL : (L ++ [(xc + D + 1).toUInt64]).map B64 = L.map B64 ++ [.int .u64 ((xc : Int) + (D : Int) + 1)] := by
                        simp [B64]
                        omega
                      have HEL := Lib.hid eL
                      have ND := fun w' => Lib.hid (need_any D w' hD64)
                      have hgl : need D ≤ 64 := need_64 (by omega)
                      clear eL hrun hxe HWD hov
                      generalize need D = gN at *
                      go_wp2_with (at_builtin; refine wpList_append_rd _ rfl (.tmp 153) (.tmp 155) 22 rfl w.heap.size 34 i1 (.int .u64 0) 8 Try.underlying22 gi gz0 gz1 gz2 rfl _ _ _ rfl (HOW.out.alloc _) (wr.heap.size + 1) (some ⟨wr.heap.size, 0, none⟩) 1 1 [.int .u64 ((xc : Int) + (D : Int) + 1)] rfl rfl (Rd.made wr #[.int .u64 ((xc : Int) + (D : Int) + 1)] 34) ?f1 ?f2 ?f3 ?f4 ?_)
                      case f1 => first | rfl | (intro u hu; simp at hu; subst hu; rfl)
                      case f2 => unfold maxLen; omega
                      case f3 => omega
                      case f4 => have := HBL.out.size; simp; omega
                      intro vl w9 hown9 hg9 _
                      have HB9 := Lib.hid (below_app (HOW.out.alloc _) (HBL.out.alloc HBL.out.size _) hg9)
                      have HO9 : Hid (w9.ownsRow w.heap.size 34 1 vl (i + 1 + 1) ((L ++ [(xc + D + 1).toUInt64]).map B64)) := by
                        show World.ownsRow _ _ _ _ _ _ _
                        rw [HEL.out]
                        exact hown9
                      clear hown9 hg9 HOW HBL
                      go_wp2_with fail
                      refine (ND _).out.mono ?_
                      rintro e w10 ⟨rfl, rfl⟩
                      by_cases hWg : Wd < gN
                      · have c7 : decide ((Wd : Int) < (gN : Int)) = true := decide_eq_true (by omega)
                        go_wp2_with fail
                        refine (ND _).out.mono ?_
                        rintro e w10 ⟨rfl, rfl⟩
                        go_wp2
                        go_roundw
                        case rel => exact ⟨i + 1, xc + D + 1, _, by omega, by go_num, by go_num, hx9, HX9, HRUN, HO9.out, by rw [HW9.out, Nat.max_eq_right (by omega)], HB9.out⟩
                        case measure => simp [intOf]; omega
                      · have c7 : decide ((Wd : Int) < (gN : Int)) = false := decide_eq_false (by omega)
                        go_wp2
                        go_roundw
                        case rel => exact ⟨i + 1, xc + D + 1, _, by omega, by go_num, by go_num, hx9, HX9, HRUN, HO9.out, by rw [HW9.out, Nat.max_eq_left (by omega)], HB9.out⟩
                        case measure => simp [intOf]; omega
                  · obtain ⟨u, rfl⟩ : ∃ u, t = u + 1 := ⟨t - 1, by omega⟩
                    obtain rfl : kk = (u : Int) := by omega
                    obtain ⟨j, hj⟩ : ∃ j, iw + u = j := ⟨_, rfl⟩
                    have hst := bit_step M (iw + u) (wv - (u + 1))
                    rw [show wv - (u + 1) + 1 = wv - u by omega, show iw + u + 1 = iw + (u + 1) by omega, ← hD.out] at hst
                    rw [hj] at hst
                    have hjt : j < tot := by omega
                    have hDl : D < 9223372036854775808 := by
                      rw [hD.out]
                      exact Nat.lt_of_lt_of_le (Nat.mod_lt _ (Nat.two_pow_pos _)) (show 2 ^ (wv - (u + 1)) ≤ 2 ^ 63 from Nat.pow_le_pow_right (by omega) (by omega))
                    have hbit := HBIT.out j (by omega)
                    have hcy0 := (HBL.out.cell (p := ⟨bb, off + (p + 1 + j / 8), none⟩) hbb).trans (HC0.out (p + 1 + j / 8) (by omega))
                    have hy8 := (b.getD (p + 1 + j / 8) 0).toNat_lt
                    generalize (b.getD (p + 1 + j / 8) 0).toNat = y at *
                    have hbv := bitv y (j % 8) (by omega)
                    rw [hbit] at hbv
                    have hM2 : M / 2 ^ j % 2 < 2 := Nat.mod_lt _ (by omega)
                    generalize M / 2 ^ j % 2 = B at *
                    have HST := Lib.hid hst
                    have e8 : (iw : Int) + (u : Int) = (j : Int) := by omega
                    have e9 : (p : Int) + 1 + (j : Int) / 8 = ((p + 1 + j / 8 : Nat) : Int) := by omega
                    have hpb : p + 1 + j / 8 < b.length := by omega
                    have hpb2 : p + 1 + j / 8 < 9000000000000000 := by omega
                    generalize p + 1 + j / 8 = pj at *
                    have HJ := Lib.hid hj
                    clear hj hst hD hkk hbit
                    go_wp2
                    go_round
                    case rel => exact ⟨u, 2 * D + B, (u : Int) - 1, by omega, by omega, rfl, by simp, by show 2 * D + B = _; rw [HJ.out, HST.out]⟩
                    case measure => simp [intOf]
              · obtain rfl : i = m := by omega
                have c5 : decide ((i : Int) < (i : Int)) = false := decide_eq_false (by omega)
                clear hbl
                have hHU := HU2.out
                rw [hrun.out] at hHU
                have hLl := run_length hrun.out
                rw [cuts_length] at hLl
                by_cases heq : Wd = wv
                · have HP : Hid (unp b at_ = (0, L, ((p + 1 + s : Nat) : Int))) := by
                    show unp b at_ = _
                    rw [hHU]
                    simp only
                    rw [HWD.out, if_pos heq]
                  have c6 : ((Wd : Int) != (wv : Int)) = false := by simp [heq]
                  have HLL := Lib.hid hLl
                  obtain ⟨AL, cL, rfl, _, _, _⟩ := own_slice HOW.out
                  clear hHU hLl HU2 hrun hxe HWD heq
                  go_wp2
                  go_ret3
                  unfold UnPost
                  rw [HP.out]
                  refine ⟨.slice AL (i + 1) cL, ?_, ?_, HBL.out⟩
                  · have h9 := hT.out
                    rw [h9]
                    rfl
                  · show World.ownsRow _ _ _ _ _ L.length _
                    rw [HLL.out]
                    exact HOW.out
                · have HP : Hid (unp b at_ = (6, [], 0)) := by
                    show unp b at_ = _
                    rw [hHU]
                    simp only
                    rw [HWD.out, if_neg heq]
                  have c6 : ((Wd : Int) != (wv : Int)) = true := by simp; omega
                  clear hHU hLl HU2 hrun hxe HWD heq
                  go_wp2
                  go_ret3
                  exact post_nil HP.out rfl HBL.out

/-- THE DOCUMENT's UNPACK. -/
theorem refun_any (b : List UInt8) (A : Option Addr) (n0 c : Nat) (at_ : Int) (w : World) (h0 : n0 = b.length) (hr : Rd w w.heap.size A (b.map B8)) (hc : b.length ≤ c) (hm : c ≤ maxLen) (hlen : b.length ≤ 140737488355327) :
    Calls Try.prog 21 #[.slice A n0 c, .int .i64 at_] w (UnPost b at_ w) := by
  subst h0
  by_cases h : getE b at_ = 0
  · obtain ⟨n, f, hn, hf, hle, hlt⟩ := un_get_ok h
    by_cases hl : 65536 < n
    · exact refun_many b A c at_ w _ hr hc hm n h hn hl
    by_cases hz : n = 0
    · exact refun_zero b A c at_ w _ hr hc hm h (by rw [hn, hz]; rfl)
    by_cases h2 : getE b (f : Int) = 0
    · obtain ⟨x, p, hx, hp, hpl, hx64⟩ := un_get_ok h2
      by_cases h1 : n = 1
      · exact refun_one b A c at_ w _ hr hc hm f x p h (by rw [hn, h1]; rfl) hf h2 hx hp hx64
      by_cases hpb : p < b.length
      · by_cases hw : (b.getD p 0).toNat ≤ 64
        · obtain ⟨m, rfl⟩ : ∃ m, n = m + 1 := ⟨n - 1, by omega⟩
          exact refun_in b A c at_ w hr hc hm hlen m f x p h hn (by omega) (by omega) hf h2 hx hp hx64 hpb hw
        · exact refun_bad b A c at_ w _ hr hc hm n f x p h hn hl (by omega) hf h2 hx hp hx64 (.inr ⟨hpb, by omega⟩)
      · exact refun_bad b A c at_ w _ hr hc hm n f x p h hn hl (by omega) hf h2 hx hp hx64 (.inl (by omega))
    · exact refun_err2 b A c at_ w _ hr hc hm n f h hn hl hz hf h2
  · exact refun_err b A c at_ w _ hr hc hm h
end Go.Proofs.Ytokmoodiolnfiaa.RefUn2
