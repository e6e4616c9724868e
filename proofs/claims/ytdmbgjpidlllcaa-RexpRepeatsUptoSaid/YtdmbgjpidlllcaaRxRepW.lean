/- RexpRepeats' walk. Conditions: the program's Parse answers parseT, in memory; a text is shorter than 2^62. -/
import Derived.Test.YtdmbgjpidlllcaaRxParses
import Derived.Test.YtdmbgjpidlllcaaRxRepP
import Derived.Test.YtdmbgjpidlllcaaRxWants
import Derived.Deep.CutBlock
namespace Go.Proofs.Ytdmbgjpidlllcaa.RxRepW
open Go Go.RowKit Words AppN Km Mo_ RxSpec RxTree RxEq RxMem RxPeek RxHas RxNode RxClean RxPost RxAll RxSize RxSmall RxText RxParse RxSame RxAwake RxLaw RxRepP RxJoinP RxWant RegD

theorem enc_digit {c : Nat} (h : c < 128) : Utf8.encode (c : Int) = ⟨#[UInt8.ofNat c]⟩ := by
  have hv : Utf8.valid (c : Int) = true := by rw [UtSpec.valid_okr]; exact UtSpec.sc_okr (.inl (by omega))
  unfold Utf8.encode
  simp only [hv, if_true, Int.toNat_natCast]
  rw [if_pos h]
def W0 (w2 : World) (lo hi : Nat) (dl dh : ByteArray) : World := ((w2.alloc (.cells #[.string ⟨#[42]⟩, .string ⟨#[43]⟩, .string ⟨#[63]⟩, .string (⟨#[123]⟩ ++ dl ++ ⟨#[125]⟩), .string (⟨#[123]⟩ ++ dl ++ ⟨#[44]⟩ ++ dh ++ ⟨#[125]⟩)] 38)).alloc
  (.cells #[.int .i64 0, .int .i64 1, .int .i64 0, .int .i64 (lo : Int), .int .i64 (lo : Int)] 39)).alloc (.cells #[.int .i64 (-1), .int .i64 (-1), .int .i64 1, .int .i64 (lo : Int), .int .i64 (hi : Int)] 39)
theorem three (w : World) (o1 o2 o3 : Obj) : (((w.alloc o1).alloc o2).alloc o3).heap[w.heap.size]? = some o1 ∧ (((w.alloc o1).alloc o2).alloc o3).heap[w.heap.size + 1]? = some o2 ∧ (((w.alloc o1).alloc o2).alloc o3).heap[w.heap.size + 1 + 1]? = some o3 := by
  refine ⟨(heap_alloc_old _ _ (by simp; omega)).trans ((heap_alloc_old _ _ (by simp)).trans (heap_alloc_new w o1)), (heap_alloc_old _ _ (by simp)).trans ?_, ?_⟩
  · have := heap_alloc_new (w.alloc o1) o2
    rwa [World.size_alloc] at this
  · have := heap_alloc_new ((w.alloc o1).alloc o2) o3
    rwa [World.size_alloc, World.size_alloc] at this
theorem arr_facts {w2 : World} {lo hi i : Nat} (hi5 : i < 5) {dl dh : ByteArray} (h1 : dl = ⟨#[UInt8.ofNat (48 + lo)]⟩) (h2 : dh = ⟨#[UInt8.ofNat (48 + hi)]⟩) :
    ∃ t : ByteArray, (W0 w2 lo hi dl dh).cell? ⟨w2.heap.size, i, none⟩ = some (.string t) ∧ t.data.toList = (repT i lo hi).map UInt8.ofNat ∧ t.size ≤ 5 ∧
      (W0 w2 lo hi dl dh).cell? ⟨w2.heap.size + 1, i, none⟩ = some (.int .i64 (repMin i lo : Int)) ∧ (W0 w2 lo hi dl dh).cell? ⟨w2.heap.size + 1 + 1, i, none⟩ = some (.int .i64 (repMax i lo hi)) := by
  subst h1 h2
  obtain ⟨b0, b1, b2⟩ := three w2 (.cells #[.string ⟨#[42]⟩, .string ⟨#[43]⟩, .string ⟨#[63]⟩, .string (⟨#[123]⟩ ++ ⟨#[UInt8.ofNat (48 + lo)]⟩ ++ ⟨#[125]⟩), .string (⟨#[123]⟩ ++ ⟨#[UInt8.ofNat (48 + lo)]⟩ ++ ⟨#[44]⟩ ++ ⟨#[UInt8.ofNat (48 + hi)]⟩ ++ ⟨#[125]⟩)] 38) (.cells #[.int .i64 0, .int .i64 1, .int .i64 0, .int .i64 (lo : Int), .int .i64 (lo : Int)] 39) (.cells #[.int .i64 (-1), .int .i64 (-1), .int .i64 1, .int .i64 (lo : Int), .int .i64 (hi : Int)] 39)
  have hc : i = 0 ∨ i = 1 ∨ i = 2 ∨ i = 3 ∨ i = 4 := by omega
  rcases hc with rfl | rfl | rfl | rfl | rfl
  · exact ⟨_, RxMem.cell_of_row b0 rfl, rfl, by decide, RxMem.cell_of_row b1 rfl, RxMem.cell_of_row b2 rfl⟩
  · exact ⟨_, RxMem.cell_of_row b0 rfl, rfl, by decide, RxMem.cell_of_row b1 rfl, RxMem.cell_of_row b2 rfl⟩
  · exact ⟨_, RxMem.cell_of_row b0 rfl, rfl, by decide, RxMem.cell_of_row b1 rfl, RxMem.cell_of_row b2 rfl⟩
  · exact ⟨_, RxMem.cell_of_row b0 rfl, rfl, (by rw [ByteArray.size_append, ByteArray.size_append]; exact (by decide : 3 ≤ 5)), RxMem.cell_of_row b1 rfl, RxMem.cell_of_row b2 rfl⟩
  · exact ⟨_, RxMem.cell_of_row b0 rfl, rfl, (by rw [ByteArray.size_append, ByteArray.size_append, ByteArray.size_append, ByteArray.size_append]; exact (by decide : 5 ≤ 5)), RxMem.cell_of_row b1 rfl, RxMem.cell_of_row b2 rfl⟩
def RRel (W : World) (vi : Value) (wr : World) : Prop := ∃ i : Nat, i ≤ 5 ∧ vi = .int .i64 (i : Int) ∧ Hid (Below W.heap.size W wr)
set_option maxHeartbeats 3200000 in
set_option maxRecDepth 100000 in
theorem repeats_any (P : RexpC) (w : World) (s : ByteArray) (m n : UInt8) (hs : s.size ≤ 1048576) : Calls Try.prog 7 #[.string s, .int .u8 (m.toNat : Int), .int .u8 (n.toNat : Int)] w fun e w' => e = .returned (.bool true) ∧ Below w.heap.size w w' := by
  have HAW := awake_any P
  go_enter Try.func7, Try.ntmps7
  go_wp2_with fail
  refine (HAW _).mono ?_
  rintro _ w1 ⟨rfl, hb1⟩
  have HBa := Lib.hid hb1
  clear HAW hb1
  go_wp2_with fail
  refine (P s _ (by omega)).mono ?_
  rintro _ w2 ⟨A, c, ms, x, rfl, hp, ht, hb2⟩
  have HT := Lib.hid ht
  have HP := Lib.hid hp
  have HBb := Lib.hid (bt HBa.out hb2)
  clear hb2 HBa
  by_cases hx : x = 0
  case neg =>
    have d1 : ((x : Int) != 0) = true := by simp; omega
    go_wp2
    go_ret
    exact ⟨rfl, HBb.out⟩
  subst hx
  generalize hlo : m.toNat % 10 = lo
  generalize hhi : n.toNat % 10 = hi
  rw [show ((0 : Nat) : Int) = 0 from rfl]
  have d1 : ((0 : Int) != 0) = false := rfl
  have m1 : ((m.toNat : Int)).tmod 10 = (lo : Int) := by rw [Int.tmod_eq_emod_of_nonneg (by omega)]; omega
  have m2 : ((n.toNat : Int)).tmod 10 = (hi : Int) := by rw [Int.tmod_eq_emod_of_nonneg (by omega)]; omega
  have m3 : ((m.toNat : Int)) % 10 = (lo : Int) := by omega
  have m4 : ((n.toNat : Int)) % 10 = (hi : Int) := by omega
  have HLO : Hid (lo < 10) := Lib.hid (by omega)
  have HHI : Hid (hi < 10) := Lib.hid (by omega)
  obtain ⟨c1, hc1⟩ : ∃ c : Nat, 48 + lo = c := ⟨_, rfl⟩
  obtain ⟨c2, hc2⟩ : ∃ c : Nat, 48 + hi = c := ⟨_, rfl⟩
  obtain ⟨dl, hdl⟩ : ∃ dl, Utf8.encode (c1 : Int) = dl := ⟨_, rfl⟩
  obtain ⟨dh, hdh⟩ : ∃ dh, Utf8.encode (c2 : Int) = dh := ⟨_, rfl⟩
  have r1 : IntKind.i32.wrap (c1 : Int) = (c1 : Int) := IntWalk.i32_in _ (by omega)
  have r2 : IntKind.i32.wrap (c2 : Int) = (c2 : Int) := IntWalk.i32_in _ (by omega)
  have r3 : IntKind.i64.wrap ((48 : Int) + (lo : Int)) = (c1 : Int) := by rw [IntWalk.i64_in _ (by omega)]; omega
  have r4 : IntKind.i64.wrap ((48 : Int) + (hi : Int)) = (c2 : Int) := by rw [IntWalk.i64_in _ (by omega)]; omega
  have hz1 : dl.size = 1 := by rw [← hdl, enc_digit (by omega)]; rfl
  have hz2 : dh.size = 1 := by rw [← hdh, enc_digit (by omega)]; rfl
  have HC1 := Lib.hid hc1
  have HC2 := Lib.hid hc2
  clear hc1 hc2
  have hfew := text_few HP.out
  rw [nds_len] at hfew
  have hml : ms.length ≤ 1000000 := by omega
  obtain ⟨r, hr⟩ : ∃ r, ms.length - 1 = r := ⟨_, rfl⟩
  have hr0 : IntKind.i64.wrap ((ms.length : Int) - 1) = (r : Int) := by rw [IntWalk.i64_in _ (by omega)]; omega
  have HR1 := Lib.hid hr
  have HNL : Hid ((nds ms).length = ms.length) := Lib.hid (nds_len ms)
  have hle := ht.le
  obtain ⟨W, hW⟩ : ∃ W, W0 w2 lo hi dl dh = W := ⟨_, rfl⟩
  have HAF : Hid (∀ i, i < 5 → ∃ t : ByteArray, W.cell? ⟨w2.heap.size, i, none⟩ = some (.string t) ∧ t.data.toList = (repT i lo hi).map UInt8.ofNat ∧ t.size ≤ 5 ∧ W.cell? ⟨w2.heap.size + 1, i, none⟩ = some (.int .i64 (repMin i lo : Int)) ∧ W.cell? ⟨w2.heap.size + 1 + 1, i, none⟩ = some (.int .i64 (repMax i lo hi))) := Lib.hid (by
    rw [← hW]
    exact fun i hi5 => arr_facts hi5 (by rw [← hdl, enc_digit (by have := HC1.out; have := HLO.out; omega), ← HC1.out]) (by rw [← hdh, enc_digit (by have := HC2.out; have := HHI.out; omega), ← HC2.out]))
  have hWs : W.heap.size = w2.heap.size + 1 + 1 + 1 := by rw [← hW]; simp [W0]
  have HT2 : Hid (Tr W A c ms) := Lib.hid (HT.out.up (by rw [← hW]; exact (((Below.refl _ w2).alloc (Nat.le_refl _) _).alloc (by simp) _).alloc (by simp; omega) _))
  have HBW : Hid (Below w.heap.size w W) := Lib.hid (bt HBb.out (by rw [← hW]; exact (((Below.refl _ w2).alloc (Nat.le_refl _) _).alloc (by simp) _).alloc (by simp; omega) _))
  clear HBb
  unfold W0 at hW
  clear hlo hhi ht hp hr hfew HT
  go_upto_region 11 with (fail)
  clear hW hdl hdh r1 r2 r3 r4 hz1 hz2 m1 m2 m3 m4 d1
  go_wp2_with fail
  go_loopw [14] (fun vi wr => RRel W vi wr) (fun vi _ => 5 - (intOf vi).toNat)
  case atStart => exact ⟨0, Nat.zero_le _, rfl, Lib.hid (Below.refl _ _)⟩
  case round =>
    obtain ⟨i, hi5, rfl, HBr⟩ := hrel
    by_cases hlt : i < 5
    case neg =>
      have d1 : decide ((i : Int) < 5) = false := decide_eq_false (by omega)
      go_wp2
      go_ret
      exact ⟨rfl, bt HBW.out HBr.out⟩
    case pos =>
      have d1 : decide ((i : Int) < 5) = true := decide_eq_true (by omega)
      have i0 : (0 : Int) ≤ (i : Int) := by omega
      have i1 : (i : Int) < 5 := by omega
      obtain ⟨t, k0, htx, hts, km, kx⟩ := HAF.out i hlt
      have K0 := Lib.hid k0
      have KM := Lib.hid km
      have KX := Lib.hid kx
      have q0 := cell_up HBr.out (p := ⟨w2.heap.size, i, none⟩) (by show w2.heap.size < _; omega) k0
      have HX1 : Hid ((⟨#[40]⟩ ++ s ++ ⟨#[41]⟩ ++ t : ByteArray).data.toList = 40 :: (s.data.toList ++ 41 :: (repT i lo hi).map UInt8.ofNat)) := Lib.hid (by simp [ByteArray.data_append, htx])
      have HX2 : Hid ((⟨#[40]⟩ ++ s ++ ⟨#[41]⟩ ++ t ++ ⟨#[42]⟩ : ByteArray).data.toList = 40 :: (s.data.toList ++ 41 :: (repT i lo hi ++ [42]).map UInt8.ofNat)) := Lib.hid (by simp [ByteArray.data_append, htx])
      have HZ1 : Hid ((⟨#[40]⟩ ++ s ++ ⟨#[41]⟩ ++ t : ByteArray).size ≤ 9223372036854775807) := Lib.hid (by rw [ByteArray.size_append, ByteArray.size_append, ByteArray.size_append]; show 1 + s.size + 1 + t.size ≤ _; omega)
      have HZ2 : Hid ((⟨#[40]⟩ ++ s ++ ⟨#[41]⟩ ++ t ++ ⟨#[42]⟩ : ByteArray).size ≤ 9223372036854775807) := Lib.hid (by rw [ByteArray.size_append, ByteArray.size_append, ByteArray.size_append, ByteArray.size_append]; show 1 + s.size + 1 + t.size + 1 ≤ _; omega)
      clear k0 km kx htx
      go_wp2_with fail
      refine (P _ _ HZ1.out).mono ?_
      rintro _ w4 ⟨A1, c1', ns, y, rfl, hp1, ht1, hb4⟩
      rw [HX1.out] at hp1
      have HP1 := Lib.hid hp1
      have HT1 := Lib.hid ht1
      have HB4 : Hid (Below W.heap.size W w4) := Lib.hid (HBr.out.trans (hb4.mono HBr.out.size))
      clear hp1 ht1 hb4 q0 HBr
      have q0 := cell_up HB4.out (p := ⟨w2.heap.size, i, none⟩) (by show w2.heap.size < _; omega) K0.out
      go_wp2_with fail
      refine (P _ _ HZ2.out).mono ?_
      rintro _ w5 ⟨A2, c2', ns2, z, rfl, hp2, ht2, hb5⟩
      rw [HX2.out] at hp2
      have HTN : Hid (Tr w5 A1 c1' ns) := Lib.hid (HT1.out.up hb5)
      have HB0 : Hid (Below W.heap.size W w5) := Lib.hid (HB4.out.trans (hb5.mono HB4.out.size))
      have key := text_rep HP.out hlt HLO.out HHI.out HP1.out hp2
      clear hp2 ht2 hb5 q0 HB4 HT1 HX1 HX2 HZ1 HZ2 hts
      rcases key with rfl | rfl | rfl | ⟨hz, hbad⟩
      · rw [show ((4 : Nat) : Int) = 4 from rfl]
        go_wp2
        exact ⟨⟨i + 1, by omega, by go_num, HB0⟩, by simp [intOf]; omega⟩
      · rw [show ((9 : Nat) : Int) = 9 from rfl]
        go_wp2
        exact ⟨⟨i + 1, by omega, by go_num, HB0⟩, by simp [intOf]; omega⟩
      · rw [show ((3 : Nat) : Int) = 3 from rfl]
        go_wp2
        exact ⟨⟨i + 1, by omega, by go_num, HB0⟩, by simp [intOf]; omega⟩
      have hy : y = 40 ∨ y = 0 := hbad.elim (fun h => .inl h.2) (fun h => .inr h.2.1)
      have e4 : ((y : Int) == 4) = false := by simp; omega
      have e9 : ((y : Int) == 9) = false := by simp; omega
      have e3 : ((y : Int) == 3) = false := by simp; omega
      have HBAD := Lib.hid hbad
      clear hbad hy
      go_upto_region 17 with (fail)
      go_cut [102] from 97 to 102 (fun s102 wx => s102 = .bool false ∧ wx = w5)
      case first =>
        rcases hz with rfl | rfl
        · rw [show ((40 : Nat) : Int) = 40 from rfl]
          go_wp2
          go_meet
          exact ⟨rfl, rfl⟩
        · rw [show ((4 : Nat) : Int) = 4 from rfl]
          go_wp2
          go_meet
          exact ⟨rfl, rfl⟩
      case rest =>
      obtain ⟨hc1, hc2⟩ := hcut
      have hc2 := hc2.symm
      subst hc1 hc2
      clear e4 e9 e3 hz
      go_upto_region 19 with (fail)
      go_cut [121] from 103 to 121 (fun s121 wx => s121 = .bool (repBad i lo hi) ∧ wx = w5)
      case first =>
        by_cases g1 : 8 < lo
        · have f1 : decide ((8 : Int) < (lo : Int)) = true := decide_eq_true (by omega)
          by_cases g2 : 3 ≤ i
          · have f2 : decide ((3 : Int) ≤ (i : Int)) = true := decide_eq_true (by omega)
            have HE : Hid (repBad i lo hi = true) := Lib.hid (by simp [repBad, g1, g2])
            go_wp2
            go_meet
            rw [HE.out]
            exact ⟨rfl, rfl⟩
          · have f2 : decide ((3 : Int) ≤ (i : Int)) = false := decide_eq_false (by omega)
            have f3 : ((i : Int) == 4) = false := by simp; omega
            have HE : Hid (repBad i lo hi = false) := Lib.hid (by simp [repBad]; omega)
            go_wp2
            go_meet
            rw [HE.out]
            exact ⟨rfl, rfl⟩
        · have f1 : decide ((8 : Int) < (lo : Int)) = false := decide_eq_false (by omega)
          by_cases g3 : i = 4
          · have f3 : ((i : Int) == 4) = true := by simp; omega
            by_cases g4 : 8 < hi
            · have f4 : decide ((8 : Int) < (hi : Int)) = true := decide_eq_true (by omega)
              have HE : Hid (repBad i lo hi = true) := Lib.hid (by simp [repBad, g3, g4])
              clear g3
              go_wp2
              go_meet
              rw [HE.out]
              exact ⟨rfl, rfl⟩
            · have f4 : decide ((8 : Int) < (hi : Int)) = false := decide_eq_false (by omega)
              by_cases g5 : hi < lo
              · have f5 : decide ((hi : Int) < (lo : Int)) = true := decide_eq_true (by omega)
                have f6 : decide (hi < lo) = true := decide_eq_true g5
                have HE : Hid (repBad i lo hi = true) := Lib.hid (by simp [repBad, g3, g5])
                clear g3
                go_wp2
                go_meet
                rw [HE.out]
                exact ⟨rfl, rfl⟩
              · have f5 : decide ((hi : Int) < (lo : Int)) = false := decide_eq_false (by omega)
                have f6 : decide (hi < lo) = false := decide_eq_false g5
                have HE : Hid (repBad i lo hi = false) := Lib.hid (by simp [repBad, g3]; omega)
                clear g3
                go_wp2
                go_meet
                rw [HE.out]
                exact ⟨rfl, rfl⟩
          · have f3 : ((i : Int) == 4) = false := by simp; omega
            have HE : Hid (repBad i lo hi = false) := Lib.hid (by simp [repBad]; omega)
            go_wp2
            go_meet
            rw [HE.out]
            exact ⟨rfl, rfl⟩
      case rest =>
      obtain ⟨hc1, hc2⟩ := hcut
      have hc2 := hc2.symm
      subst hc1 hc2
      rcases HBAD.out with ⟨hb, rfl⟩ | ⟨hb, rfl, hm⟩
      · rw [hb, show ((40 : Nat) : Int) = 40 from rfl]
        clear hb
        go_wp2
        exact ⟨⟨i + 1, by omega, by go_num, HB0⟩, by simp [intOf]; omega⟩
      rw [hb, show ((0 : Nat) : Int) = 0 from rfl]
      clear hb
      have HM := Lib.hid hm
      clear hm HBAD
      generalize hmx : repMax i lo hi = mx at *
      obtain ⟨mn, hmn'⟩ : ∃ mn : Int, ((repMin i lo : Nat) : Int) = mn := ⟨_, rfl⟩
      rw [hmn'] at KM HM
      have hmn : mn ≤ 1000000 := by rw [← hmn']; have := HLO.out; unfold repMin; repeat' split
                                    all_goals omega
      have hhx : mx ≤ 1000000 := by rw [← hmx]; have := HLO.out; have := HHI.out; unfold repMax; repeat' split
                                    all_goals omega
      clear hmx hmn'
      go_upto_region 22 with (fail)
      go_cut [19] from 124 to 139 (fun s19 wx => ∃ A7 c7 q, s19 = .slice A7 (ms.length + 1) c7 ∧ Hid (Tr wx A7 c7 (ms ++ [newN 5 [r] mn mx q])) ∧ Hid (Below w5.heap.size w5 wx))
      case first =>
        have HT5 := Lib.hid (HT2.out.up HB0.out)
        refine wp_region_D (fun _ => false) (fun w' => w'.cell? ⟨w2.heap.size + 1, i, none⟩ = some (.int .i64 mn) ∧ w'.cell? ⟨w2.heap.size + 1 + 1, i, none⟩ = some (.int .i64 mx)) (by kernel_rfl) ?_
        obtain ⟨X0, hX0⟩ : ∃ X, w5.drew = X := ⟨_, rfl⟩
        have HB00 : Hid (Below w5.heap.size w5 X0) := Lib.hid (by rw [← hX0]; exact below_drewN (Below.refl _ w5) 1)
        have HT0 : Hid (Tr X0 A c ms) := Lib.hid (HT5.out.up HB00.out)
        have up0 : ∀ X, Below X0.heap.size X0 X → (X.cell? ⟨w2.heap.size + 1, i, none⟩ = some (.int .i64 mn) ∧ X.cell? ⟨w2.heap.size + 1 + 1, i, none⟩ = some (.int .i64 mx)) := fun X hb => by
          have hbX : Below W.heap.size W X := (HB0.out.trans ((HB00.out.trans (hb.mono HB00.out.size)).mono HB0.out.size))
          exact ⟨cell_up hbX (p := ⟨w2.heap.size + 1, i, none⟩) (by show w2.heap.size + 1 < _; omega) KM.out, cell_up hbX (p := ⟨w2.heap.size + 1 + 1, i, none⟩) (by show w2.heap.size + 1 + 1 < _; omega) KX.out⟩
        rw [hX0]
        clear hX0 HT5
--R22
        have HQ0 : Hid (Q4 X0 X0 ms 5 [r] mn mx none none none none) := Lib.hid (Q4.zero X0)
        refine wpAnyD_take (i := 1) (v := ?_) rfl (by kernel_rfl) (fun _ _ _ h => h) (Or.inl ⟨by kernel_rfl, ?_⟩) (up0 _ HQ0.out.below) ?_
        rotate_left
        · intro w9 t1
          obtain ⟨t1, t2⟩ := t1
          first | (go_simp; with_reducible rfl) | go_simp
        try simp only [Act.put, List.setIfInBounds_toArray]
        refine wpAnyD_take (i := 3) (v := ?_) rfl (by kernel_rfl) (fun _ _ _ h => h) (Or.inl ⟨by kernel_rfl, ?_⟩) (up0 _ HQ0.out.below) ?_
        rotate_left
        · intro w9 t1
          obtain ⟨t1, t2⟩ := t1
          first | (go_simp; with_reducible rfl) | go_simp
        try simp only [Act.put]
        refine wpAnyD_take (i := 4) (v := ?_) rfl (by kernel_rfl) (fun _ _ _ h => h) (Or.inl ⟨by kernel_rfl, ?_⟩) (up0 _ HQ0.out.below) ?_
        rotate_left
        · intro w9 t1
          obtain ⟨t1, t2⟩ := t1
          first | (go_simp; with_reducible rfl) | go_simp
        try simp only [Act.put]
        refine wpAnyD_take (i := 5) (v := ?_) rfl (by kernel_rfl) (fun _ _ _ h => h) (Or.inl ⟨by kernel_rfl, ?_⟩) (up0 _ HQ0.out.below) ?_
        rotate_left
        · intro w9 t1
          obtain ⟨t1, t2⟩ := t1
          first | (go_simp; with_reducible rfl) | go_simp
        try simp only [Act.put]
        refine wpAnyD_take (i := 7) (v := ?_) rfl (by kernel_rfl) (fun _ _ _ h => h) (Or.inl ⟨by kernel_rfl, ?_⟩) (up0 _ HQ0.out.below) ?_
        rotate_left
        · intro w9 t1
          obtain ⟨t1, t2⟩ := t1
          first | (go_simp; with_reducible rfl) | go_simp
        try simp only [Act.put]
        refine wpAnyD_take (i := 8) (v := ?_) rfl (by kernel_rfl) (fun _ _ _ h => h) (Or.inl ⟨by kernel_rfl, ?_⟩) (up0 _ HQ0.out.below) ?_
        rotate_left
        · intro w9 t1
          obtain ⟨t1, t2⟩ := t1
          first | (go_simp; with_reducible rfl) | go_simp
        try simp only [Act.put]
        refine wpAnyD_take (i := 9) (v := ?_) rfl (by kernel_rfl) (fun _ _ _ h => h) (Or.inl ⟨by kernel_rfl, ?_⟩) (up0 _ HQ0.out.below) ?_
        rotate_left
        · intro w9 t1
          obtain ⟨t1, t2⟩ := t1
          first | (go_simp; with_reducible rfl) | go_simp
        try simp only [Act.put]
        refine wpAnyD_take (i := 10) (v := ?_) rfl (by kernel_rfl) (fun _ _ _ h => h) (Or.inl ⟨by kernel_rfl, ?_⟩) (up0 _ HQ0.out.below) ?_
        rotate_left
        · intro w9 t1
          obtain ⟨t1, t2⟩ := t1
          first | (go_simp; with_reducible rfl) | go_simp
        try simp only [Act.put]
        refine wpAnyD_take (i := 11) (v := ?_) rfl (by kernel_rfl) (fun _ _ _ h => h) (Or.inl ⟨by kernel_rfl, ?_⟩) (up0 _ HQ0.out.below) ?_
        rotate_left
        · intro w9 t1
          obtain ⟨t1, t2⟩ := t1
          first | (go_simp; with_reducible rfl) | go_simp
        try simp only [Act.put]
        refine wpAnyD_take (i := 12) (v := ?_) rfl (by kernel_rfl) (fun _ _ _ h => h) (Or.inl ⟨by kernel_rfl, ?_⟩) (up0 _ HQ0.out.below) ?_
        rotate_left
        · intro w9 t1
          obtain ⟨t1, t2⟩ := t1
          first | (go_simp; with_reducible rfl) | go_simp
        try simp only [Act.put]
        refine RxWant.wpAnyD_two (i := 0) (j := 6) (by kernel_rfl) rfl rfl rfl rfl rfl rfl (fun K hK => ?_) (fun K hK => ?_)
        case refine_1 =>
          go_simp
          have HQ1 : Hid (Q4 X0 (X0.alloc (.cells #[] 33)) ms 5 [r] mn mx (some X0.heap.size) none none none) := Lib.hid HQ0.out.emp_
          refine hK.out _ _ (up0 _ HQ1.out.below) ?_
          clear hK K
          try simp only [Act.put, List.setIfInBounds_toArray, List.set_cons_zero, List.set_cons_succ]
          obtain ⟨X1, hX1⟩ : ∃ X, X0.alloc (.cells #[] 33) = X := ⟨_, rfl⟩
          rw [hX1] at HQ1 ⊢
          clear hX1
          refine RxWant.wpAnyD_two (i := 2) (j := 6) (by kernel_rfl) rfl rfl rfl rfl rfl rfl (fun K hK => ?_) (fun K hK => ?_)
          case refine_1 =>
            obtain ⟨v2, X2, hr2, hq2⟩ := HQ1.out.app_ HT0.out.rd hml
            have HQ2 := Lib.hid hq2
            refine RxWant.wp_append_at (Lib.hid hr2) (.tmp 124) (.tmp 125) rfl rfl rfl rfl ?_ ?_
            · with_reducible rfl
            refine hK.out _ _ (up0 _ HQ2.out.below) ?_
            clear hK K hr2 hq2
            try simp only [Act.put, List.setIfInBounds_toArray]
            refine wpAnyD_one (j := 6) (by kernel_rfl) rfl rfl rfl (fun K hK => ?_)
            go_simp
            have HQ3 : Hid (Q4 X0 (X2.alloc (.cells #[.int .i64 (r : Int)] 3)) ms 5 [r] mn mx none (some v2) (some X2.heap.size) none) := Lib.hid HQ2.out.kid_
            refine hK.out _ _ (up0 _ HQ3.out.below) ?_
            clear hK K
            try simp only [Act.put, List.setIfInBounds_toArray, List.set_cons_zero, List.set_cons_succ]
            obtain ⟨X3, hX3⟩ : ∃ X, X2.alloc (.cells #[.int .i64 (r : Int)] 3) = X := ⟨_, rfl⟩
            rw [hX3] at HQ3 ⊢
            clear hX3
            refine wpAnyD_take (i := 13) (v := ?_) rfl (by kernel_rfl) (fun _ _ _ h => h) (Or.inl ⟨by kernel_rfl, ?_⟩) (up0 _ HQ3.out.below) ?_
            rotate_left
            · intro w9 t1
              obtain ⟨t1, t2⟩ := t1
              first | (go_simp; with_reducible rfl) | go_simp
            try simp only [Act.put, List.setIfInBounds_toArray]
            refine wpAnyD_one (j := 14) (by kernel_rfl) rfl rfl rfl (fun K hK => ?_)
            go_simp
            have HQ4 : Hid (Q4 X0 (X3.alloc (.cells #[.int .i64 5, .slice (some ⟨X2.heap.size, 0, none⟩) 1 1, .int .i64 mn, .int .i64 mx, .slice none 0 0] 33)) ms 5 [r] mn mx none (some v2) (some X2.heap.size) (some X3.heap.size)) := Lib.hid HQ3.out.nod_
            refine hK.out _ _ (up0 _ HQ4.out.below) ?_
            clear hK K
            try simp only [Act.put, List.setIfInBounds_toArray, List.set_cons_zero, List.set_cons_succ]
            obtain ⟨X4, hX4⟩ : ∃ X, X3.alloc (.cells #[.int .i64 5, .slice (some ⟨X2.heap.size, 0, none⟩) 1 1, .int .i64 mn, .int .i64 mx, .slice none 0 0] 33) = X := ⟨_, rfl⟩
            rw [hX4] at HQ4 ⊢
            clear hX4
            refine wpAnyD_one (j := 15) (by kernel_rfl) rfl rfl rfl (fun K hK => ?_)
            obtain ⟨A7, c7, X9, hr9, ht9, hb9, ho9, _⟩ := HQ4.out.fin_ HT0.out hml (by simp) hmn hhx
            refine RxWant.wp_append_at (Lib.hid hr9) (.tmp 126) (.tmp 138) rfl rfl rfl rfl ?_ ?_
            · with_reducible rfl
            refine hK.out _ _ (up0 _ hb9) ?_
            clear hK K hr9
            try simp only [Act.put, List.setIfInBounds_toArray]
            have HT9 := Lib.hid ht9
            have HB9 := Lib.hid hb9
            have HO9 := Lib.hid ho9
            clear ht9 hb9 ho9
            refine wpAnyD_one (j := 16) (by kernel_rfl) rfl rfl rfl (fun K hK => ?_)
            go_simp
            refine hK.out _ _ (up0 _ HB9.out) ?_
            clear hK K
            try simp only [Act.put, List.setIfInBounds_toArray, List.set_cons_zero, List.set_cons_succ]
            refine ⟨by kernel_rfl, ?_⟩
            go_wp2
            go_meet
            exact ⟨A7, c7, _, rfl, HT9, Lib.hid (HB00.out.trans (HB9.out.mono HB00.out.size))⟩
          case refine_2 =>
            go_simp
            have HQ5 : Hid (Q4 X0 (X1.alloc (.cells #[.int .i64 (r : Int)] 3)) ms 5 [r] mn mx (some X0.heap.size) none (some X1.heap.size) none) := Lib.hid HQ1.out.kid_
            refine hK.out _ _ (up0 _ HQ5.out.below) ?_
            clear hK K
            try simp only [Act.put, List.setIfInBounds_toArray, List.set_cons_zero, List.set_cons_succ]
            obtain ⟨X5, hX5⟩ : ∃ X, X1.alloc (.cells #[.int .i64 (r : Int)] 3) = X := ⟨_, rfl⟩
            rw [hX5] at HQ5 ⊢
            clear hX5
            refine wpAnyD_take (i := 13) (v := ?_) rfl (by kernel_rfl) (fun _ _ _ h => h) (Or.inl ⟨by kernel_rfl, ?_⟩) (up0 _ HQ5.out.below) ?_
            rotate_left
            · intro w9 t1
              obtain ⟨t1, t2⟩ := t1
              first | (go_simp; with_reducible rfl) | go_simp
            try simp only [Act.put, List.setIfInBounds_toArray]
            refine RxWant.wpAnyD_two (i := 2) (j := 14) (by kernel_rfl) rfl rfl rfl rfl rfl rfl (fun K hK => ?_) (fun K hK => ?_)
            case refine_1 =>
              obtain ⟨v6, X6, hr6, hq6⟩ := HQ5.out.app_ HT0.out.rd hml
              have HQ6 := Lib.hid hq6
              refine RxWant.wp_append_at (Lib.hid hr6) (.tmp 124) (.tmp 125) rfl rfl rfl rfl ?_ ?_
              · with_reducible rfl
              refine hK.out _ _ (up0 _ HQ6.out.below) ?_
              clear hK K hr6 hq6
              try simp only [Act.put]
              refine wpAnyD_one (j := 14) (by kernel_rfl) rfl rfl rfl (fun K hK => ?_)
              go_simp
              have HQ7 : Hid (Q4 X0 (X6.alloc (.cells #[.int .i64 5, .slice (some ⟨X1.heap.size, 0, none⟩) 1 1, .int .i64 mn, .int .i64 mx, .slice none 0 0] 33)) ms 5 [r] mn mx none (some v6) (some X1.heap.size) (some X6.heap.size)) := Lib.hid HQ6.out.nod_
              refine hK.out _ _ (up0 _ HQ7.out.below) ?_
              clear hK K
              try simp only [Act.put, List.setIfInBounds_toArray, List.set_cons_zero, List.set_cons_succ]
              obtain ⟨X7, hX7⟩ : ∃ X, X6.alloc (.cells #[.int .i64 5, .slice (some ⟨X1.heap.size, 0, none⟩) 1 1, .int .i64 mn, .int .i64 mx, .slice none 0 0] 33) = X := ⟨_, rfl⟩
              rw [hX7] at HQ7 ⊢
              clear hX7
              refine wpAnyD_one (j := 15) (by kernel_rfl) rfl rfl rfl (fun K hK => ?_)
              obtain ⟨A7, c7, X9, hr9, ht9, hb9, ho9, _⟩ := HQ7.out.fin_ HT0.out hml (by simp) hmn hhx
              refine RxWant.wp_append_at (Lib.hid hr9) (.tmp 126) (.tmp 138) rfl rfl rfl rfl ?_ ?_
              · with_reducible rfl
              refine hK.out _ _ (up0 _ hb9) ?_
              clear hK K hr9
              try simp only [Act.put, List.setIfInBounds_toArray]
              have HT9 := Lib.hid ht9
              have HB9 := Lib.hid hb9
              have HO9 := Lib.hid ho9
              clear ht9 hb9 ho9
              refine wpAnyD_one (j := 16) (by kernel_rfl) rfl rfl rfl (fun K hK => ?_)
              go_simp
              refine hK.out _ _ (up0 _ HB9.out) ?_
              clear hK K
              try simp only [Act.put, List.setIfInBounds_toArray, List.set_cons_zero, List.set_cons_succ]
              refine ⟨by kernel_rfl, ?_⟩
              go_wp2
              go_meet
              exact ⟨A7, c7, _, rfl, HT9, Lib.hid (HB00.out.trans (HB9.out.mono HB00.out.size))⟩
            case refine_2 =>
              go_simp
              have HQ8 : Hid (Q4 X0 (X5.alloc (.cells #[.int .i64 5, .slice (some ⟨X1.heap.size, 0, none⟩) 1 1, .int .i64 mn, .int .i64 mx, .slice none 0 0] 33)) ms 5 [r] mn mx (some X0.heap.size) none (some X1.heap.size) (some X5.heap.size)) := Lib.hid HQ5.out.nod_
              refine hK.out _ _ (up0 _ HQ8.out.below) ?_
              clear hK K
              try simp only [Act.put, List.setIfInBounds_toArray, List.set_cons_zero, List.set_cons_succ]
              obtain ⟨X8, hX8⟩ : ∃ X, X5.alloc (.cells #[.int .i64 5, .slice (some ⟨X1.heap.size, 0, none⟩) 1 1, .int .i64 mn, .int .i64 mx, .slice none 0 0] 33) = X := ⟨_, rfl⟩
              rw [hX8] at HQ8 ⊢
              clear hX8
              refine wpAnyD_one (j := 2) (by kernel_rfl) rfl rfl rfl (fun K hK => ?_)
              obtain ⟨v9, X9, hr9, hq9⟩ := HQ8.out.app_ HT0.out.rd hml
              have HQ9 := Lib.hid hq9
              refine RxWant.wp_append_at (Lib.hid hr9) (.tmp 124) (.tmp 125) rfl rfl rfl rfl ?_ ?_
              · with_reducible rfl
              refine hK.out _ _ (up0 _ HQ9.out.below) ?_
              clear hK K hr9 hq9
              try simp only [Act.put, List.setIfInBounds_toArray]
              refine wpAnyD_one (j := 15) (by kernel_rfl) rfl rfl rfl (fun K hK => ?_)
              obtain ⟨A7, c7, X9, hr9, ht9, hb9, ho9, _⟩ := HQ9.out.fin_ HT0.out hml (by simp) hmn hhx
              refine RxWant.wp_append_at (Lib.hid hr9) (.tmp 126) (.tmp 138) rfl rfl rfl rfl ?_ ?_
              · with_reducible rfl
              refine hK.out _ _ (up0 _ hb9) ?_
              clear hK K hr9
              try simp only [Act.put]
              have HT9 := Lib.hid ht9
              have HB9 := Lib.hid hb9
              have HO9 := Lib.hid ho9
              clear ht9 hb9 ho9
              refine wpAnyD_one (j := 16) (by kernel_rfl) rfl rfl rfl (fun K hK => ?_)
              go_simp
              refine hK.out _ _ (up0 _ HB9.out) ?_
              clear hK K
              try simp only [Act.put, List.setIfInBounds_toArray, List.set_cons_zero, List.set_cons_succ]
              refine ⟨by kernel_rfl, ?_⟩
              go_wp2
              go_meet
              exact ⟨A7, c7, _, rfl, HT9, Lib.hid (HB00.out.trans (HB9.out.mono HB00.out.size))⟩
        case refine_2 =>
          go_simp
          have HQ10 : Hid (Q4 X0 (X0.alloc (.cells #[.int .i64 (r : Int)] 3)) ms 5 [r] mn mx none none (some X0.heap.size) none) := Lib.hid HQ0.out.kid_
          refine hK.out _ _ (up0 _ HQ10.out.below) ?_
          clear hK K
          try simp only [Act.put, List.setIfInBounds_toArray, List.set_cons_zero, List.set_cons_succ]
          obtain ⟨X10, hX10⟩ : ∃ X, X0.alloc (.cells #[.int .i64 (r : Int)] 3) = X := ⟨_, rfl⟩
          rw [hX10] at HQ10 ⊢
          clear hX10
          refine wpAnyD_take (i := 13) (v := ?_) rfl (by kernel_rfl) (fun _ _ _ h => h) (Or.inl ⟨by kernel_rfl, ?_⟩) (up0 _ HQ10.out.below) ?_
          rotate_left
          · intro w9 t1
            obtain ⟨t1, t2⟩ := t1
            first | (go_simp; with_reducible rfl) | go_simp
          try simp only [Act.put, List.setIfInBounds_toArray]
          refine RxWant.wpAnyD_two (i := 0) (j := 14) (by kernel_rfl) rfl rfl rfl rfl rfl rfl (fun K hK => ?_) (fun K hK => ?_)
          case refine_1 =>
            go_simp
            have HQ11 : Hid (Q4 X0 (X10.alloc (.cells #[] 33)) ms 5 [r] mn mx (some X10.heap.size) none (some X0.heap.size) none) := Lib.hid HQ10.out.emp_
            refine hK.out _ _ (up0 _ HQ11.out.below) ?_
            clear hK K
            try simp only [Act.put, List.setIfInBounds_toArray, List.set_cons_zero, List.set_cons_succ]
            obtain ⟨X11, hX11⟩ : ∃ X, X10.alloc (.cells #[] 33) = X := ⟨_, rfl⟩
            rw [hX11] at HQ11 ⊢
            clear hX11
            refine RxWant.wpAnyD_two (i := 2) (j := 14) (by kernel_rfl) rfl rfl rfl rfl rfl rfl (fun K hK => ?_) (fun K hK => ?_)
            case refine_1 =>
              obtain ⟨v12, X12, hr12, hq12⟩ := HQ11.out.app_ HT0.out.rd hml
              have HQ12 := Lib.hid hq12
              refine RxWant.wp_append_at (Lib.hid hr12) (.tmp 124) (.tmp 125) rfl rfl rfl rfl ?_ ?_
              · with_reducible rfl
              refine hK.out _ _ (up0 _ HQ12.out.below) ?_
              clear hK K hr12 hq12
              try simp only [Act.put, List.setIfInBounds_toArray]
              refine wpAnyD_one (j := 14) (by kernel_rfl) rfl rfl rfl (fun K hK => ?_)
              go_simp
              have HQ13 : Hid (Q4 X0 (X12.alloc (.cells #[.int .i64 5, .slice (some ⟨X0.heap.size, 0, none⟩) 1 1, .int .i64 mn, .int .i64 mx, .slice none 0 0] 33)) ms 5 [r] mn mx none (some v12) (some X0.heap.size) (some X12.heap.size)) := Lib.hid HQ12.out.nod_
              refine hK.out _ _ (up0 _ HQ13.out.below) ?_
              clear hK K
              try simp only [Act.put, List.setIfInBounds_toArray, List.set_cons_zero, List.set_cons_succ]
              obtain ⟨X13, hX13⟩ : ∃ X, X12.alloc (.cells #[.int .i64 5, .slice (some ⟨X0.heap.size, 0, none⟩) 1 1, .int .i64 mn, .int .i64 mx, .slice none 0 0] 33) = X := ⟨_, rfl⟩
              rw [hX13] at HQ13 ⊢
              clear hX13
              refine wpAnyD_one (j := 15) (by kernel_rfl) rfl rfl rfl (fun K hK => ?_)
              obtain ⟨A7, c7, X9, hr9, ht9, hb9, ho9, _⟩ := HQ13.out.fin_ HT0.out hml (by simp) hmn hhx
              refine RxWant.wp_append_at (Lib.hid hr9) (.tmp 126) (.tmp 138) rfl rfl rfl rfl ?_ ?_
              · with_reducible rfl
              refine hK.out _ _ (up0 _ hb9) ?_
              clear hK K hr9
              try simp only [Act.put, List.setIfInBounds_toArray]
              have HT9 := Lib.hid ht9
              have HB9 := Lib.hid hb9
              have HO9 := Lib.hid ho9
              clear ht9 hb9 ho9
              refine wpAnyD_one (j := 16) (by kernel_rfl) rfl rfl rfl (fun K hK => ?_)
              go_simp
              refine hK.out _ _ (up0 _ HB9.out) ?_
              clear hK K
              try simp only [Act.put, List.setIfInBounds_toArray, List.set_cons_zero, List.set_cons_succ]
              refine ⟨by kernel_rfl, ?_⟩
              go_wp2
              go_meet
              exact ⟨A7, c7, _, rfl, HT9, Lib.hid (HB00.out.trans (HB9.out.mono HB00.out.size))⟩
            case refine_2 =>
              go_simp
              have HQ14 : Hid (Q4 X0 (X11.alloc (.cells #[.int .i64 5, .slice (some ⟨X0.heap.size, 0, none⟩) 1 1, .int .i64 mn, .int .i64 mx, .slice none 0 0] 33)) ms 5 [r] mn mx (some X10.heap.size) none (some X0.heap.size) (some X11.heap.size)) := Lib.hid HQ11.out.nod_
              refine hK.out _ _ (up0 _ HQ14.out.below) ?_
              clear hK K
              try simp only [Act.put, List.setIfInBounds_toArray, List.set_cons_zero, List.set_cons_succ]
              obtain ⟨X14, hX14⟩ : ∃ X, X11.alloc (.cells #[.int .i64 5, .slice (some ⟨X0.heap.size, 0, none⟩) 1 1, .int .i64 mn, .int .i64 mx, .slice none 0 0] 33) = X := ⟨_, rfl⟩
              rw [hX14] at HQ14 ⊢
              clear hX14
              refine wpAnyD_one (j := 2) (by kernel_rfl) rfl rfl rfl (fun K hK => ?_)
              obtain ⟨v15, X15, hr15, hq15⟩ := HQ14.out.app_ HT0.out.rd hml
              have HQ15 := Lib.hid hq15
              refine RxWant.wp_append_at (Lib.hid hr15) (.tmp 124) (.tmp 125) rfl rfl rfl rfl ?_ ?_
              · with_reducible rfl
              refine hK.out _ _ (up0 _ HQ15.out.below) ?_
              clear hK K hr15 hq15
              try simp only [Act.put, List.setIfInBounds_toArray]
              refine wpAnyD_one (j := 15) (by kernel_rfl) rfl rfl rfl (fun K hK => ?_)
              obtain ⟨A7, c7, X9, hr9, ht9, hb9, ho9, _⟩ := HQ15.out.fin_ HT0.out hml (by simp) hmn hhx
              refine RxWant.wp_append_at (Lib.hid hr9) (.tmp 126) (.tmp 138) rfl rfl rfl rfl ?_ ?_
              · with_reducible rfl
              refine hK.out _ _ (up0 _ hb9) ?_
              clear hK K hr9
              try simp only [Act.put]
              have HT9 := Lib.hid ht9
              have HB9 := Lib.hid hb9
              have HO9 := Lib.hid ho9
              clear ht9 hb9 ho9
              refine wpAnyD_one (j := 16) (by kernel_rfl) rfl rfl rfl (fun K hK => ?_)
              go_simp
              refine hK.out _ _ (up0 _ HB9.out) ?_
              clear hK K
              try simp only [Act.put, List.setIfInBounds_toArray, List.set_cons_zero, List.set_cons_succ]
              refine ⟨by kernel_rfl, ?_⟩
              go_wp2
              go_meet
              exact ⟨A7, c7, _, rfl, HT9, Lib.hid (HB00.out.trans (HB9.out.mono HB00.out.size))⟩
          case refine_2 =>
            go_simp
            have HQ16 : Hid (Q4 X0 (X10.alloc (.cells #[.int .i64 5, .slice (some ⟨X0.heap.size, 0, none⟩) 1 1, .int .i64 mn, .int .i64 mx, .slice none 0 0] 33)) ms 5 [r] mn mx none none (some X0.heap.size) (some X10.heap.size)) := Lib.hid HQ10.out.nod_
            refine hK.out _ _ (up0 _ HQ16.out.below) ?_
            clear hK K
            try simp only [Act.put, List.setIfInBounds_toArray, List.set_cons_zero, List.set_cons_succ]
            obtain ⟨X16, hX16⟩ : ∃ X, X10.alloc (.cells #[.int .i64 5, .slice (some ⟨X0.heap.size, 0, none⟩) 1 1, .int .i64 mn, .int .i64 mx, .slice none 0 0] 33) = X := ⟨_, rfl⟩
            rw [hX16] at HQ16 ⊢
            clear hX16
            refine wpAnyD_one (j := 0) (by kernel_rfl) rfl rfl rfl (fun K hK => ?_)
            go_simp
            have HQ17 : Hid (Q4 X0 (X16.alloc (.cells #[] 33)) ms 5 [r] mn mx (some X16.heap.size) none (some X0.heap.size) (some X10.heap.size)) := Lib.hid HQ16.out.emp_
            refine hK.out _ _ (up0 _ HQ17.out.below) ?_
            clear hK K
            try simp only [Act.put, List.setIfInBounds_toArray, List.set_cons_zero, List.set_cons_succ]
            obtain ⟨X17, hX17⟩ : ∃ X, X16.alloc (.cells #[] 33) = X := ⟨_, rfl⟩
            rw [hX17] at HQ17 ⊢
            clear hX17
            refine wpAnyD_one (j := 2) (by kernel_rfl) rfl rfl rfl (fun K hK => ?_)
            obtain ⟨v18, X18, hr18, hq18⟩ := HQ17.out.app_ HT0.out.rd hml
            have HQ18 := Lib.hid hq18
            refine RxWant.wp_append_at (Lib.hid hr18) (.tmp 124) (.tmp 125) rfl rfl rfl rfl ?_ ?_
            · with_reducible rfl
            refine hK.out _ _ (up0 _ HQ18.out.below) ?_
            clear hK K hr18 hq18
            try simp only [Act.put, List.setIfInBounds_toArray]
            refine wpAnyD_one (j := 15) (by kernel_rfl) rfl rfl rfl (fun K hK => ?_)
            obtain ⟨A7, c7, X9, hr9, ht9, hb9, ho9, _⟩ := HQ18.out.fin_ HT0.out hml (by simp) hmn hhx
            refine RxWant.wp_append_at (Lib.hid hr9) (.tmp 126) (.tmp 138) rfl rfl rfl rfl ?_ ?_
            · with_reducible rfl
            refine hK.out _ _ (up0 _ hb9) ?_
            clear hK K hr9
            try simp only [Act.put]
            have HT9 := Lib.hid ht9
            have HB9 := Lib.hid hb9
            have HO9 := Lib.hid ho9
            clear ht9 hb9 ho9
            refine wpAnyD_one (j := 16) (by kernel_rfl) rfl rfl rfl (fun K hK => ?_)
            go_simp
            refine hK.out _ _ (up0 _ HB9.out) ?_
            clear hK K
            try simp only [Act.put, List.setIfInBounds_toArray, List.set_cons_zero, List.set_cons_succ]
            refine ⟨by kernel_rfl, ?_⟩
            go_wp2
            go_meet
            exact ⟨A7, c7, _, rfl, HT9, Lib.hid (HB00.out.trans (HB9.out.mono HB00.out.size))⟩
--R22END
      case rest =>
      obtain ⟨A7, c7, q, hc1, HT7, HB7⟩ := hcut
      subst hc1
      have HT8 := Lib.hid (HTN.out.up HB7.out)
      have HB8 : Hid (Below W.heap.size W wc) := Lib.hid (HB0.out.trans (HB7.out.mono HB0.out.size))
      have he : nds ns = nds (ms ++ [newN 5 [r] mn mx q]) := by
        rw [HM.out, HNL.out, HR1.out]
        simp [nds, newN]
      have HSM := same_any HT8.out HT7.out he
      rw [show (ms ++ [newN 5 [r] mn mx q]).length = ms.length + 1 by simp] at HSM
      clear he
      go_wp2_with fail
      refine HSM.mono ?_
      rintro _ w8 ⟨rfl, hb8⟩
      have HB9 : Hid (Below W.heap.size W w8) := Lib.hid (HB8.out.trans (hb8.mono HB8.out.size))
      clear HSM hb8
      go_wp2
      exact ⟨⟨i + 1, by omega, by go_num, HB9⟩, by simp [intOf]; omega⟩
end Go.Proofs.Ytdmbgjpidlllcaa.RxRepW
