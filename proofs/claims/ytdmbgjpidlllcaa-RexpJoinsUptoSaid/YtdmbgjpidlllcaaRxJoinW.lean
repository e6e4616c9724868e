/- RexpJoins' walk. Conditions: the program's Parse answers parseT, in memory; the texts are shorter than 2^40. -/
import Derived.Test.YtdmbgjpidlllcaaRxParses
import Derived.Test.YtdmbgjpidlllcaaRxWants
namespace Go.Proofs.Ytdmbgjpidlllcaa.RxJoinW
open Go Go.RowKit Words AppN Km Mo_ RxSpec RxTree RxEq RxMem RxPeek RxHas RxNode RxClean RxPost RxAll RxSize RxSmall RxText RxParse RxSame RxAwake RxLaw RxJoinP RxWant RxMvd RxNewC RegD

set_option maxHeartbeats 6400000 in
set_option maxRecDepth 100000 in
theorem joins_any (PN : RexpN) (w : World) (s t : ByteArray) (hs : s.size ≤ 1048576) (ht : t.size ≤ 1048576) : Calls Try.prog 4 #[.string s, .string t] w fun e w' => e = .returned (.bool true) ∧ Below w.heap.size w w' := by
  have P := rexpC_of PN
  have HAW := awake_any P
  have HX1 : Hid ((⟨#[40]⟩ ++ s ++ ⟨#[41]⟩ : ByteArray).data.toList = 40 :: (s.data.toList ++ [41])) := Lib.hid (by simp [ByteArray.data_append])
  have HX2 : Hid ((⟨#[40]⟩ ++ s ++ ⟨#[41, 40]⟩ ++ t ++ ⟨#[41]⟩ : ByteArray).data.toList = 40 :: (s.data.toList ++ 41 :: (40 :: (t.data.toList ++ [41])))) := Lib.hid (by simp [ByteArray.data_append])
  have HX3 : Hid ((s ++ ⟨#[124]⟩ ++ t : ByteArray).data.toList = s.data.toList ++ 124 :: t.data.toList) := Lib.hid (by simp [ByteArray.data_append])
  have HZ1 : Hid ((⟨#[40]⟩ ++ s ++ ⟨#[41]⟩ : ByteArray).size ≤ 9223372036854775807) := Lib.hid (by rw [ByteArray.size_append, ByteArray.size_append]; show 1 + s.size + 1 ≤ _; omega)
  have HZ2 : Hid ((⟨#[40]⟩ ++ s ++ ⟨#[41, 40]⟩ ++ t ++ ⟨#[41]⟩ : ByteArray).size ≤ 9223372036854775807) := Lib.hid (by rw [ByteArray.size_append, ByteArray.size_append, ByteArray.size_append, ByteArray.size_append]; show 1 + s.size + 2 + t.size + 1 ≤ _; omega)
  have HZ3 : Hid ((s ++ ⟨#[124]⟩ ++ t : ByteArray).size ≤ 9223372036854775807) := Lib.hid (by rw [ByteArray.size_append, ByteArray.size_append]; show s.size + 1 + t.size ≤ _; omega)
  obtain ⟨i0', hinf, hz0, hz1, hz2⟩ := info_parts info_node
  go_enter Try.func4, Try.ntmps4
  go_wp2_with fail
  refine (HAW _).mono ?_
  rintro _ w1 ⟨rfl, hb1⟩
  have HBa := Lib.hid hb1
  clear HAW hb1
  go_wp2_with fail
  refine (P s _ (by omega)).mono ?_
  rintro _ w2 ⟨A, c, ms, x, rfl, hp, hta, hb2⟩
  have HTA := Lib.hid hta
  have HPA := Lib.hid hp
  have HBb := Lib.hid (bt HBa.out hb2)
  clear hta hp hb2 HBa
  go_wp2_with fail
  refine (P t _ (by omega)).mono ?_
  rintro _ w3 ⟨B, cb, ns, y, rfl, hp, htb, hb3⟩
  have HTA3 : Hid (Tr w3 A c ms) := Lib.hid (HTA.out.up hb3)
  have HTB := Lib.hid htb
  have HPB := Lib.hid hp
  have HBc := Lib.hid (bt HBb.out hb3)
  clear htb hp hb3 HTA HBb
  go_wp2_with fail
  refine (P _ _ HZ1.out).mono ?_
  rintro _ w4 ⟨C, cc, ls, z, rfl, hp, htc, hb4⟩
  rw [HX1.out] at hp
  have HTA4 : Hid (Tr w4 A c ms) := Lib.hid (HTA3.out.up hb4)
  have HTB4 : Hid (Tr w4 B cb ns) := Lib.hid (HTB.out.up hb4)
  have HTC := Lib.hid htc
  have HPC := Lib.hid hp
  have HBd := Lib.hid (bt HBc.out hb4)
  clear htc hp hb4 HTA3 HTB HX1 HZ1 HBc
  by_cases hx : x = 0
  case neg =>
    have d1 : ((x : Int) == 0) = false := by simp; omega
    have d2 : ((x : Int) != 0) = true := by simp; omega
    go_wp2
    go_ret
    exact ⟨rfl, HBd.out⟩
  subst hx
  rw [show ((0 : Nat) : Int) = 0 from rfl]
  have key1 := text_one HPA.out HPC.out
  go_upto_region 6 with (fail)
  go_cut [55] from 32 to 55 (fun s55 wx => s55 = .bool false ∧ Hid (Below w4.heap.size w4 wx))
  case first =>
    rcases key1 with ⟨rfl, hls⟩ | rfl | rfl
    · rw [show ((0 : Nat) : Int) = 0 from rfl]
      have HSM := same_any HTA4.out HTC.out hls.symm
      clear hls
      go_wp2_with fail
      refine HSM.mono ?_
      rintro _ w5 ⟨rfl, hb5⟩
      have HB5 := Lib.hid hb5
      clear HSM hb5
      go_wp2
      go_meet
      exact ⟨rfl, HB5⟩
    · rw [show ((4 : Nat) : Int) = 4 from rfl]
      go_wp2
      go_meet
      exact ⟨rfl, Lib.hid (Below.refl _ _)⟩
    · rw [show ((9 : Nat) : Int) = 9 from rfl]
      go_wp2
      go_meet
      exact ⟨rfl, Lib.hid (Below.refl _ _)⟩
  case rest =>
  obtain ⟨hc1, HB5⟩ := hcut
  subst hc1
  obtain ⟨w5, hw5⟩ : ∃ X, X = wc := ⟨wc, rfl⟩
  subst hw5
  have HTA5 : Hid (Tr w5 A c ms) := Lib.hid (HTA4.out.up HB5.out)
  have HTB5 : Hid (Tr w5 B cb ns) := Lib.hid (HTB4.out.up HB5.out)
  have HBe := Lib.hid (bt HBd.out HB5.out)
  clear key1 HTA4 HTB4 HTC HPC HB5 HBd
  by_cases hy : y = 0
  case neg =>
    have d2 : ((y : Int) != 0) = true := by simp; omega
    go_wp2
    go_ret
    exact ⟨rfl, HBe.out⟩
  subst hy
  rw [show ((0 : Nat) : Int) = 0 from rfl]
  have hfa := text_few HPA.out
  have hfb := text_few HPB.out
  have hka := text_kids HPA.out
  have hkb := text_kids HPB.out
  rw [nds_len] at hfa hfb
  have hma : ms.length ≤ 1000 := hfa.2
  have hmb : ns.length ≤ 1000 := hfb.2
  have hma1 : 1 ≤ ms.length := hfa.1
  have hmb1 : 1 ≤ ns.length := hfb.1
  have HKB : Hid (∀ m ∈ ns, m.nd.kids.length ≤ 1000000 ∧ ∀ y ∈ m.nd.kids, y ≤ 1000000) := Lib.hid (fun m hm => hkb _ (List.mem_map_of_mem hm))
  clear hfa hfb hka hkb
  -- both
  have HQ1 : Hid (Q4 w5 (w5.alloc (.cells #[] 33)) ms 3 [] 0 0 (some w5.heap.size) none none none) := Lib.hid (Q4.zero w5).emp_
  obtain ⟨v1, w6, hr1, hq1⟩ := HQ1.out.app_ HTA5.out.rd (by omega)
  have HR1 := Lib.hid hr1
  have HQ2 := Lib.hid hq1
  clear hr1 hq1
  have hv1 : ∀ b, v1.ownBlock = some b → b < w6.heap.size := fun b hb => ((HQ2.out.row v1 rfl).lt b hb).2
  have HV1 := Lib.hid hv1
  have HMV := Lib.hid (moved_any w6 B cb ns ms.length (HTB5.out.up HQ2.out.below) (by omega) HKB.out (by omega))
  clear hv1
  go_upto_region 10 with (fail)
  go_wp2_with (at_builtin; refine wpList_append_at rfl HR1 (.tmp 62) (.tmp 63) rfl rfl rfl rfl rfl ?_)
  refine HMV.out.mono ?_
  rintro _ w8 ⟨A8, c8, ds, rfl, hdl, hdn, htd, hb8, hsrc⟩
  have hb58 : Below w5.heap.size w5 w8 := HQ2.out.below.trans (hb8.mono HQ2.out.below.size)
  have HOV8 := Lib.hid (own_keepA (HQ2.out.row v1 rfl) hb8)
  have HLD : Hid ((flatN ds).length = ns.length * 5) := Lib.hid (by rw [flatN_len, hdl])
  have HRD := Lib.hid htd.rd
  have HDN := Lib.hid hdn
  have hs8 : w5.heap.size ≤ w8.heap.size := hb58.size
  have HTD := Lib.hid htd
  have HB58 := Lib.hid hb58
  have HSRC := Lib.hid hsrc
  have HDL := Lib.hid hdl
  clear hdl hdn htd hb8 hsrc hb58 HR1 HMV
  go_wp2_with (at_builtin; refine wpList_append_rd _ rfl (.tmp 64) (.tmp 68) 23 rfl w5.heap.size 5 33 i0' _ 72 Try.underlying23 hinf hz0 hz1 hz2 rfl (by decide) v1 ms.length (flatN ms) rfl HOV8.out w8.heap.size A8 ns.length c8 (flatN ds) rfl HLD.out HRD.out (flatN_onesW ds) ?c3 ?c4 ?c5 ?_)
  case c3 => unfold maxLen; omega
  case c4 => omega
  case c5 => omega
  intro v9 w9 hown9 hg9 _
  obtain ⟨N, hN⟩ : ∃ N, ms.length + ns.length = N := ⟨_, rfl⟩
  obtain ⟨ts, hts⟩ : ∃ ts, ms ++ ds = ts := ⟨_, rfl⟩
  have htl : ts.length = N := by rw [← hts, List.length_append, HDL.out, hN]
  rw [hN, ← flatN_append, hts] at hown9
  obtain ⟨A9, c9, hv9⟩ := own_sl hown9
  subst hv9
  have hb59 : Below w5.heap.size w5 w9 := HB58.out.grown hg9 hs8 (fun j hj => ((HQ2.out.row v1 rfl).lt j hj).1)
  have HT9 : Hid (Tr w9 A9 c9 ts) := Lib.hid (by rw [← hts] at hown9 ⊢; exact tr_both HTA5.out HTB5.out hb59 HTD.out HSRC.out HV1.out hg9 hown9 (by rw [hts, htl]))
  have HNT : Hid (nds ts = nds ms ++ (nds ns).map (mvNd (nds ms).length)) := Lib.hid (by rw [← hts, nds_len]; unfold nds at *; rw [List.map_append]; exact congrArg _ HDN.out)
  have HTA9 : Hid (Tr w9 A c ms) := Lib.hid (HTA5.out.up hb59)
  have HTB9 : Hid (Tr w9 B cb ns) := Lib.hid (HTB5.out.up hb59)
  have HN := Lib.hid hN
  have HTL := Lib.hid htl
  have hN2 : N ≤ 2000 := by omega
  have hN1 : 1 ≤ N := by omega
  have HBf := Lib.hid (bt HBe.out hb59)
  clear HBe
  clear hown9 hg9 hb59 hN htl hts HOV8 HLD HRD HDN HTD HB58 HSRC HDL HV1 HQ2 HTA5 HTB5 HKB hs8
  go_wp2_with fail
  refine (P _ _ HZ2.out).mono ?_
  rintro _ w10 ⟨C2, cc2, ls2, z2, rfl, hp2, htc2, hb10⟩
  rw [HX2.out] at hp2
  have HTA10 : Hid (Tr w10 A c ms) := Lib.hid (HTA9.out.up hb10)
  have HTB10 : Hid (Tr w10 B cb ns) := Lib.hid (HTB9.out.up hb10)
  have HT10 : Hid (Tr w10 A9 c9 ts) := Lib.hid (HT9.out.up hb10)
  have HTC := Lib.hid htc2
  have key2 := text_two HPA.out HPB.out hp2
  have HKEY := Lib.hid key2
  have HBg := Lib.hid (bt HBf.out hb10)
  clear HBf
  clear hp2 htc2 hb10 key2 HTA9 HTB9 HT9 HX2 HZ2
  obtain ⟨ra, hra⟩ : ∃ r, ms.length - 1 = r := ⟨_, rfl⟩
  obtain ⟨rn, hrn⟩ : ∃ r, N - 1 = r := ⟨_, rfl⟩
  have ja1 : IntKind.i64.wrap ((ms.length : Int) - 1) = (ra : Int) := by rw [IntWalk.i64_in _ (by omega)]; omega
  have jn1 : IntKind.i64.wrap ((N : Int) - 1) = (rn : Int) := by rw [IntWalk.i64_in _ (by omega)]; omega
  have ja2 : (ms.length : Int) - 1 = (ra : Int) := by omega
  have jn2 : (N : Int) - 1 = (rn : Int) := by omega
  have HRA := Lib.hid hra
  have HRN := Lib.hid hrn
  clear hra hrn
  have HQ1 : Hid (Q4 w10 (w10.alloc (.cells #[] 33)) ts 3 [ra, rn] 0 0 (some w10.heap.size) none none none) := Lib.hid (Q4.zero w10).emp_
  obtain ⟨v1', w11, hr1, hq1⟩ := HQ1.out.app_ HT10.out.rd (by rw [HTL.out]; omega)
  rw [HTL.out] at hr1
  have HR1 := Lib.hid hr1
  obtain ⟨W12, hW12⟩ : ∃ X, w11.alloc (.cells #[.int .i64 (ra : Int), .int .i64 (rn : Int)] 3) = X := ⟨_, rfl⟩
  obtain ⟨W13, hW13⟩ : ∃ X, W12.alloc (.cells #[.int .i64 3, .slice (some ⟨w11.heap.size, 0, none⟩) 2 2, .int .i64 0, .int .i64 0, .slice none 0 0] 33) = X := ⟨_, rfl⟩
  have hq2 : Q4 w10 W12 ts 3 [ra, rn] 0 0 none (some v1') (some w11.heap.size) none := by rw [← hW12]; exact hq1.kid_
  have hq3 : Q4 w10 W13 ts 3 [ra, rn] 0 0 none (some v1') (some w11.heap.size) (some W12.heap.size) := by rw [← hW13]; exact hq2.nod_
  obtain ⟨A7, c7, w14, hr9, ht9, hb9, ho9, hsep⟩ := hq3.fin_ HT10.out (by rw [HTL.out]; omega) (by simp) (by decide) (by decide)
  rw [HTL.out] at hr9 ho9
  obtain ⟨g, cap, hv7, _, _⟩ := ho9.form (by omega)
  injection hv7 with hA7 _ hC7
  subst hA7 hC7
  have HR9 := Lib.hid hr9
  have HT14 := Lib.hid ht9
  have HB14 := Lib.hid hb9
  have HO14 := Lib.hid ho9
  have HSEP := Lib.hid (hsep g 0 rfl)
  have HLW : Hid ((ts ++ [newN 3 [ra, rn] 0 0 w11.heap.size]).length = N + 1) := Lib.hid (by rw [List.length_append, HTL.out]; rfl)
  clear hr1 hq1 hq2 hq3 hr9 ht9 hb9 ho9 hsep
  go_upto_region 13 with (at_builtin; first | refine wpList_append_at rfl HR1 (.tmp 80) (.tmp 81) rfl rfl rfl rfl rfl ?_ | refine wpList_append_at rfl HR9 (.tmp 82) (.tmp 91) rfl rfl rfl rfl rfl ?_)
  clear hW12 hW13 HR1 HR9 HQ1
  go_cut [116] from 93 to 116 (fun s116 wx => s116 = .bool false ∧ Hid (Below w14.heap.size w14 wx))
  case first =>
    rcases HKEY.out with ⟨rfl, hl2⟩ | rfl | rfl | rfl
    · rw [show ((0 : Nat) : Int) = 0 from rfl]
      have HSM := same_any (HTC.out.up HB14.out) HT14.out (by
        rw [hl2]
        unfold nds at HNT ⊢
        rw [List.map_append, HNT.out]
        have e1 := nds_len ms
        have e2 := nds_len ns
        unfold nds at e1 e2
        rw [e1, e2, HRA.out, HN.out, HRN.out]
        rfl)
      rw [HLW.out] at HSM
      clear hl2
      go_wp2_with fail
      refine HSM.mono ?_
      rintro _ w15 ⟨rfl, hb15⟩
      have HB15 := Lib.hid hb15
      clear HSM hb15
      go_wp2
      go_meet
      exact ⟨rfl, HB15⟩
    · rw [show ((4 : Nat) : Int) = 4 from rfl]
      go_wp2
      go_meet
      exact ⟨rfl, Lib.hid (Below.refl _ _)⟩
    · rw [show ((9 : Nat) : Int) = 9 from rfl]
      go_wp2
      go_meet
      exact ⟨rfl, Lib.hid (Below.refl _ _)⟩
    · rw [show ((3 : Nat) : Int) = 3 from rfl]
      go_wp2
      go_meet
      exact ⟨rfl, Lib.hid (Below.refl _ _)⟩
  case rest =>
  obtain ⟨hc1, HB15⟩ := hcut
  subst hc1
  obtain ⟨w15, hw15⟩ : ∃ X, X = wc := ⟨wc, rfl⟩
  subst hw15
  have HB5 : Hid (Below w10.heap.size w10 w15) := Lib.hid (HB14.out.trans (HB15.out.mono HB14.out.size))
  have HTA15 : Hid (Tr w15 A c ms) := Lib.hid (HTA10.out.up HB5.out)
  have HTB15 : Hid (Tr w15 B cb ns) := Lib.hid (HTB10.out.up HB5.out)
  obtain ⟨rb, hrb⟩ : ∃ r, ns.length - 1 = r := ⟨_, rfl⟩
  have jb1 : IntKind.i64.wrap ((ns.length : Int) - 1) = (rb : Int) := by rw [IntWalk.i64_in _ (by omega)]; omega
  have jb2 : (ns.length : Int) - 1 = (rb : Int) := by omega
  have hra3 : ra < ms.length := by have := HRA.out; omega
  have hrb3 : rb < ns.length := by omega
  have ia0 : (0 : Int) ≤ (ra : Int) := by omega
  have ia1 : (ra : Int) < (ms.length : Int) := by omega
  have ib0 : (0 : Int) ≤ (rb : Int) := by omega
  have ib1 : (rb : Int) < (ns.length : Int) := by omega
  have HRB := Lib.hid hrb
  clear hrb HTC HKEY HTA10 HTB10
  obtain ⟨g1, o1, A1, c1, A2, c2, hA, x0, -⟩ := node_at HTA15.out (Below.refl _ w15) hra3 rfl
  obtain ⟨g2, o2, A3, c3, A4, c4, hB, y0, -⟩ := node_at HTB15.out (Below.refl _ w15) hrb3 rfl
  subst hA hB
  have HKA := Lib.hid (nds_last HRA.out hra3)
  have HKB := Lib.hid (nds_last HRB.out hrb3)
  generalize hka : (ms[ra]).nd.kind = ka at *
  generalize hkb : (ns[rb]).nd.kind = kb at *
  clear hka hkb
  by_cases h4a : ka = 4
  · have d4 : ((ka : Int) == 4) = true := by simp; omega
    clear h4a
    go_wp2
    go_ret
    exact ⟨rfl, bt HBg.out HB5.out⟩
  have d4 : ((ka : Int) == 4) = false := by simp; omega
  by_cases h4b : kb = 4
  · have d5 : ((kb : Int) == 4) = true := by simp; omega
    clear h4b
    go_wp2
    go_ret
    exact ⟨rfl, bt HBg.out HB5.out⟩
  have d5 : ((kb : Int) == 4) = false := by simp; omega
  have HKA2 := Lib.hid (HKA.out h4a)
  have HKB2 := Lib.hid (HKB.out h4b)
  clear HKA HKB h4a h4b
  go_wp2_with fail
  refine (PN _ _ HZ3.out).mono ?_
  rintro _ w16 ⟨C3, cc3, ls3, z3, rfl, hp3, htc3, hb16, hnew⟩
  rw [HX3.out] at hp3
  have key3 := text_bar HPA.out HPB.out HKA2.out HKB2.out hp3
  have HB16 : Hid (Below w10.heap.size w10 w16) := Lib.hid (HB5.out.trans (hb16.mono HB5.out.size))
  have HB46 : Hid (Below w14.heap.size w14 w16) := Lib.hid (HB15.out.trans (hb16.mono HB15.out.size))
  have hg16 : g < w15.heap.size := by have := (HO14.out.lt g rfl).2; have := HB15.out.size; omega
  obtain ⟨hT16, hF16, ⟨u16, hu16⟩, hb17⟩ := Tr.kind4 (W := w10) 4 (by rw [HTL.out]; exact own_keepA HO14.out HB46.out) HSEP.out HB16.out HT10.out (HT14.out.up HB46.out)
  rw [HTL.out] at hT16 hF16 hu16 hb17
  have HBh := Lib.hid (bt HBg.out hb17)
  clear HBg
  have HTW := Lib.hid hT16
  have HTC : Hid (Tr (w16.setCell ⟨g, N * 5, none⟩ (.int .i64 4)) C3 cc3 ls3) := Lib.hid (tr_other htc3 hnew (show g < _ from hg16))
  have HKEY := Lib.hid key3
  have n1 : IntKind.i64.wrap ((N : Int) + 1 - 1) = (N : Int) := by rw [show (N : Int) + 1 - 1 = (N : Int) by omega]; exact IntWalk.i64_in _ (by omega)
  have n2 : IntKind.i64.wrap (N : Int) = (N : Int) := IntWalk.i64_in _ (by omega)
  have n3 : (0 : Int) ≤ (N : Int) := by omega
  have n4 : (N : Int) < (N : Int) + 1 := by omega
  clear hp3 htc3 hb16 hnew key3 hT16 hb17 x0 y0 d4 d5 jb1 jb2 ja1 ja2 jn1 jn2 ia0 ia1 ib0 ib1
  rcases HKEY.out with ⟨rfl, hl3⟩ | rfl | rfl
  · rw [show ((0 : Nat) : Int) = 0 from rfl]
    have HSM := same_any HTC.out HTW.out (by
      rw [hl3]
      unfold nds at HNT ⊢
      rw [List.map_append, HNT.out]
      have e1 := nds_len ms
      have e2 := nds_len ns
      unfold nds at e1 e2
      rw [e1, e2, HRA.out, HN.out, HRN.out]
      rfl)
    rw [show (ts ++ [newN 4 [ra, rn] 0 0 w11.heap.size]).length = N + 1 by rw [List.length_append, HTL.out]; rfl] at HSM
    clear hl3
    go_wp2_with fail
    refine HSM.mono ?_
    rintro _ w17 ⟨rfl, hb17⟩
    have HBi := Lib.hid (bt HBh.out hb17)
    clear HSM hb17
    go_wp2
    go_ret
    exact ⟨rfl, HBi.out⟩
  · rw [show ((4 : Nat) : Int) = 4 from rfl]
    go_wp2
    go_ret
    exact ⟨rfl, HBh.out⟩
  · rw [show ((3 : Nat) : Int) = 3 from rfl]
    go_wp2
    go_ret
    exact ⟨rfl, HBh.out⟩
end Go.Proofs.Ytdmbgjpidlllcaa.RxJoinW
