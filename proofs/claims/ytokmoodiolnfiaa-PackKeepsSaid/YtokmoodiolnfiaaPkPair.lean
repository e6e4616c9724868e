/- PackBack: for all lists and bytes whose bulk is at most 1048576 the statement's function answers true and leaves its arguments as they were. Condition: that bound. -/
import Derived.Test.YtokmoodiolnfiaaPkMoves
import Derived.Test.YtokmoodiolnfiaaPkBack
import Derived.JoinedCond
import Derived.StillTailTactics
import Derived.Deep.QuietTactic
import Derived.BigQuiet
namespace Go.Proofs.Ytokmoodiolnfiaa.packBack
open Go Go.ChangeShapes Go.WideShapes Go.ChangeAt Go.RowKit Words Plain Put RefPut App PkPlain PkSpec UnSpec Need RefPk RefUn RefUn2 PkHas PkOne PkAgain Awake3 PkSize packTight packMoves PkBack Ope Bulk

/-- What Pack answers: bytes F in memory of its own, and an error E. -/
def FB (F : List UInt8) (E : Int) (w : World) (e : Ending) (w' : World) : Prop := ∃ A c, e = .returned (.tuple #[.slice A F.length c, .int .i64 E]) ∧ w'.ownsRow w.heap.size 5 1 (.slice A F.length c) F.length (F.map B8) ∧ F.length ≤ c ∧ c ≤ maxLen ∧ Below w.heap.size w w'
theorem post_fb (l : List UInt64) : ∃ (F : List UInt8) (E : Int), (E = 0 → F = pk l ∧ Rising l ∧ l.length ≤ 65536) ∧ ∀ (w : World) (e : Ending) (w' : World), PackPost l w e w' → FB F E w e w' := by
  by_cases h1 : 65536 < l.length
  · refine ⟨[], 3, (fun h => by cases h), ?_⟩
    rintro w e w' (⟨_, rfl, hb⟩ | ⟨h, _⟩ | ⟨h, _⟩)
    · exact ⟨none, 0, rfl, World.ownsRow_nil _ _ _ _, by simp, by unfold maxLen; omega, hb⟩
    · omega
    · omega
  · by_cases h2 : Rising l
    · refine ⟨pk l, 0, fun _ => ⟨rfl, h2, by omega⟩, ?_⟩
      rintro w e w' (⟨h, _⟩ | ⟨_, h, _⟩ | ⟨_, _, v, rfl, hown, hb⟩)
      · omega
      · exact absurd h2 h
      · obtain ⟨A, c, rfl, h3, h4, _⟩ := own_slice hown
        exact ⟨A, c, rfl, hown, h3, h4, hb⟩
    · refine ⟨[], 1, (fun h => by cases h), ?_⟩
      rintro w e w' (⟨h, _⟩ | ⟨_, _, rfl, hb⟩ | ⟨_, h, _⟩)
      · omega
      · exact ⟨none, 0, rfl, World.ownsRow_nil _ _ _ _, by simp, by unfold maxLen; omega, hb⟩
      · exact absurd h h2

theorem pk_bound (l : List UInt64) (h : l.length ≤ 65536) : (pk l).length ≤ 700000 := by
  have h1 := Lib.uvarint_length64 (x := l.length) (by omega)
  have h2 : (head1 l).length ≤ 10 := by
    unfold head1
    split
    · simp
    · rename_i x r
      exact Lib.uvarint_length64 x.toNat_lt
  have h3 : (tail2 l).length ≤ 600000 := by
    unfold tail2
    split
    · simp
    · have h4 := Nat.mul_le_mul (show l.length - 1 ≤ 65536 by omega) (width_64 l)
      rw [List.length_cons, digs_length]
      unfold size8 total wd
      omega
  unfold pk
  rw [List.length_append, List.length_append]
  omega
def KRel (m : Nat) (w : World) (v : Value) (wr : World) : Prop := ∃ k : Nat, k ≤ m + m ∧ v = .int .i64 (k : Int) ∧ Below w.heap.size w wr

set_option maxHeartbeats 1600000 in
set_option maxRecDepth 100000 in
theorem walk0 (HP : PackAny) (HU : UnAny) (w : World) (l : List UInt64) (A : Option Addr) (c : Nat) (hc : l.length ≤ c) (hm : c ≤ maxLen) (hr : Rd w w.heap.size A (l.map B64)) (hlen : l.length ≤ 1048576)
    (y : List UInt8) (Ay : Option Addr) (cy : Nat) (hcy : y.length ≤ cy) (hmy : cy ≤ maxLen) (hry : Rd w w.heap.size Ay (y.map B8)) (hleny : y.length ≤ 1048576) :
    Calls Try.prog 5 #[.slice A l.length c, .slice Ay y.length cy] w fun e w' => e = .returned (.bool true) ∧ Below w.heap.size w w' := by
  obtain ⟨i0, hi, hz0, hz1, hz2⟩ := info_parts info_u8
  obtain ⟨F, E, hE0, hFB⟩ := post_fb l
  have HA := Lib.hid (awake_any HP HU w)
  have HPH := Lib.hid HP
  have HUH := Lib.hid HU
  have HR := Lib.hid hr
  have HRY := Lib.hid hry
  have H1 := fun w' (hb : Below w.heap.size w w') => Lib.hid ((HP l A _ c w' rfl ((hr.below hb).more hb.size) hc hm).mono (hFB w'))
  have H9 := fun w' (hb : Below w.heap.size w w') => Lib.hid (HU y Ay _ cy 0 w' rfl ((hry.below hb).more hb.size) hcy hmy (by omega))
  unfold UnPost at H9
  obtain ⟨⟨EY, LY, TY⟩, hu⟩ : ∃ r, unp y 0 = r := ⟨_, rfl⟩
  rw [hu] at H9
  dsimp only at H9
  have HUY := Lib.hid (fun (h : EY = 0) => unp_back y LY TY (by rw [hu, h]))
  have HE0 := Lib.hid hE0
  clear HP HU hr hry hu hFB hE0
  go_enter Try.func5, Try.ntmps5
  go_wp2_with fail
  refine HA.out.mono ?_
  rintro e w3 ⟨rfl, hb3⟩
  have HB3 := Lib.hid hb3
  clear hb3 HA
  go_wp2_with fail
  refine (H1 w3 HB3.out).out.mono ?_
  rintro e w4 ⟨A4, c4, rfl, hown4, h41, h42, hb4⟩
  have HB4 := Lib.hid (HB3.out.trans (hb4.mono HB3.out.size))
  have HO4 := Lib.hid hown4
  clear hb4 hown4 H1 HB3
  by_cases hE : E = 0
  · obtain ⟨rfl, hris, hl65⟩ := HE0.out hE
    subst hE
    have hFl := pk_bound l hl65
    have HS := Lib.hid (fun k hk => unp_short l hl65 k hk)
    have HUP := Lib.hid (unp_pk l y y hl65 hris)
    have hFc : (pk l).length ≤ c4 := h41
    have H42 := Lib.hid h42
    generalize pk l = F at *
    have hown0 := World.ownsRow_nil w4 w4.heap.size 5 1
    clear HE0 hris h41
    unfold maxLen at h42
    go_wp2_with (at_builtin; refine wpList_append_rd (v := .slice none 0 0) _ rfl (.tmp 23) (.tmp 24) 24 rfl w4.heap.size 5 i0 (.int .u8 0) 1 Try.underlying24 hi hz0 hz1 hz2 rfl 0 [] rfl hown0 w.heap.size Ay y.length cy (y.map B8) rfl (by simp) (HRY.out.below HB4.out) (one8 y) ?c1 ?c2 (Nat.le_refl _) ?_)
    case c1 => unfold maxLen; omega
    case c2 => omega
    intro v5 w5 hown5 hg5 _
    have HB5 := Lib.hid (below_app hown0 (Below.refl _ _) hg5)
    have HO5 := Lib.hid hown5
    clear hown0 hown5 hg5
    go_wp2_with (at_builtin; refine wpList_append_rd (v := v5) _ rfl (.tmp 25) (.tmp 26) 24 rfl w4.heap.size 5 i0 (.int .u8 0) 1 Try.underlying24 hi hz0 hz1 hz2 rfl _ _ rfl HO5.out w4.heap.size A4 F.length c4 (F.map B8) rfl (by simp) ((Rd.of_own HO4.out).below HB5.out) (one8 F) ?d1 ?d2 HB5.out.size ?_)
    case d1 => unfold maxLen; omega
    case d2 => omega
    intro v6 w6 hown6 hg6 _
    have HB6 := Lib.hid (below_app HO5.out HB5.out hg6)
    have HO6 := Lib.hid hown6
    clear hown6 hg6 HO5 HB5
    go_wp2_with (at_builtin; refine wpList_append_rd (v := v6) _ rfl (.tmp 27) (.tmp 28) 24 rfl w4.heap.size 5 i0 (.int .u8 0) 1 Try.underlying24 hi hz0 hz1 hz2 rfl _ _ rfl HO6.out w.heap.size Ay y.length cy (y.map B8) rfl (by simp) ((HRY.out.below HB4.out).below (HB6.out.mono HB4.out.size)) (one8 y) ?e1 ?e2 HB6.out.size ?_)
    case e1 => unfold maxLen; omega
    case e2 => omega
    intro v7 w7 hown7 hg7 _
    have HB7 := Lib.hid (below_app HO6.out HB6.out hg7)
    clear hg7 HO6 HB6
    have hown7' : w7.ownsRow w4.heap.size 5 1 v7 (y.length + F.length + y.length) ((y ++ (F ++ y)).map B8) := by simpa using hown7
    clear hown7
    obtain ⟨A7, c7, rfl, h71, h72, _⟩ := own_slice hown7'
    have HC7 : Hid (Calls Try.prog 13 #[.slice A7 (y.length + F.length + y.length) c7, .int .i64 ((y.length : Nat) : Int)] w7 (UnPost (y ++ (F ++ y)) ((y.length : Nat) : Int) w7)) :=
      HUH.out (y ++ (F ++ y)) A7 _ c7 _ w7 (by simp; omega) (Rd.of_own hown7') (by simp; omega) h72 (by simp; omega)
    unfold UnPost at HC7
    rw [HUP.out] at HC7
    dsimp only at HC7
    clear hown7' h71 h72 HUP
    go_wp2_with fail
    refine HC7.out.mono ?_
    rintro e w8 ⟨v8, rfl, hown8, hb8⟩
    have HB8 := Lib.hid (HB7.out.trans (hb8.mono HB7.out.size))
    obtain ⟨A8, c8, rfl, _, _, _⟩ := own_slice hown8
    have HSM := Lib.hid (same_eq l A A8 l.length l.length c c8 w8 w.heap.size w8.heap.size rfl rfl ((HR.out.below HB4.out).below (HB8.out.mono HB4.out.size)) (Rd.of_own hown8) (by unfold maxLen; omega))
    have e1 : (((y.length + F.length : Nat) : Int) != (y.length : Int) + (F.length : Int)) = false := by simp
    clear hown8 hb8 HC7 HB7
    go_wp2_with fail
    refine HSM.out.mono ?_
    rintro e w9 ⟨rfl, nq, rfl⟩
    have HB9 : Hid (Below w4.heap.size w4 (w8.drewN nq)) := below_drewN HB8.out nq
    clear HB8 HSM e1
    generalize w8.drewN nq = w9 at *
    go_wp2
    go_loopw [11] (fun v wr => KRel F.length w4 v wr) (fun v _ => F.length - (intOf v).toNat)
    case atStart => exact ⟨0, by omega, rfl, HB9.out⟩
    case round =>
      obtain ⟨k, hk, rfl, hbl⟩ := hrel
      have HBL := Lib.hid hbl
      clear hbl HB9
      by_cases hlt : k < F.length
      · have hs := HS.out k hlt
        have HC : Hid (Calls Try.prog 13 #[.slice A4 k c4, .int .i64 0] wr (UnPost (F.take k) 0 wr)) :=
          HUH.out (F.take k) A4 k c4 0 wr (by simp; omega) (by have := ((Rd.of_own HO4.out).below HBL.out).more HBL.out.size |>.take k; rw [← List.map_take] at this; exact this) (by simp; omega) H42.out (by simp; omega)
        unfold UnPost at HC
        rw [hs] at HC
        generalize (unp (F.take k) 0).2 = r at *
        clear hs
        go_wp2_with fail
        refine HC.out.mono ?_
        rintro e w10 ⟨v10, rfl, hown10, hb10⟩
        have HB10 := Lib.hid (HBL.out.trans (hb10.mono HBL.out.size))
        clear hown10 hb10 HC HBL
        go_wp2
        go_roundw
        case rel => exact ⟨k + (1 + F.length / 50), by omega, by go_num, HB10.out⟩
        case measure => simp [intOf]; omega
      · have HBX : Hid (Below w.heap.size w wr) := HB4.out.trans (HBL.out.mono HB4.out.size)
        clear HB4 HBL HS HO4
        go_wp2_with fail
        refine (H9 wr HBX.out).out.mono ?_
        rintro e w5 ⟨v5, rfl, hown5, hb5⟩
        have HB5 := Lib.hid (HBX.out.trans (hb5.mono HBX.out.size))
        clear hb5 HBX H9
        by_cases hEY : EY = 0
        · obtain ⟨hris, hl65, rfl, hto, htk⟩ := HUY.out hEY
          subst hEY
          obtain ⟨A5, c5, rfl, h51, h52, _⟩ := own_slice hown5
          have H6 := Lib.hid (HPH.out LY A5 LY.length c5 w5 rfl (Rd.of_own hown5) h51 h52)
          clear hown5
          go_wp2_with fail
          refine H6.out.mono ?_
          intro e w6 hpost
          obtain ⟨v6, rfl, hown6, hb6⟩ := post_ok hpost hl65 hris
          obtain ⟨A6, c6, rfl, _, _, _⟩ := own_slice hown6
          have HB6 := Lib.hid (HB5.out.trans (hb6.mono HB5.out.size))
          have s1 := run_str w6.drew A6 _ c6 rfl (Rd.of_own hown6).drew
          have RY : Rd w6 w6.heap.size Ay ((pk LY).map B8) := by
            have h := ((HRY.out.below HB6.out).more HB6.out.size).take (pk LY).length
            rw [← List.map_take, htk] at h
            exact h
          have s2 := run_str w6.drew Ay (pk LY).length cy rfl RY.drew
          have htop : (pk LY).length ≤ cy := by omega
          have htop2 : ((pk LY).length : Int) ≤ (cy : Int) := by omega
          clear hpost hown6 hb6 RY H6 HB5 htk hris hl65 h51 h52 HUY
          generalize pk LY = F at *
          have e1 : (F == F) = true := by simp
          have e2 : (0 : Int) ≤ (F.length : Int) := by omega
          unfold maxLen at hmy
          go_wp2
          refine wp_region_still_lit (by kernel_rfl) (by kernel_rfl) ?_
          iterate 12 (refine wpStill_step (fun K hK => ?_); go_simp; refine hK _ ?_; clear hK K)
          refine wpStill_nil ?_
          go_wp2
          go_ret
          exact ⟨rfl, below_drewN HB6.out 1⟩
        · have e1 : (EY != 0) = true := by simpa using hEY
          clear hown5 hEY HUY
          go_wp2
          go_ret
          exact ⟨rfl, HB5.out⟩
  · have e0 : (E == 0) = false := beq_eq_false_iff_ne.2 hE
    clear hE
    go_wp2_with fail
    refine (H9 w4 HB4.out).out.mono ?_
    rintro e w5 ⟨v5, rfl, hown5, hb5⟩
    have HB5 := Lib.hid (HB4.out.trans (hb5.mono HB4.out.size))
    clear hb5 HB4 H9
    by_cases hEY : EY = 0
    · obtain ⟨hris, hl65, rfl, hto, htk⟩ := HUY.out hEY
      subst hEY
      obtain ⟨A5, c5, rfl, h51, h52, _⟩ := own_slice hown5
      have H6 := Lib.hid (HPH.out LY A5 LY.length c5 w5 rfl (Rd.of_own hown5) h51 h52)
      clear hown5
      go_wp2_with fail
      refine H6.out.mono ?_
      intro e w6 hpost
      obtain ⟨v6, rfl, hown6, hb6⟩ := post_ok hpost hl65 hris
      obtain ⟨A6, c6, rfl, _, _, _⟩ := own_slice hown6
      have HB6 := Lib.hid (HB5.out.trans (hb6.mono HB5.out.size))
      have s1 := run_str w6.drew A6 _ c6 rfl (Rd.of_own hown6).drew
      have RY : Rd w6 w6.heap.size Ay ((pk LY).map B8) := by
        have h := ((HRY.out.below HB6.out).more HB6.out.size).take (pk LY).length
        rw [← List.map_take, htk] at h
        exact h
      have s2 := run_str w6.drew Ay (pk LY).length cy rfl RY.drew
      have htop : (pk LY).length ≤ cy := by omega
      have htop2 : ((pk LY).length : Int) ≤ (cy : Int) := by omega
      clear hpost hown6 hb6 RY H6 HB5 htk hris hl65 h51 h52 HUY
      generalize pk LY = F at *
      have e1 : (F == F) = true := by simp
      have e2 : (0 : Int) ≤ (F.length : Int) := by omega
      unfold maxLen at hmy
      go_wp2
      refine wp_region_still_lit (by kernel_rfl) (by kernel_rfl) ?_
      iterate 12 (refine wpStill_step (fun K hK => ?_); go_simp; refine hK _ ?_; clear hK K)
      refine wpStill_nil ?_
      go_wp2
      go_ret
      exact ⟨rfl, below_drewN HB6.out 1⟩
    · have e1 : (EY != 0) = true := by simpa using hEY
      clear hown5 hEY HUY
      go_wp2
      go_ret
      exact ⟨rfl, HB5.out⟩
theorem walk (w : World) (l : List UInt64) (A : Option Addr) (c : Nat) (hc : l.length ≤ c) (hm : c ≤ maxLen) (hr : Rd w w.heap.size A (l.map B64)) (hlen : l.length ≤ 1048576)
    (y : List UInt8) (Ay : Option Addr) (cy : Nat) (hcy : y.length ≤ cy) (hmy : cy ≤ maxLen) (hry : Rd w w.heap.size Ay (y.map B8)) (hleny : y.length ≤ 1048576) :
    Calls Try.prog 5 #[.slice A l.length c, .slice Ay y.length cy] w fun e w' => e = .returned (.bool true) ∧ Below w.heap.size w w' :=
  walk0 Pack.pack_any Unpack.un_any w l A c hc hm hr hlen y Ay cy hcy hmy hry hleny
theorem own : ownKnob Try.prog.godebug = none := by kernel_rfl
theorem laid : laidOutB Try.prog = true := by kernel_rfl
theorem allRead : (Try.f5.params.toList.all fun t => Try.prog.readableRec t && decide (t < Try.prog.types.size)) = true := by kernel_rfl
theorem contract (H : Type) (enc : TypeId × Value → H) (W : World) (base : Nat) (args : Array Value) (ds gs : List (DataW H)) (before : List MemPlace)
    (hval : ∀ (j : Nat) t v, Try.f5.params[j]? = some t → args[j]? = some v → Value.okWide Try.prog W .any base t v)
    (hW : DataW.Whole enc Try.prog Try.f5.params.toList Rows.packBackSpec.vars false W args.toList ds gs before) (hk : Rows.uptoSmall H (ds ++ gs) = true) :
    Calls Try.prog 5 args W fun e W' => ∃ v, e = .returned v ∧ Rows.packBackSpec.post enc Try.prog Try.f5 false true false false W args v W' := by
  have hW' := hW
  obtain ⟨p, q, hA0, hV, rfl, hfz, hnd⟩ := hW
  obtain ⟨rfl, rfl⟩ := trodVars_none hV
  have hlt : ∀ x ∈ p, x.block < W.heap.size := fun x hx => hW'.lt x (by simp [hx])
  have hA : DataW.TrodAll enc Try.prog W 0 (fun _ => true) true Try.f5.params.toList args.toList ds p := hA0
  rw [Try.params5] at hA hval
  obtain ⟨v0, vs0, d0, ds0, p0, q0, hargs, rfl, rfl, h0, r0⟩ := trodAll_cons hA
  obtain ⟨v1, vs1, d1, ds1, p1, q1, rfl, rfl, rfl, h1, r1⟩ := trodAll_cons r0
  obtain ⟨rfl, rfl, rfl⟩ := trodAll_nil r1
  obtain rfl : args = #[v0, v1] := by cases args; simp_all
  have hkb : Rows.uptoBulkAll ([d0, d1] ++ []) ≤ 1048576 := of_decide_eq_true hk
  obtain ⟨A0, l0, c0, rfl, hl0, hm0, hr0, hd0⟩ := open_u64s Try.underlying22 Try.underlying34 (by kernel_rfl) (hval 0 22 v0 rfl rfl) h0 (fun x hx => hlt x (by simp [hx]))
  have hb0 : l0.length ≤ 1048576 := by have h := bulk_len hd0; rw [List.length_map] at h; simp only [List.append_nil, Rows.uptoBulkAll] at hkb; omega
  obtain ⟨A1, l1, c1, rfl, hl1, hm1, hr1, hd1⟩ := open_u8s Try.underlying24 Try.underlying5 (by kernel_rfl) (hval 1 24 v1 rfl rfl) h1 (fun x hx => hlt x (by simp [hx]))
  have hb1 : l1.length ≤ 1048576 := by have h := bulk_len hd1; rw [List.length_map] at h; simp only [List.append_nil, Rows.uptoBulkAll] at hkb; omega
  refine (walk W l0 A0 c0 hl0 hm0 hr0 hb0 l1 A1 c1 hl1 hm1 hr1 hb1).mono fun e W' ⟨he, hb⟩ => ?_
  subst he
  exact ⟨_, rfl, law_post laid (fun t ht => by have h := List.all_eq_true.1 allRead t ht; rw [Bool.and_eq_true, decide_eq_true_eq] at h; exact h) rfl (by kernel_rfl) Try.underlying4 rfl hW' hb⟩
set_option maxRecDepth 100000 in
theorem lifted (os : Os) (started : os.Started) (H : Type) (enc : TypeId × Value → H) (F : Stop.Interp) :
    ReturnsInHanded {} Try.checked os 5 .any ((Rows.OpenSpec.upto Rows.packBackSpec).pre6 enc Try.prog Try.f5 Rows.packBackUptoRow.domain false) (((Rows.OpenSpec.upto Rows.packBackSpec).at F).post enc Try.prog Try.f5 false true false false) := by
  refine returnsInHanded_of_cond (C := Try.checked) (s := Rows.OpenSpec.upto Rows.packBackSpec) (k := Rows.uptoSmall) rfl own started (by kernel_rfl) Try.func5
    (OpenSpec.witness (enc := enc) (C := Try.checked) (s := Rows.OpenSpec.upto Rows.packBackSpec) (k := Rows.uptoSmall) rfl false ⟨#[], #[.slice none 0 0, .slice none 0 0], []⟩ 8 (by kernel_rfl) (by kernel_rfl) (by kernel_rfl)
      (x := ([.nil, .nil], [], [])) (by kernel_rfl) rfl (by kernel_rfl)) ?_
  intro W base args ds gs before hval hW _ hk _
  exact contract H enc W base args ds gs before hval hW hk
theorem over : Rows.packBackUptoRow.holds Try.pinned (Rows.OpenSpec.upto Rows.packBackSpec) :=
  OpenClaim.holds_of_cond 5 Try.f5 rfl rfl rfl rfl rfl rfl rfl ⟨rfl, rfl, rfl, rfl, rfl⟩ rfl rfl rfl rfl rfl (by kernel_rfl) Try.func5 (by kernel_rfl)
    (of_decide_eq_true (by kernel_rfl)) (by unfold Func.isWrapper; first | (rw [if_pos (by decide +kernel)]; kernel_rfl) | (rw [if_neg (by decide +kernel)]; exact ⟨rfl, rfl⟩))
    (fun os started H enc _ F => lifted os started H enc F)
theorem proved : Rows.PackBackUptoSaid := over

end Go.Proofs.Ytokmoodiolnfiaa.packBack
