/- PackKeeps: for all lists of numbers the statement's function answers true and leaves its argument as it was. No conditions. -/
import Derived.Test.YtokmoodiolnfiaaPkPair
import Derived.SizedLaws
import Derived.OneCell
namespace Go.Proofs.Ytokmoodiolnfiaa.packKeeps
open Go Go.ChangeShapes Go.WideShapes Go.ChangeAt Go.RowKit Words Plain Put RefPut App PkPlain PkSpec UnSpec Need RefPk RefUn RefUn2 PkHas PkOne PkAgain Awake3 PkSize packTight packMoves PkBack packBack Ope Bulk

theorem weigh_len8 {H : Type} {P : Program} {k : IntKind} {d : DataW H} {zs : List Int} {t e : TypeId} (ht : P.underlying t = some (.slice e)) (hb : P.bytesOf e = 8) (h : Lits k d zs) (hw : (d.weights P t).all (· ≤ reachBytes) = true) : zs.length * 8 ≤ 140737488351232 := by
  rcases h with ⟨rfl, rfl⟩ | ⟨sp, rfl⟩
  · simp
  · rw [DataW.weights, ht] at hw
    simp only [List.all_cons, Bool.and_eq_true, decide_eq_true_eq] at hw
    have h1 := hw.1
    simp only [lits, List.length_map, reachBytes, hb] at h1
    omega
/-- Two rows of the call's own, the second made behind the first: apart. -/
theorem own_sep {w : World} {B : Nat} {e : TypeId} {va vb : Value} {n : Nat} {xs : List Value} (h : w.ownsRow B e 1 vb n xs) (ha : ∀ k, va.ownBlock = some k → k < B) : va.ownBlock ≠ vb.ownBlock ∨ va.ownBlock = none := by
  cases hv : va.ownBlock with
  | none => exact .inr rfl
  | some k =>
    left
    intro e
    have h1 := (h.lt k e.symm).1
    have h2 := ha k hv
    omega
theorem post_fb2 (l : List UInt64) : ∃ (F : List UInt8) (E : Int), (E = 0 → F = pk l ∧ Rising l ∧ l.length ≤ 65536) ∧ (E ≠ 0 → F = []) ∧ ∀ (w : World) (e : Ending) (w' : World), PackPost l w e w' → FB F E w e w' := by
  obtain ⟨F, E, h1, h2⟩ := post_fb l
  by_cases h3 : 65536 < l.length
  · refine ⟨[], 3, (fun h => by cases h), fun _ => rfl, ?_⟩
    rintro w e w' (⟨_, rfl, hb⟩ | ⟨h, _⟩ | ⟨h, _⟩)
    · exact ⟨none, 0, rfl, World.ownsRow_nil _ _ _ _, by simp, by unfold maxLen; omega, hb⟩
    · omega
    · omega
  · by_cases h4 : Rising l
    · refine ⟨pk l, 0, fun _ => ⟨rfl, h4, by omega⟩, fun h => absurd rfl h, ?_⟩
      rintro w e w' (⟨h, _⟩ | ⟨_, h, _⟩ | ⟨_, _, v, rfl, hown, hb⟩)
      · omega
      · exact absurd h4 h
      · obtain ⟨A, c, rfl, h3, h4, _⟩ := own_slice hown
        exact ⟨A, c, rfl, hown, h3, h4, hb⟩
    · refine ⟨[], 1, (fun h => by cases h), fun _ => rfl, ?_⟩
      rintro w e w' (⟨h, _⟩ | ⟨_, _, rfl, hb⟩ | ⟨_, h, _⟩)
      · omega
      · exact ⟨none, 0, rfl, World.ownsRow_nil _ _ _ _, by simp, by unfold maxLen; omega, hb⟩
      · exact absurd h h4

theorem one64c (l : List UInt64) : ∀ u ∈ l.map B64, u.oneCell' = true := by
  intro u hu
  obtain ⟨c, _, rfl⟩ := List.mem_map.1 hu
  rfl
/-- The loop that writes over the bytes: three rows of the call's own. -/
def Rel1 (m : Nat) (l : List UInt64) (Br Bm Bn : Nat) (w : World) (vr vm vn : Value) (v : Value) (wr : World) : Prop := ∃ (j : Nat) (xs : List Value), j ≤ m ∧ v = .int .i64 (j : Int) ∧
  wr.ownsRow Br 5 1 vr m xs ∧ wr.ownsRow Bm 34 1 vm l.length (l.map B64) ∧ wr.ownsRow Bn 34 1 vn l.length (l.map B64) ∧ Below w.heap.size w wr ∧ Bm ≤ wr.heap.size
def Rel2 (l : List UInt64) (Bm Bn : Nat) (w : World) (vm vn : Value) (v : Value) (wr : World) : Prop := ∃ (j : Nat) (xs : List Value), j ≤ l.length ∧ v = .int .i64 (j : Int) ∧
  wr.ownsRow Bm 34 1 vm l.length xs ∧ wr.ownsRow Bn 34 1 vn l.length (l.map B64) ∧ Below w.heap.size w wr ∧ Bm ≤ wr.heap.size

set_option maxHeartbeats 4000000 in
set_option maxRecDepth 100000 in
theorem walk (w : World) (l : List UInt64) (A : Option Addr) (c : Nat) (hc : l.length ≤ c) (hm : c ≤ maxLen) (hr : Rd w w.heap.size A (l.map B64)) (hlen : l.length * 8 ≤ 140737488351232) :
    Calls Try.prog 7 #[.slice A l.length c] w fun e w' => e = .returned (.bool true) ∧ Below w.heap.size w w' := by
  obtain ⟨i0, hi, hz0, hz1, hz2⟩ := info_parts info_u8
  obtain ⟨i1, gi, gz0, gz1, gz2⟩ := info_parts info_u64
  obtain ⟨F, E, hE0, hE1, hFB⟩ := post_fb2 l
  have HA := Lib.hid (awake_any Pack.pack_any Unpack.un_any w)
  have HR := Lib.hid hr
  have HFB := Lib.hid hFB
  have HE0 := Lib.hid hE0
  have HE1 := Lib.hid hE1
  have HCM := Lib.hid hm
  clear hr hFB hE0 hE1 hm
  go_enter Try.func7, Try.ntmps7
  go_wp2_with fail
  refine HA.out.mono ?_
  rintro e w1 ⟨rfl, hb1⟩
  have hown0 := World.ownsRow_lit (base := w.heap.size) (e := 34) (size := 1) w1 #[] 0 hb1.size (by unfold maxLen; omega) rfl
  have HB1 := Lib.hid (hb1.alloc hb1.size (.cells #[] 34))
  clear hb1 HA
  go_wp2_with (at_builtin; refine wpList_append_rd (v := .slice (some ⟨w1.heap.size, 0, none⟩) 0 0) _ rfl (.tmp 17) (.tmp 18) 22 rfl w.heap.size 34 i1 (.int .u64 0) 8 Try.underlying22 gi gz0 gz1 gz2 rfl 0 [] rfl hown0 w.heap.size A l.length c (l.map B64) rfl (by simp) (HR.out.below HB1.out) (one64c l) ?c1 ?c2 HB1.out.size ?_)
  case c1 => unfold maxLen; omega
  case c2 => omega
  intro v2 w2 hown2 hg2 _
  have HB2 := Lib.hid (below_app hown0 HB1.out hg2)
  have hown2' : w2.ownsRow w.heap.size 34 1 v2 l.length (l.map B64) := by simpa using hown2
  have HO2 := Lib.hid hown2'
  clear hown0 hown2 hown2' hg2
  go_wp2_with (at_builtin; refine wpList_append_rd (v := v2) _ rfl (.tmp 19) (.tmp 20) 22 rfl w.heap.size 34 i1 (.int .u64 0) 8 Try.underlying22 gi gz0 gz1 gz2 rfl _ _ rfl (HO2.out.alloc _) (w2.heap.size + 1) (some ⟨w2.heap.size, 0, none⟩) 1 1 [.int .u64 77] rfl rfl (Rd.made w2 #[.int .u64 77] 34) ?d0 ?d1 ?d2 ?d3 ?_)
  case d0 => intro u hu; simp at hu; subst hu; rfl
  case d1 => unfold maxLen; omega
  case d2 => omega
  case d3 => have := HB2.out.size; simp; omega
  intro v3 w3 hown3 hg3 _
  have HB3 := Lib.hid (below_app (HO2.out.alloc _) (HB2.out.alloc HB2.out.size _) hg3)
  have HO3 := Lib.hid hown3
  obtain ⟨g3, c3, rfl, _, _, _⟩ := own_addr hown3 (by omega)
  have h31 := (own_slice hown3)
  have hc3 : l.length + 1 ≤ c3 ∧ c3 ≤ maxLen := by
    obtain ⟨A', c', e, h1, h2, _⟩ := h31
    injection e with _ _ e
    subst e
    exact ⟨h1, h2⟩
  obtain ⟨h31a, h31b⟩ := hc3
  have RF : Hid (Rd w3 w3.heap.size (some ⟨g3, 0, none⟩) (l.map B64)) := by
    have := (Rd.of_own hown3).take l.length
    rw [List.take_left' (by simp)] at this
    exact this
  have HP := Lib.hid ((Pack.pack_any l (some ⟨g3, 0, none⟩) l.length c3 w3 rfl RF.out (by omega) h31b).mono (HFB.out w3))
  clear hown3 hg3 HO2 h31 HB1 HB2
  go_wp2_with fail
  refine HP.out.mono ?_
  rintro e w4 ⟨A4, c4, rfl, hown4, h41, h42, hb4⟩
  have HB4 := Lib.hid (HB3.out.trans (hb4.mono HB3.out.size))
  have HO4 := Lib.hid hown4
  have HO34 := Lib.hid (own_keep HO3.out hb4)
  have RF4 := Lib.hid (RF.out.below hb4)
  have k77 : w4.cell? ⟨g3, l.length, none⟩ = some (.int .u64 77) := (HO34.out.cellAt l.length (by omega)).trans (by simp)
  have S34 : w3.heap.size ≤ w4.heap.size := hb4.size
  have HSM := Lib.hid (same_eq l (some ⟨g3, 0, none⟩) A l.length l.length c3 c w4 w3.heap.size w.heap.size rfl rfl RF4.out (HR.out.below HB4.out) (by unfold maxLen; omega))
  clear hown4 hb4 HO3 HP HB3 RF
  go_wp2_with fail
  refine HSM.out.mono ?_
  rintro e w5 ⟨rfl, nq, rfl⟩
  by_cases hE : E = 0
  · obtain ⟨rfl, hris, hl65⟩ := HE0.out hE
    subst hE
    have hFl := pk_bound l hl65
    have HUN : Hid (unp (pk l) 0 = (0, l, (((pk l).length : Nat) : Int))) := by
      have h := unp_pk l [] [] hl65 hris
      simp only [List.nil_append, List.append_nil, List.length_nil, Nat.zero_add] at h
      exact h
    generalize pk l = F at *
    have HB5 := Lib.hid (below_drewN HB4.out nq)
    have S04 : w.heap.size ≤ w4.heap.size := HB4.out.size
    have HRA : Hid (Rd (w4.drewN nq) w4.heap.size A4 (F.map B8)) := (Rd.of_own HO4.out).drewN nq
    have S45 : w4.heap.size ≤ (w4.drewN nq).heap.size := Nat.le_refl _
    have k78 : (w4.drewN nq).cell? ⟨g3, l.length, none⟩ = some (.int .u64 77) := k77
    clear HSM HO4 HO34 RF4 k77 hris h41 h42 HE0 HE1 HFB HB4
    generalize w4.drewN nq = w5 at *
    have hown0 := World.ownsRow_lit (base := w4.heap.size) (e := 5) (size := 1) w5 #[] 0 S45 (by unfold maxLen; omega) rfl
    have HB5b := Lib.hid (HB5.out.alloc HB5.out.size (.cells #[] 5))
    go_wp2_with (at_builtin; refine wpList_append_rd (v := .slice (some ⟨w5.heap.size, 0, none⟩) 0 0) _ rfl (.tmp 68) (.tmp 69) 24 rfl w4.heap.size 5 i0 (.int .u8 0) 1 Try.underlying24 hi hz0 hz1 hz2 rfl 0 [] rfl hown0 w4.heap.size A4 F.length c4 (F.map B8) rfl (by simp) (HRA.out.alloc S45 _) (one8 F) ?a1 ?a2 ?a3 ?_)
    case a1 => unfold maxLen; omega
    case a2 => omega
    case a3 => simp; omega
    intro v6 w6 hown6 hg6 _
    have S46 : w4.heap.size ≤ w6.heap.size := by have := hg6.size; simp at this; omega
    have HB6 := Lib.hid (HB5b.out.grown hg6 HB5b.out.size (fun k hk => by have := HB5.out.size; simp [Value.ownBlock] at hk; omega))
    have hown6' : w6.ownsRow w4.heap.size 5 1 v6 F.length (F.map B8) := by simpa using hown6
    have HO6 := Lib.hid hown6'
    clear hown0 hown6 hown6' hg6 HB5b HB5
    go_wp2_with (at_builtin; refine wpList_append_rd (v := v6) _ rfl (.tmp 70) (.tmp 71) 24 rfl w4.heap.size 5 i0 (.int .u8 0) 1 Try.underlying24 hi hz0 hz1 hz2 rfl _ _ rfl (HO6.out.alloc _) (w6.heap.size + 1) (some ⟨w6.heap.size, 0, none⟩) 1 1 [.int .u8 9] rfl rfl (Rd.made w6 #[.int .u8 9] 5) ?b0 ?b1 ?b2 ?b3 ?_)
    case b0 => intro u hu; simp at hu; subst hu; rfl
    case b1 => unfold maxLen; omega
    case b2 => omega
    case b3 => simp; omega
    intro v7 w7 hown7 hg7 _
    have HB7 := Lib.hid ((HB6.out.alloc HB6.out.size (.cells #[.int .u8 9] 5)).grown hg7 (by have := HB6.out.size; simp; omega) (fun k hk => by have := (HO6.out.lt k hk).1; omega))
    have HO7 := Lib.hid hown7
    obtain ⟨g7, c7, rfl, hg71, hg72, _⟩ := own_addr hown7 (by omega)
    obtain ⟨A', c', e', h71, h72, _⟩ := own_slice hown7
    injection e' with e1 e2 e3
    subst e1 e3
    have RF7 : Hid (Rd w7 w7.heap.size (some ⟨g7, 0, none⟩) (F.map B8)) := by
      have := (Rd.of_own hown7).take F.length
      rw [List.take_left' (by simp)] at this
      exact this
    have HU7 := Lib.hid (Unpack.un_any F (some ⟨g7, 0, none⟩) F.length c7 0 w7 rfl RF7.out (by omega) h72 (by omega))
    have HU8 := fun w' (hb : Below w7.heap.size w7 w') => Lib.hid (Unpack.un_any F (some ⟨g7, 0, none⟩) F.length c7 0 w' rfl ((RF7.out.below hb).more hb.size) (by omega) h72 (by omega))
    unfold UnPost at HU7 HU8
    rw [HUN.out] at HU7 HU8
    dsimp only at HU7 HU8
    have S49 : w4.heap.size ≤ g7 := hg71
    clear hown7 hg7 HO6 e2 hg71
    go_wp2_with fail
    refine HU7.out.mono ?_
    rintro e w8 ⟨v8, rfl, hown8, hb8⟩
    have HB8 := Lib.hid (HB7.out.trans (hb8.mono HB7.out.size))
    have HU9 := Lib.hid (HU8 w8 hb8)
    have HO78 := Lib.hid (own_keep HO7.out hb8)
    have S78 : w7.heap.size ≤ w8.heap.size := hb8.size
    obtain ⟨A8, c8, rfl, h81, h82, _⟩ := own_slice hown8
    have HO8 := Lib.hid hown8
    clear hown8 hb8 HU7 HU8 HO7 RF7 HB7
    go_wp2_with fail
    refine HU9.out.out.mono ?_
    rintro e w9 ⟨v9, rfl, hown9, hb9⟩
    have HB9 := Lib.hid (HB8.out.trans (hb9.mono HB8.out.size))
    have HO79 := Lib.hid (own_keep HO78.out hb9)
    have HO89 := Lib.hid (own_keep HO8.out hb9)
    have HV8 := Lib.hid HO8.out.lt
    obtain ⟨A9, c9, rfl, h91, h92, _⟩ := own_slice hown9
    have HO9 := Lib.hid hown9
    have S89 : w8.heap.size ≤ w9.heap.size := hb9.size
    clear hown9 hb9 HU9 HO78 HO8 HB8
    have hg7b : g7 < w7.heap.size := hg72
    generalize hvm : Value.slice A8 l.length c8 = vm at *
    have HVM := Lib.hid hvm
    generalize hvn : Value.slice A9 l.length c9 = vn at *
    have HVN := Lib.hid hvn
    clear hvm hvn
    go_wp2
    go_loopw [12] (fun v wr => Rel1 (F.length + 1) l w4.heap.size w7.heap.size w8.heap.size w (.slice (some ⟨g7, 0, none⟩) (F.length + 1) c7) vm vn v wr) (fun v _ => F.length + 1 - (intOf v).toNat)
    case atStart => exact ⟨0, _, by omega, rfl, HO79.out, HO89.out, HO9.out, HB9.out, by omega⟩
    case round =>
      obtain ⟨j, xs, hj, rfl, hoR, hoM, hoN, hbl, hS7⟩ := hrel
      clear HO79 HO89 HO9 HB9
      by_cases hlt : j < F.length + 1
      · have hxl := hoR.1
        have hc1 := hoR.cellAt j (by omega)
        rw [List.getElem?_eq_getElem (by omega)] at hc1
        obtain ⟨u0, hc2⟩ : ∃ u, wr.cell? ⟨g7, j, none⟩ = some u := ⟨_, hc1⟩
        clear hc1
        have hfr := hoR.frozenAt j
        have HOR := Lib.hid (hoR.stored j (.int .u8 238)).1
        have HOM := Lib.hid (ownsRow_setCell_other (a := ⟨g7, j, none⟩) hoM (fun e => by have := (hoM.lt g7 e).1; omega) (.int .u8 238))
        have HON := Lib.hid (ownsRow_setCell_other (a := ⟨g7, j, none⟩) hoN (fun e => by have := (hoN.lt g7 e).1; omega) (.int .u8 238))
        have HBL := Lib.hid (hbl.setCell (p := ⟨g7, j, none⟩) (by show w.heap.size ≤ g7; omega) (.int .u8 238))
        clear hoR hoM hoN hbl hxl
        go_wp2
        go_roundw
        case rel => exact ⟨j + 1, _, by omega, by go_num, HOR.out, HOM.out, HON.out, HBL.out, by simpa using hS7⟩
        case measure => simp [intOf]; omega
      · have HOM := Lib.hid hoM
        have HON := Lib.hid hoN
        have HBL := Lib.hid hbl
        clear hoR hoM hoN hbl
        have hvm := HVM.out
        subst hvm
        go_wp2
        go_loopw [13] (fun v wr => Rel2 l w7.heap.size w8.heap.size w (.slice A8 l.length c8) vn v wr) (fun v _ => l.length - (intOf v).toNat)
        case atStart => exact ⟨0, _, by omega, rfl, HOM.out, HON.out, HBL.out, hS7⟩
        case round =>
          obtain ⟨k, ys, hk, rfl, hoM, hoN, hbl, hS72⟩ := hrel
          clear HOM HON HBL
          by_cases hlt2 : k < l.length
          · obtain ⟨gm, cm, hv, hgm1, hgm2, _⟩ := own_addr hoM (by omega)
            injection hv with hv1 hv2 hv3
            subst hv1 hv3
            have hxl := hoM.1
            have hc1 := hoM.cellAt k (by omega)
            rw [List.getElem?_eq_getElem (by omega)] at hc1
            obtain ⟨u0, hc2⟩ : ∃ u, wr.cell? ⟨gm, k, none⟩ = some u := ⟨_, hc1⟩
            clear hc1
            have hfr := hoM.frozenAt k
            have HOM := Lib.hid (hoM.stored k (.int .u64 5)).1
            have HON := Lib.hid (ownsRow_setCell_other (a := ⟨gm, k, none⟩) hoN (fun e => by have h1 := (hoN.lt gm e).1; have h2 := (HV8.out gm rfl).2; omega) (.int .u64 5))
            have HBL := Lib.hid (hbl.setCell (p := ⟨gm, k, none⟩) (by show w.heap.size ≤ gm; omega) (.int .u64 5))
            clear hoM hoN hbl hxl
            go_wp2
            go_roundw
            case rel => exact ⟨k + 1, _, by omega, by go_num, HOM.out, HON.out, HBL.out, by simpa using hS72⟩
            case measure => simp [intOf]; omega
          · have hap : vn.ownBlock = none ∨ vn.ownBlock ≠ (Value.slice A8 l.length c8).ownBlock := by
              cases hb : vn.ownBlock with
              | none => exact .inl rfl
              | some g =>
                right
                intro e
                have h1 := (hoN.lt g hb).1
                have h2 := (HV8.out g e.symm).2
                omega
            have HAP := Lib.hid hap
            have HOM := Lib.hid hoM
            have HON := Lib.hid hoN
            have HBL := Lib.hid hbl
            have S0r : w.heap.size ≤ wr.heap.size := hbl.size
            have S7r : w7.heap.size ≤ wr.heap.size := hS72
            clear hoM hoN hbl hap
            go_wp2_with (at_builtin; refine wpList_append_rd (v := .slice A8 l.length c8) _ rfl (.tmp 109) (.tmp 110) 22 rfl w7.heap.size 34 i1 (.int .u64 0) 8 Try.underlying22 gi gz0 gz1 gz2 rfl _ _ rfl (HOM.out.alloc _) (wr.heap.size + 1) (some ⟨wr.heap.size, 0, none⟩) 2 2 [.int .u64 1, .int .u64 2] rfl rfl (Rd.made wr #[.int .u64 1, .int .u64 2] 34) ?m1 ?m2 ?m3 ?m4 ?_)
            case m1 => intro u hu; simp at hu; rcases hu with rfl | rfl <;> rfl
            case m2 => unfold maxLen; omega
            case m3 => omega
            case m4 => simp; omega
            intro v12 w12 hown12 hg12 _
            obtain ⟨A12, c12, rfl, _, _, _⟩ := own_slice hown12
            have HON12 := Lib.hid ((HON.out.alloc (.cells #[.int .u64 1, .int .u64 2] 34)).kept hg12 HAP.out)
            have HB12 := Lib.hid ((HBL.out.alloc S0r (.cells #[.int .u64 1, .int .u64 2] 34)).grown hg12 (by simp; omega) (fun k hk => by have := (HOM.out.lt k hk).1; omega))
            have hvn := HVN.out
            subst hvn
            have HSM9 := Lib.hid (same_eq l A9 A l.length l.length c9 c w12 w12.heap.size w.heap.size rfl rfl (Rd.of_own HON12.out) (HR.out.below HB12.out) (by unfold maxLen; omega))
            have e3 : ((l.length : Int) + 2 == (l.length : Int) + 2) = true := by simp
            clear hown12 hg12 HOM HON HBL HAP
            go_wp2_with fail
            refine HSM9.out.mono ?_
            rintro e w13 ⟨rfl, nq3, rfl⟩
            go_wp2
            go_ret
            exact ⟨rfl, below_drewN HB12.out nq3⟩
  · have e1 : (E != 0) = true := by simpa using hE
    obtain rfl : F = [] := HE1.out hE
    have HSM2 := Lib.hid (same_eq l (some ⟨g3, 0, none⟩) A l.length l.length c3 c (w4.drewN nq) w3.heap.size w.heap.size rfl rfl (RF4.out.drewN nq) ((HR.out.below HB4.out).drewN nq) (by unfold maxLen; omega))
    go_wp2_with fail
    refine HSM2.out.mono ?_
    rintro e w6 ⟨rfl, nq2, rfl⟩
    go_wp2
    go_ret
    exact ⟨rfl, below_drewN HB4.out (nq + nq2)⟩
theorem own : ownKnob Try.prog.godebug = none := by kernel_rfl
theorem laid : laidOutB Try.prog = true := by kernel_rfl
theorem allRead : (Try.f7.params.toList.all fun t => Try.prog.readableRec t && decide (t < Try.prog.types.size)) = true := by kernel_rfl
theorem contract (H : Type) (enc : TypeId × Value → H) (W : World) (base : Nat) (args : Array Value) (ds gs : List (DataW H)) (before : List MemPlace)
    (hval : ∀ (j : Nat) t v, Try.f7.params[j]? = some t → args[j]? = some v → Value.okWide Try.prog W .any base t v)
    (hW : DataW.Whole enc Try.prog Try.f7.params.toList Rows.packKeepsSpec.vars false W args.toList ds gs before) (hwt : (DataW.weightsEach Try.prog (Try.f7.params.toList ++ Rows.packKeepsSpec.plain.varTypes Try.prog) (ds ++ gs)).all (· ≤ reachBytes) = true) :
    Calls Try.prog 7 args W fun e W' => ∃ v, e = .returned v ∧ Rows.packKeepsSpec.post enc Try.prog Try.f7 false true false false W args v W' := by
  have hW' := hW
  obtain ⟨p, q, hA0, hV, rfl, hfz, hnd⟩ := hW
  obtain ⟨rfl, rfl⟩ := trodVars_none hV
  have hlt : ∀ x ∈ p, x.block < W.heap.size := fun x hx => hW'.lt x (by simp [hx])
  have hA : DataW.TrodAll enc Try.prog W 0 (fun _ => true) true Try.f7.params.toList args.toList ds p := hA0
  rw [Try.params7] at hA hval
  obtain ⟨v0, vs0, d0, ds0, p0, q0, hargs, rfl, rfl, h0, r0⟩ := trodAll_cons hA
  obtain ⟨rfl, rfl, rfl⟩ := trodAll_nil r0
  obtain rfl : args = #[v0] := by cases args; simp_all
  rw [Try.params7] at hwt
  obtain ⟨y0, z0⟩ := weigh_cons hwt
  obtain ⟨A0, l0, c0, rfl, hl0, hm0, hr0, hd0⟩ := open_u64s Try.underlying22 Try.underlying34 (by kernel_rfl) (hval 0 22 v0 rfl rfl) h0 (fun x hx => hlt x (by simp [hx]))
  have hb0 : l0.length * 8 ≤ 140737488351232 := by have h := weigh_len8 Try.underlying22 (by decide +kernel) hd0 y0; rwa [List.length_map] at h
  refine (walk W l0 A0 c0 hl0 hm0 hr0 hb0).mono fun e W' ⟨he, hb⟩ => ?_
  subst he
  exact ⟨_, rfl, law_post laid (fun t ht => by have h := List.all_eq_true.1 allRead t ht; rw [Bool.and_eq_true, decide_eq_true_eq] at h; exact h) rfl (by kernel_rfl) Try.underlying4 rfl hW' hb⟩
set_option maxRecDepth 100000 in
theorem lifted (os : Os) (started : os.Started) (H : Type) (enc : TypeId × Value → H) :
    ReturnsInHanded {} Try.checked os 7 .any (Rows.packKeepsSpec.pre6 enc Try.prog Try.f7 Rows.packKeepsRow.domain false) (Rows.packKeepsSpec.post enc Try.prog Try.f7 false true false false) := by
  refine returnsInHanded_of_change_sized (C := Try.checked) own started (by kernel_rfl) Try.func7
    (ChangeSpec.witness6 (enc := enc) (C := Try.checked) false ⟨#[], #[.slice none 0 0], []⟩ 8 (by kernel_rfl) (by kernel_rfl) (by kernel_rfl) (by kernel_rfl)) ?_
  intro W base args ds gs before hval hW _ hwt _
  exact contract H enc W base args ds gs before hval hW hwt
theorem over : Rows.packKeepsRow.holds Try.pinned (OpenSpec.ofChange Rows.packKeepsSpec) :=
  OpenClaim.holds_of_wide 7 Try.f7 rfl rfl rfl rfl rfl rfl rfl ⟨rfl, rfl, rfl, rfl, rfl⟩ rfl rfl rfl rfl rfl (by kernel_rfl) Try.func7 (by kernel_rfl)
    (of_decide_eq_true (by kernel_rfl)) (by unfold Func.isWrapper; first | (rw [if_pos (by decide +kernel)]; kernel_rfl) | (rw [if_neg (by decide +kernel)]; exact ⟨rfl, rfl⟩))
    (fun os started H enc _ => lifted os started H enc)
theorem proved : Rows.PackKeepsSaid := over

end Go.Proofs.Ytokmoodiolnfiaa.packKeeps
