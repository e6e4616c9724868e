/- FrameLinear: for all three texts of bulk at most 1048576 together the statement's function answers true and leaves its arguments as they were. Conditions: that bound; the program's table holds what the program's text lays (tied by the card). -/
import Derived.Test.YtajphomdbdgmbaaDoorAwake2
import Derived.Test.YtajphomdbdgmbaaDoorLinStep
import Derived.Test.YtajphomdbdgmbaaDoorBulk
import Derived.Test.YtajphomdbdgmbaaDoorCards
import Derived.Test.YtajphomdbdgmbaaDoorTie
import Derived.Deep.DeepHandedRow
import Derived.LaidMore
import Derived.OneCell
namespace Go.Proofs.YtajphomdbdgmbaaDoor.frameLinear
open Go.ChangeShapes Go.WideShapes Go.ChangeAt Go.RowKit Words Plain Crc Tab Summ RefSum SumB Put RefPut App Get RefGet Framed Reading Read2 RefRead Awake2 AnyInv LinInv LinStep Ope Bulk

theorem min3 (P : Program) (ts : Array TypeId) (t : TypeId) (x y z n : Nat) (h : n = min (min x y) z) (w : World) : (Builtin.min_ ts t #[.int .i64 (x : Int), .int .i64 (y : Int), .int .i64 (z : Int)]).run P w = .ok (.int .i64 (n : Int)) w := by
  have e : (if (z : Int) < (if (y : Int) < (x : Int) then (y : Int) else (x : Int)) then (z : Int) else (if (y : Int) < (x : Int) then (y : Int) else (x : Int))) = (n : Int) := by
    split <;> split at * <;> omega
  rw [← e]
  simp [Builtin.min_, Builtin.min2]

/-- The exclusive or of three texts' first n bytes. -/
def X3 (la lb lc : List UInt8) (n : Nat) : List UInt8 := zx (zx (la.take n) (lb.take n)) (lc.take n)
theorem X3_length {la lb lc : List UInt8} {n : Nat} (h1 : n ≤ la.length) (h2 : n ≤ lb.length) (h3 : n ≤ lc.length) : (X3 la lb lc n).length = n := by
  simp [X3, zx]
  omega
theorem X3_at {la lb lc : List UInt8} {n j : Nat} (h1 : n ≤ la.length) (h2 : n ≤ lb.length) (h3 : n ≤ lc.length) (hj : j < n) : (X3 la lb lc n)[j]? = some ((la[j] ^^^ lb[j]) ^^^ lc[j]) := by
  have e1 : (la.take n)[j]? = some la[j] := by rw [List.getElem?_take, if_pos hj]; simp
  have e2 : (lb.take n)[j]? = some lb[j] := by rw [List.getElem?_take, if_pos hj]; simp
  have e3 : (lc.take n)[j]? = some lc[j] := by rw [List.getElem?_take, if_pos hj]; simp
  unfold X3 zx
  rw [List.getElem?_zipWith, List.getElem?_zipWith, e1, e2, e3]

theorem below_drew2 {w w' : World} {B : Nat} (h : Below B w w') : Below B w w'.drew := ⟨h.os, h.tape, h.output, h.size, h.block⟩

def Rel (n : Nat) (X : List UInt8) (B : Nat) (w : World) (g : Nat) (v : Value) (wr : World) : Prop := ∃ (j : Nat) (xs : List Value), j ≤ n ∧ v = .int .i64 (j : Int) ∧
  (∀ i, i < j → xs[i]? = (X.map B8)[i]?) ∧ wr.ownsRow B 5 1 (.slice (some ⟨g, 0, none⟩) n n) n xs ∧ Below B w wr

set_option maxHeartbeats 2400000 in
set_option maxRecDepth 100000 in
theorem walk (w : World) (hL : Laid w w.heap.size) (la : List UInt8) (A : Option Addr) (ca : Nat) (hca : la.length ≤ ca) (hma : ca ≤ maxLen) (hra : Rd w w.heap.size A (la.map B8)) (hla : la.length ≤ 1048576)
    (lb : List UInt8) (A1 : Option Addr) (cb : Nat) (hcb : lb.length ≤ cb) (hmb : cb ≤ maxLen) (hrb : Rd w w.heap.size A1 (lb.map B8)) (hlb : lb.length ≤ 1048576)
    (lc : List UInt8) (A2 : Option Addr) (cc : Nat) (hcc : lc.length ≤ cc) (hmc : cc ≤ maxLen) (hrc : Rd w w.heap.size A2 (lc.map B8)) (hlc : lc.length ≤ 1048576) :
    Calls Tryd.prog 7 #[.slice A la.length ca, .slice A1 lb.length cb, .slice A2 lc.length cc] w fun e w' => e = .returned (.bool true) ∧ Below w.heap.size w w' := by
  obtain ⟨i0, hi, hz0, hz1, hz2⟩ := info_parts info_u8
  have HRA := Lib.hid hra
  have HRB := Lib.hid hrb
  have HRC := Lib.hid hrc
  have HL := Lib.hid hL
  have HMA := Lib.hid hma
  have HMB := Lib.hid hmb
  have HMC := Lib.hid hmc
  obtain ⟨n, hn⟩ : ∃ n, n = min (min la.length lb.length) lc.length := ⟨_, rfl⟩
  have hna : n ≤ la.length := by omega
  have hnb : n ≤ lb.length := by omega
  have hnc : n ≤ lc.length := by omega
  have hmin := fun w => min3 Tryd.prog #[3, 3, 3] 3 la.length lb.length lc.length n hn w
  have HN := Lib.hid hn
  clear hra hrb hrc hma hmb hmc hL hn
  go_enter Tryd.func7, Tryd.ntmps7
  go_wp2_with fail
  refine (awake_any w HL.out).mono ?_
  rintro e w1 ⟨rfl, hb1⟩
  have HB1 := Lib.hid hb1
  clear hb1
  go_wp2_with (refine wpList_make_full _ rfl _ _ 24 rfl w.heap.size 5 i0 (.int .u8 0) 1 Tryd.underlying24 hi hz0 hz1 .i64 .i64 _ _ n rfl rfl rfl rfl (by rw [hz2]; omega) (by unfold maxLen; omega) HB1.out.size ?_; intro w2 hown2 hg2)
  have HB2 := Lib.hid (HB1.out.grown hg2 HB1.out.size (by simp))
  have HO2 := Lib.hid hown2
  have hg1 : w.heap.size ≤ w1.heap.size := HB1.out.size
  have HX := Lib.hid (fun j (hj : j < n) => X3_at hna hnb hnc hj)
  have HXL := Lib.hid (X3_length hna hnb hnc)
  have HSL := Lib.hid (sum_linear (la.take n) (lb.take n) (lc.take n) (by simp; omega) (by simp; omega))
  clear hown2 hg2 HB1
  generalize hX : X3 la lb lc n = X at *
  have HXE := Lib.hid hX
  clear hX
  generalize w1.heap.size = g at *
  go_wp2
  go_loopw [9] (fun v wr => Rel n X w.heap.size w g v wr) (fun v _ => n - (intOf v).toNat)
  case atStart => exact ⟨0, _, by omega, rfl, fun _ h => absurd h (by omega), HO2.out, HB2.out⟩
  case round =>
    obtain ⟨j, xs, hj, rfl, hxs, hown, hbl⟩ := hrel
    clear HO2 HB2
    have HXS := Lib.hid hxs
    have HB := Lib.hid hbl
    by_cases hlt : j < n
    · obtain ⟨ba, oa, rfl, hba, hcA⟩ := HRA.out (by simp; omega)
      obtain ⟨bb, ob, rfl, hbb, hcB⟩ := HRB.out (by simp; omega)
      obtain ⟨bc, oc, rfl, hbc, hcC⟩ := HRC.out (by simp; omega)
      have k1 := (hbl.cell (p := ⟨ba, oa + j, none⟩) hba).trans (cell8 hcA (k := j) (by omega))
      have k2 := (hbl.cell (p := ⟨bb, ob + j, none⟩) hbb).trans (cell8 hcB (k := j) (by omega))
      have k3 := (hbl.cell (p := ⟨bc, oc + j, none⟩) hbc).trans (cell8 hcC (k := j) (by omega))
      have hXj := HX.out j hlt
      have ha := la[j].toNat_lt
      have hb := lb[j].toNat_lt
      have hc := lc[j].toNat_lt
      have ez : ((la[j] ^^^ lb[j]) ^^^ lc[j]).toNat = (la[j].toNat ^^^ lb[j].toNat) ^^^ lc[j].toNat := by rw [UInt8.toNat_xor, UInt8.toNat_xor]
      generalize (la[j] ^^^ lb[j]) ^^^ lc[j] = z at *
      generalize la[j].toNat = xa at *
      generalize lb[j].toNat = xb at *
      generalize lc[j].toNat = xc at *
      have x1 := u8_xor_nat xa xb (by omega) (by omega)
      have hx1 : xa ^^^ xb < 256 := Nat.xor_lt_two_pow (n := 8) (by omega) (by omega)
      generalize xa ^^^ xb = xab at *
      have x2 := u8_xor_nat xab xc (by omega) (by omega)
      rw [← ez] at x2
      have hc1 := hown.cellAt j (by omega)
      have hxl := hown.1
      rw [List.getElem?_eq_getElem (by omega)] at hc1
      generalize xs[j]'(by omega) = u at hc1
      have hfr := hown.frozenAt j
      have b0 : (0 : Int) ≤ (j : Int) := by omega
      have b1 : (j : Int) < (la.length : Int) := by omega
      have b2 : (j : Int) < (lb.length : Int) := by omega
      have b3 : (j : Int) < (lc.length : Int) := by omega
      have b4 : (j : Int) < (n : Int) := by omega
      have HO7 := Lib.hid (hown.stored j (.int .u8 (z.toNat : Int))).1
      have HB7 := Lib.hid (hbl.setCell (p := ⟨g, j, none⟩) hg1 (.int .u8 (z.toNat : Int)))
      have HX7 : Hid (∀ i, i < j + 1 → (xs.set j (.int .u8 (z.toNat : Int)))[i]? = (X.map B8)[i]?) := fun i hi => by
        by_cases e : i = j
        · subst e
          rw [List.getElem?_set_self (by omega), List.getElem?_map, hXj]
          rfl
        · rw [List.getElem?_set_ne (by omega)]
          exact HXS.out i (by omega)
      clear hcA hcB hcC hown hbl hxs hxl ez hXj
      go_wp2
      go_region
      go_wp2
      go_roundw
      case rel => exact ⟨j + 1, _, by omega, by go_num, HX7.out, HO7.out, below_drew2 HB7.out⟩
      case measure => simp [intOf]; omega
    · obtain rfl : j = n := by omega
      have hxe : xs = X.map B8 := by
        apply List.ext_getElem?
        intro i
        by_cases hi' : i < j
        · exact HXS.out i hi'
        · have h1 := hown.1
          have h2 := HXL.out
          rw [List.getElem?_eq_none (by omega), List.getElem?_eq_none (by rw [List.length_map]; omega)]
      subst hxe
      have HO := Lib.hid hown
      clear hown hxs HXS hbl
      go_wp2
      obtain ⟨p, hp⟩ : ∃ p : Par, p = ⟨⟨some ⟨g, 0, none⟩, j, X⟩, ⟨A, ca, la⟩, ⟨A1, cb, lb⟩, ⟨A2, cc, lc⟩, ⟨A, ca, la.take j⟩, ⟨A1, cb, lb.take j⟩, ⟨A2, cc, lc.take j⟩, .int .i64 (j : Int), wr.heap.size⟩ := ⟨_, rfl⟩
      have hvX : SV p.pX = .slice (some ⟨g, 0, none⟩) j j := by rw [hp]; unfold SV; rw [HXL.out]
      have hvA : SV p.pA = .slice A la.length ca := by rw [hp]; rfl
      have hvB : SV p.pB = .slice A1 lb.length cb := by rw [hp]; rfl
      have hvC : SV p.pC = .slice A2 lc.length cc := by rw [hp]; rfl
      have hN : p.N = .int .i64 (j : Int) := by rw [hp]
      have hF : Fit p wr := by
        have hbs := HB.out.size
        have gX : Rd wr wr.heap.size (some ⟨g, 0, none⟩) (X.map B8) := by have := Rd.of_own HO.out; exact this
        have mk : ∀ {A' : Option Addr} {l' : List UInt8} {c' : Nat}, Rd w w.heap.size A' (l'.map B8) → l'.length ≤ c' → c' ≤ maxLen → Summ.Good wr wr.heap.size ⟨A', c', l'⟩ := fun h h1 h2 => ⟨(h.below HB.out).more hbs, h1, h2⟩
        have tk : ∀ {A' : Option Addr} {l' : List UInt8} {c' : Nat}, Rd w w.heap.size A' (l'.map B8) → l'.length ≤ c' → c' ≤ maxLen → Summ.Good wr wr.heap.size ⟨A', c', l'.take j⟩ := fun h h1 h2 => mk (by rw [List.map_take]; exact h.take j) (by rw [List.length_take]; omega) h2
        have ta : (la.take j).length = j := by rw [List.length_take]; omega
        have tb : (lb.take j).length = j := by rw [List.length_take]; omega
        have tc : (lc.take j).length = j := by rw [List.length_take]; omega
        subst hp
        refine ⟨(HL.out.below HB.out).more hbs, rfl, ⟨gX, ?_, ?_⟩, mk HRA.out hca HMA.out, mk HRB.out hcb HMB.out, mk HRC.out hcc HMC.out, tk HRA.out hca HMA.out, tk HRB.out hcb HMB.out, tk HRC.out hcc HMC.out, ⟨j, rfl, ?_, ?_, ?_, ?_, ?_, ?_⟩, ?_, ?_⟩
        · show X.length ≤ j
          rw [HXL.out]
          exact Nat.le_refl _
        · show j ≤ maxLen
          unfold maxLen
          omega
        · show Value.slice A (la.take j).length ca = _
          rw [ta]
        · show Value.slice A1 (lb.take j).length cb = _
          rw [tb]
        · show Value.slice A2 (lc.take j).length cc = _
          rw [tc]
        · show j ≤ ca
          omega
        · show j ≤ cb
          omega
        · show j ≤ cc
          omega
        · show sum X = _
          rw [← HXE.out]
          exact HSL.out
        · show la.length + lb.length + lc.length ≤ _
          omega
      refine wp_region_any (by kernel_rfl) ?_
      refine any_inv (I := Inv p wr) (dag_of (by kernel_rfl)) (lin_step hF (by kernel_rfl) ?hops) ?done _ _ _ _ (by kernel_rfl) (by decide +kernel) ?init
      case init =>
        refine ⟨⟨rfl, rfl, ?_, ?_, ?_, ?_, ?_⟩, ⟨rfl, rfl, rfl, Nat.le_refl _, fun _ _ => rfl⟩, (none_done _ rfl).1, (none_done _ rfl).2 _⟩
        · rw [hvA]; rfl
        · rw [hvB]; rfl
        · rw [hvC]; rfl
        · rw [hN]; rfl
        · rw [hvX]; rfl
      case hops =>
        intro i o ho
        have hlt' : i < 39 := (Array.getElem?_eq_some_iff.1 ho).1
        match i, hlt' with
        | 0, _ => obtain rfl := Option.some.inj (show some _ = some o from ho); exact opat_of rfl rfl rfl (by kernel_rfl)
        | 1, _ => obtain rfl := Option.some.inj (show some _ = some o from ho); exact opat_of rfl rfl rfl (by kernel_rfl)
        | 2, _ => obtain rfl := Option.some.inj (show some _ = some o from ho); exact opat_of rfl rfl rfl (by kernel_rfl)
        | 3, _ => obtain rfl := Option.some.inj (show some _ = some o from ho); exact opat_of rfl rfl rfl (by kernel_rfl)
        | 4, _ => obtain rfl := Option.some.inj (show some _ = some o from ho); exact opat_of rfl rfl rfl (by kernel_rfl)
        | 5, _ => obtain rfl := Option.some.inj (show some _ = some o from ho); exact opat_of rfl rfl rfl (by kernel_rfl)
        | 6, _ => obtain rfl := Option.some.inj (show some _ = some o from ho); exact opat_of rfl rfl rfl (by kernel_rfl)
        | 7, _ => obtain rfl := Option.some.inj (show some _ = some o from ho); exact opat_of rfl rfl rfl (by kernel_rfl)
        | 8, _ => obtain rfl := Option.some.inj (show some _ = some o from ho); exact opat_of rfl rfl rfl (by kernel_rfl)
        | 9, _ => obtain rfl := Option.some.inj (show some _ = some o from ho); exact opat_of rfl rfl rfl (by kernel_rfl)
        | 10, _ => obtain rfl := Option.some.inj (show some _ = some o from ho); exact opat_of rfl rfl rfl (by kernel_rfl)
        | 11, _ => obtain rfl := Option.some.inj (show some _ = some o from ho); exact opat_of rfl rfl rfl (by kernel_rfl)
        | 12, _ => obtain rfl := Option.some.inj (show some _ = some o from ho); exact opat_of rfl rfl rfl (by kernel_rfl)
        | 13, _ => obtain rfl := Option.some.inj (show some _ = some o from ho); exact opat_of rfl rfl rfl (by kernel_rfl)
        | 14, _ => obtain rfl := Option.some.inj (show some _ = some o from ho); exact opat_of rfl rfl rfl (by kernel_rfl)
        | 15, _ => obtain rfl := Option.some.inj (show some _ = some o from ho); exact opat_of rfl rfl rfl (by kernel_rfl)
        | 16, _ => obtain rfl := Option.some.inj (show some _ = some o from ho); exact opat_of rfl rfl rfl (by kernel_rfl)
        | 17, _ => obtain rfl := Option.some.inj (show some _ = some o from ho); exact opat_of rfl rfl rfl (by kernel_rfl)
        | 18, _ => obtain rfl := Option.some.inj (show some _ = some o from ho); exact opat_of rfl rfl rfl (by kernel_rfl)
        | 19, _ => obtain rfl := Option.some.inj (show some _ = some o from ho); exact opat_of rfl rfl rfl (by kernel_rfl)
        | 20, _ => obtain rfl := Option.some.inj (show some _ = some o from ho); exact opat_of rfl rfl rfl (by kernel_rfl)
        | 21, _ => obtain rfl := Option.some.inj (show some _ = some o from ho); exact opat_of rfl rfl rfl (by kernel_rfl)
        | 22, _ => obtain rfl := Option.some.inj (show some _ = some o from ho); exact opat_of rfl rfl rfl (by kernel_rfl)
        | 23, _ => obtain rfl := Option.some.inj (show some _ = some o from ho); exact opat_of rfl rfl rfl (by kernel_rfl)
        | 24, _ => obtain rfl := Option.some.inj (show some _ = some o from ho); exact opat_of rfl rfl rfl (by kernel_rfl)
        | 25, _ => obtain rfl := Option.some.inj (show some _ = some o from ho); exact opat_of rfl rfl rfl (by kernel_rfl)
        | 26, _ => obtain rfl := Option.some.inj (show some _ = some o from ho); exact opat_of rfl rfl rfl (by kernel_rfl)
        | 27, _ => obtain rfl := Option.some.inj (show some _ = some o from ho); exact opat_of rfl rfl rfl (by kernel_rfl)
        | 28, _ => obtain rfl := Option.some.inj (show some _ = some o from ho); exact opat_of rfl rfl rfl (by kernel_rfl)
        | 29, _ => obtain rfl := Option.some.inj (show some _ = some o from ho); exact opat_of rfl rfl rfl (by kernel_rfl)
        | 30, _ => obtain rfl := Option.some.inj (show some _ = some o from ho); exact opat_of rfl rfl rfl (by kernel_rfl)
        | 31, _ => obtain rfl := Option.some.inj (show some _ = some o from ho); exact opat_of rfl rfl rfl (by kernel_rfl)
        | 32, _ => obtain rfl := Option.some.inj (show some _ = some o from ho); exact opat_of rfl rfl rfl (by kernel_rfl)
        | 33, _ => obtain rfl := Option.some.inj (show some _ = some o from ho); exact opat_of rfl rfl rfl (by kernel_rfl)
        | 34, _ => obtain rfl := Option.some.inj (show some _ = some o from ho); exact opat_of rfl rfl rfl (by kernel_rfl)
        | 35, _ => obtain rfl := Option.some.inj (show some _ = some o from ho); exact opat_of rfl rfl rfl (by kernel_rfl)
        | 36, _ => obtain rfl := Option.some.inj (show some _ = some o from ho); exact opat_of rfl rfl rfl (by kernel_rfl)
        | 37, _ => obtain rfl := Option.some.inj (show some _ = some o from ho); exact opat_of rfl rfl rfl (by kernel_rfl)
        | 38, _ => obtain rfl := Option.some.inj (show some _ = some o from ho); exact opat_of rfl rfl rfl (by kernel_rfl)
        | n + 39, h => exact absurd h (by omega)
      case done =>
        intro L a w9 hall hI
        obtain ⟨v, h1, h2⟩ := hI.2.2.2 38 (by decide) (hall 38 (by decide))
        obtain rfl : v = .bool true := h2
        have hdf := hI.1.2.1
        have hb9 := hI.2.1
        obtain ⟨tm, df⟩ := a
        obtain rfl : df = [] := hdf
        have h6 : tm.getD 6 undef = .bool true := by
          have : tm[6]? = some (.bool true) := h1
          simp [Array.getD_eq_getD_getElem?, this]
        go_wp2
        go_ret
        exact ⟨congrArg Ending.returned h6, HB.out.trans (hb9.mono HB.out.size)⟩
theorem own : ownKnob Tryd.prog.godebug = none := by kernel_rfl
theorem laid : laidOutB Tryd.prog = true := by kernel_rfl
theorem allRead : (Tryd.f7.params.toList.all fun t => Tryd.prog.readableRec t && decide (t < Tryd.prog.types.size)) = true := by kernel_rfl
theorem contract (H : Type) (enc : TypeId × Value → H) (W : World) (base : Nat) (args : Array Value) (ds gs : List (DataW H)) (before : List MemPlace)
    (hval : ∀ (j : Nat) t v, Tryd.f7.params[j]? = some t → args[j]? = some v → Value.okWide Tryd.prog W .any base t v)
    (hW : DataW.Whole enc Tryd.prog Tryd.f7.params.toList Rows.frameLinearSpec.vars false W args.toList ds gs before) (hk : Rows.uptoSmall H (ds ++ gs) = true) (hL : laidMetH Tryd.prog Rows.frameLinearUptoRow.laid W) :
    Calls Tryd.prog 7 args W fun e W' => ∃ v, e = .returned v ∧ Rows.frameLinearSpec.post enc Tryd.prog Tryd.f7 false true false false W args v W' := by
  have hW' := hW
  obtain ⟨p, q, hA0, hV, rfl, hfz, hnd⟩ := hW
  obtain ⟨rfl, rfl⟩ := trodVars_none hV
  have hlt : ∀ x ∈ p, x.block < W.heap.size := fun x hx => hW'.lt x (by simp [hx])
  have hA : DataW.TrodAll enc Tryd.prog W 0 (fun _ => true) true Tryd.f7.params.toList args.toList ds p := hA0
  rw [Tryd.params7] at hA hval
  obtain ⟨v0, vs0, d0, ds0, p0, q0, hargs, rfl, rfl, h0, r0⟩ := trodAll_cons hA
  obtain ⟨v1, vs1, d1, ds1, p1, q1, rfl, rfl, rfl, h1, r1⟩ := trodAll_cons r0
  obtain ⟨v2, vs2, d2, ds2, p2, q2, rfl, rfl, rfl, h2, r2⟩ := trodAll_cons r1
  obtain ⟨rfl, rfl, rfl⟩ := trodAll_nil r2
  obtain rfl : args = #[v0, v1, v2] := by cases args; simp_all
  have hkb : Rows.uptoBulkAll ([d0, d1, d2] ++ []) ≤ 1048576 := of_decide_eq_true hk
  obtain ⟨A0, l0, c0, rfl, hl0, hm0, hr0, hd0⟩ := open_u8s Tryd.underlying24 Tryd.underlying5 (by kernel_rfl) (hval 0 24 v0 rfl rfl) h0 (fun x hx => hlt x (by simp [hx]))
  have hb0 : l0.length ≤ 1048576 := by have h := bulk_len hd0; rw [List.length_map] at h; simp only [List.append_nil, Rows.uptoBulkAll] at hkb; omega
  obtain ⟨A1, l1, c1, rfl, hl1, hm1, hr1, hd1⟩ := open_u8s Tryd.underlying24 Tryd.underlying5 (by kernel_rfl) (hval 1 24 v1 rfl rfl) h1 (fun x hx => hlt x (by simp [hx]))
  have hb1 : l1.length ≤ 1048576 := by have h := bulk_len hd1; rw [List.length_map] at h; simp only [List.append_nil, Rows.uptoBulkAll] at hkb; omega
  obtain ⟨A2, l2, c2, rfl, hl2, hm2, hr2, hd2⟩ := open_u8s Tryd.underlying24 Tryd.underlying5 (by kernel_rfl) (hval 2 24 v2 rfl rfl) h2 (fun x hx => hlt x (by simp [hx]))
  have hb2 : l2.length ≤ 1048576 := by have h := bulk_len hd2; rw [List.length_map] at h; simp only [List.append_nil, Rows.uptoBulkAll] at hkb; omega
  refine (walk W (of_laid hL) l0 A0 c0 hl0 hm0 hr0 hb0 l1 A1 c1 hl1 hm1 hr1 hb1 l2 A2 c2 hl2 hm2 hr2 hb2).mono fun e W' ⟨he, hb⟩ => ?_
  subst he
  exact ⟨_, rfl, law_post laid (fun t ht => by have h := List.all_eq_true.1 allRead t ht; rw [Bool.and_eq_true, decide_eq_true_eq] at h; exact h) rfl (by kernel_rfl) Tryd.underlying4 rfl hW' hb⟩
noncomputable def laidWorld (os : Os) : World := World.doorLaid Tryd.prog 14 os
theorem laid_met (os : Os) : laidMet Tryd.prog Rows.frameLinearUptoRow.laid ((laidWorld os).forCall (fun _ _ => 0) ⟨#[], #[.slice none 0 0, .slice none 0 0, .slice none 0 0], []⟩).memory :=
  laidMet_of_run' 8 (by kernel_rfl) (by kernel_rfl)
theorem reads (os : Os) {H : Type} (enc : TypeId × Value → H) : ∃ places, DataW.whole enc Tryd.prog ((laidWorld os).forCall (fun _ _ => 0) ⟨#[], #[.slice none 0 0, .slice none 0 0, .slice none 0 0], []⟩).memory Tryd.f7.params.toList Rows.frameLinearSpec.vars false (#[.slice none 0 0, .slice none 0 0, .slice none 0 0] : Array Value).toList 8 = some ([.nil, .nil, .nil], [], places) :=
  ⟨[], by kernel_rfl⟩
set_option maxRecDepth 100000 in
theorem lifted (os : Os) (started : os.Started) (H : Type) (enc : TypeId × Value → H) (F : Stop.Interp) :
    ReturnsInHanded {} Tryd.checked os 7 .any ((Rows.OpenSpec.upto Rows.frameLinearSpec).preRow enc Tryd.prog Tryd.f7 Rows.frameLinearUptoRow.domain false Rows.frameLinearUptoRow.laid) (((Rows.OpenSpec.upto Rows.frameLinearSpec).at F).post enc Tryd.prog Tryd.f7 false true false false) := by
  obtain ⟨places, hx⟩ := reads os enc
  refine returnsInHanded_of_row (C := Tryd.checked) (s := Rows.OpenSpec.upto Rows.frameLinearSpec) own started (by kernel_rfl) Tryd.func7
    (witness_row_at (enc := enc) (C := Tryd.checked) false (laidWorld os) #[.slice none 0 0, .slice none 0 0, .slice none 0 0] rfl (by kernel_rfl) (by kernel_rfl) (by kernel_rfl)
      (OpenSpec.preRow_of_cond 8 hx (by kernel_rfl) (fun k hk => by cases hk; kernel_rfl) (by kernel_rfl) (laid_met os))) ?_
  intro W base args ds gs before hval hW _ hcond _ hL _ _
  exact contract H enc W base args ds gs before hval hW (hcond _ rfl) hL
theorem over : Rows.frameLinearUptoRow.holds Tryd.pinned (Rows.OpenSpec.upto Rows.frameLinearSpec) :=
  OpenClaim.holds_of_cond 7 Tryd.f7 rfl rfl rfl rfl rfl rfl rfl ⟨rfl, rfl, rfl, rfl, rfl⟩ rfl rfl rfl rfl rfl (by kernel_rfl) Tryd.func7 (by kernel_rfl)
    (of_decide_eq_true (by kernel_rfl)) (by unfold Func.isWrapper; first | (rw [if_pos (by decide +kernel)]; kernel_rfl) | (rw [if_neg (by decide +kernel)]; exact ⟨rfl, rfl⟩))
    (fun os started H enc _ F => by rw [OpenClaim.pre_eq_preRow]; exact lifted os started H enc F)
theorem plainly (f : FuncId) (fn : Func) (hf : Tryd.pinned.checked.prog.funcNamed "garner/garnerlaw02.FrameLinear" = some f) (hfn : Tryd.pinned.checked.prog.funcs[f]? = some fn) :
    false = Tryd.pinned.checked.prog.looks [] ∧ ∀ (j : Nat) t, fn.params[j]? = some t → Tryd.pinned.checked.prog.wantsStandIn t = false := by
  obtain rfl : f = 7 := Option.some.inj ((show Tryd.prog.funcNamed "garner/garnerlaw02.FrameLinear" = some 7 by kernel_rfl).symm.trans hf) |>.symm
  obtain rfl : fn = Tryd.f7 := (Option.some.inj (Tryd.func7.symm.trans hfn)).symm
  refine ⟨by kernel_rfl, fun j t ht => ?_⟩
  rw [Tryd.params7] at ht
  have hm : t ∈ [24, 24, 24] := by simpa using Array.mem_of_getElem? ht
  have hall : ([24, 24, 24].all fun u => !Tryd.prog.wantsStandIn u) = true := by kernel_rfl
  exact (show Tryd.prog.wantsStandIn t = false by simpa using List.all_eq_true.1 hall t hm)
theorem proved : Rows.FrameLinearUptoCardSaid :=
  Claim7.holds_tied_plain_at .later [] _ _ _ _ over (fun _ h => by cases h) (by kernel_rfl) (fun _ h => by cases h) frameLinearUpto_row_tie rfl ⟨rfl, rfl⟩ (by kernel_rfl) rfl plainly (by kernel_rfl)

end Go.Proofs.YtajphomdbdgmbaaDoor.frameLinear
