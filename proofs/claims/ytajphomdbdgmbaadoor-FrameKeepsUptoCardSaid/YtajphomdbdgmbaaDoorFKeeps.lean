/- FrameKeeps: for all payloads whose bulk is at most 1048576 the statement's function answers true and leaves its arguments as they were. Conditions: that bound; the program's table holds what the program's text lays (tied by the card). -/
import Derived.Test.YtajphomdbdgmbaaDoorAwake2
import Derived.Test.YtajphomdbdgmbaaDoorBackF
import Derived.Test.YtajphomdbdgmbaaDoorBulk
import Derived.Test.YtajphomdbdgmbaaDoorCards
import Derived.Test.YtajphomdbdgmbaaDoorTie
import Derived.Deep.DeepHandedRow
import Derived.LaidMore
import Derived.OneCell
namespace Go.Proofs.YtajphomdbdgmbaaDoor.frameKeeps
open Go.ChangeShapes Go.WideShapes Go.ChangeAt Go.RowKit Words Plain Crc Tab Summ RefSum SumB Put RefPut App Get RefGet Framed Reading Read2 RefRead Awake2 BackF Ope Bulk

def six : List UInt8 := [1, 2, 3, 4, 5, 6]
theorem cat6 (l : List UInt8) : (l ++ six == ((⟨l.toArray⟩ : ByteArray) ++ ⟨#[1, 2, 3, 4, 5, 6]⟩).toList) = true := by
  have h : ((⟨l.toArray⟩ : ByteArray) ++ ⟨#[1, 2, 3, 4, 5, 6]⟩).toList = l ++ six := by
    rw [ByteArray.toList_eq, ByteArray.data_append]
    simp [six]
  rw [h]
  simp

/-- The loop that turns the payload that was read: its row stays the call's own, the frame's row is as it was. -/
def Rel (l : List UInt8) (wa : World) (Ba Bp : Nat) (va vp : Value) (v : Value) (wr : World) : Prop := ∃ (j : Nat) (xs : List Value), j ≤ l.length ∧ (∀ i, j ≤ i → xs[i]? = (l.map B8)[i]?) ∧ v = .int .i64 (j : Int) ∧
  wr.ownsRow Bp 5 1 vp l.length xs ∧ wr.ownsRow Ba 5 1 va (frm l).length ((frm l).map B8) ∧ Below Ba wa wr
/-- Two rows of the call's own, the second made behind the first: apart. -/
theorem own_sep {w : World} {B : Nat} {e : TypeId} {va vb : Value} {n : Nat} {xs : List Value} {B3 : Nat} (h : w.ownsRow B e 1 vb n xs) (ha : ∀ k, va.ownBlock = some k → B3 ≤ k ∧ k < B) : va.ownBlock = none ∨ va.ownBlock ≠ vb.ownBlock := by
  cases hv : va.ownBlock with
  | none => exact .inl rfl
  | some k =>
    right
    intro e
    have h1 := (h.lt k e.symm).1
    have h2 := (ha k hv).2
    omega

set_option maxHeartbeats 1600000 in
set_option maxRecDepth 100000 in
theorem walk (w : World) (hL : Laid w w.heap.size) (l : List UInt8) (A : Option Addr) (c : Nat) (hc : l.length ≤ c) (hm : c ≤ maxLen) (hr : Rd w w.heap.size A (l.map B8)) (hlen : l.length ≤ 1048576) :
    Calls Tryd.prog 6 #[.slice A l.length c] w fun e w' => e = .returned (.bool true) ∧ Below w.heap.size w w' := by
  obtain ⟨i0, hi, hz0, hz1, hz2⟩ := info_parts info_u8
  have HR := Lib.hid hr
  have HL := Lib.hid hL
  clear hr hm hc hL
  go_enter Tryd.func6, Tryd.ntmps6
  go_wp2_with fail
  refine (awake_any w HL.out).mono ?_
  rintro e w1 ⟨rfl, hb1⟩
  have hown0 := World.ownsRow_lit (base := w.heap.size) (e := 5) (size := 1) w1 #[] 0 hb1.size (by unfold maxLen; omega) rfl
  have HB1 := Lib.hid (hb1.alloc hb1.size (.cells #[] 5))
  clear hb1
  go_wp2_with (at_builtin; refine wpList_append_rd (v := .slice (some ⟨w1.heap.size, 0, none⟩) 0 0) _ rfl (.tmp 13) (.tmp 14) 24 rfl w.heap.size 5 i0 (.int .u8 0) 1 Tryd.underlying24 hi hz0 hz1 hz2 rfl 0 [] rfl hown0 w.heap.size A l.length c (l.map B8) rfl (by simp) (HR.out.below HB1.out) (one8 l) ?c1 ?c2 HB1.out.size ?_)
  case c1 => unfold maxLen; omega
  case c2 => omega
  intro v2 w2 hown2 hg2 _
  have HB2 := Lib.hid (below_app hown0 HB1.out hg2)
  have hown2' : w2.ownsRow w.heap.size 5 1 v2 l.length (l.map B8) := by simpa using hown2
  have HO2 := Lib.hid hown2'
  clear hown0 hown2 hown2' hg2
  go_wp2_with (at_builtin; refine wpList_append_rd (v := v2) _ rfl (.tmp 15) (.tmp 16) 24 rfl w.heap.size 5 i0 (.int .u8 0) 1 Tryd.underlying24 hi hz0 hz1 hz2 rfl _ _ rfl (HO2.out.alloc _) (w2.heap.size + 1) (some ⟨w2.heap.size, 0, none⟩) 6 6 (six.map B8) rfl rfl (Rd.made w2 #[.int .u8 1, .int .u8 2, .int .u8 3, .int .u8 4, .int .u8 5, .int .u8 6] 5) (one8 six) ?d1 ?d2 ?d3 ?_)
  case d1 => unfold maxLen; omega
  case d2 => omega
  case d3 => have := HB2.out.size; simp; omega
  intro v3 w3 hown3 hg3 _
  have HB3 := Lib.hid (below_app (HO2.out.alloc _) (HB2.out.alloc HB2.out.size _) hg3)
  clear hg3
  obtain ⟨A3, c3, rfl, h31, h32, _⟩ := own_slice hown3
  have RF : Hid (Rd w3 w3.heap.size A3 ((l ++ six).map B8)) := by have := Rd.of_own hown3; rw [← List.map_append] at this; exact this
  have RF' : Hid (Rd w3 w3.heap.size A3 (l.map B8)) := by
    have := RF.out.take l.length
    rw [List.map_append, List.take_left' (by simp)] at this
    exact this
  have b1 : (0 : Int) ≤ (l.length : Int) := by omega
  have b2 : (l.length : Int) ≤ (c3 : Int) := by omega
  clear hown3 HO2
  go_wp2_with fail
  by_cases hlong : 65536 < l.length
  · refine (frame_long l A3 _ c3 w3 rfl hlong).mono ?_
    rintro e w4 ⟨rfl, rfl⟩
    have s1 := run_str w3 A3 (l.length + 6) c3 (by simp [six]) RF.out
    have s2 := run_str w3 A l.length c rfl (HR.out.below HB3.out)
    have s3 := cat6 l
    go_wp2
    go_ret
    exact ⟨rfl, HB3.out⟩
  · refine (frame_ok l A3 _ c3 w3 rfl RF'.out (by omega) h32 ((HL.out.below HB3.out).more HB3.out.size) (by omega)).mono ?_
    rintro e w4 ⟨va, rfl, howna, hb4⟩
    have s1 := run_str w4 A3 (l.length + 6) c3 (by simp [six]) (RF.out.below hb4)
    have HB4 := Lib.hid (HB3.out.trans (hb4.mono HB3.out.size))
    have S34 : w3.heap.size ≤ w4.heap.size := hb4.size
    have S03 : w.heap.size ≤ w3.heap.size := HB3.out.size
    have s2 := run_str w4 A l.length c rfl (HR.out.below HB4.out)
    have s3 := cat6 l
    obtain ⟨Aa, ca, rfl, ha1, ha2, _⟩ := own_slice howna
    have HRa := Lib.hid (Rd.of_own howna)
    have s4 := run_str w4 Aa _ ca rfl HRa.out
    have HOA := Lib.hid howna
    have HGA := Lib.hid howna.lt
    obtain ⟨r1, r2, r3⟩ := rd_frm0 l (by omega)
    have HRD := Lib.hid (read_any (frm l) Aa _ ca 0 w4 rfl HRa.out ha1 ha2 ((HL.out.below HB4.out).more HB4.out.size))
    unfold ReadPost at HRD
    rw [r1, r2, r3] at HRD
    have HFL := Lib.hid (frm_length l)
    clear r1 r2 r3 howna hb4 RF RF' ha1 ha2 HB1 HB2
    go_wp2_with fail
    refine HRD.out.mono ?_
    rintro e w5 ⟨vp, rfl, hownp, hb5⟩
    clear s1 s2 s3
    obtain ⟨Ap, cp, rfl, hp1, hp2, _⟩ := own_slice hownp
    have HOA5 := Lib.hid (own_keep HOA.out hb5)
    have HOP := Lib.hid hownp
    have HB5 := Lib.hid (HB4.out.trans (hb5.mono HB4.out.size))
    have S45 : w4.heap.size ≤ w5.heap.size := hb5.size
    clear hownp hb5 HOA HRD HB3 HRa s4
    generalize hva : Value.slice Aa (frm l).length ca = va at *
    have HVA := Lib.hid hva
    clear hva
    go_wp2
    go_loopw [9] (fun v wr => Rel l w5 w3.heap.size w4.heap.size va (.slice Ap l.length cp) v wr) (fun v _ => l.length - (intOf v).toNat)
    case atStart => exact ⟨0, l.map B8, by omega, fun _ _ => rfl, rfl, HOP.out, HOA5.out, Below.refl _ _⟩
    case round =>
      obtain ⟨j, xs, hj, hxs, rfl, hop, hoa, hbl⟩ := hrel
      clear HOP HOA5
      by_cases hlt : j < l.length
      · obtain ⟨g, c', hv, hg1, hg2, hcell⟩ := own_addr hop (by omega)
        injection hv with hv1 hv2 hv3
        subst hv1 hv3
        have hxl := hop.1
        have hxj := hxs j (Nat.le_refl _)
        have hc1 := hop.cellAt j (by omega)
        rw [hxj, List.getElem?_map, List.getElem?_eq_getElem hlt] at hc1
        simp only [Option.map_some, B8] at hc1
        have hx := l[j].toNat_lt
        have hfr := hop.frozenAt j
        generalize l[j].toNat = x at *
        have HOP7 := Lib.hid (hop.stored j (.int .u8 (((x : Int) + 1) % 256)))
        have HOA7 : Hid ((wr.setCell ⟨g, j, none⟩ (.int .u8 (((x : Int) + 1) % 256))).ownsRow w3.heap.size 5 1 va (frm l).length ((frm l).map B8)) := ownsRow_setCell_other hoa (fun e => by have := (HGA.out g e).2; omega) _
        have HBL7 := Lib.hid (hbl.setCell (p := ⟨g, j, none⟩) (by show w3.heap.size ≤ g; omega) (.int .u8 (((x : Int) + 1) % 256)))
        have HX : Hid (∀ i, j + 1 ≤ i → (xs.set j (.int .u8 (((x : Int) + 1) % 256)))[i]? = (l.map B8)[i]?) := fun i hi => by rw [List.getElem?_set_ne (by omega)]; exact hxs i (by omega)
        clear hoa hop hbl hcell hxl hxs hxj
        go_wp2
        go_roundw
        case rel => exact ⟨j + 1, _, by omega, HX.out, by go_num, HOP7.out.1, HOA7.out, HBL7.out⟩
        case measure => simp [intOf]; omega
      · obtain rfl : j = l.length := by omega
        have HOP8 := Lib.hid hop
        have HOA8 := Lib.hid hoa
        have HBL8 := Lib.hid hbl
        have S5r : w5.heap.size ≤ wr.heap.size := hbl.size
        have hoapart := own_sep hop (fun k hk => HGA.out k hk)
        clear hop hoa hbl hxs
        go_wp2_with (at_builtin; refine wpList_append_rd (v := .slice Ap l.length cp) _ rfl (.tmp 56) (.tmp 57) 24 rfl w4.heap.size 5 i0 (.int .u8 0) 1 Tryd.underlying24 hi hz0 hz1 hz2 rfl _ _ rfl (HOP8.out.alloc _) (wr.heap.size + 1) (some ⟨wr.heap.size, 0, none⟩) 5 5 [.int .u8 7, .int .u8 7, .int .u8 7, .int .u8 7, .int .u8 7] rfl rfl (Rd.made wr #[.int .u8 7, .int .u8 7, .int .u8 7, .int .u8 7, .int .u8 7] 5) ?f1 ?f2 ?f3 ?f4 ?_)
        case f1 => intro u hu; simp at hu; subst hu; rfl
        case f2 => unfold maxLen; omega
        case f3 => omega
        case f4 => simp; omega
        intro v9 w9 hown9 hg9 _
        obtain ⟨A9, c9, rfl, _, _, _⟩ := own_slice hown9
        have HOA9 := Lib.hid ((HOA8.out.alloc (.cells #[.int .u8 7, .int .u8 7, .int .u8 7, .int .u8 7, .int .u8 7] 5)).kept hg9 hoapart)
        have HBL9 := Lib.hid ((HBL8.out.alloc (by omega) (.cells #[.int .u8 7, .int .u8 7, .int .u8 7, .int .u8 7, .int .u8 7] 5)).grown hg9 (by simp; omega) (fun k hk => by have := (HOP8.out.lt k hk).1; omega))
        have HB9 := Lib.hid (HB5.out.trans (HBL9.out.mono S03))
        have hva := HVA.out
        subst hva
        have s9 := run_str w9 Aa _ ca rfl (Rd.of_own HOA9.out)
        have e3 : ((l.length : Int) + 5 == (l.length : Int) + 5) = true := by simp
        have e4 : (frm l == frm l) = true := by simp
        clear hown9 hg9 HOP8 HOA8 HBL8 hoapart HOA9 HBL9
        go_wp2
        go_ret
        exact ⟨rfl, HB9.out⟩
theorem own : ownKnob Tryd.prog.godebug = none := by kernel_rfl
theorem laid : laidOutB Tryd.prog = true := by kernel_rfl
theorem allRead : (Tryd.f6.params.toList.all fun t => Tryd.prog.readableRec t && decide (t < Tryd.prog.types.size)) = true := by kernel_rfl
theorem contract (H : Type) (enc : TypeId × Value → H) (W : World) (base : Nat) (args : Array Value) (ds gs : List (DataW H)) (before : List MemPlace)
    (hval : ∀ (j : Nat) t v, Tryd.f6.params[j]? = some t → args[j]? = some v → Value.okWide Tryd.prog W .any base t v)
    (hW : DataW.Whole enc Tryd.prog Tryd.f6.params.toList Rows.frameKeepsSpec.vars false W args.toList ds gs before) (hk : Rows.uptoSmall H (ds ++ gs) = true) (hL : laidMetH Tryd.prog Rows.frameKeepsUptoRow.laid W) :
    Calls Tryd.prog 6 args W fun e W' => ∃ v, e = .returned v ∧ Rows.frameKeepsSpec.post enc Tryd.prog Tryd.f6 false true false false W args v W' := by
  have hW' := hW
  obtain ⟨p, q, hA0, hV, rfl, hfz, hnd⟩ := hW
  obtain ⟨rfl, rfl⟩ := trodVars_none hV
  have hlt : ∀ x ∈ p, x.block < W.heap.size := fun x hx => hW'.lt x (by simp [hx])
  have hA : DataW.TrodAll enc Tryd.prog W 0 (fun _ => true) true Tryd.f6.params.toList args.toList ds p := hA0
  rw [Tryd.params6] at hA hval
  obtain ⟨v0, vs0, d0, ds0, p0, q0, hargs, rfl, rfl, h0, r0⟩ := trodAll_cons hA
  obtain ⟨rfl, rfl, rfl⟩ := trodAll_nil r0
  obtain rfl : args = #[v0] := by cases args; simp_all
  have hkb : Rows.uptoBulkAll ([d0] ++ []) ≤ 1048576 := of_decide_eq_true hk
  obtain ⟨A0, l0, c0, rfl, hl0, hm0, hr0, hd0⟩ := open_u8s Tryd.underlying24 Tryd.underlying5 (by kernel_rfl) (hval 0 24 v0 rfl rfl) h0 (fun x hx => hlt x (by simp [hx]))
  have hb0 : l0.length ≤ 1048576 := by have h := bulk_len hd0; rw [List.length_map] at h; simp only [List.append_nil, Rows.uptoBulkAll] at hkb; omega
  refine (walk W (of_laid hL) l0 A0 c0 hl0 hm0 hr0 hb0).mono fun e W' ⟨he, hb⟩ => ?_
  subst he
  exact ⟨_, rfl, law_post laid (fun t ht => by have h := List.all_eq_true.1 allRead t ht; rw [Bool.and_eq_true, decide_eq_true_eq] at h; exact h) rfl (by kernel_rfl) Tryd.underlying4 rfl hW' hb⟩
noncomputable def laidWorld (os : Os) : World := World.doorLaid Tryd.prog 14 os
theorem laid_met (os : Os) : laidMet Tryd.prog Rows.frameKeepsUptoRow.laid ((laidWorld os).forCall (fun _ _ => 0) ⟨#[], #[.slice none 0 0], []⟩).memory :=
  laidMet_of_run' 8 (by kernel_rfl) (by kernel_rfl)
theorem reads (os : Os) {H : Type} (enc : TypeId × Value → H) : ∃ places, DataW.whole enc Tryd.prog ((laidWorld os).forCall (fun _ _ => 0) ⟨#[], #[.slice none 0 0], []⟩).memory Tryd.f6.params.toList Rows.frameKeepsSpec.vars false (#[.slice none 0 0] : Array Value).toList 8 = some ([.nil], [], places) :=
  ⟨[], by kernel_rfl⟩
set_option maxRecDepth 100000 in
theorem lifted (os : Os) (started : os.Started) (H : Type) (enc : TypeId × Value → H) (F : Stop.Interp) :
    ReturnsInHanded {} Tryd.checked os 6 .any ((Rows.OpenSpec.upto Rows.frameKeepsSpec).preRow enc Tryd.prog Tryd.f6 Rows.frameKeepsUptoRow.domain false Rows.frameKeepsUptoRow.laid) (((Rows.OpenSpec.upto Rows.frameKeepsSpec).at F).post enc Tryd.prog Tryd.f6 false true false false) := by
  obtain ⟨places, hx⟩ := reads os enc
  refine returnsInHanded_of_row (C := Tryd.checked) (s := Rows.OpenSpec.upto Rows.frameKeepsSpec) own started (by kernel_rfl) Tryd.func6
    (witness_row_at (enc := enc) (C := Tryd.checked) false (laidWorld os) #[.slice none 0 0] rfl (by kernel_rfl) (by kernel_rfl) (by kernel_rfl)
      (OpenSpec.preRow_of_cond 8 hx (by kernel_rfl) (fun k hk => by cases hk; kernel_rfl) (by kernel_rfl) (laid_met os))) ?_
  intro W base args ds gs before hval hW _ hcond _ hL _ _
  exact contract H enc W base args ds gs before hval hW (hcond _ rfl) hL
theorem over : Rows.frameKeepsUptoRow.holds Tryd.pinned (Rows.OpenSpec.upto Rows.frameKeepsSpec) :=
  OpenClaim.holds_of_cond 6 Tryd.f6 rfl rfl rfl rfl rfl rfl rfl ⟨rfl, rfl, rfl, rfl, rfl⟩ rfl rfl rfl rfl rfl (by kernel_rfl) Tryd.func6 (by kernel_rfl)
    (of_decide_eq_true (by kernel_rfl)) (by unfold Func.isWrapper; first | (rw [if_pos (by decide +kernel)]; kernel_rfl) | (rw [if_neg (by decide +kernel)]; exact ⟨rfl, rfl⟩))
    (fun os started H enc _ F => by rw [OpenClaim.pre_eq_preRow]; exact lifted os started H enc F)
theorem plainly (f : FuncId) (fn : Func) (hf : Tryd.pinned.checked.prog.funcNamed "garner/garnerlaw02.FrameKeeps" = some f) (hfn : Tryd.pinned.checked.prog.funcs[f]? = some fn) :
    false = Tryd.pinned.checked.prog.looks [] ∧ ∀ (j : Nat) t, fn.params[j]? = some t → Tryd.pinned.checked.prog.wantsStandIn t = false := by
  obtain rfl : f = 6 := Option.some.inj ((show Tryd.prog.funcNamed "garner/garnerlaw02.FrameKeeps" = some 6 by kernel_rfl).symm.trans hf) |>.symm
  obtain rfl : fn = Tryd.f6 := (Option.some.inj (Tryd.func6.symm.trans hfn)).symm
  refine ⟨by kernel_rfl, fun j t ht => ?_⟩
  rw [Tryd.params6] at ht
  have hm : t ∈ [24] := by simpa using Array.mem_of_getElem? ht
  have hall : ([24].all fun u => !Tryd.prog.wantsStandIn u) = true := by kernel_rfl
  exact (show Tryd.prog.wantsStandIn t = false by simpa using List.all_eq_true.1 hall t hm)
theorem proved : Rows.FrameKeepsUptoCardSaid :=
  Claim7.holds_tied_plain_at .later [] _ _ _ _ over (fun _ h => by cases h) (by kernel_rfl) (fun _ h => by cases h) frameKeepsUpto_row_tie rfl ⟨rfl, rfl⟩ (by kernel_rfl) rfl plainly (by kernel_rfl)

end Go.Proofs.YtajphomdbdgmbaaDoor.frameKeeps
