/- VarintKeeps: for all lists of uint64 whose bulk is at most 1048576, and every place, the statement's function answers true and leaves its arguments as they were. Condition: that bound. -/
import Derived.Test.YtinbohfglccagaaAwake
import Derived.Test.YtinbohfglccagaaAppend
import Derived.Test.YtinbohfglccagaaRefPut
import Derived.Test.YtinbohfglccagaaOpen
import Derived.Test.YtinbohfglccagaaBulk
import Derived.JoinedCond
import Derived.Deep.RegionWith
import Derived.Deep.QuietTactic
import Derived.BigQuiet
namespace Go.Proofs.Ytinbohfglccagaa.varintKeeps
open Go.ChangeShapes Go.WideShapes Go.ChangeAt Go.RowKit Words Plain Put RefPut Get Awake App Ope Bulk

theorem info_u64 : (Try.prog.info? 29).map (fun i => (i.zero, i.size, i.bytes)) = some (some (.int .u64 0), 1, 8) := by kernel_rfl
theorem one64s (l : List UInt64) : ∀ u ∈ l.map B64, u.oneCell' = true := by
  intro u hu
  obtain ⟨c, _, rfl⟩ := List.mem_map.1 hu
  rfl
theorem run_str {s : List UInt8} {B : Nat} (w : World) (A : Option Addr) (n c : Nat) (hn : n = s.length) (hr : Rd w B A (s.map B8)) : (convert 24 9 (.slice A n c)).run Try.prog w = .ok (.string ⟨s.toArray⟩) w := by
  subst hn
  exact run_bytes w 24 9 5 Try.underlying24 Try.underlying5 Try.underlying9 A s c B hr

/-- What is first read of the numbers that were written. -/
theorem first (l : List UInt64) : (l = [] → getE (encs l) 0 = 5) ∧ (∀ h : 0 < l.length, getE (encs l) 0 = 0 ∧ getN (encs l) 0 = ((l[0].toNat : Nat) : Int)) := by
  constructor
  · rintro rfl
    decide +kernel
  · intro h
    match l, h with
    | a :: r, _ =>
      have hd := dec_uvarint 9 0 0 a.toNat (encs r) rfl (by omega) (by have := a.toNat_lt; omega) (by omega)
      have f := fin (l := encs (a :: r)) (p := 0) (n := a.toNat) (c := (Lib.uvarint a.toNat).length) (e := 0) (by omega) (by
        show dec 0 0 (Lib.uvarint a.toNat ++ encs r) = _
        simpa using hd)
      exact ⟨f.2.2, f.1⟩

def Same (m : Nat) (w4 : World) (v : Value) (wr : World) : Prop := ∃ i nq : Nat, i ≤ m ∧ v = .int .i64 (i : Int) ∧ wr = w4.drewN nq

theorem own_apart {w : World} {B : Nat} {e : TypeId} {va vb : Value} {n : Nat} {xs : List Value} {B3 : Nat} (h : w.ownsRow B e 1 vb n xs) (ha : ∀ k, va.ownBlock = some k → B3 ≤ k ∧ k < B) : vb.ownBlock = none ∨ vb.ownBlock ≠ va.ownBlock := by
  cases hb : vb.ownBlock with
  | none => exact .inl rfl
  | some g =>
    right
    intro he
    have h1 := (h.lt g hb).1
    have h2 := (ha g he.symm).2
    omega
def Stores (w6 : World) (B3 B4 : Nat) (va vb : Value) (E : List UInt8) (v : Value) (wr : World) : Prop := ∃ (j : Nat) (xs : List Value), j ≤ E.length ∧ v = .int .i64 (j : Int) ∧
  wr.ownsRow B3 5 1 va E.length xs ∧ wr.ownsRow B4 5 1 vb E.length (E.map B8) ∧ Below B3 w6 wr

set_option maxHeartbeats 4000000 in
set_option maxRecDepth 100000 in
theorem walk (w : World) (l : List UInt64) (A : Option Addr) (c : Nat) (hc : l.length ≤ c) (hm : c ≤ maxLen) (hr : Rd w w.heap.size A (l.map B64)) (hlen : l.length ≤ 1048576) (at_ : Int) (w1 : (Lit.int .i64 at_).wf = true) :
    Calls Try.prog 8 #[.slice A l.length c, .int .i64 at_] w fun e w' => e = .returned (.bool true) ∧ Below w.heap.size w w' := by
  obtain ⟨i0, hi, hz0, hz1, hz2⟩ := info_parts info_u8
  obtain ⟨i1, gi, gz0, gz1, gz2⟩ := info_parts info_u64
  have HR := Lib.hid hr
  clear hr hm w1 hc
  have hE := encs_length l
  go_enter Try.func8, Try.ntmps8
  go_wp2_with fail
  refine (awake_any _).mono ?_
  rintro e w1 ⟨rfl, hb⟩
  have HB := Lib.hid hb
  clear hb
  have hown0 := World.ownsRow_lit (base := w.heap.size) (e := 29) (size := 1) w1 #[] 0 HB.out.size (by unfold maxLen; omega) rfl
  have HB1 := Lib.hid (HB.out.alloc HB.out.size (.cells #[] 29))
  go_wp2_with (at_builtin; refine wpList_append_rd (v := .slice (some ⟨w1.heap.size, 0, none⟩) 0 0) _ rfl (.tmp 17) (.tmp 18) 22 rfl w.heap.size 29 i1 (.int .u64 0) 8 Try.underlying22 gi gz0 gz1 gz2 rfl 0 [] rfl hown0 w.heap.size A l.length c (l.map B64) rfl (by simp) (HR.out.below HB1.out) (one64s l) ?c1 ?c2 HB1.out.size ?_)
  case c1 => unfold maxLen; omega
  case c2 => omega
  intro v2 w2 hown2 hg2 _
  have HB2 := Lib.hid (below_app hown0 HB1.out hg2)
  have HO2 := Lib.hid hown2
  clear hown0 hown2 hg2
  go_wp2_with (at_builtin; refine wpList_append_rd (v := v2) _ rfl (.tmp 19) (.tmp 20) 22 rfl w.heap.size 29 i1 (.int .u64 0) 8 Try.underlying22 gi gz0 gz1 gz2 rfl _ _ rfl (HO2.out.alloc _) (w2.heap.size + 1) (some ⟨w2.heap.size, 0, none⟩) 1 1 [.int .u64 77] rfl rfl (Rd.made w2 #[.int .u64 77] 29) ?d1 ?d2 ?d3 ?d4 ?_)
  case d1 => intro u hu; simp at hu; subst hu; rfl
  case d2 => unfold maxLen; omega
  case d3 => omega
  case d4 => have := HB2.out.size; simp; omega
  intro v3 w3 hown3 hg3 _
  have HB3 := Lib.hid (below_app (HO2.out.alloc _) (HB2.out.alloc HB2.out.size _) hg3)
  clear hg3
  obtain ⟨A3, c3, rfl, h31, h32, h33⟩ := own_slice hown3
  have RF : Hid (Rd w3 w3.heap.size A3 (l.map B64 ++ [.int .u64 77])) := by have := Rd.of_own hown3; show Rd _ _ _ _; simpa using this
  have RF' : Hid (Rd w3 w3.heap.size A3 (l.map B64)) := by have := RF.out.take l.length; rwa [List.take_left' (by simp)] at this
  have H31 := h31
  have H32 := Lib.hid h32
  unfold maxLen at h32
  clear hown3 HO2 h33
  go_wp2_with fail
  refine (put_any l A3 c3 w3 RF'.out (by omega)).mono ?_
  rintro e w4 ⟨va, rfl, howna, hba⟩
  have HBA := Lib.hid hba
  have HOA := Lib.hid howna
  clear hba howna
  go_wp2_with fail
  refine (put_any l A3 c3 w4 ((RF'.out.below HBA.out).more HBA.out.size) (by omega)).mono ?_
  rintro e w5 ⟨vb, rfl, hownb, hbb⟩
  have HBB := Lib.hid hbb
  have HOA5 := Lib.hid (own_keep HOA.out hbb)
  obtain ⟨Ab, cb, rfl, hb1, hb2, _⟩ := own_slice hownb
  have hcv := run_str w5 Ab _ cb rfl (Rd.of_own hownb)
  have HOB := Lib.hid hownb
  have HBL := Lib.hid hb1
  have HBM := Lib.hid hb2
  obtain ⟨Aa, ca, rfl, ha1, ha2, _⟩ := own_slice HOA5.out
  have HAL := Lib.hid ha1
  have HAM := Lib.hid ha2
  have HGA := Lib.hid HOA.out.lt
  clear hbb hownb hb1 hb2 ha1 ha2 HOA
  have HF := Lib.hid (first l)
  generalize encs l = E at *
  go_wp2_with fail
  refine (get_len E Aa _ ca at_ w5 _ rfl (Rd.of_own HOA5.out) HAL.out HAM.out).mono ?_
  rintro e w6 ⟨rfl, rfl⟩
  generalize getN E at_ = gn
  generalize getTo E at_ = gt
  generalize getE E at_ = ge
  have RF5 := Lib.hid ((RF.out.below HBA.out).below (HBB.out.mono HBA.out.size))
  have HB5 := Lib.hid ((HB3.out.trans (HBA.out.mono HB3.out.size)).trans (HBB.out.mono (Nat.le_trans HB3.out.size HBA.out.size)))
  have RN5 := Lib.hid (HR.out.below HB5.out)
  clear HB HB1 HB2 RF RF' HR
  go_wp2
  go_loopw [9] (fun v wr => Same l.length w5 v wr) (fun v _ => l.length - (intOf v).toNat)
  case atStart => exact ⟨0, 0, by omega, rfl, rfl⟩
  case round =>
    obtain ⟨i, nq, hi', rfl, rfl⟩ := hrel
    by_cases hlt : i < l.length
    · obtain ⟨b, off, rfl, _, hcn⟩ := RN5.out (by simp; omega)
      obtain ⟨b2, off2, rfl, _, hcf⟩ := RF5.out (by simp)
      have hx := l[i].toNat_lt
      have k1 : w5.cell? ⟨b, off + i, none⟩ = some (.int .u64 ((l[i].toNat : Nat) : Int)) := cell64 hcn hlt
      have k2 : w5.cell? ⟨b2, off2 + i, none⟩ = some (.int .u64 ((l[i].toNat : Nat) : Int)) := hcf i _ (by rw [List.getElem?_append_left (by simpa using hlt)]; simp [List.getElem?_map, hlt, B64])
      clear hcn hcf
      generalize l[i].toNat = x at *
      have e1 : (x != x) = false := by simp
      have e2 : (0 : Int) ≤ (i : Int) := by omega
      have e3 : (i : Int) < ((l.length + 1 : Nat) : Int) := by omega
      have e4 : (i : Int) < (l.length : Int) := by omega
      have e5 : (i : Int) < (l.length : Int) + 1 := by omega
      go_wp2
      go_quiet (fail)
      go_wp2
      go_roundw
      case rel => exact ⟨i + 1, _, by omega, by go_num, rfl⟩
      case measure => simp [intOf]; omega
    · obtain rfl : i = l.length := by omega
      go_wp2
      have HD : Hid (Below w.heap.size w (w5.drewN nq)) := ⟨HB5.out.os, HB5.out.tape, HB5.out.output, HB5.out.size, HB5.out.block⟩
      have HOA6 : Hid ((w5.drewN nq).ownsRow w3.heap.size 5 1 (.slice Aa E.length ca) E.length (E.map B8)) := HOA5
      have HOB6 : Hid ((w5.drewN nq).ownsRow w4.heap.size 5 1 (.slice Ab E.length cb) E.length (E.map B8)) := HOB
      have RF6 : Hid (Rd (w5.drewN nq) w3.heap.size A3 (l.map B64 ++ [.int .u64 77])) := RF5
      have RN6 : Hid (Rd (w5.drewN nq) w.heap.size A (l.map B64)) := RN5
      have S34 : w3.heap.size ≤ w4.heap.size := HBA.out.size
      have S03 : w.heap.size ≤ w3.heap.size := HB3.out.size
      have S46 : w4.heap.size ≤ (w5.drewN nq).heap.size := HBB.out.size
      clear HOA5 HOB RF5 RN5 HB5 HBA HBB HB3
      generalize w5.drewN nq = w6 at *
      go_loopw [10] (fun v wr => Stores w6 w3.heap.size w4.heap.size (.slice Aa E.length ca) (.slice Ab E.length cb) E v wr) (fun v _ => E.length - (intOf v).toNat)
      case atStart => exact ⟨0, E.map B8, by omega, rfl, HOA6.out, HOB6.out, Below.refl _ _⟩
      case round =>
        obtain ⟨j, xs, hj, rfl, hoa, hob, hbl⟩ := hrel
        by_cases hlt2 : j < E.length
        · obtain ⟨g, c', hv, hg1, hg2, hcell⟩ := own_addr hoa (by omega)
          injection hv with hv1 hv2 hv3
          subst hv1 hv3
          have hxl := hoa.1
          have hc1 := hoa.cellAt j (by omega)
          rw [List.getElem?_eq_getElem (by omega)] at hc1
          generalize xs[j]'(by omega) = u at hc1
          have hfr := hoa.frozenAt j
          have hgl := (HGA.out g rfl).2
          have HOA7 := Lib.hid (hoa.stored j (.int .u8 238))
          have HOB7 := Lib.hid (ownsRow_setCell_below hob (a := ⟨g, j, none⟩) hgl (.int .u8 238))
          have HBL7 := Lib.hid (hbl.setCell (p := ⟨g, j, none⟩) hg1 (.int .u8 238))
          clear hoa hob hbl hcell hxl
          go_wp2
          go_roundw
          case rel => exact ⟨j + 1, _, by omega, by go_num, HOA7.out.1, HOB7.out, HBL7.out⟩
          case measure => simp [intOf]; omega
        · obtain rfl : j = E.length := by omega
          have HOA8 := Lib.hid hoa
          have HOB8 := Lib.hid hob
          have HBL8 := Lib.hid hbl
          have hs3 : w3.heap.size ≤ wr.heap.size := by have := hbl.size; omega
          clear hoa hob hbl
          go_wp2_with (at_builtin; refine wpList_append_rd (v := .slice Aa E.length ca) _ rfl (.tmp 61) (.tmp 62) 24 rfl w3.heap.size 5 i0 (.int .u8 0) 1 Try.underlying24 hi hz0 hz1 hz2 rfl _ _ rfl (HOA8.out.alloc _) (wr.heap.size + 1) (some ⟨wr.heap.size, 0, none⟩) 3 3 [.int .u8 1, .int .u8 2, .int .u8 3] rfl rfl (Rd.made wr #[.int .u8 1, .int .u8 2, .int .u8 3] 5) ?f1 ?f2 ?f3 ?f4 ?_)
          case f1 => intro u hu; simp at hu; rcases hu with rfl | rfl | rfl <;> rfl
          case f2 => unfold maxLen; omega
          case f3 => omega
          case f4 => simp; omega
          intro v9 w9 hown9 hg9 _
          obtain ⟨A9, c9, rfl, _, _, _⟩ := own_slice hown9
          have HOB9 := Lib.hid ((HOB8.out.alloc _).kept hg9 (own_apart HOB8.out HGA.out))
          have HBL9 := Lib.hid ((HBL8.out.alloc hs3 _).grown hg9 (by simp; omega) (fun k hk => (HGA.out k hk).1))
          have hcv9 := run_str w9 Ab _ cb rfl (Rd.of_own HOB9.out)
          have RF9 := Lib.hid (RF6.out.below HBL9.out)
          have RN9 := Lib.hid (RN6.out.below (HBL9.out.mono S03))
          have HD9 := Lib.hid (HD.out.trans (HBL9.out.mono S03))
          clear hown9 hg9 HOA6 HOB6 RF6 RN6 HOA8 HOB8 HBL8 HBL9
          go_wp2_with fail
          refine (get_len E Ab _ cb 0 w9 _ rfl (Rd.of_own HOB9.out) HBL.out HBM.out).mono ?_
          rintro e w10 ⟨rfl, rfl⟩
          obtain ⟨b3, off3, rfl, _, hcf⟩ := RF9.out (by simp)
          have k3 : w9.cell? ⟨b3, off3 + l.length, none⟩ = some (.int .u64 77) := hcf _ _ (by rw [List.getElem?_append_right (by simp)]; simp)
          clear hcf
          have e3 : ((E.length : Int) + 3 == (E.length : Int) + 3) = true := by simp
          by_cases hl0 : l.length = 0
          · have hl : l = [] := List.eq_nil_of_length_eq_zero hl0
            rw [HF.out.1 hl]
            subst hl
            have k3' : w9.cell? ⟨b3, off3, none⟩ = some (.int .u64 77) := k3
            clear k3
            generalize getN E 0 = gn2
            generalize getTo E 0 = gt2
            go_wp2
            go_ret
            exact ⟨rfl, HD9.out⟩
          · obtain ⟨f1, f2⟩ := HF.out.2 (by omega)
            rw [f1, f2]
            obtain ⟨bn, offn, rfl, _, hcn⟩ := RN9.out (by simp; omega)
            have k4 : w9.cell? ⟨bn, offn, none⟩ = some (.int .u64 ((l[0].toNat : Nat) : Int)) := cell64 hcn (k := 0) (by omega)
            have hx := l[0].toNat_lt
            clear hcn f1 f2
            generalize l[0].toNat = x at *
            have e4 : ((l.length : Int) == 0) = false := beq_eq_false_iff_ne.2 (by omega)
            have e5 : decide (0 < (l.length : Int)) = true := decide_eq_true (by omega)
            generalize getTo E 0 = gt2
            have e6 : (0 : Int) < (l.length : Int) := by omega
            go_wp2
            go_ret
            exact ⟨rfl, HD9.out⟩
theorem own : ownKnob Try.prog.godebug = none := by kernel_rfl
theorem laid : laidOutB Try.prog = true := by kernel_rfl
theorem allRead : (Try.f8.params.toList.all fun t => Try.prog.readableRec t && decide (t < Try.prog.types.size)) = true := by kernel_rfl
theorem contract (H : Type) (enc : TypeId × Value → H) (W : World) (base : Nat) (args : Array Value) (ds gs : List (DataW H)) (before : List MemPlace)
    (hval : ∀ (j : Nat) t v, Try.f8.params[j]? = some t → args[j]? = some v → Value.okWide Try.prog W .any base t v)
    (hW : DataW.Whole enc Try.prog Try.f8.params.toList Rows.varintKeepsSpec.vars false W args.toList ds gs before) (hk : Rows.uptoSmall H (ds ++ gs) = true) :
    Calls Try.prog 8 args W fun e W' => ∃ v, e = .returned v ∧ Rows.varintKeepsSpec.post enc Try.prog Try.f8 false true false false W args v W' := by
  have hW' := hW
  obtain ⟨p, q, hA0, hV, rfl, hfz, hnd⟩ := hW
  obtain ⟨rfl, rfl⟩ := trodVars_none hV
  have hlt : ∀ x ∈ p, x.block < W.heap.size := fun x hx => hW'.lt x (by simp [hx])
  have hA : DataW.TrodAll enc Try.prog W 0 (fun _ => true) true Try.f8.params.toList args.toList ds p := hA0
  rw [Try.params8] at hA hval
  obtain ⟨v0, vs0, d0, ds0, p0, q0, hargs, rfl, rfl, h0, r0⟩ := trodAll_cons hA
  obtain ⟨v1, vs1, d1, ds1, p1, q1, rfl, rfl, rfl, h1, r1⟩ := trodAll_cons r0
  obtain ⟨rfl, rfl, rfl⟩ := trodAll_nil r1
  obtain rfl : args = #[v0, v1] := by cases args; simp_all
  have hkb : Rows.uptoBulkAll ([d0, d1] ++ []) ≤ 1048576 := of_decide_eq_true hk
  obtain ⟨A0, l0, c0, rfl, hl0, hm0, hr0, hd0⟩ := open_u64s Try.underlying22 Try.underlying29 (by kernel_rfl) (hval 0 22 v0 rfl rfl) h0 (fun x hx => hlt x (by simp [hx]))
  have hb0 : l0.length ≤ 1048576 := by have h := bulk_len hd0; rw [List.length_map] at h; simp only [List.append_nil, Rows.uptoBulkAll] at hkb; omega
  obtain ⟨a1, rfl, rfl, rfl, w1⟩ := open_int Try.underlying3 (hval 1 3 v1 rfl rfl) h1
  refine (walk W l0 A0 c0 hl0 hm0 hr0 hb0 a1 w1).mono fun e W' ⟨he, hb⟩ => ?_
  subst he
  exact ⟨_, rfl, law_post laid (fun t ht => by have h := List.all_eq_true.1 allRead t ht; rw [Bool.and_eq_true, decide_eq_true_eq] at h; exact h) rfl (by kernel_rfl) Try.underlying4 rfl hW' hb⟩
set_option maxRecDepth 100000 in
theorem lifted (os : Os) (started : os.Started) (H : Type) (enc : TypeId × Value → H) (F : Stop.Interp) :
    ReturnsInHanded {} Try.checked os 8 .any ((Rows.OpenSpec.upto Rows.varintKeepsSpec).pre6 enc Try.prog Try.f8 Rows.varintKeepsUptoRow.domain false) (((Rows.OpenSpec.upto Rows.varintKeepsSpec).at F).post enc Try.prog Try.f8 false true false false) := by
  refine returnsInHanded_of_cond (C := Try.checked) (s := Rows.OpenSpec.upto Rows.varintKeepsSpec) (k := Rows.uptoSmall) rfl own started (by kernel_rfl) Try.func8
    (OpenSpec.witness (enc := enc) (C := Try.checked) (s := Rows.OpenSpec.upto Rows.varintKeepsSpec) (k := Rows.uptoSmall) rfl false ⟨#[], #[.slice none 0 0, .int .i64 0], []⟩ 8 (by kernel_rfl) (by kernel_rfl) (by kernel_rfl)
      (x := ([.nil, .lit (.int .i64 0)], [], [])) (by kernel_rfl) rfl (by kernel_rfl)) ?_
  intro W base args ds gs before hval hW _ hk _
  exact contract H enc W base args ds gs before hval hW hk
theorem over : Rows.varintKeepsUptoRow.holds Try.pinned (Rows.OpenSpec.upto Rows.varintKeepsSpec) :=
  OpenClaim.holds_of_cond 8 Try.f8 rfl rfl rfl rfl rfl rfl rfl ⟨rfl, rfl, rfl, rfl, rfl⟩ rfl rfl rfl rfl rfl (by kernel_rfl) Try.func8 (by kernel_rfl)
    (of_decide_eq_true (by kernel_rfl)) (by unfold Func.isWrapper; first | (rw [if_pos (by decide +kernel)]; kernel_rfl) | (rw [if_neg (by decide +kernel)]; exact ⟨rfl, rfl⟩))
    (fun os started H enc _ F => lifted os started H enc F)
theorem proved : Rows.VarintKeepsUptoSaid := over

end Go.Proofs.Ytinbohfglccagaa.varintKeeps
