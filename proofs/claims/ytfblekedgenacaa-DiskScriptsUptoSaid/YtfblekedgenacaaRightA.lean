/- The contract of the statements' own 'right' at its kind 1. Conditions: those that 'Fine' and 'Args' name. -/
import Derived.Test.YtfblekedgenacaaRightL
import Derived.StillTailTactics
import Derived.Deep.QuietTactic
import Derived.BigQuiet
namespace Go.Proofs.Ytfblekedgenacaa.RightA
open Go Go.RowKit Words App DkSpec PdLook RefDisk PdDisk PdRes Pairs Mv Right RightK RightL

theorem info_u8 : (Try.prog.info? 5).map (fun i => (i.zero, i.size, i.bytes)) = some (some (.int .u8 0), 1, 1) := by kernel_rfl
/-- The bytes that were handed in, one more behind them; k of them are written over. -/
def over (k : Nat) (l : List UInt8) : List UInt8 := List.replicate k 238 ++ (l ++ [1]).drop k
theorem over_len (k : Nat) (l : List UInt8) (h : k ≤ l.length + 1) : (over k l).length = l.length + 1 := by
  unfold over
  simp
  omega
theorem over_at (k : Nat) (l : List UInt8) (h : k < l.length + 1) : (over k l)[k]? = (l ++ [1])[k]? := by
  unfold over
  rw [List.getElem?_append_right (by simp)]
  simp [List.getElem?_drop]
theorem over_set (k : Nat) (l : List UInt8) (h : k < l.length + 1) : (over k l).set k 238 = over (k + 1) l := by
  have hl : k < (l ++ [1]).length := by simp; omega
  unfold over
  rw [List.set_append_right _ _ (by simp)]
  rw [List.length_replicate, Nat.sub_self, List.drop_eq_getElem_cons hl, List.set_cons_zero, List.replicate_succ', List.append_assoc]
  rfl
def RelA (base : Nat) (w1 : World) (q0 : Nat) (v : Value) (l : List UInt8) (n : Nat) (ok i : Value) (wr : World) : Prop := ∃ k : Nat, k ≤ n ∧ ok = .bool true ∧ i = .int .i64 (k : Int) ∧ Hid (wr.ownsRow base 5 1 v n ((over k l).map B8)) ∧ Hid (Only q0 w1 wr)

theorem below_app2 {B n : Nat} {w0 w w' : World} {e : TypeId} {v : Value} {xs : List Value} (h : w.ownsRow B e 1 v n xs) (hb : Below B w0 w) (hB : B ≤ w.heap.size) (hg : w.grownBy w' v.ownBlock) : Below B w0 w' ∧ B ≤ w'.heap.size :=
  ⟨hb.grown hg hB fun k hk => (h.lt k hk).1, Nat.le_trans hB hg.size⟩

/-- What stands when the bytes have been copied. -/
structure Prep (w W w4 : World) (K K4 : Nat → Nat) (oh ow : Nat) (vh vw : Value) (q : POp) (s : Option DSt) (Ad : Option Addr) (cd q0 c4 : Nat) : Prop where
  c3 : w4.drew.cell? ⟨w.heap.size, 3, none⟩ = some (.string ⟨q.a.toArray⟩)
  c5 : w4.drew.cell? ⟨w.heap.size, 5, none⟩ = some (.slice Ad q.data.length cd)
  call1 : Calls Try.prog 16 #[vh, .string ⟨q.a.toArray⟩, .slice (some ⟨q0, 0, none⟩) q.data.length c4] w4.drew (EPostH w4.drew K4 oh vh (errS (append q.a q.data) s))
  call2 : ∀ w5 K5, Turned K4 K5 oh w4.drew w5 → w5.cell? ⟨w.heap.size, 3, none⟩ = some (.string ⟨q.a.toArray⟩) ∧ w5.cell? ⟨w.heap.size, 5, none⟩ = some (.slice Ad q.data.length cd) ∧ Calls Try.prog 26 #[vw, .string ⟨q.a.toArray⟩, .slice Ad q.data.length cd] w5 (EPostW w5 K5 ow vw (errS (append q.a q.data) s))
  fin : ∀ w5 K5 w6 K6, HalfH w5 K5 oh vh (errS (append q.a q.data) s).2 → Turned K4 K5 oh w4.drew w5 → HalfW w6 K6 ow vw (errS (append q.a q.data) s).2 → Turned K5 K6 ow w5 w6 →
    w6.cell? ⟨w.heap.size, 3, none⟩ = some (.string ⟨q.a.toArray⟩) ∧ w6.cell? ⟨w.heap.size, 5, none⟩ = some (.slice Ad q.data.length cd) ∧ w6.ownsRow (w.heap.size + 1) 5 1 (.slice (some ⟨q0, 0, none⟩) (q.data.length + 1) c4) (q.data.length + 1) ((over 0 q.data).map B8) ∧
    ∀ wr, Only q0 w6 wr → wr.drew.cell? ⟨w.heap.size, 5, none⟩ = some (.slice Ad q.data.length cd) ∧ (0 < q.data.length → ∃ bd od, Ad = some ⟨bd, od, none⟩ ∧ ∀ k y, q.data[k]? = some y → wr.drew.cell? ⟨bd, od + k, none⟩ = some (.int .u8 (UInt8.toNat y : Int))) ∧
      ∃ K', HalfH wr K' oh vh (s.map (stepD q)) ∧ HalfW wr K' ow vw (s.map (stepD q)) ∧ Mv K K' (Two oh ow) w wr
theorem prep1 {w W w4 : World} {K : Nat → Nat} {oh ow : Nat} {vh vw : Value} {q : POp} {s : Option DSt} {n T : Nat} {Ad Ak : Option Addr} {cd ck q0 c4 : Nat} (hs : OpBox w W K oh ow vh vw q s Ad cd Ak ck) (hW : W.heap.size = w.heap.size + 1) (hq : q.kind = 1) (hf : Fine n T s) (hn : n ≤ 1000000000) (hT : T ≤ 1000000000)
    (oh7 : oh ≠ 7) (ow0 : ow ≠ 0) (hw7 : ow ≠ 7) (hhw : oh ≠ ow) (oh0 : oh ≠ 0) (hb : Below (w.heap.size + 1) W w4) (hq0 : w.heap.size + 1 ≤ q0) (hown : w4.ownsRow (w.heap.size + 1) 5 1 (.slice (some ⟨q0, 0, none⟩) (q.data.length + 1) c4) (q.data.length + 1) ((over 0 q.data).map B8)) :
    Prep w W w4 K (PdSt.mark (PdSt.mark K w.heap.size 7) W.heap.size 7) oh ow vh vw q s Ad cd q0 c4 := by
  have hbW : Below W.heap.size W w4.drew := by rw [hW]; exact hb.drew
  have hm : ∀ S : Nat → Prop, Mv (PdSt.mark K w.heap.size 7) (PdSt.mark (PdSt.mark K w.heap.size 7) W.heap.size 7) S W w4.drew := fun S => Mv.new hbW 7
  have hbox : w4.drew.heap[w.heap.size]? = some (.cells (opC q Ad cd Ak ck) 33 (0, 0)) := (hbW.block w.heap.size (lt_of hs.box)).trans hs.box
  have hbk : PdSt.mark (PdSt.mark K w.heap.size 7) W.heap.size 7 w.heap.size = 7 := by rw [PdSt.mark_old (by omega)]; exact hs.bk
  have hh := HalfH.mv hs.h (hm fun _ => False) (fun h => h)
  have hw := HalfW.mv hs.w_ (hm fun _ => False) (fun h => h) (fun h => h)
  have ha := Args.mv hs.args (hm fun _ => False) (fun h => h)
  have hkq : PdSt.mark (PdSt.mark K w.heap.size 7) W.heap.size 7 q0 = 7 := PdSt.mark_new (by omega)
  have hrd : Rd w4.drew w4.drew.heap.size (some ⟨q0, 0, none⟩) (q.data.map B8) := by
    obtain ⟨A, c, hv, _, _, hr, _⟩ := RefTake.own_rd hown
    injection hv with hA _ _
    subst hA
    have h1 : Rd w4 w4.heap.size (some ⟨q0, 0, none⟩) (((over 0 q.data).map B8).take q.data.length) := hr.take _
    have e : ((over 0 q.data).map B8).take q.data.length = q.data.map B8 := by
      rw [← List.map_take]
      congr 1
      simp [over]
    rw [e] at h1
    exact h1
  have hql := (World.ownsRow.lt hown q0 rfl).2
  refine ⟨(op_cells hbox).2.2.1, (op_cells hbox).2.2.2.2.1, h_append hh hf hn q.a q.data _ _ ha.a (by have := ha.t; omega) hrd (fun b off e _ => by
      injection e with e
      injection e with e
      rw [← e, hkq]
      exact oh7.symm), fun w5 K5 ht5 => ?_, fun w5 K5 w6 K6 h5 ht5 h6 ht6 => ?_⟩
  · obtain ⟨hb5, _⟩ := box_turned hbox hbk oh7 ht5
    have hm5 := Mv.of (S := fun x => x = oh) ht5 rfl
    have ha5 := Args.mv ha hm5 (fun e => oh0 e.symm)
    exact ⟨(op_cells hb5).2.2.1, (op_cells hb5).2.2.2.2.1, w_append ow0 (HalfW.mv hw hm5 (fun e => oh0 e.symm) (fun e => hhw e.symm)) hf hn q.a q.data _ _ ha.a (by have := ha.t; omega) ha5.d (fun b off e h => by rw [ha5.dk b off e h]; exact ow0.symm)⟩
  · obtain ⟨hb5, hk5⟩ := box_turned hbox hbk oh7 ht5
    obtain ⟨hb6, hk6⟩ := box_turned hb5 hk5 hw7 ht6
    have hm5 := Mv.of (S := fun x => x = oh) ht5 rfl
    have hm6 := Mv.of (S := fun x => x = ow) ht6 rfl
    have ha6 := Args.mv (Args.mv ha hm5 (fun e => oh0 e.symm)) hm6 (fun e => ow0 e.symm)
    have hown4d : w4.drew.ownsRow (w.heap.size + 1) 5 1 (.slice (some ⟨q0, 0, none⟩) (q.data.length + 1) c4) (q.data.length + 1) ((over 0 q.data).map B8) := hown
    obtain ⟨o5, ok5⟩ := own_mv (m := 7) hown4d (fun x e => by injection e with e; rw [← e]; exact hkq) hm5 (fun e => oh7 e.symm)
    obtain ⟨o6, ok6⟩ := own_mv (m := 7) o5 ok5 hm6 (fun e => hw7 e.symm)
    have hk60 : K6 q0 = 7 := ok6 q0 rfl
    refine ⟨(op_cells hb6).2.2.1, (op_cells hb6).2.2.2.2.1, o6, fun wr ho => ⟨?_, fun hp => ?_, ?_⟩⟩
    · have hne : w.heap.size ≠ q0 := by omega
      exact (cell_of (ho.drew.block _ hne)).trans (op_cells hb6).2.2.2.2.1
    · obtain ⟨bd, od, e, _, hc⟩ := ha6.d (by simpa using hp)
      have hkd := ha6.dk bd od e hp
      have hne : bd ≠ q0 := fun e2 => by rw [e2, hk60] at hkd; cases hkd
      exact ⟨bd, od, e, fun k y hy => (cell_of (ho.drew.block _ hne)).trans (hc k (B8 y) (by simp [hy]))⟩
    · have he : (errS (append q.a q.data) s).2 = s.map (stepD q) := by cases s <;> simp [errS, stepD, hq]
      rw [he] at h5 h6
      have hmo := ho.mv hk60
      exact ⟨K6, HalfH.mv (HalfH.mv h5 hm6 hhw) hmo oh7, HalfW.mv h6 hmo (by decide) hw7, mv_only (hs.mv.trans ((hm _).trans ((Mv.of ht5 (.inl rfl)).trans (Mv.of ht6 (.inr rfl))))) ho (by omega)⟩
section
variable {w : World} {K : Nat → Nat} {oh ow : Nat} {vh vw : Value} {q : POp} {s : Option DSt} {n T : Nat} {Ad Ak : Option Addr} {cd ck : Nat}
set_option maxHeartbeats 3200000 in
set_option maxRecDepth 100000 in
theorem right1 (hq : q.kind = 1) (hh : HalfH w K oh vh s) (hw : HalfW w K ow vw s) (hf : Fine n T s) (hn : n ≤ 1000000000) (hT : T ≤ 1000000000) (ha : Args w K q Ad cd Ak ck) (oh7 : oh ≠ 7) (ow0 : ow ≠ 0) (hw7 : ow ≠ 7) (hhw : oh ≠ ow) (oh0 : oh ≠ 0) :
    Calls Try.prog 12 #[vh, vw, .agg (opC q Ad cd Ak ck)] w (RPost w K oh ow vh vw q s) := by
  obtain ⟨i0, hi, hz0, hz1, hz2⟩ := info_parts info_u8
  have HS := Lib.hid (opbox0 (oh := oh) (ow := ow) hh hw ha)
  obtain ⟨W, hW⟩ : ∃ W, W = w.alloc (.cells (opC q Ad cd Ak ck) 33) := ⟨_, rfl⟩
  rw [← hW] at HS
  have hld := ha.t
  have hdc := ha.dc
  have hdm := ha.dm
  unfold maxLen at hdm
  obtain ⟨c0, _, _, _, c5, _⟩ := op_cells HS.out.box
  rw [hq] at c0
  have hsW : W.heap.size = w.heap.size + 1 := by rw [hW]; simp
  have hown0 : (W.alloc (.cells #[] 5)).ownsRow (w.heap.size + 1) 5 1 (.slice (some ⟨w.heap.size + 1, 0, none⟩) 0 0) 0 [] := by
    rw [← hsW]
    exact World.ownsRow_lit (base := W.heap.size) (e := 5) (size := 1) W #[] 0 (Nat.le_refl _) (by unfold maxLen; omega) rfl
  have HB0 : Hid (Below (w.heap.size + 1) W (W.alloc (.cells #[] 5))) := Lib.hid (by
    rw [← hsW]
    exact (Below.refl W.heap.size W).alloc (Nat.le_refl _) _)
  have hs0 : w.heap.size + 1 ≤ (W.alloc (.cells #[] 5)).heap.size := by simp; omega
  have HRD0 : Hid (Rd (W.alloc (.cells #[] 5)) (w.heap.size + 1) Ad (q.data.map B8)) := Lib.hid (by
    rw [← hsW]
    exact HS.out.args.d.alloc (Nat.le_refl _) _)
  have HSW := Lib.hid hsW
  have k5 : (W.alloc (.cells #[] 5)).cell? ⟨w.heap.size, 5, none⟩ = some (.slice Ad q.data.length cd) := (HB0.out.cell (p := ⟨w.heap.size, 5, none⟩) (Nat.lt_succ_self _)).trans c5
  have HO0 := Lib.hid hown0
  have HQ := Lib.hid hq
  have HF := Lib.hid hf
  have HA := Lib.hid ha
  obtain ⟨W', hW'⟩ : ∃ W', W' = W := ⟨W, rfl⟩
  have HWE := Lib.hid hW'
  subst hW
  unfold opC at *
  clear hh hw hf hq ha hown0 hW' hsW
  go_enter Try.func12, Try.ntmps12
  go_wp2_with (at_builtin; refine App.wpList_append_rd (v := .slice (some ⟨w.heap.size + 1, 0, none⟩) 0 0) _ rfl (.tmp 24) (.tmp 26) 30 rfl (w.heap.size + 1) 5 i0 (.int .u8 0) 1 Try.underlying30 hi hz0 hz1 hz2 rfl 0 [] rfl HO0.out _ Ad q.data.length cd (q.data.map B8) rfl (by simp) HRD0.out (one8 q.data) ?c1 ?c2 hs0 ?_)
  case c1 => unfold maxLen; omega
  case c2 => omega
  intro v2 w2 hown2 hg2 hv2
  try simp only [Nat.zero_add, List.nil_append] at hown2
  obtain ⟨hb2, hs2⟩ := below_app2 HO0.out HB0.out hs0 hg2
  have HB3 := Lib.hid (hb2.alloc hs2 (.cells #[.int .u8 1] 5))
  have hs3 : w.heap.size + 1 ≤ (w2.alloc (.cells #[.int .u8 1] 5)).heap.size := by simp; omega
  have HO3 := Lib.hid (hown2.alloc (.cells #[.int .u8 1] 5))
  have HR3 := Lib.hid (PdSt.lit_rd w2 #[.int .u8 1] 5 (0, 0))
  clear hown2 hg2 hv2 hb2 k5 hs2
  go_wp2_with (at_builtin; refine App.wpList_append_rd _ rfl (.tmp 27) (.tmp 28) 30 rfl _ 5 i0 (.int .u8 0) 1 Try.underlying30 hi hz0 hz1 hz2 rfl _ _ _ rfl HO3.out _ (some ⟨w2.heap.size, 0, none⟩) 1 1 [.int .u8 1] rfl rfl HR3.out (fun u hu => by simp at hu; subst hu; rfl) ?c1 ?c2 hs3 ?_)
  case c1 => unfold maxLen; omega
  case c2 => omega
  intro v4 w4 hown4 hg4 _
  obtain ⟨hb4, hs4⟩ := below_app2 HO3.out HB3.out hs3 hg4
  have HO4 : w4.ownsRow (w.heap.size + 1) 5 1 v4 (q.data.length + 1) ((over 0 q.data).map B8) := by simpa [over, B8] using hown4
  obtain ⟨q0, c4, rfl, hq0, _⟩ := HO4.form (by omega)
  have hP := prep1 HS.out HSW.out HQ.out HF.out hn hT oh7 ow0 hw7 hhw oh0 hb4 hq0 HO4
  obtain ⟨A4', c4', hv4, hc4, hm4, _⟩ := RefTake.own_rd HO4
  injection hv4 with hA4 _ hv4
  subst hA4 hv4
  have p3 := hP.c3
  have p5 := hP.c5
  have HC1 := Lib.hid hP.call1
  have HC2 := Lib.hid hP.call2
  have HFIN := Lib.hid hP.fin
  unfold EPostH at HC1
  unfold EPostW at HC2
  obtain ⟨r, hrr⟩ : ∃ r, (errS (append q.a q.data) s).1 = r := ⟨_, rfl⟩
  rw [hrr] at HC1 HC2
  have hre : ((r : Int) == (r : Int)) = true := by simp
  unfold maxLen at hm4
  have i1 : (0 : Int) ≤ (q.data.length : Int) := by omega
  have i2 : (q.data.length : Int) ≤ (c4 : Int) := by omega
  clear hP hown4 hg4 hb4 hs4 HO4 HO3 HB3 HR3 HO0 HB0 HRD0 hrr hq0 hs3 hs0
  go_wp2
  go_region_held3 (fun w' => w'.cell? ⟨w.heap.size, 3, none⟩ = some (.string ⟨q.a.toArray⟩) ∧ w'.cell? ⟨w.heap.size, 5, none⟩ = some (.slice Ad q.data.length cd)) (first | go_keep | assumption) (first
    | (go_at_call 16; refine HC1.out.mono ?_; rintro e w5 ⟨rfl, K5, hh5, ht5⟩; obtain ⟨x3, x5, hc2⟩ := HC2.out w5 K5 ht5)
    | (go_at_call 26; refine hc2.mono ?_; rintro e w6 ⟨rfl, K6, hw6, ht6⟩; obtain ⟨y3, y5, hown6, hfin⟩ := HFIN.out w5 K5 w6 K6 hh5 ht5 hw6 ht6))
  all_goals
    have HOW := Lib.hid hown6
    have HFI := Lib.hid hfin
    clear hown6 hfin hh5 ht5 hw6 ht6 hc2 HC1 HC2 HFIN x3 x5 y3 y5 p3 p5
    go_wp2
    go_loopw [8, 9] (fun ok i wr => RelA (w.heap.size + 1) w6 q0 (.slice (some ⟨q0, 0, none⟩) (q.data.length + 1) c4) q.data (q.data.length + 1) ok i wr) (fun _ i _ => q.data.length + 1 - (intOf i).toNat)
    case atStart => exact ⟨0, Nat.zero_le _, rfl, rfl, HOW, Lib.hid (Only.refl _ _)⟩
    case round =>
      obtain ⟨k, hk, rfl, rfl, hox, hon⟩ := hrel
      obtain ⟨f5, fd, fe⟩ := HFI.out wr hon.out
      by_cases hlt : k < q.data.length + 1
      · obtain ⟨y, hy, ky, kz⟩ := cell8_at hox.out hlt
        have f5' : wr.cell? ⟨w.heap.size, 5, none⟩ = some (.slice Ad q.data.length cd) := f5
        have ky' : wr.cell? ⟨q0, k, none⟩ = some (.int .u8 (y.toNat : Int)) := ky
        have kz' : wr.frozen? ⟨q0, k, none⟩ = false := kz
        rw [over_at k _ hlt] at hy
        have HPUT : Hid (∀ nq, ((wr.drewN nq).setCell ⟨q0, k, none⟩ (.int .u8 238)).ownsRow (w.heap.size + 1) 5 1 (.slice (some ⟨q0, 0, none⟩) (q.data.length + 1) c4) (q.data.length + 1) ((over (k + 1) q.data).map B8)) := Lib.hid (fun nq => by
          have hox' : (wr.drewN nq).ownsRow (w.heap.size + 1) 5 1 (.slice (some ⟨q0, 0, none⟩) (q.data.length + 1) c4) (q.data.length + 1) ((over k q.data).map B8) := hox.out
          have h1 := put8 hox' hlt 238
          rw [over_set k _ hlt] at h1
          exact h1)
        have HON : Hid (∀ nq, Only q0 w6 ((wr.drewN nq).setCell ⟨q0, k, none⟩ (.int .u8 238))) := Lib.hid (fun nq => Only.poke (show Only q0 w6 (wr.drewN nq) from ⟨hon.out.os, hon.out.tape, hon.out.output, hon.out.size, hon.out.block⟩) k (.int .u8 238))
        by_cases hkl : k < q.data.length
        · obtain ⟨bd, od, rfl, hc⟩ := fd (by omega)
          rw [List.getElem?_append_left hkl] at hy
          have kd : wr.cell? ⟨bd, od + k, none⟩ = some (.int .u8 (y.toNat : Int)) := hc k y hy
          have hyy : ((y.toNat : Int) == (y.toNat : Int)) = true := by simp
          clear hox hon fe fd hc hy ky kz f5
          generalize y.toNat = yn at *
          go_wp2
          go_quiet (fail)
          go_wp2
          exact ⟨⟨k + 1, by omega, rfl, by simp, Lib.hid (HPUT.out _), Lib.hid (HON.out _)⟩, by simp [intOf]; omega⟩
        · have hkm : k = q.data.length := by omega
          have hy1 : y = 1 := by
            rw [hkm, List.getElem?_append_right (Nat.le_refl _)] at hy
            simpa using hy.symm
          subst hy1
          have ky1 : wr.cell? ⟨q0, k, none⟩ = some (.int .u8 1) := ky'
          have hkk : ((k : Int) == (q.data.length : Int)) = true := by simp [hkm]
          have hkd : decide ((k : Int) < (q.data.length : Int)) = false := by simp [hkm]
          clear hox hon fe fd hy ky kz ky' hkm f5
          go_wp2
          go_quiet (fail)
          go_wp2
          exact ⟨⟨k + 1, by omega, rfl, by simp, Lib.hid (HPUT.out _), Lib.hid (HON.out _)⟩, by simp [intOf]; omega⟩
      · have hkm : k = q.data.length + 1 := by omega
        subst hkm
        have HE := Lib.hid fe
        clear hox hon fe fd
        go_wp2
        go_ret
        exact ⟨rfl, HE.out⟩
end
end Go.Proofs.Ytfblekedgenacaa.RightA
