/- LabelFinds, walked over the contracts of label's calls. -/
import Derived.Test.YtngkhcbnndkdeaaLbLaw
import Derived.Test.YtngkhcbnndkdeaaLbOpen
import Derived.Deep.DeepCutAuto
import Derived.StillTailTactics
import Derived.Deep.RegionWith
import Derived.Deep.RegionLaw
import Derived.Deep.RegionHeld3
namespace Go.Proofs.Ytngkhcbnndkdeaa.LbFindsW
open Go Go.RowKit Words AppN UtSpec Less LbSpec LbText LbMem LbRef LbCmp LbCanon LbWrite LbLaw LbOpen UtOwn

/-- An append whose run is known, in a region that draws its order. -/
theorem step_append_at {P : Program} {ops : Array Oper} {o : Oper} {a : Act} {w : World} {K : Act → World → Prop} {Q : Exit → Act → World → Prop} {E : Prop} {t ty : TypeId} {vs vx v' : Value} {w0 w' : World}
    (hrun : Hid ((Builtin.append_ #[t, t] ty #[vs, vx]).run P w0 = .ok v' w')) (s x : Operand) (hop : o.op = Op.call { callee := Callee.builtin Builtin.append, args := #[s, x], argTypes := #[t, t] }) (hg : o.guard = none) (hty : o.type = ty)
    (hs : a.eval s = vs) (hx : a.eval x = vx) (hw : w = w0) (hK : K (a.put o.dst v') w') :
    if Region.wanted o (yielded ops a.tmps) = true then Oper.wp P o a w K Q else E := by
  have hw' : Region.wanted o (yielded ops a.tmps) = true := by simp [Region.wanted, hg]
  rw [if_pos hw']
  have hr := hrun.out
  subst hty hs hx hw
  unfold Oper.wp
  simp [execOp, hop, resolve, invoke, builtin, hr, Result.andThen]
  exact hK
theorem own_empty (w : World) (e : TypeId) (s : Nat) : (w.alloc (.cells #[] e)).ownsRow w.heap.size e s (.slice (some ⟨w.heap.size, 0, none⟩) 0 0) 0 [] := by
  refine ⟨by simp, .inr ⟨w.heap.size, 0, #[], rfl, Nat.le_refl _, heap_alloc_new w _, Nat.le_refl _, by unfold maxLen; omega, by simp, by simp⟩⟩

/-! ### A label more -/
theorem asc_more {c : List Lab} {x : Lab} (hc : May c) (ha : Asc c) (h : (canon (c ++ [x])).1 = 0) : (canon (c ++ [x])).2 = put x c ∧ x.1 ∉ c.map Prod.fst ∧ May (put x c) ∧ Asc (put x c) := by
  have hm := may_iff.2 h
  rw [canon_may hm]
  have e : sort (c ++ [x]) = put x c := by rw [sort_snoc, sort_self ha]
  refine ⟨e, ?_, ?_, ?_⟩
  · intro hx
    have hd := hm.nodup
    rw [List.map_append, List.nodup_append] at hd
    exact hd.2.2 _ hx _ (by simp) rfl
  · rw [← e]; exact (may_sort hm).1
  · rw [← e]; exact (may_sort hm).2
theorem put_get {x : Lab} {c : List Lab} : (put x c)[posL x.1 c]? = some x := by
  rw [put_at, List.getElem?_append_right (by rw [List.length_take]; omega), List.length_take, Nat.min_eq_left (posL_le _ _), Nat.sub_self]
  rfl
theorem put_take {x : Lab} {c : List Lab} : (put x c).take (posL x.1 c) = c.take (posL x.1 c) := by
  rw [put_at, List.take_append_of_le_length (by rw [List.length_take, Nat.min_eq_left (posL_le _ _)]; exact Nat.le_refl _), List.take_take, Nat.min_self]
theorem put_drop {x : Lab} {c : List Lab} : (put x c).drop (posL x.1 c + 1) = c.drop (posL x.1 c) := by
  rw [put_at, List.drop_append, List.drop_eq_nil_of_le (by rw [List.length_take]; omega), List.nil_append, List.length_take, Nat.min_eq_left (posL_le _ _), Nat.add_sub_cancel_left]
  rfl

/-! ### The statement that appends a label and asks for the canonical list: its orders -/
abbrev E0 : Obj := .cells #[] 37
abbrev C0 (x : Lab) : Obj := .cells #[S8 x.1, S8 x.2] 37
/-- What both appends leave. -/
def QQ (L : List Lab) (x : Lab) (z : World) (v : Value) (w' : World) : Prop :=
  ∃ D c, v = .slice D (L.length + 1) c ∧ Lb w' D (L.length + 1) c (L ++ [x]) ∧ Below z.heap.size z w'
theorem app_run (z w : World) (base : Nat) (v : Value) (n : Nat) (xs : List Value) (hown : w.ownsRow base 37 2 v n xs) (B : Nat) (A : Option Addr) (m c : Nat) (l : List Lab) (hl : l.length = m) (hr : Rd w B A (flat l)) (hn : n + m ≤ 100) (hz : base ≤ w.heap.size) :
    ∃ v' w', (Builtin.append_ #[22, 22] 22 #[v, .slice A m c]).run Try.prog w = .ok v' w' ∧ w'.ownsRow base 37 2 v' (n + m) (xs ++ flat l) ∧ w.grownBy w' v.ownBlock := by
  obtain ⟨i1, gi, gz0, gz1, gz2⟩ := info_parts info_label
  obtain ⟨v', w', h1, h2, h3, _⟩ := run_append_rd (P := Try.prog) w base 2 22 22 37 i1 (.agg #[.string ByteArray.empty, .string ByteArray.empty]) 32 Try.underlying22 gi gz0 gz1 gz2 rfl (by omega) v n xs hown B A m c (flat l) (by rw [flat_len, hl]) hr (flat_ones _) (by unfold maxLen; omega) (by omega) hz
  exact ⟨v', w', h1, h2, h3⟩
theorem rd_lab (w : World) (x : Lab) : Rd (w.alloc (C0 x)) (w.heap.size + 1) (some ⟨w.heap.size, 0, none⟩) (flat [x]) := by
  have := Rd.made w #[S8 x.1, S8 x.2] 37
  rw [flat_one]
  exact this
theorem qq_of {L : List Lab} {x : Lab} {z w2 : World} {v : Value} {base : Nat} (h : w2.ownsRow base 37 2 v (L.length + 1) (flat L ++ flat [x])) (hb : Below z.heap.size z w2) : QQ L x z v w2 := by
  rw [← flat_append] at h
  obtain ⟨A, c, rfl, h1, h2, h3, _⟩ := own_lab h
  exact ⟨A, c, rfl, ⟨by simp, h1, h2, h3⟩, hb⟩
/-- The literal, its append, the label, its append. -/
theorem runs1 (z : World) (X : Option Addr) (cx : Nat) (L : List Lab) (x : Lab) (hL : Lb z X L.length cx L) (hf : L.length ≤ 16) :
    ∃ v w1, (Builtin.append_ #[22, 22] 22 #[.slice (some ⟨z.heap.size, 0, none⟩) 0 0, .slice X L.length cx]).run Try.prog (z.alloc E0) = .ok v w1 ∧ Below z.heap.size z w1 ∧
      ∃ v2 w2, (Builtin.append_ #[22, 22] 22 #[v, .slice (some ⟨w1.heap.size, 0, none⟩) 1 1]).run Try.prog (w1.alloc (C0 x)) = .ok v2 w2 ∧ QQ L x z v2 w2 := by
  obtain ⟨v, w1, h1, h2, h3⟩ := app_run z (z.alloc E0) z.heap.size _ 0 [] (own_empty z 37 2) z.heap.size X L.length cx L rfl (hL.2.2.2.alloc (Nat.le_refl _) _) (by omega) (by simp)
  have hb1 : Below z.heap.size z w1 := ((Below.refl _ z).alloc (Nat.le_refl _) _).grown h3 (by simp) (fun g h => by cases h; exact Nat.le_refl _)
  obtain ⟨v2, w2, g1, g2, g3⟩ := app_run z (w1.alloc (C0 x)) z.heap.size v (0 + L.length) ([] ++ flat L) (h2.alloc _) (w1.heap.size + 1) (some ⟨w1.heap.size, 0, none⟩) 1 1 [x] rfl (rd_lab w1 x) (by omega) (by have := hb1.size; simp; omega)
  refine ⟨v, w1, h1, hb1, v2, w2, g1, qq_of (base := z.heap.size) (by simpa using g2) ((hb1.alloc hb1.size _).grown g3 (by have := hb1.size; simp; omega) (fun g h => own_ltN h2 g h))⟩
/-- The literal, the label, both appends. -/
theorem runs2 (z : World) (X : Option Addr) (cx : Nat) (L : List Lab) (x : Lab) (hL : Lb z X L.length cx L) (hf : L.length ≤ 16) :
    ∃ v w1, (Builtin.append_ #[22, 22] 22 #[.slice (some ⟨z.heap.size, 0, none⟩) 0 0, .slice X L.length cx]).run Try.prog ((z.alloc E0).alloc (C0 x)) = .ok v w1 ∧ Below z.heap.size z w1 ∧
      ∃ v2 w2, (Builtin.append_ #[22, 22] 22 #[v, .slice (some ⟨z.heap.size + 1, 0, none⟩) 1 1]).run Try.prog w1 = .ok v2 w2 ∧ QQ L x z v2 w2 := by
  obtain ⟨v, w1, h1, h2, h3⟩ := app_run z ((z.alloc E0).alloc (C0 x)) z.heap.size _ 0 [] ((own_empty z 37 2).alloc _) z.heap.size X L.length cx L rfl ((hL.2.2.2.alloc (Nat.le_refl _) _).alloc (by simp) _) (by omega) (by simp; omega)
  have hb1 : Below z.heap.size z w1 := (((Below.refl _ z).alloc (Nat.le_refl _) _).alloc (by simp) _).grown h3 (by simp; omega) (fun g h => by cases h; exact Nat.le_refl _)
  have hr : Rd w1 (z.heap.size + 2) (some ⟨z.heap.size + 1, 0, none⟩) (flat [x]) := by
    have h := rd_lab (z.alloc E0) x
    rw [show (z.alloc E0).heap.size = z.heap.size + 1 by simp] at h
    exact h.grownBy h3 (by simp) (fun b off e => by injection e with e; injection e with e; subst e; simp [Value.ownBlock])
  obtain ⟨v2, w2, g1, g2, g3⟩ := app_run z w1 z.heap.size v (0 + L.length) ([] ++ flat L) h2 (z.heap.size + 2) (some ⟨z.heap.size + 1, 0, none⟩) 1 1 [x] rfl hr (by omega) hb1.size
  exact ⟨v, w1, h1, hb1, v2, w2, g1, qq_of (base := z.heap.size) (by simpa using g2) (hb1.grown g3 hb1.size (fun g h => own_ltN h2 g h))⟩
/-- The label, the literal, both appends. -/
theorem runs3 (z : World) (X : Option Addr) (cx : Nat) (L : List Lab) (x : Lab) (hL : Lb z X L.length cx L) (hf : L.length ≤ 16) :
    ∃ v w1, (Builtin.append_ #[22, 22] 22 #[.slice (some ⟨z.heap.size + 1, 0, none⟩) 0 0, .slice X L.length cx]).run Try.prog ((z.alloc (C0 x)).alloc E0) = .ok v w1 ∧ Below z.heap.size z w1 ∧
      ∃ v2 w2, (Builtin.append_ #[22, 22] 22 #[v, .slice (some ⟨z.heap.size, 0, none⟩) 1 1]).run Try.prog w1 = .ok v2 w2 ∧ QQ L x z v2 w2 := by
  have ho := own_empty (z.alloc (C0 x)) 37 2
  rw [show (z.alloc (C0 x)).heap.size = z.heap.size + 1 by simp] at ho
  obtain ⟨v, w1, h1, h2, h3⟩ := app_run z ((z.alloc (C0 x)).alloc E0) (z.heap.size + 1) _ 0 [] ho z.heap.size X L.length cx L rfl ((hL.2.2.2.alloc (Nat.le_refl _) _).alloc (by simp) _) (by omega) (by simp)
  have hb1 : Below z.heap.size z w1 := (((Below.refl _ z).alloc (Nat.le_refl _) _).alloc (by simp) _).grown h3 (by simp; omega) (fun g h => by cases h; exact Nat.le_succ _)
  have hr : Rd w1 (z.heap.size + 1) (some ⟨z.heap.size, 0, none⟩) (flat [x]) := by
    have h := (rd_lab z x).alloc (by simp) E0
    exact h.grownBy h3 (by simp) (fun b off e => by injection e with e; injection e with e; subst e; simp [Value.ownBlock])
  obtain ⟨v2, w2, g1, g2, g3⟩ := app_run z w1 (z.heap.size + 1) v (0 + L.length) ([] ++ flat L) h2 (z.heap.size + 1) (some ⟨z.heap.size, 0, none⟩) 1 1 [x] rfl hr (by omega) (by have := h3.size; simp at this; omega)
  exact ⟨v, w1, h1, hb1, v2, w2, g1, qq_of (base := z.heap.size + 1) (by simpa using g2) (hb1.grown g3 hb1.size (fun g h => by have := own_ltN h2 g h; omega))⟩

theorem cell_of_heap {w : World} {g j : Nat} {cs : Array Value} {t : TypeId} {u : Value} (h : w.heap[g]? = some (.cells cs t (0, 0))) (hj : cs[j]? = some u) : w.cell? ⟨g, j, none⟩ = some u := by
  unfold World.cell?
  rw [h]
  simpa using hj
theorem below_undrew {w w' : World} (h : Below w.drew.heap.size w.drew w') : Below w.heap.size w w' := ⟨h.os, h.tape, h.output, h.size, h.block⟩
/-- A call that changes nothing that was there keeps what holds of all worlds that do so. -/
theorem calls_keep4 {f : FuncId} {args : Array Value} {v : Value} {wz w : World} {C : World → Prop} (hs : ∀ w', Below wz.heap.size wz w' → C w') (hb : Below wz.heap.size wz w)
    (h : Calls Try.prog f args w fun e w' => e = .returned v ∧ Below w.heap.size w w') : Calls Try.prog f args w fun e w' => e = .returned v ∧ Hid (Below wz.heap.size wz w') ∧ C w' :=
  h.mono fun _ _ ⟨he, h2⟩ => ⟨he, Lib.hid (below_step hb h2), hs _ (below_step hb h2)⟩
def FRel1 (n : Nat) (w2 : World) (v : Value) (wr : World) : Prop := ∃ i : Nat, i ≤ n ∧ v = .int .i64 (i : Int) ∧ Hid (Below w2.heap.size w2 wr)
theorem find_sort {l : List Lab} (hm : May l) {i : Nat} (hi : i < l.length) : find (sort l) (l[i]).1 = some (l[i]).2 :=
  find_mem (((sort_perm l).map Prod.fst).nodup_iff.2 hm.nodup) ((sort_perm l).mem_iff.2 (List.getElem_mem hi))

set_option maxHeartbeats 12800000 in
set_option maxRecDepth 100000 in
theorem walk0 (P : Lbl) (w : World) (l : List Lab) (A : Option Addr) (c m : Nat) (hl : Lb w A m c l) (x : Lab) (hM : Ml.ML w) :
    Calls Try.prog 6 #[.slice A m c, .agg #[S8 x.1, S8 x.2]] w fun e w' => e = .returned (.bool true) ∧ Below w.heap.size w w' := by
  have A0 := fun w h => Lib.hid (awake_any P w h)
  have A1 := fun w l A c m h => Lib.hid ((P.canon w l A c m h).mono fun _ _ h => cpost_q h)
  have A2 := fun w l A c m n h hs => Lib.hid (P.find w l A c m n h hs)
  have A3 := fun w x y X Y p q e f h1 h2 => Lib.hid (P.compare w x y X Y p q e f h1 h2)
  have PC := A1
  have PF := A2
  have PA := A3
  unfold QPost at PC
  have HL := Lib.hid hl
  have hml := hl.1
  subst hml
  clear hl
  obtain ⟨x1, x2⟩ := x
  unfold QPost at A1
  have A1l := fun w h => A1 w l A c l.length h
  unfold S8
  simp only
  have HB0 := Lib.hid ((Below.refl w.heap.size w).alloc (Nat.le_refl _) (.cells #[.string ⟨x1.toArray⟩, .string ⟨x2.toArray⟩] 37))
  have HL0 := Lib.hid (show Lb (w.alloc (.cells #[.string ⟨x1.toArray⟩, .string ⟨x2.toArray⟩] 37)) A l.length c l from ⟨rfl, HL.out.2.1, HL.out.2.2.1, (HL.out.2.2.2.alloc (Nat.le_refl _) _).more (by simp)⟩)
  have HK0 := Lib.hid (heap_alloc_new w (.cells #[.string ⟨x1.toArray⟩, .string ⟨x2.toArray⟩] 37))
  have HS0 : Hid (w.heap.size < (w.alloc (.cells #[.string ⟨x1.toArray⟩, .string ⟨x2.toArray⟩] 37)).heap.size) := Lib.hid (by simp)
  clear HL
  go_enter Try.func6, Try.ntmps6
  go_wp2_with fail
  refine (A0 _ (hM.below HB0.out)).out.mono ?_
  rintro e w1 ⟨rfl, hb1⟩
  have HB1 := Lib.hid (HB0.out.trans (hb1.mono HB0.out.size))
  have HL1 := Lib.hid (lb_below HL0.out hb1)
  have HK1 := Lib.hid ((hb1.block w.heap.size HS0.out).trans HK0.out)
  have HS1 := Lib.hid (Nat.lt_of_lt_of_le HS0.out hb1.size)
  clear hb1 A0 HB0 HL0 HK0 HS0
  by_cases hmay : May l
  · have hcl := canon_may hmay
    rw [hcl] at A1l
    simp only [sort_length] at A1l
    go_wp2_with fail
    refine (A1l w1 HL1.out).out.mono ?_
    rintro e w2 ⟨X, cx, rfl, hx, hb2⟩
    have HB2 := Lib.hid (below_step HB1.out hb2)
    have HL2 := Lib.hid (lb_below HL1.out hb2)
    have HX2 := Lib.hid hx
    have HK2 := Lib.hid ((hb2.block w.heap.size HS1.out).trans HK1.out)
    have HS2 := Lib.hid (Nat.lt_of_lt_of_le HS1.out hb2.size)
    have A2s := fun w n h => A2 w (sort l) X cx l.length n h (may_val (may_sort hmay).1)
    clear hb2 hx A1l HL1 HK1 HS1 HB1 hcl
    have hlm : (l.length : Int) ≤ 9223372036854775807 := by have h1 := HL2.out.2.1; have h2 := HL2.out.2.2.1; unfold maxLen at h2; omega
    go_wp2
    go_loopw [7] (fun v wr => FRel1 l.length w2 v wr) (fun v _ => l.length - (intOf v).toNat)
    case atStart => exact ⟨0, Nat.zero_le _, rfl, Lib.hid (Below.refl _ _)⟩
    case round =>
      obtain ⟨i, hi, rfl, HBr⟩ := hrel
      by_cases hlt : i < l.length
      · obtain ⟨g, o, rfl, hg, hcell⟩ := HL2.out.2.2.2 (by rw [flat_len]; omega)
        obtain ⟨p0, p1⟩ := cellsL hcell hlt
        have k0 := (HBr.out.cell (p := ⟨g, o + i * 2, none⟩) hg).trans p0
        have A2r := A2s wr (l[i]).1 (lb_below HX2.out HBr.out)
        rw [find_sort hmay hlt] at A2r
        simp only [Option.getD_some, Option.isSome_some] at A2r
        have HP1 := Lib.hid p1
        have hg2 : g < wr.heap.size := by have := HBr.out.size; omega
        generalize l[i] = y at *
        obtain ⟨y1, y2⟩ := y
        simp only at k0 A2r HP1
        have hyy : (y2 == y2) = true := by simp
        have hyn : (y2 != y2) = false := by simp
        unfold S8 at A2r
        clear hcell p0 p1 A2s
        go_wp2_with fail
        refine A2r.out.mono ?_
        rintro e w3 ⟨rfl, hb3⟩
        have HB3 := Lib.hid (HBr.out.trans (hb3.mono HBr.out.size))
        have k1 : w3.cell? ⟨g, o + i * 2 + 1, none⟩ = some (.string ⟨y2.toArray⟩) := (HB3.out.cell (p := ⟨g, o + i * 2 + 1, none⟩) hg).trans HP1.out
        clear hb3 k0 A2r
        go_wp2
        go_roundw
        case rel => exact ⟨i + 1, by omega, by go_num, HB3⟩
        case measure => simp [intOf]; omega
      · have HX3 := Lib.hid (lb_below HX2.out HBr.out)
        have HB3 := Lib.hid (below_step HB2.out HBr.out)
        have HK3 := Lib.hid ((HBr.out.block w.heap.size HS2.out).trans HK2.out)
        have HS3 := Lib.hid (Nat.lt_of_lt_of_le HS2.out HBr.out.size)
        have hni : ¬ ((i : Int) < (l.length : Int)) := by omega
        obtain ⟨w3, hw3⟩ : ∃ w3 : World, w3 = wr := ⟨_, rfl⟩
        rw [← hw3] at HX3 HB3 HK3 HS3 ⊢
        have k0 : w3.cell? ⟨w.heap.size, 0, none⟩ = some (.string ⟨x1.toArray⟩) := cell_of_heap HK3.out rfl
        have A2h := A2s w3 x1 HX3.out
        unfold S8 at A2h
        obtain ⟨fh, hfh⟩ : ∃ z, find (sort l) x1 = z := ⟨_, rfl⟩
        rw [hfh] at A2h
        have HFH := Lib.hid hfh
        clear hfh hlt hi HBr HX2 HL2 HB2 HK2 HS2 hw3 A2s A1
        go_wp2_with fail
        refine A2h.out.mono ?_
        rintro e w4 ⟨rfl, hb4⟩
        have HB4 := Lib.hid (below_step HB3.out hb4)
        have HX4 := Lib.hid (lb_below HX3.out hb4)
        have HK4 := Lib.hid ((hb4.block w.heap.size HS3.out).trans HK3.out)
        have HS4 := Lib.hid (Nat.lt_of_lt_of_le HS3.out hb4.size)
        clear hb4 HX3 HB3 HK3 HS3 k0 A2h
        have hfew := hmay.few
        obtain ⟨L, hLL⟩ : ∃ L, sort l = L := ⟨_, rfl⟩
        obtain ⟨n, hn⟩ : ∃ n, l.length = n := ⟨_, rfl⟩
        have HMA := Lib.hid (may_sort hmay).1
        have HAS := Lib.hid (may_sort hmay).2
        rw [hLL] at HMA HAS HX4 HFH
        rw [hn] at HX4 hfew hlm hni ⊢
        have hLn : L.length = n := by rw [← hLL, sort_length, hn]
        have HLn := Lib.hid hLn
        obtain ⟨r1, r2, hrr⟩ : ∃ r1 r2, canon (L ++ [(x1, x2)]) = (r1, r2) := ⟨_, _, rfl⟩
        have HRR := Lib.hid hrr
        have A1m := fun w A c m h => PC w (L ++ [(x1, x2)]) A c m h
        rw [hrr] at A1m
        clear hLL hrr hmay hn
        go_upto_region 13 with fail
        go_cut [12, 13] (fun s12 s13 wx => ∃ D cd, s12 = .slice D r2.length cd ∧ s13 = .int .i64 (r1 : Int) ∧ Hid (Lb wx D r2.length cd r2) ∧ Hid (Below w4.heap.size w4 wx))
        case first =>
          have k0 : w4.cell? ⟨w.heap.size, 0, none⟩ = some (.string ⟨x1.toArray⟩) := cell_of_heap HK4.out rfl
          have k1 : w4.cell? ⟨w.heap.size, 1, none⟩ = some (.string ⟨x2.toArray⟩) := cell_of_heap HK4.out rfl
          have hX4 : Lb w4.drew X L.length cx L := by rw [hLn]; exact HX4.out
          obtain ⟨va, wa, ra1, ba, vb, wb, ra2, D1, cd1, rfl, hD1, bd1⟩ := runs1 w4.drew X cx L (x1, x2) hX4 (by omega)
          obtain ⟨vc, wc, rc1, bc, vd, wd, rc2, D2, cd2, rfl, hD2, bd2⟩ := runs2 w4.drew X cx L (x1, x2) hX4 (by omega)
          obtain ⟨ve, we, re1, be, vf, wf, re2, D3, cd3, rfl, hD3, bd3⟩ := runs3 w4.drew X cx L (x1, x2) hX4 (by omega)
          have e0 : (w4.alloc (.cells #[] 37)).cell? ⟨w.heap.size, 0, none⟩ = some (.string ⟨x1.toArray⟩) := (World.cell?_alloc_lt w4 _ _ HS4.out).trans k0
          have e1 : (w4.alloc (.cells #[] 37)).cell? ⟨w.heap.size, 1, none⟩ = some (.string ⟨x2.toArray⟩) := (World.cell?_alloc_lt w4 _ _ HS4.out).trans k1
          have f0 : wa.cell? ⟨w.heap.size, 0, none⟩ = some (.string ⟨x1.toArray⟩) := (ba.cell (p := ⟨w.heap.size, 0, none⟩) HS4.out).trans k0
          have f1 : wa.cell? ⟨w.heap.size, 1, none⟩ = some (.string ⟨x2.toArray⟩) := (ba.cell (p := ⟨w.heap.size, 1, none⟩) HS4.out).trans k1
          have C1 := A1m wb _ _ _ hD1
          have C2 := A1m wd _ _ _ hD2
          have C3 := A1m wf _ _ _ hD3
          have HBD1 := Lib.hid bd1
          have HBD2 := Lib.hid bd2
          have HBD3 := Lib.hid bd3
          have HBA := Lib.hid ba
          rw [hLn] at ra1 ra2 rc1 rc2 re1 re2 C1 C2 C3
          unfold E0 C0 S8 at *
          simp only at ra1 ra2 rc1 rc2 re1 re2
          clear ba bc be bd1 bd2 bd3 hX4 hD1 hD2 hD3 hLn
          have RA1 : Hid ((Builtin.append_ #[22, 22] 22 #[.slice (some ⟨w4.heap.size, 0, none⟩) 0 0, .slice X n cx]).run Try.prog ((w4.alloc (.cells #[] 37)).drew) = .ok va wa) := Lib.hid ra1
          have RA2 := Lib.hid ra2
          have RC1 : Hid ((Builtin.append_ #[22, 22] 22 #[.slice (some ⟨w4.heap.size, 0, none⟩) 0 0, .slice X n cx]).run Try.prog (((w4.alloc (.cells #[] 37)).alloc (.cells #[.string ⟨x1.toArray⟩, .string ⟨x2.toArray⟩] 37)).drew) = .ok vc wc) := Lib.hid rc1
          have RC2 := Lib.hid rc2
          have RE1 : Hid ((Builtin.append_ #[22, 22] 22 #[.slice (some ⟨w4.heap.size + 1, 0, none⟩) 0 0, .slice X n cx]).run Try.prog (((w4.alloc (.cells #[.string ⟨x1.toArray⟩, .string ⟨x2.toArray⟩] 37)).alloc (.cells #[] 37)).drew) = .ok ve we) := Lib.hid re1
          have RE2 := Lib.hid re2
          clear ra1 ra2 rc1 rc2 re1 re2
          go_region_law (first
            | (refine step_append_at RA1 (.tmp 64) (.tmp 65) rfl rfl rfl rfl rfl ?_ ?_; (· with_reducible rfl))
            | (refine step_append_at RC1 (.tmp 64) (.tmp 65) rfl rfl rfl rfl rfl ?_ ?_; (· with_reducible rfl))
            | (refine step_append_at RE1 (.tmp 64) (.tmp 65) rfl rfl rfl rfl rfl ?_ ?_; (· with_reducible rfl))
            | (refine step_append_at RA2 (.tmp 66) (.tmp 68) rfl rfl rfl rfl rfl ?_ ?_; (· with_reducible rfl))
            | (refine step_append_at RC2 (.tmp 66) (.tmp 68) rfl rfl rfl rfl rfl ?_ ?_; (· with_reducible rfl))
            | (refine step_append_at RE2 (.tmp 66) (.tmp 68) rfl rfl rfl rfl rfl ?_ ?_; (· with_reducible rfl))
            | (go_simp; go_at_call 8; first
                | (with_reducible refine C1.out.mono ?_; rintro e wy ⟨D, cd, rfl, hD, hbD⟩; have HBy := Lib.hid (below_step HBD1.out hbD))
                | (with_reducible refine C2.out.mono ?_; rintro e wy ⟨D, cd, rfl, hD, hbD⟩; have HBy := Lib.hid (below_step HBD2.out hbD))
                | (with_reducible refine C3.out.mono ?_; rintro e wy ⟨D, cd, rfl, hD, hbD⟩; have HBy := Lib.hid (below_step HBD3.out hbD))))
          all_goals
            go_wp2_with fail
            go_meet
            exact ⟨_, _, rfl, rfl, Lib.hid hD, Lib.hid (below_undrew HBy.out)⟩
        case rest =>
          obtain ⟨D, cd, rfl, rfl, HD, hbc⟩ := hcut
          have HB5 := Lib.hid (below_step HB4.out hbc.out)
          have HX5 := Lib.hid (lb_below HX4.out hbc.out)
          have HK5 := Lib.hid ((hbc.out.block w.heap.size HS4.out).trans HK4.out)
          have HS5 := Lib.hid (Nat.lt_of_lt_of_le HS4.out hbc.out.size)
          clear HB4 HX4 HK4 HS4 hbc
          by_cases hr1 : r1 = 0
          · subst hr1
            have hc0 : (canon (L ++ [(x1, x2)])).1 = 0 := by rw [HRR.out]
            obtain ⟨hp, hnot, hPM, hPA⟩ := asc_more HMA.out HAS.out hc0
            rw [HRR.out] at hp
            simp only at hp hnot
            have hfh : fh = none := by rw [← HFH.out]; exact find_none.2 hnot
            subst hfh
            subst hp
            have HPM := Lib.hid hPM
            have hpl : (put (x1, x2) L).length = n + 1 := by rw [put_length, HLn.out]
            have A2d := PF wc (put (x1, x2) L) D cd (n + 1) x1 (by rw [← hpl]; exact HD.out) (may_val hPM)
            rw [find_mem hPM.nodup (show ((x1, x2) : Lab) ∈ put (x1, x2) L from mem_put.2 (.inl rfl))] at A2d
            simp only [Option.getD_some, Option.isSome_some] at A2d
            unfold S8 at A2d
            have k0 : wc.cell? ⟨w.heap.size, 0, none⟩ = some (.string ⟨x1.toArray⟩) := cell_of_heap HK5.out rfl
            have HD5 : Hid (Lb wc D (n + 1) cd (put (x1, x2) L)) := Lib.hid (by rw [← hpl]; exact HD.out)
            rw [hpl]
            clear hc0 hnot hPM hPA HRR HFH HD hpl
            go_wp2_with fail
            refine A2d.out.mono ?_
            rintro e w6 ⟨rfl, hb6⟩
            have HB6 := Lib.hid (below_step HB5.out hb6)
            have HX6 := Lib.hid (lb_below HX5.out hb6)
            have HD6 := Lib.hid (lb_below HD5.out hb6)
            have HK6 := Lib.hid ((hb6.block w.heap.size HS5.out).trans HK5.out)
            have HS6 := Lib.hid (Nat.lt_of_lt_of_le HS5.out hb6.size)
            clear hb6 HB5 HX5 HD5 HK5 HS5 k0 A2d
            obtain ⟨p, hp⟩ : ∃ p, posL x1 L = p := ⟨_, rfl⟩
            have hpn : p ≤ n := by have := posL_le x1 L; have := HLn.out; omega
            have HPB : Hid (∀ j (h : j < L.length), j < p → less (L[j]'h).1 x1 = true) := Lib.hid (fun j h hj => posL_before x1 L j h (by rw [hp]; exact hj))
            have HPA : Hid (∀ h : p < L.length, less (L[p]'h).1 x1 = false) := Lib.hid (by subst hp; exact posL_at x1 L)
            have HPG : Hid ((put (x1, x2) L)[p]? = some (x1, x2)) := Lib.hid (by subst hp; exact put_get (x := (x1, x2)))
            have HPT : Hid ((put (x1, x2) L).take p = L.take p) := Lib.hid (by subst hp; exact put_take (x := (x1, x2)))
            have HPD : Hid ((put (x1, x2) L).drop (p + 1) = L.drop p) := Lib.hid (by subst hp; exact put_drop (x := (x1, x2)))
            have hsD := HD6.out.2.1
            have hsX := HX6.out.2.1
            have hmD := HD6.out.2.2.1
            have hmX := HX6.out.2.2.1
            unfold maxLen at hmD hmX
            clear hp
            go_wp2
            go_loopw [16] (fun v wr => ∃ j : Nat, j ≤ p ∧ v = .int .i64 (j : Int) ∧ Hid (Below w6.heap.size w6 wr)) (fun v _ => n - (intOf v).toNat)
            case atStart => exact ⟨0, Nat.zero_le _, rfl, Lib.hid (Below.refl _ _)⟩
            case round =>
              obtain ⟨j, hj, rfl, HBr⟩ := hrel
              have HXr := Lib.hid (lb_below HX6.out HBr.out)
              have HKr := Lib.hid ((HBr.out.block w.heap.size HS6.out).trans HK6.out)
              have k0 : wr.cell? ⟨w.heap.size, 0, none⟩ = some (.string ⟨x1.toArray⟩) := cell_of_heap HKr.out rfl
              by_cases hjp : j < p
              · have hjl : j < L.length := by have := HLn.out; omega
                have hls := HPB.out j hjl hjp
                obtain ⟨g, o, rfl, hg, hcell⟩ := HXr.out.2.2.2 (by rw [flat_len]; omega)
                obtain ⟨p0, _⟩ := cellsL hcell hjl
                generalize (L[j]'hjl).1 = y at *
                have e1 : Op.bytesLess y x1 = true := by rw [less_is]; exact hls
                have hji : (j : Int) < (n : Int) := by omega
                clear hcell hls
                go_wp2
                go_quiet (fail)
                go_wp2
                go_roundw
                case rel => exact ⟨j + 1, by omega, by go_num, Lib.hid (below_drewN HBr.out _)⟩
                case measure => simp [intOf]; omega
              · obtain rfl : j = p := by omega
                clear hjp hj HPB
--WAYS
                obtain ⟨g2, o2, hDe, hg2, hcD⟩ := HD6.out.2.2.2 (by rw [flat_len, put_length]; omega)
                subst hDe
                have hjl : j < (put (x1, x2) L).length := by rw [put_length, HLn.out]; omega
                have hjg : (put (x1, x2) L)[j] = (x1, x2) := by have h := HPG.out; rw [List.getElem?_eq_getElem hjl] at h; exact Option.some.inj h
                obtain ⟨d0, d1⟩ := cellsL hcD hjl
                rw [hjg] at d0 d1
                have HD0 := Lib.hid d0
                have HD1 := Lib.hid d1
                have hDR := rd_cut2 (k := j + 1) HD6.out.2.2.2 (show (put (x1, x2) L).length ≤ cd by rw [put_length, HLn.out]; exact hsD)
                have hXR := rd_cut2 (k := j) HX6.out.2.2.2 (show L.length ≤ cx by rw [HLn.out]; exact hsX)
                clear hcD hjl hjg d0 d1 HPG
                by_cases hjn : j < n
                · have hjL : j < L.length := by rw [HLn.out]; exact hjn
                  have hls := HPA.out hjL
                  obtain ⟨g, o, hXe, hg, hcell⟩ := HXr.out.2.2.2 (by rw [flat_len]; omega)
                  subst hXe
                  obtain ⟨p0, p0b⟩ := cellsL hcell hjL
                  clear p0b
                  generalize (L[j]'hjL).1 = y at *
                  have e1 : Op.bytesLess y x1 = false := by rw [less_is]; exact hls
                  have hji : (j : Int) < (n : Int) := by omega
                  have hcd : ¬ cd = j + 1 := by omega
                  have hcx : ¬ cx = j := by omega
                  rw [if_neg hcd] at hDR
                  rw [if_neg hcx] at hXR
                  have HDR : Hid (Rd w6 w6.heap.size (some ⟨g2, o2 + (j + 1) * 2, none⟩) (flat ((put (x1, x2) L).drop (j + 1)))) := Lib.hid (by simpa [add_off] using hDR)
                  have HXR : Hid (Rd w6 w6.heap.size (some ⟨g, o + j * 2, none⟩) (flat (L.drop j))) := Lib.hid (by simpa [add_off] using hXR)
                  clear hcell hls HPA hDR hXR hjL
                  go_wp2
                  go_quiet (fail)
                  obtain ⟨wz, hwz⟩ : ∃ wz : World, wz = wr.drewN nq := ⟨_, rfl⟩
                  have HBz : Hid (Below w6.heap.size w6 wz) := Lib.hid (by rw [hwz]; exact below_drewN HBr.out _)
                  rw [← hwz]
                  clear hwz k0 HXr HKr HBr
                  have HSTEP : Hid (∀ w', Below wz.heap.size wz w' → w'.cell? ⟨w.heap.size, 0, none⟩ = some (.string ⟨x1.toArray⟩) ∧ w'.cell? ⟨w.heap.size, 1, none⟩ = some (.string ⟨x2.toArray⟩) ∧ w'.cell? ⟨g2, o2 + j * 2, none⟩ = some (.string ⟨x1.toArray⟩) ∧ w'.cell? ⟨g2, o2 + j * 2 + 1, none⟩ = some (.string ⟨x2.toArray⟩)) := Lib.hid (fun w' hb' => by
                    have hb := HBz.out.trans (hb'.mono HBz.out.size)
                    have hh := (hb.block w.heap.size HS6.out).trans HK6.out
                    exact ⟨cell_of_heap hh rfl, cell_of_heap hh rfl, (hb.cell (p := ⟨g2, o2 + j * 2, none⟩) hg2).trans HD0.out, (hb.cell (p := ⟨g2, o2 + j * 2 + 1, none⟩) hg2).trans HD1.out⟩)
                  have GC1 := fun w' (gw : Hid (Below wz.heap.size wz w')) => Lib.hid (calls_keep4 HSTEP.out gw.out (by
                    have hb := HBz.out.trans (gw.out.mono HBz.out.size)
                    have h := (PA w' ((put (x1, x2) L).take j) (L.take j) (some ⟨g2, o2, none⟩) (some ⟨g, o, none⟩) j j cd cx ⟨by rw [List.length_take, put_length, HLn.out]; omega, by omega, by unfold maxLen; omega, ((rd_take2 HD6.out.2.2.2 j).below hb).more hb.size⟩ ⟨by rw [List.length_take, HLn.out]; omega, by omega, by unfold maxLen; omega, ((rd_take2 HX6.out.2.2.2 j).below hb).more hb.size⟩).out
                    rw [HPT.out, cmp_self] at h
                    exact h))
                  have GC2 := fun w' (gw : Hid (Below wz.heap.size wz w')) => Lib.hid (calls_keep4 HSTEP.out gw.out (by
                    have hb := HBz.out.trans (gw.out.mono HBz.out.size)
                    have h := (PA w' ((put (x1, x2) L).drop (j + 1)) (L.drop j) (some ⟨g2, o2 + (j + 1) * 2, none⟩) (some ⟨g, o + j * 2, none⟩) (n - j) (n - j) (cd - (j + 1)) (cx - j) ⟨by rw [List.length_drop, put_length, HLn.out] <;> omega, by omega, by unfold maxLen; omega, (HDR.out.below hb).more hb.size⟩ ⟨by rw [List.length_drop, HLn.out] <;> omega, by omega, by unfold maxLen; omega, (HXR.out.below hb).more hb.size⟩).out
                    rw [HPD.out, cmp_self] at h
                    exact h))
                  have HG0 : Hid (Below wz.heap.size wz wz.drew) := Lib.hid ⟨rfl, rfl, rfl, Nat.le_refl _, fun _ _ => rfl⟩
                  obtain ⟨c1, c2, c3, c4⟩ := HSTEP.out wz.drew HG0.out
                  have he := fun w => run_eqL w (x1, x2) (x1, x2)
                  simp only [beq_self_eq_true] at he
                  have z1 : IntKind.i64.wrap ((n : Int) + 1) = (n : Int) + 1 := by rw [IntKind.wrap_i64]; omega
                  have z2 : IntKind.i64.wrap ((j : Int) + 1) = (j : Int) + 1 := by rw [IntKind.wrap_i64]; omega
                  have z3 : (0 : Int) ≤ (j : Int) := by omega
                  have z4 : (j : Int) < (n : Int) + 1 := by omega
                  have z5 : (j : Int) ≤ (n : Int) := by omega
                  have z6 : (j : Int) + 1 ≤ (n : Int) + 1 := by omega
                  have z7 : (0 : Int) ≤ (j : Int) + 1 := by omega
                  have z8 : ((j : Int) + 1).toNat = j + 1 := by omega
                  have z9 : (j : Int) ≤ ((cd : Nat) : Int) := by omega
                  have za : (j : Int) ≤ ((cx : Nat) : Int) := by omega
                  have zb : (j : Int) ≤ (n : Int) + 1 := by omega
                  have zc : (((n : Int) + 1) == (n : Int) + 1) = true := by simp
                  clear PA A3 HDR HXR
                  go_wp2
                  go_region_held3 (fun w' => Hid (Below wz.heap.size wz w') ∧ w'.cell? ⟨w.heap.size, 0, none⟩ = some (.string ⟨x1.toArray⟩) ∧ w'.cell? ⟨w.heap.size, 1, none⟩ = some (.string ⟨x2.toArray⟩) ∧ w'.cell? ⟨g2, o2 + j * 2, none⟩ = some (.string ⟨x1.toArray⟩) ∧ w'.cell? ⟨g2, o2 + j * 2 + 1, none⟩ = some (.string ⟨x2.toArray⟩)) (first | assumption | go_keep) (first
                    | (go_at_call 13; ((with_reducible refine (GC1 _ (by assumption)).out.mono ?_); rintro e w' ⟨rfl, g', y1, y2, y3, y4⟩))
                    | (go_at_call 13; ((with_reducible refine (GC2 _ (by assumption)).out.mono ?_); rintro e w' ⟨rfl, g', y1, y2, y3, y4⟩)))
                  all_goals
                    go_wp2
                    go_ret
                    exact ⟨rfl, (HB6.out.trans (HBz.out.mono HB6.out.size)).trans ((‹Hid (Below wz.heap.size wz _)›).out.mono (by have := HB6.out.size; have := HBz.out.size; omega))⟩
                · have hjn2 : j = n := by omega
                  subst hjn2
                  have hji : ¬ (j : Int) < (j : Int) := by omega
                  have hjd : decide ((j : Int) < (j : Int)) = false := by simp
                  clear HPA hjn
                  by_cases hcd0 : cd = j + 1
                  · by_cases hcx0 : cx = j
                    · have hcd : cd = j + 1 := by assumption
                      rw [if_pos hcd] at hDR
                      subst hcd
                      have HDR := Lib.hid hDR
                      have hcx : cx = j := by assumption
                      rw [if_pos hcx] at hXR
                      obtain rfl : j = cx := hcx.symm
                      have HXR := Lib.hid hXR
                      clear hDR hXR
                      go_wp2
                      go_quiet (fail)
                      obtain ⟨wz, hwz⟩ : ∃ wz : World, wz = wr.drewN nq := ⟨_, rfl⟩
                      have HBz : Hid (Below w6.heap.size w6 wz) := Lib.hid (by rw [hwz]; exact below_drewN HBr.out _)
                      rw [← hwz]
                      clear hwz k0 HXr HKr HBr
                      have HSTEP : Hid (∀ w', Below wz.heap.size wz w' → w'.cell? ⟨w.heap.size, 0, none⟩ = some (.string ⟨x1.toArray⟩) ∧ w'.cell? ⟨w.heap.size, 1, none⟩ = some (.string ⟨x2.toArray⟩) ∧ w'.cell? ⟨g2, o2 + j * 2, none⟩ = some (.string ⟨x1.toArray⟩) ∧ w'.cell? ⟨g2, o2 + j * 2 + 1, none⟩ = some (.string ⟨x2.toArray⟩)) := Lib.hid (fun w' hb' => by
                        have hb := HBz.out.trans (hb'.mono HBz.out.size)
                        have hh := (hb.block w.heap.size HS6.out).trans HK6.out
                        exact ⟨cell_of_heap hh rfl, cell_of_heap hh rfl, (hb.cell (p := ⟨g2, o2 + j * 2, none⟩) hg2).trans HD0.out, (hb.cell (p := ⟨g2, o2 + j * 2 + 1, none⟩) hg2).trans HD1.out⟩)
                      have GC1 := fun w' (gw : Hid (Below wz.heap.size wz w')) => Lib.hid (calls_keep4 HSTEP.out gw.out (by
                        have hb := HBz.out.trans (gw.out.mono HBz.out.size)
                        have h := (PA w' ((put (x1, x2) L).take j) (L.take j) (some ⟨g2, o2, none⟩) X j j (j + 1) j ⟨by rw [List.length_take, put_length, HLn.out]; omega, by omega, by unfold maxLen; omega, ((rd_take2 HD6.out.2.2.2 j).below hb).more hb.size⟩ ⟨by rw [List.length_take, HLn.out]; omega, by omega, by unfold maxLen; omega, ((rd_take2 HX6.out.2.2.2 j).below hb).more hb.size⟩).out
                        rw [HPT.out, cmp_self] at h
                        exact h))
                      have GC2 := fun w' (gw : Hid (Below wz.heap.size wz w')) => Lib.hid (calls_keep4 HSTEP.out gw.out (by
                        have hb := HBz.out.trans (gw.out.mono HBz.out.size)
                        have h := (PA w' ((put (x1, x2) L).drop (j + 1)) (L.drop j) (some ⟨g2, o2, none⟩) X 0 0 0 0 ⟨by rw [List.length_drop, put_length, HLn.out] <;> omega, by omega, by unfold maxLen; omega, (HDR.out.below hb).more hb.size⟩ ⟨by rw [List.length_drop, HLn.out] <;> omega, by omega, by unfold maxLen; omega, (HXR.out.below hb).more hb.size⟩).out
                        rw [HPD.out, cmp_self] at h
                        exact h))
                      have HG0 : Hid (Below wz.heap.size wz wz.drew) := Lib.hid ⟨rfl, rfl, rfl, Nat.le_refl _, fun _ _ => rfl⟩
                      obtain ⟨c1, c2, c3, c4⟩ := HSTEP.out wz.drew HG0.out
                      have he := fun w => run_eqL w (x1, x2) (x1, x2)
                      simp only [beq_self_eq_true] at he
                      have z1 : IntKind.i64.wrap ((j : Int) + 1) = (j : Int) + 1 := by rw [IntKind.wrap_i64]; omega
                      have z2 : IntKind.i64.wrap ((j : Int) + 1) = (j : Int) + 1 := by rw [IntKind.wrap_i64]; omega
                      have z3 : (0 : Int) ≤ (j : Int) := by omega
                      have z4 : (j : Int) < (j : Int) + 1 := by omega
                      have z5 : (j : Int) ≤ (j : Int) := by omega
                      have z6 : (j : Int) + 1 ≤ (j : Int) + 1 := by omega
                      have z7 : (0 : Int) ≤ (j : Int) + 1 := by omega
                      have z8 : ((j : Int) + 1).toNat = j + 1 := by omega
                      have z9 : (j : Int) ≤ (((j + 1) : Nat) : Int) := by omega
                      have za : (j : Int) ≤ ((j : Nat) : Int) := by omega
                      have zb : (j : Int) ≤ (j : Int) + 1 := by omega
                      have zc : (((j : Int) + 1) == (j : Int) + 1) = true := by simp
                      clear PA A3 HDR HXR
                      go_wp2
                      go_region_held3 (fun w' => Hid (Below wz.heap.size wz w') ∧ w'.cell? ⟨w.heap.size, 0, none⟩ = some (.string ⟨x1.toArray⟩) ∧ w'.cell? ⟨w.heap.size, 1, none⟩ = some (.string ⟨x2.toArray⟩) ∧ w'.cell? ⟨g2, o2 + j * 2, none⟩ = some (.string ⟨x1.toArray⟩) ∧ w'.cell? ⟨g2, o2 + j * 2 + 1, none⟩ = some (.string ⟨x2.toArray⟩)) (first | assumption | go_keep) (first
                        | (go_at_call 13; ((with_reducible refine (GC1 _ (by assumption)).out.mono ?_); rintro e w' ⟨rfl, g', y1, y2, y3, y4⟩))
                        | (go_at_call 13; ((with_reducible refine (GC2 _ (by assumption)).out.mono ?_); rintro e w' ⟨rfl, g', y1, y2, y3, y4⟩)))
                      all_goals
                        go_wp2
                        go_ret
                        exact ⟨rfl, (HB6.out.trans (HBz.out.mono HB6.out.size)).trans ((‹Hid (Below wz.heap.size wz _)›).out.mono (by have := HB6.out.size; have := HBz.out.size; omega))⟩
                    · have hcd : cd = j + 1 := by assumption
                      rw [if_pos hcd] at hDR
                      subst hcd
                      have HDR := Lib.hid hDR
                      have hcx : ¬ cx = j := by assumption
                      rw [if_neg hcx] at hXR
                      have HXR := Lib.hid hXR
                      clear hDR hXR
                      go_wp2
                      go_quiet (fail)
                      obtain ⟨wz, hwz⟩ : ∃ wz : World, wz = wr.drewN nq := ⟨_, rfl⟩
                      have HBz : Hid (Below w6.heap.size w6 wz) := Lib.hid (by rw [hwz]; exact below_drewN HBr.out _)
                      rw [← hwz]
                      clear hwz k0 HXr HKr HBr
                      have HSTEP : Hid (∀ w', Below wz.heap.size wz w' → w'.cell? ⟨w.heap.size, 0, none⟩ = some (.string ⟨x1.toArray⟩) ∧ w'.cell? ⟨w.heap.size, 1, none⟩ = some (.string ⟨x2.toArray⟩) ∧ w'.cell? ⟨g2, o2 + j * 2, none⟩ = some (.string ⟨x1.toArray⟩) ∧ w'.cell? ⟨g2, o2 + j * 2 + 1, none⟩ = some (.string ⟨x2.toArray⟩)) := Lib.hid (fun w' hb' => by
                        have hb := HBz.out.trans (hb'.mono HBz.out.size)
                        have hh := (hb.block w.heap.size HS6.out).trans HK6.out
                        exact ⟨cell_of_heap hh rfl, cell_of_heap hh rfl, (hb.cell (p := ⟨g2, o2 + j * 2, none⟩) hg2).trans HD0.out, (hb.cell (p := ⟨g2, o2 + j * 2 + 1, none⟩) hg2).trans HD1.out⟩)
                      have GC1 := fun w' (gw : Hid (Below wz.heap.size wz w')) => Lib.hid (calls_keep4 HSTEP.out gw.out (by
                        have hb := HBz.out.trans (gw.out.mono HBz.out.size)
                        have h := (PA w' ((put (x1, x2) L).take j) (L.take j) (some ⟨g2, o2, none⟩) X j j (j + 1) cx ⟨by rw [List.length_take, put_length, HLn.out]; omega, by omega, by unfold maxLen; omega, ((rd_take2 HD6.out.2.2.2 j).below hb).more hb.size⟩ ⟨by rw [List.length_take, HLn.out]; omega, by omega, by unfold maxLen; omega, ((rd_take2 HX6.out.2.2.2 j).below hb).more hb.size⟩).out
                        rw [HPT.out, cmp_self] at h
                        exact h))
                      have GC2 := fun w' (gw : Hid (Below wz.heap.size wz w')) => Lib.hid (calls_keep4 HSTEP.out gw.out (by
                        have hb := HBz.out.trans (gw.out.mono HBz.out.size)
                        have h := (PA w' ((put (x1, x2) L).drop (j + 1)) (L.drop j) (some ⟨g2, o2, none⟩) (X.map (·.add (j * 2))) 0 0 0 (cx - j) ⟨by rw [List.length_drop, put_length, HLn.out] <;> omega, by omega, by unfold maxLen; omega, (HDR.out.below hb).more hb.size⟩ ⟨by rw [List.length_drop, HLn.out] <;> omega, by omega, by unfold maxLen; omega, (HXR.out.below hb).more hb.size⟩).out
                        rw [HPD.out, cmp_self] at h
                        exact h))
                      have HG0 : Hid (Below wz.heap.size wz wz.drew) := Lib.hid ⟨rfl, rfl, rfl, Nat.le_refl _, fun _ _ => rfl⟩
                      obtain ⟨c1, c2, c3, c4⟩ := HSTEP.out wz.drew HG0.out
                      have he := fun w => run_eqL w (x1, x2) (x1, x2)
                      simp only [beq_self_eq_true] at he
                      have z1 : IntKind.i64.wrap ((j : Int) + 1) = (j : Int) + 1 := by rw [IntKind.wrap_i64]; omega
                      have z2 : IntKind.i64.wrap ((j : Int) + 1) = (j : Int) + 1 := by rw [IntKind.wrap_i64]; omega
                      have z3 : (0 : Int) ≤ (j : Int) := by omega
                      have z4 : (j : Int) < (j : Int) + 1 := by omega
                      have z5 : (j : Int) ≤ (j : Int) := by omega
                      have z6 : (j : Int) + 1 ≤ (j : Int) + 1 := by omega
                      have z7 : (0 : Int) ≤ (j : Int) + 1 := by omega
                      have z8 : ((j : Int) + 1).toNat = j + 1 := by omega
                      have z9 : (j : Int) ≤ (((j + 1) : Nat) : Int) := by omega
                      have za : (j : Int) ≤ ((cx : Nat) : Int) := by omega
                      have zb : (j : Int) ≤ (j : Int) + 1 := by omega
                      have zc : (((j : Int) + 1) == (j : Int) + 1) = true := by simp
                      clear PA A3 HDR HXR
                      go_wp2
                      go_region_held3 (fun w' => Hid (Below wz.heap.size wz w') ∧ w'.cell? ⟨w.heap.size, 0, none⟩ = some (.string ⟨x1.toArray⟩) ∧ w'.cell? ⟨w.heap.size, 1, none⟩ = some (.string ⟨x2.toArray⟩) ∧ w'.cell? ⟨g2, o2 + j * 2, none⟩ = some (.string ⟨x1.toArray⟩) ∧ w'.cell? ⟨g2, o2 + j * 2 + 1, none⟩ = some (.string ⟨x2.toArray⟩)) (first | assumption | go_keep) (first
                        | (go_at_call 13; ((with_reducible refine (GC1 _ (by assumption)).out.mono ?_); rintro e w' ⟨rfl, g', y1, y2, y3, y4⟩))
                        | (go_at_call 13; ((with_reducible refine (GC2 _ (by assumption)).out.mono ?_); rintro e w' ⟨rfl, g', y1, y2, y3, y4⟩)))
                      all_goals
                        go_wp2
                        go_ret
                        exact ⟨rfl, (HB6.out.trans (HBz.out.mono HB6.out.size)).trans ((‹Hid (Below wz.heap.size wz _)›).out.mono (by have := HB6.out.size; have := HBz.out.size; omega))⟩
                  · by_cases hcx0 : cx = j
                    · have hcd : ¬ cd = j + 1 := by assumption
                      rw [if_neg hcd] at hDR
                      have HDR : Hid (Rd w6 w6.heap.size (some ⟨g2, o2 + (j + 1) * 2, none⟩) (flat ((put (x1, x2) L).drop (j + 1)))) := Lib.hid (by simpa [add_off] using hDR)
                      have hcx : cx = j := by assumption
                      rw [if_pos hcx] at hXR
                      obtain rfl : j = cx := hcx.symm
                      have HXR := Lib.hid hXR
                      clear hDR hXR
                      go_wp2
                      go_quiet (fail)
                      obtain ⟨wz, hwz⟩ : ∃ wz : World, wz = wr.drewN nq := ⟨_, rfl⟩
                      have HBz : Hid (Below w6.heap.size w6 wz) := Lib.hid (by rw [hwz]; exact below_drewN HBr.out _)
                      rw [← hwz]
                      clear hwz k0 HXr HKr HBr
                      have HSTEP : Hid (∀ w', Below wz.heap.size wz w' → w'.cell? ⟨w.heap.size, 0, none⟩ = some (.string ⟨x1.toArray⟩) ∧ w'.cell? ⟨w.heap.size, 1, none⟩ = some (.string ⟨x2.toArray⟩) ∧ w'.cell? ⟨g2, o2 + j * 2, none⟩ = some (.string ⟨x1.toArray⟩) ∧ w'.cell? ⟨g2, o2 + j * 2 + 1, none⟩ = some (.string ⟨x2.toArray⟩)) := Lib.hid (fun w' hb' => by
                        have hb := HBz.out.trans (hb'.mono HBz.out.size)
                        have hh := (hb.block w.heap.size HS6.out).trans HK6.out
                        exact ⟨cell_of_heap hh rfl, cell_of_heap hh rfl, (hb.cell (p := ⟨g2, o2 + j * 2, none⟩) hg2).trans HD0.out, (hb.cell (p := ⟨g2, o2 + j * 2 + 1, none⟩) hg2).trans HD1.out⟩)
                      have GC1 := fun w' (gw : Hid (Below wz.heap.size wz w')) => Lib.hid (calls_keep4 HSTEP.out gw.out (by
                        have hb := HBz.out.trans (gw.out.mono HBz.out.size)
                        have h := (PA w' ((put (x1, x2) L).take j) (L.take j) (some ⟨g2, o2, none⟩) X j j cd j ⟨by rw [List.length_take, put_length, HLn.out]; omega, by omega, by unfold maxLen; omega, ((rd_take2 HD6.out.2.2.2 j).below hb).more hb.size⟩ ⟨by rw [List.length_take, HLn.out]; omega, by omega, by unfold maxLen; omega, ((rd_take2 HX6.out.2.2.2 j).below hb).more hb.size⟩).out
                        rw [HPT.out, cmp_self] at h
                        exact h))
                      have GC2 := fun w' (gw : Hid (Below wz.heap.size wz w')) => Lib.hid (calls_keep4 HSTEP.out gw.out (by
                        have hb := HBz.out.trans (gw.out.mono HBz.out.size)
                        have h := (PA w' ((put (x1, x2) L).drop (j + 1)) (L.drop j) (some ⟨g2, o2 + (j + 1) * 2, none⟩) X 0 0 (cd - (j + 1)) 0 ⟨by rw [List.length_drop, put_length, HLn.out] <;> omega, by omega, by unfold maxLen; omega, (HDR.out.below hb).more hb.size⟩ ⟨by rw [List.length_drop, HLn.out] <;> omega, by omega, by unfold maxLen; omega, (HXR.out.below hb).more hb.size⟩).out
                        rw [HPD.out, cmp_self] at h
                        exact h))
                      have HG0 : Hid (Below wz.heap.size wz wz.drew) := Lib.hid ⟨rfl, rfl, rfl, Nat.le_refl _, fun _ _ => rfl⟩
                      obtain ⟨c1, c2, c3, c4⟩ := HSTEP.out wz.drew HG0.out
                      have he := fun w => run_eqL w (x1, x2) (x1, x2)
                      simp only [beq_self_eq_true] at he
                      have z1 : IntKind.i64.wrap ((j : Int) + 1) = (j : Int) + 1 := by rw [IntKind.wrap_i64]; omega
                      have z2 : IntKind.i64.wrap ((j : Int) + 1) = (j : Int) + 1 := by rw [IntKind.wrap_i64]; omega
                      have z3 : (0 : Int) ≤ (j : Int) := by omega
                      have z4 : (j : Int) < (j : Int) + 1 := by omega
                      have z5 : (j : Int) ≤ (j : Int) := by omega
                      have z6 : (j : Int) + 1 ≤ (j : Int) + 1 := by omega
                      have z7 : (0 : Int) ≤ (j : Int) + 1 := by omega
                      have z8 : ((j : Int) + 1).toNat = j + 1 := by omega
                      have z9 : (j : Int) ≤ ((cd : Nat) : Int) := by omega
                      have za : (j : Int) ≤ ((j : Nat) : Int) := by omega
                      have zb : (j : Int) ≤ (j : Int) + 1 := by omega
                      have zc : (((j : Int) + 1) == (j : Int) + 1) = true := by simp
                      clear PA A3 HDR HXR
                      go_wp2
                      go_region_held3 (fun w' => Hid (Below wz.heap.size wz w') ∧ w'.cell? ⟨w.heap.size, 0, none⟩ = some (.string ⟨x1.toArray⟩) ∧ w'.cell? ⟨w.heap.size, 1, none⟩ = some (.string ⟨x2.toArray⟩) ∧ w'.cell? ⟨g2, o2 + j * 2, none⟩ = some (.string ⟨x1.toArray⟩) ∧ w'.cell? ⟨g2, o2 + j * 2 + 1, none⟩ = some (.string ⟨x2.toArray⟩)) (first | assumption | go_keep) (first
                        | (go_at_call 13; ((with_reducible refine (GC1 _ (by assumption)).out.mono ?_); rintro e w' ⟨rfl, g', y1, y2, y3, y4⟩))
                        | (go_at_call 13; ((with_reducible refine (GC2 _ (by assumption)).out.mono ?_); rintro e w' ⟨rfl, g', y1, y2, y3, y4⟩)))
                      all_goals
                        go_wp2
                        go_ret
                        exact ⟨rfl, (HB6.out.trans (HBz.out.mono HB6.out.size)).trans ((‹Hid (Below wz.heap.size wz _)›).out.mono (by have := HB6.out.size; have := HBz.out.size; omega))⟩
                    · have hcd : ¬ cd = j + 1 := by assumption
                      rw [if_neg hcd] at hDR
                      have HDR : Hid (Rd w6 w6.heap.size (some ⟨g2, o2 + (j + 1) * 2, none⟩) (flat ((put (x1, x2) L).drop (j + 1)))) := Lib.hid (by simpa [add_off] using hDR)
                      have hcx : ¬ cx = j := by assumption
                      rw [if_neg hcx] at hXR
                      have HXR := Lib.hid hXR
                      clear hDR hXR
                      go_wp2
                      go_quiet (fail)
                      obtain ⟨wz, hwz⟩ : ∃ wz : World, wz = wr.drewN nq := ⟨_, rfl⟩
                      have HBz : Hid (Below w6.heap.size w6 wz) := Lib.hid (by rw [hwz]; exact below_drewN HBr.out _)
                      rw [← hwz]
                      clear hwz k0 HXr HKr HBr
                      have HSTEP : Hid (∀ w', Below wz.heap.size wz w' → w'.cell? ⟨w.heap.size, 0, none⟩ = some (.string ⟨x1.toArray⟩) ∧ w'.cell? ⟨w.heap.size, 1, none⟩ = some (.string ⟨x2.toArray⟩) ∧ w'.cell? ⟨g2, o2 + j * 2, none⟩ = some (.string ⟨x1.toArray⟩) ∧ w'.cell? ⟨g2, o2 + j * 2 + 1, none⟩ = some (.string ⟨x2.toArray⟩)) := Lib.hid (fun w' hb' => by
                        have hb := HBz.out.trans (hb'.mono HBz.out.size)
                        have hh := (hb.block w.heap.size HS6.out).trans HK6.out
                        exact ⟨cell_of_heap hh rfl, cell_of_heap hh rfl, (hb.cell (p := ⟨g2, o2 + j * 2, none⟩) hg2).trans HD0.out, (hb.cell (p := ⟨g2, o2 + j * 2 + 1, none⟩) hg2).trans HD1.out⟩)
                      have GC1 := fun w' (gw : Hid (Below wz.heap.size wz w')) => Lib.hid (calls_keep4 HSTEP.out gw.out (by
                        have hb := HBz.out.trans (gw.out.mono HBz.out.size)
                        have h := (PA w' ((put (x1, x2) L).take j) (L.take j) (some ⟨g2, o2, none⟩) X j j cd cx ⟨by rw [List.length_take, put_length, HLn.out]; omega, by omega, by unfold maxLen; omega, ((rd_take2 HD6.out.2.2.2 j).below hb).more hb.size⟩ ⟨by rw [List.length_take, HLn.out]; omega, by omega, by unfold maxLen; omega, ((rd_take2 HX6.out.2.2.2 j).below hb).more hb.size⟩).out
                        rw [HPT.out, cmp_self] at h
                        exact h))
                      have GC2 := fun w' (gw : Hid (Below wz.heap.size wz w')) => Lib.hid (calls_keep4 HSTEP.out gw.out (by
                        have hb := HBz.out.trans (gw.out.mono HBz.out.size)
                        have h := (PA w' ((put (x1, x2) L).drop (j + 1)) (L.drop j) (some ⟨g2, o2 + (j + 1) * 2, none⟩) (X.map (·.add (j * 2))) 0 0 (cd - (j + 1)) (cx - j) ⟨by rw [List.length_drop, put_length, HLn.out] <;> omega, by omega, by unfold maxLen; omega, (HDR.out.below hb).more hb.size⟩ ⟨by rw [List.length_drop, HLn.out] <;> omega, by omega, by unfold maxLen; omega, (HXR.out.below hb).more hb.size⟩).out
                        rw [HPD.out, cmp_self] at h
                        exact h))
                      have HG0 : Hid (Below wz.heap.size wz wz.drew) := Lib.hid ⟨rfl, rfl, rfl, Nat.le_refl _, fun _ _ => rfl⟩
                      obtain ⟨c1, c2, c3, c4⟩ := HSTEP.out wz.drew HG0.out
                      have he := fun w => run_eqL w (x1, x2) (x1, x2)
                      simp only [beq_self_eq_true] at he
                      have z1 : IntKind.i64.wrap ((j : Int) + 1) = (j : Int) + 1 := by rw [IntKind.wrap_i64]; omega
                      have z2 : IntKind.i64.wrap ((j : Int) + 1) = (j : Int) + 1 := by rw [IntKind.wrap_i64]; omega
                      have z3 : (0 : Int) ≤ (j : Int) := by omega
                      have z4 : (j : Int) < (j : Int) + 1 := by omega
                      have z5 : (j : Int) ≤ (j : Int) := by omega
                      have z6 : (j : Int) + 1 ≤ (j : Int) + 1 := by omega
                      have z7 : (0 : Int) ≤ (j : Int) + 1 := by omega
                      have z8 : ((j : Int) + 1).toNat = j + 1 := by omega
                      have z9 : (j : Int) ≤ ((cd : Nat) : Int) := by omega
                      have za : (j : Int) ≤ ((cx : Nat) : Int) := by omega
                      have zb : (j : Int) ≤ (j : Int) + 1 := by omega
                      have zc : (((j : Int) + 1) == (j : Int) + 1) = true := by simp
                      clear PA A3 HDR HXR
                      go_wp2
                      go_region_held3 (fun w' => Hid (Below wz.heap.size wz w') ∧ w'.cell? ⟨w.heap.size, 0, none⟩ = some (.string ⟨x1.toArray⟩) ∧ w'.cell? ⟨w.heap.size, 1, none⟩ = some (.string ⟨x2.toArray⟩) ∧ w'.cell? ⟨g2, o2 + j * 2, none⟩ = some (.string ⟨x1.toArray⟩) ∧ w'.cell? ⟨g2, o2 + j * 2 + 1, none⟩ = some (.string ⟨x2.toArray⟩)) (first | assumption | go_keep) (first
                        | (go_at_call 13; ((with_reducible refine (GC1 _ (by assumption)).out.mono ?_); rintro e w' ⟨rfl, g', y1, y2, y3, y4⟩))
                        | (go_at_call 13; ((with_reducible refine (GC2 _ (by assumption)).out.mono ?_); rintro e w' ⟨rfl, g', y1, y2, y3, y4⟩)))
                      all_goals
                        go_wp2
                        go_ret
                        exact ⟨rfl, (HB6.out.trans (HBz.out.mono HB6.out.size)).trans ((‹Hid (Below wz.heap.size wz _)›).out.mono (by have := HB6.out.size; have := HBz.out.size; omega))⟩
--END
          · have hr2 : ((r1 : Int) != 0) = true := by simp; omega
            go_wp2
            go_ret
            exact ⟨rfl, HB5.out⟩
  · obtain ⟨hce, hc2⟩ := canon_not hmay
    obtain ⟨ee, hee⟩ : ∃ z, (canon l).1 = z := ⟨_, rfl⟩
    obtain ⟨rr, hrr⟩ : ∃ z, canon l = z := ⟨_, rfl⟩
    rw [hrr] at A1l hc2 hee
    obtain ⟨r1, r2⟩ := rr
    simp only at hc2 hee A1l
    subst hc2
    subst hee
    rw [hrr] at hce
    have hq1 : ((r1 : Int) != 0) = true := by simp; simpa using hce
    simp only [List.length_nil] at A1l
    clear hrr hce hmay
    go_wp2_with fail
    refine (A1l w1 HL1.out).out.mono ?_
    rintro e w2 ⟨X, cx, rfl, hx, hb2⟩
    have HB2 := Lib.hid (below_step HB1.out hb2)
    clear hb2 hx
    go_wp2
    go_ret
    exact ⟨rfl, HB2.out⟩
end Go.Proofs.Ytngkhcbnndkdeaa.LbFindsW
