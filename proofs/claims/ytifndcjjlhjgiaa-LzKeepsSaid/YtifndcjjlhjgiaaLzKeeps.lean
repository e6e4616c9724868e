/- LzKeeps: for all bytes the statement's function answers true and leaves its argument as it was. No conditions. -/
import Derived.Test.YtifndcjjlhjgiaaLzRuns
import Derived.SizedLaws
import Derived.StillTailTactics
import Derived.Deep.QuietTactic
import Derived.BigQuiet
namespace Go.Proofs.Ytifndcjjlhjgiaa.lzKeeps
open Go Go.ChangeShapes Go.WideShapes Go.ChangeAt Go.RowKit Words Plain Put Own App LaySpec CompSpec Expand RefExp Comp Awake4 lzBack lzRuns Ope Bulk

theorem weigh_len1 {H : Type} {P : Program} {k : IntKind} {d : DataW H} {zs : List Int} {t e : TypeId} (ht : P.underlying t = some (.slice e)) (hb : P.bytesOf e = 1) (h : Lits k d zs) (hw : (d.weights P t).all (· ≤ reachBytes) = true) : zs.length ≤ 140737488351232 := by
  rcases h with ⟨rfl, rfl⟩ | ⟨sp, rfl⟩
  · simp
  · rw [DataW.weights, ht] at hw
    simp only [List.all_cons, Bool.and_eq_true, decide_eq_true_eq] at hw
    have h1 := hw.1
    simp only [lits, List.length_map, reachBytes, hb] at h1
    omega
/-- What is expanded is no more than a block may become. -/
theorem lay_len {size : Nat} : ∀ (n : Nat) (rest laid : List UInt8), rest.length ≤ n → laid.length ≤ size → (lay size rest laid).2.length ≤ size := by
  intro n
  induction n with
  | zero =>
    intro rest laid h hl
    obtain rfl : rest = [] := List.eq_nil_of_length_eq_zero (by omega)
    rw [lay_nil]
    split
    · simp
    · exact hl
  | succ n ih =>
    intro rest laid h hl
    by_cases hne : rest = []
    · subst hne
      rw [lay_nil]
      split
      · simp
      · exact hl
    · rw [lay_cons hne]
      split
      · simp
      · rename_i he
        have ht := part_takes (size := size) (rest := rest) (laid := laid) (by simpa using he)
        exact ih _ _ (by rw [List.length_drop]; omega) ht.2.2.1
theorem exp_len_le (b : List UInt8) (most : Int) : (exp b most).2.length ≤ 65536 := by
  unfold exp
  split
  · simp
  · split
    · simp
    · rename_i _ h
      have := lay_len (size := (dec 0 0 b).1) _ (b.drop (dec 0 0 b).2.1) [] (Nat.le_refl _) (by simp)
      omega

/-- What Compress answers of any bytes. -/
def cF (b : List UInt8) : List UInt8 := if b.length ≤ 65536 then comp b else []
def cE (b : List UInt8) : Int := if b.length ≤ 65536 then 0 else 4
def CAny (w : World) (F : List UInt8) (E : Int) (e : Ending) (w' : World) : Prop := ∃ v, e = .returned (.tuple #[v, .int .i64 E]) ∧ w'.ownsRow w.heap.size 5 1 v F.length (F.map B8) ∧ Below w.heap.size w w'
theorem comp_every (b : List UInt8) (A : Option Addr) (n c : Nat) (w : World) (hn : n = b.length) (hr : Rd w w.heap.size A (b.map B8)) (hc : n ≤ c) : Calls Try.prog 11 #[.slice A n c] w (CAny w (cF b) (cE b)) := by
  subst hn
  refine (comp_any b A c w hr hc).mono fun e w' hp => ?_
  rcases hp with ⟨h, rfl, hb⟩ | ⟨h, v, rfl, hown, hb⟩
  · unfold cF cE
    rw [if_neg (by omega), if_neg (by omega)]
    exact ⟨_, rfl, World.ownsRow_nil _ _ _ _, hb⟩
  · unfold cF cE
    rw [if_pos h, if_pos h]
    exact ⟨v, rfl, hown, hb⟩
theorem cF_len (b : List UInt8) : (cF b).length ≤ 70000 := by
  unfold cF
  split
  · rename_i h
    have := (comp_length h).1
    omega
  · simp

theorem byte_up (x : UInt8) : (((x.toNat : Nat) : Int) + 1) % 256 = (((x + 1).toNat : Nat) : Int) := by
  simp
/-- A byte of a row is raised by one. -/
theorem row_up {wr : World} {B n cap g j : Nat} {Xs : List UInt8} (h : wr.ownsRow B 5 1 (.slice (some ⟨g, 0, none⟩) n cap) n (Xs.map B8)) (x : UInt8) :
    (wr.setCell ⟨g, j, none⟩ (.int .u8 ((((x.toNat : Nat) : Int) + 1) % 256))).ownsRow B 5 1 (.slice (some ⟨g, 0, none⟩) n cap) n ((Xs.set j (x + 1)).map B8) := by
  have h1 := (h.stored j (.int .u8 ((((x.toNat : Nat) : Int) + 1) % 256))).1
  rw [List.map_set]
  rw [byte_up] at h1 ⊢
  exact h1

/-- The rows: what came in with five bytes more (vr), the compressed bytes (vc), what was expanded (vx, vy). -/
structure Rows4 (w : World) (R F Y : List UInt8) (m Br Bc Bx By : Nat) (vr vc vx vy : Value) (Fs Xs : List UInt8) (wr : World) : Prop where
  room : wr.ownsRow Br 5 1 vr R.length (R.map B8)
  cr : wr.ownsRow Bc 5 1 vc F.length (Fs.map B8)
  xr : wr.ownsRow Bx 5 1 vx m (Xs.map B8)
  yr : wr.ownsRow By 5 1 vy Y.length (Y.map B8)
  below : Below w.heap.size w wr
  big : By ≤ wr.heap.size
def RelX (w : World) (R F Y : List UInt8) (m Br Bc Bx By : Nat) (vr vc vx vy v : Value) (wr : World) : Prop := ∃ (j : Nat) (Xs : List UInt8), j ≤ m ∧ v = .int .i64 (j : Int) ∧ Rows4 w R F Y m Br Bc Bx By vr vc vx vy F Xs wr
def RelC (w : World) (R F Y : List UInt8) (m Br Bc Bx By : Nat) (vr vc vx vy v : Value) (wr : World) : Prop := ∃ (j : Nat) (Fs Xs : List UInt8), j ≤ F.length ∧ v = .int .i64 (j : Int) ∧ Rows4 w R F Y m Br Bc Bx By vr vc vx vy Fs Xs wr

set_option maxHeartbeats 6400000 in
set_option maxRecDepth 100000 in
theorem walk (w : World) (l : List UInt8) (A : Option Addr) (c : Nat) (hc : l.length ≤ c) (hm : c ≤ maxLen) (hr : Rd w w.heap.size A (l.map B8)) (hlen : l.length ≤ 140737488351232) :
    Calls Try.prog 6 #[.slice A l.length c] w fun e w' => e = .returned (.bool true) ∧ Below w.heap.size w w' := by
  obtain ⟨i0, hi, hz0, hz1, hz2⟩ := info_parts info_u8
  have HA := Lib.hid (awake_any w)
  have HR := Lib.hid hr
  have HCM := Lib.hid hm
  clear hr hm
  go_enter Try.func6, Try.ntmps6
  go_wp2_with fail
  refine HA.out.mono ?_
  rintro e w1 ⟨rfl, hb1⟩
  have hown0 := World.ownsRow_lit (base := w.heap.size) (e := 5) (size := 1) w1 #[] 0 hb1.size (by unfold maxLen; omega) rfl
  have HB1 := Lib.hid (hb1.alloc hb1.size (.cells #[] 5))
  clear hb1 HA
  go_wp2_with (at_builtin; refine wpList_append_rd (v := .slice (some ⟨w1.heap.size, 0, none⟩) 0 0) _ rfl (.tmp 16) (.tmp 17) 22 rfl w.heap.size 5 i0 (.int .u8 0) 1 Try.underlying22 hi hz0 hz1 hz2 rfl 0 [] rfl hown0 w.heap.size A l.length c (l.map B8) rfl (by simp) (HR.out.below HB1.out) (one8 l) ?c1 ?c2 HB1.out.size ?_)
  case c1 => unfold maxLen; omega
  case c2 => omega
  intro v2 w2 hown2 hg2 _
  have HB2 := Lib.hid (below_app hown0 HB1.out hg2)
  have hown2' : w2.ownsRow w.heap.size 5 1 v2 l.length (l.map B8) := by simpa using hown2
  have HO2 := Lib.hid hown2'
  clear hown0 hown2 hown2' hg2
  go_wp2_with (at_builtin; refine wpList_append_rd (v := v2) _ rfl (.tmp 18) (.tmp 19) 22 rfl w.heap.size 5 i0 (.int .u8 0) 1 Try.underlying22 hi hz0 hz1 hz2 rfl _ _ rfl (HO2.out.alloc _) (w2.heap.size + 1) (some ⟨w2.heap.size, 0, none⟩) 5 5 [.int .u8 1, .int .u8 2, .int .u8 3, .int .u8 4, .int .u8 5] rfl rfl (Rd.made w2 #[.int .u8 1, .int .u8 2, .int .u8 3, .int .u8 4, .int .u8 5] 5) ?d0 ?d1 ?d2 ?d3 ?_)
  case d0 => intro u hu; simp at hu; rcases hu with rfl | rfl | rfl | rfl | rfl <;> rfl
  case d1 => unfold maxLen; omega
  case d2 => omega
  case d3 => have := HB2.out.size; simp; omega
  intro v3 w3 hown3 hg3 _
  have HB3 := Lib.hid (below_app (HO2.out.alloc _) (HB2.out.alloc HB2.out.size _) hg3)
  obtain ⟨R, hR⟩ : ∃ R, l ++ [1, 2, 3, 4, 5] = R := ⟨_, rfl⟩
  have hRl : R.length = l.length + 5 := by rw [← hR]; simp
  have hown3' : w3.ownsRow w.heap.size 5 1 v3 R.length (R.map B8) := by
    rw [hRl, ← hR]
    simpa [B8] using hown3
  have HO3 := Lib.hid hown3'
  have hadd : ∀ w : World, (Op.stringOp .add ⟨l.toArray⟩ ⟨#[1, 2, 3, 4, 5]⟩).run Try.prog w = .ok (.string ⟨R.toArray⟩) w := fun w => by
    rw [run_string_add_sum _ _ _ (by show l.toArray.size + 5 ≤ _; simp; omega), ← hR]
    exact congrArg (fun s => Result.ok (Value.string s) w) (ByteArray.mk_append_mk l [1, 2, 3, 4, 5])
  have hRtk : R.take l.length = l := by rw [← hR, List.take_left' rfl]
  have HRL := Lib.hid hRl
  have hRlt : l.length + 5 ≤ R.length := by omega
  have hRle : R.length ≤ 140737488355327 := by omega
  obtain ⟨g3, c3, rfl, _, hg32, _⟩ := own_addr hown3' (by omega)
  have hc3 : R.length ≤ c3 ∧ c3 ≤ maxLen := by
    obtain ⟨A', c', e, h1, h2, _⟩ := own_slice hown3'
    injection e with _ _ e
    subst e
    exact ⟨h1, h2⟩
  obtain ⟨h31a, h31b⟩ := hc3
  have hlc3 : l.length ≤ c3 := by omega
  have RF : Hid (Rd w3 w3.heap.size (some ⟨g3, 0, none⟩) (l.map B8)) := by
    have h := (Rd.of_own hown3').take l.length
    rw [← List.map_take, hRtk] at h
    exact h
  have HC := Lib.hid (comp_every l (some ⟨g3, 0, none⟩) l.length c3 w3 rfl RF.out hlc3)
  have HX := fun w' (hb : Below w3.heap.size w3 w') => Lib.hid (exp_any l (some ⟨g3, 0, none⟩) c3 3000 w' ((RF.out.below hb).more hb.size) hlc3 h31b (by omega))
  have hXL := exp_len_le l 3000
  have hFL := cF_len l
  have HCE := Lib.hid (show (cE l == 0) = decide (l.length ≤ 65536) by unfold cE; split <;> simp_all)
  obtain ⟨F, hF⟩ : ∃ F, cF l = F := ⟨_, rfl⟩
  obtain ⟨E, hE⟩ : ∃ E, cE l = E := ⟨_, rfl⟩
  obtain ⟨E2, X, hX⟩ : ∃ E X, exp l 3000 = (E, X) := ⟨_, _, rfl⟩
  rw [hF, hE] at HC
  rw [hE] at HCE
  rw [hF] at hFL
  rw [hX] at HX hXL
  have L3 := Lib.hid (fun k hk => (hown3'.lt k hk).2)
  clear hown3 hown3' hg3 HO2 HB1 HB2 hF hE hX hR hRl
  go_wp2_with fail
  refine HC.out.mono ?_
  rintro e w4 ⟨v4, rfl, hown4, hb4⟩
  have HB4 := Lib.hid (below_step HB3.out hb4)
  have HBR4 := Lib.hid hb4
  have HSZ3 := Lib.hid (HB3.out.size)
  have HSZ4 := Lib.hid hb4.size
  have HO34 := Lib.hid (own_keep HO3.out hb4)
  have HO4 := Lib.hid hown4
  have L4 := Lib.hid (fun k hk => (hown4.lt k hk).2)
  have H5 := Lib.hid (HX w4 hb4)
  clear hown4 hb4 HB3 HO3 HC
  go_wp2_with fail
  refine H5.out.out.mono ?_
  rintro e w5 ⟨v5, rfl, hown5, hb5⟩
  have HB5 := Lib.hid (below_step HB4.out hb5)
  have HBR5 := Lib.hid (below_step HBR4.out hb5)
  have HSZ5 := Lib.hid hb5.size
  have HO35 := Lib.hid (own_keep HO34.out hb5)
  have HO45 := Lib.hid (own_keep HO4.out hb5)
  have HO5 := Lib.hid hown5
  have L5 := Lib.hid (fun k hk => (hown5.lt k hk).2)
  have H6 := Lib.hid (HX w5 HBR5.out)
  clear hown5 hb5 HB4 HBR4 HO34 HO4 H5 HX
  go_wp2_with fail
  refine H6.out.out.mono ?_
  rintro e w6 ⟨v6, rfl, hown6, hb6⟩
  have HB6 := Lib.hid (below_step HB5.out hb6)
  have HSZ6 := Lib.hid hb6.size
  have HO36 := Lib.hid (own_keep HO35.out hb6)
  have HO46 := Lib.hid (own_keep HO45.out hb6)
  have HO56 := Lib.hid (own_keep HO5.out hb6)
  have HO6 := Lib.hid hown6
  obtain ⟨A4, c4, rfl, _, _, _⟩ := own_slice HO46.out
  obtain ⟨A5, c5, rfl, _, _, _⟩ := own_slice HO56.out
  obtain ⟨A6, c6, rfl, _, _, _⟩ := own_slice hown6
  have s3 := run_str w6 (some ⟨g3, 0, none⟩) R.length c3 rfl (Rd.of_own HO36.out)
  have s0 := run_str w6 A l.length c rfl (HR.out.below HB6.out)
  have s5 := run_str w6 A5 X.length c5 rfl (Rd.of_own HO56.out)
  have s6 := run_str w6 A6 X.length c6 rfl (Rd.of_own hown6)
  have e1 : (R == R) = true := by simp
  have e1' : (R != R) = false := by simp
  have e2 : (X == X) = true := by simp
  have e2' : (X != X) = false := by simp
  clear hown6 hb6 HB5 HBR5 HO35 HO45 HO5 H6
  have HROWS : Hid (Rows4 w R F X X.length w.heap.size w3.heap.size w4.heap.size w5.heap.size (.slice (some ⟨g3, 0, none⟩) R.length c3) (.slice A4 F.length c4) (.slice A5 X.length c5) (.slice A6 X.length c6) F X w6) := Lib.hid ⟨HO36.out, HO46.out, HO56.out, HO6.out, HB6.out, HSZ6.out⟩
  have S34 : Hid (w.heap.size ≤ w3.heap.size ∧ w3.heap.size ≤ w4.heap.size ∧ w4.heap.size ≤ w5.heap.size) := Lib.hid ⟨HSZ3.out, HSZ4.out, HSZ5.out⟩
  generalize w3.heap.size = Bc at *
  generalize w4.heap.size = Bx at *
  generalize w5.heap.size = By at *
  clear HO36 HO46 HO56 HO6 HB6 HSZ3 HSZ4 HSZ5 HSZ6
  go_wp2
  clear s3 s0 s5 s6 hadd
  go_loopw [11] (fun v wr => RelX w R F X X.length w.heap.size Bc Bx By (.slice (some ⟨g3, 0, none⟩) R.length c3) (.slice A4 F.length c4) (.slice A5 X.length c5) (.slice A6 X.length c6) v wr) (fun v _ => X.length - (intOf v).toNat)
  case atStart => exact ⟨0, X, by omega, rfl, HROWS.out⟩
  case round =>
    obtain ⟨j, Xs, hj, rfl, hrows⟩ := hrel
    clear HROWS
    by_cases hlt : j < X.length
    · obtain ⟨hR4, hC4, hX4, hY4, hB4, hbig⟩ := hrows
      obtain ⟨gx, cx, hv, hgx1, hgx2, _⟩ := own_addr hX4 (by omega)
      injection hv with hv1 hv2 hv3
      subst hv1 hv3
      have hxl : Xs.length = X.length := by have := hX4.1; simpa using this
      have hc1 : wr.cell? ⟨gx, j, none⟩ = some (.int .u8 (((Xs[j]'(by omega)).toNat : Nat) : Int)) := by
        rw [hX4.cellAt j (by omega)]
        simp [B8, hxl, hlt]
      have hfr := hX4.frozenAt j
      have hxx := (Xs[j]'(by omega)).toNat_lt
      generalize hx0 : Xs[j]'(by omega) = x0 at *
      have HX2 := Lib.hid (row_up (j := j) hX4 x0)
      have HR2 := Lib.hid (ownsRow_setCell_other (a := ⟨gx, j, none⟩) hR4 (fun e => by have h1 := L3.out gx e; have h2 := S34.out; omega) (.int .u8 ((((x0.toNat : Nat) : Int) + 1) % 256)))
      have HC2 := Lib.hid (ownsRow_setCell_other (a := ⟨gx, j, none⟩) hC4 (fun e => by have h1 := L4.out gx e; omega) (.int .u8 ((((x0.toNat : Nat) : Int) + 1) % 256)))
      have HY2 := Lib.hid (ownsRow_setCell_other (a := ⟨gx, j, none⟩) hY4 (fun e => by have h1 := (hY4.lt gx e).1; have h2 := L5.out gx rfl; omega) (.int .u8 ((((x0.toNat : Nat) : Int) + 1) % 256)))
      have HB2 := Lib.hid (hB4.setCell (p := ⟨gx, j, none⟩) (by have h2 := S34.out; show w.heap.size ≤ gx; omega) (.int .u8 ((((x0.toNat : Nat) : Int) + 1) % 256)))
      clear hR4 hC4 hX4 hY4 hB4 hxl hx0
      go_wp2
      go_roundw
      case rel => exact ⟨j + 1, _, by omega, by go_num, ⟨HR2.out, HC2.out, HX2.out, HY2.out, HB2.out, by simpa using hbig⟩⟩
      case measure => simp [intOf]; omega
    · have HROWS := Lib.hid hrows
      clear hrows
      go_wp2
      go_loopw [12] (fun v wr => RelC w R F X X.length w.heap.size Bc Bx By (.slice (some ⟨g3, 0, none⟩) R.length c3) (.slice A4 F.length c4) (.slice A5 X.length c5) (.slice A6 X.length c6) v wr) (fun v _ => F.length - (intOf v).toNat)
      case atStart => exact ⟨0, F, Xs, by omega, rfl, HROWS.out⟩
      case round =>
        obtain ⟨i, Fs, Xs, hi', rfl, hrows⟩ := hrel
        clear HROWS
        by_cases hif : i < F.length
        · obtain ⟨hR4, hC4, hX4, hY4, hB4, hbig⟩ := hrows
          obtain ⟨gc, cc, hv, hgc1, hgc2, _⟩ := own_addr hC4 (by omega)
          injection hv with hv1 hv2 hv3
          subst hv1 hv3
          have hfl : Fs.length = F.length := by have := hC4.1; simpa using this
          have hc1 : wr.cell? ⟨gc, i, none⟩ = some (.int .u8 (((Fs[i]'(by omega)).toNat : Nat) : Int)) := by
            rw [hC4.cellAt i (by omega)]
            simp [B8, hfl, hif]
          have hfr := hC4.frozenAt i
          have hxx := (Fs[i]'(by omega)).toNat_lt
          generalize hx0 : Fs[i]'(by omega) = x0 at *
          have HC2 := Lib.hid (row_up (j := i) hC4 x0)
          have HR2 := Lib.hid (ownsRow_setCell_other (a := ⟨gc, i, none⟩) hR4 (fun e => by have h1 := L3.out gc e; omega) (.int .u8 ((((x0.toNat : Nat) : Int) + 1) % 256)))
          have HX2 := Lib.hid (ownsRow_setCell_other (a := ⟨gc, i, none⟩) hX4 (fun e => by have h1 := (hX4.lt gc e).1; have h2 := L4.out gc rfl; omega) (.int .u8 ((((x0.toNat : Nat) : Int) + 1) % 256)))
          have HY2 := Lib.hid (ownsRow_setCell_other (a := ⟨gc, i, none⟩) hY4 (fun e => by have h1 := (hY4.lt gc e).1; have h2 := L4.out gc rfl; have h3 := S34.out; omega) (.int .u8 ((((x0.toNat : Nat) : Int) + 1) % 256)))
          have HB2 := Lib.hid (hB4.setCell (p := ⟨gc, i, none⟩) (by have h2 := S34.out; show w.heap.size ≤ gc; omega) (.int .u8 ((((x0.toNat : Nat) : Int) + 1) % 256)))
          clear hR4 hC4 hX4 hY4 hB4 hfl hx0
          go_wp2
          go_roundw
          case rel => exact ⟨i + 1, _, _, by omega, by go_num, ⟨HR2.out, HC2.out, HX2.out, HY2.out, HB2.out, by simpa using hbig⟩⟩
          case measure => simp [intOf]; omega
        · obtain ⟨hR4, hC4, hX4, hY4, hB4, hbig⟩ := hrows
          have hxl : Xs.length = X.length := by have := hX4.1; simpa using this
          have HX4 := Lib.hid hX4
          have HR4 := Lib.hid hR4
          have HY4 := Lib.hid hY4
          have HB4 := Lib.hid hB4
          have hBx : w.heap.size ≤ Bx := by have h2 := S34.out; omega
          have hBx2 : Bx ≤ wr.heap.size := by have h2 := S34.out; omega
          clear hR4 hC4 hX4 hY4 hB4
          go_wp2_with (at_builtin; refine wpList_append_rd (v := .slice A5 X.length c5) _ rfl (.tmp 93) (.tmp 94) 22 rfl Bx 5 i0 (.int .u8 0) 1 Try.underlying22 hi hz0 hz1 hz2 rfl _ _ rfl (HX4.out.alloc _) (wr.heap.size + 1) (some ⟨wr.heap.size, 0, none⟩) 3 3 [.int .u8 9, .int .u8 9, .int .u8 9] rfl rfl (Rd.made wr #[.int .u8 9, .int .u8 9, .int .u8 9] 5) ?k0 ?k1 ?k2 ?k3 ?_)
          case k0 => intro u hu; simp at hu; subst hu; rfl
          case k1 => unfold maxLen; omega
          case k2 => omega
          case k3 => simp; omega
          intro v9 w9 hown9 hg9 _
          have HB9 := Lib.hid ((HB4.out.alloc HB4.out.size (.cells #[.int .u8 9, .int .u8 9, .int .u8 9] 5)).grown hg9 (by have h := HB4.out.size; simp; omega) (fun k hk => by have h := (HX4.out.lt k hk).1; omega))
          have HY9 := Lib.hid ((HY4.out.alloc (.cells #[.int .u8 9, .int .u8 9, .int .u8 9] 5)).kept hg9 (by
            cases hq : (Value.slice A6 X.length c6).ownBlock with
            | none => exact .inl rfl
            | some k =>
              refine .inr fun e => ?_
              have h1 := (HY4.out.lt k hq).1
              have h2 := L5.out k e.symm
              omega))
          have HR9 := Lib.hid ((HR4.out.alloc (.cells #[.int .u8 9, .int .u8 9, .int .u8 9] 5)).kept hg9 (by
            refine .inr fun e => ?_
            have h1 := L3.out g3 rfl
            have h2 := (HX4.out.lt g3 e.symm).1
            have h3 := S34.out
            omega))
          obtain ⟨A9, c9, rfl, _, _, _⟩ := own_slice hown9
          have RL9 : Rd w9 w9.heap.size (some ⟨g3, 0, none⟩) (l.map B8) := by
            have h := (Rd.of_own HR9.out).take l.length
            rw [← List.map_take, hRtk] at h
            exact h
          have s6 := run_str w9.drew A6 X.length c6 rfl (Rd.of_own HY9.out).drew
          have s3 := run_str w9.drew (some ⟨g3, 0, none⟩) l.length c3 rfl RL9.drew
          have s0 := run_str w9.drew A l.length c rfl (HR.out.below HB9.out).drew
          have e3 : (l == l) = true := by simp
          have hsum : IntKind.i64.wrap ((X.length : Int) + 3) = (X.length : Int) + 3 := IntWalk.i64_in _ (by omega)
          have hlc3i : (l.length : Int) ≤ (c3 : Int) := by omega
          have hl0 : (0 : Int) ≤ (l.length : Int) := by omega
          clear HX4 HR4 HY4 HB4 HY9 HR9 RL9 hown9 hg9 hxl
          by_cases h65 : l.length ≤ 65536
          · have hE0 : (E == 0) = true := by rw [HCE.out]; simpa using h65
            have hd1 : decide ((l.length : Int) ≤ 65536) = true := by simp; omega
            have hd2 : decide (l.length ≤ 65536) = true := by simp; omega
            go_wp2
            refine wp_region_still_lit (by kernel_rfl) (by kernel_rfl) ?_
            iterate 31 (refine wpStill_step (fun K hK => ?_); go_simp; refine hK _ ?_; clear hK K)
            refine wpStill_nil ?_
            go_wp2
            go_ret
            exact ⟨rfl, below_step HB9.out (below_drewN w9 1)⟩
          · have hE0 : (E == 0) = false := by rw [HCE.out]; simpa using h65
            have hd1 : decide ((l.length : Int) ≤ 65536) = false := by simp; omega
            have hd2 : decide (l.length ≤ 65536) = false := by simp; omega
            go_wp2
            refine wp_region_still_lit (by kernel_rfl) (by kernel_rfl) ?_
            iterate 31 (refine wpStill_step (fun K hK => ?_); go_simp; refine hK _ ?_; clear hK K)
            refine wpStill_nil ?_
            go_wp2
            go_ret
            exact ⟨rfl, below_step HB9.out (below_drewN w9 1)⟩
theorem own : ownKnob Try.prog.godebug = none := by kernel_rfl
theorem laid : laidOutB Try.prog = true := by kernel_rfl
theorem allRead : (Try.f6.params.toList.all fun t => Try.prog.readableRec t && decide (t < Try.prog.types.size)) = true := by kernel_rfl
theorem contract (H : Type) (enc : TypeId × Value → H) (W : World) (base : Nat) (args : Array Value) (ds gs : List (DataW H)) (before : List MemPlace)
    (hval : ∀ (j : Nat) t v, Try.f6.params[j]? = some t → args[j]? = some v → Value.okWide Try.prog W .any base t v)
    (hW : DataW.Whole enc Try.prog Try.f6.params.toList Rows.lzKeepsSpec.vars false W args.toList ds gs before) (hwt : (DataW.weightsEach Try.prog (Try.f6.params.toList ++ Rows.lzKeepsSpec.plain.varTypes Try.prog) (ds ++ gs)).all (· ≤ reachBytes) = true) :
    Calls Try.prog 6 args W fun e W' => ∃ v, e = .returned v ∧ Rows.lzKeepsSpec.post enc Try.prog Try.f6 false true false false W args v W' := by
  have hW' := hW
  obtain ⟨p, q, hA0, hV, rfl, hfz, hnd⟩ := hW
  obtain ⟨rfl, rfl⟩ := trodVars_none hV
  have hlt : ∀ x ∈ p, x.block < W.heap.size := fun x hx => hW'.lt x (by simp [hx])
  have hA : DataW.TrodAll enc Try.prog W 0 (fun _ => true) true Try.f6.params.toList args.toList ds p := hA0
  rw [Try.params6] at hA hval
  obtain ⟨v0, vs0, d0, ds0, p0, q0, hargs, rfl, rfl, h0, r0⟩ := trodAll_cons hA
  obtain ⟨rfl, rfl, rfl⟩ := trodAll_nil r0
  obtain rfl : args = #[v0] := by cases args; simp_all
  rw [Try.params6] at hwt
  obtain ⟨y0, z0⟩ := weigh_cons hwt
  obtain ⟨A0, l0, c0, rfl, hl0, hm0, hr0, hd0⟩ := open_u8s Try.underlying22 Try.underlying5 (by kernel_rfl) (hval 0 22 v0 rfl rfl) h0 (fun x hx => hlt x (by simp [hx]))
  have hb0 : l0.length ≤ 140737488351232 := by have h := weigh_len1 Try.underlying22 (by decide +kernel) hd0 y0; rwa [List.length_map] at h
  refine (walk W l0 A0 c0 hl0 hm0 hr0 hb0).mono fun e W' ⟨he, hb⟩ => ?_
  subst he
  exact ⟨_, rfl, law_post laid (fun t ht => by have h := List.all_eq_true.1 allRead t ht; rw [Bool.and_eq_true, decide_eq_true_eq] at h; exact h) rfl (by kernel_rfl) Try.underlying4 rfl hW' hb⟩
set_option maxRecDepth 100000 in
theorem lifted (os : Os) (started : os.Started) (H : Type) (enc : TypeId × Value → H) :
    ReturnsInHanded {} Try.checked os 6 .any (Rows.lzKeepsSpec.pre6 enc Try.prog Try.f6 Rows.lzKeepsRow.domain false) (Rows.lzKeepsSpec.post enc Try.prog Try.f6 false true false false) := by
  refine returnsInHanded_of_change_sized (C := Try.checked) own started (by kernel_rfl) Try.func6
    (ChangeSpec.witness6 (enc := enc) (C := Try.checked) false ⟨#[], #[.slice none 0 0], []⟩ 8 (by kernel_rfl) (by kernel_rfl) (by kernel_rfl) (by kernel_rfl)) ?_
  intro W base args ds gs before hval hW _ hwt _
  exact contract H enc W base args ds gs before hval hW hwt
theorem over : Rows.lzKeepsRow.holds Try.pinned (OpenSpec.ofChange Rows.lzKeepsSpec) :=
  OpenClaim.holds_of_wide 6 Try.f6 rfl rfl rfl rfl rfl rfl rfl ⟨rfl, rfl, rfl, rfl, rfl⟩ rfl rfl rfl rfl rfl (by kernel_rfl) Try.func6 (by kernel_rfl)
    (of_decide_eq_true (by kernel_rfl)) (by unfold Func.isWrapper; first | (rw [if_pos (by decide +kernel)]; kernel_rfl) | (rw [if_neg (by decide +kernel)]; exact ⟨rfl, rfl⟩))
    (fun os started H enc _ => lifted os started H enc)
theorem proved : Rows.LzKeepsSaid := over

end Go.Proofs.Ytifndcjjlhjgiaa.lzKeeps
