/- The program's text of a list of labels: writeLabel, Write. Condition: the text has at most 2^24 bytes. -/
import Derived.Test.YtngkhcbnndkdeaaLbWrite
import Derived.Test.YtngkhcbnndkdeaaUtShelf
import Derived.Test.YtngkhcbnndkdeaaLpCopy
import Derived.Lib.IndexBytes
namespace Go.Proofs.Ytngkhcbnndkdeaa.LpWrite
open Go Go.RowKit Words AppN Less LbSpec LbText LbMem LbRef LbCmp LbWrite UtOwn UtShelf LpOrd LpBoth LpCmp LpCopy

/-- The builder in block b holds acc; all that lay below B, and what is no row of bytes, is as it was. -/
def Wr (b : Nat) (acc : List UInt8) (w w' : World) : Prop :=
  Lib.IsBuilderF 54 5 b b (Lib.byteCells acc) w' ∧ Below b w w' ∧ Lib.OthersKept 5 (some b) w w'
theorem Wr.trans {b : Nat} {acc acc' : List UInt8} {w w1 w2 : World} (h : Wr b acc w w1) (h' : Wr b acc' w1 w2) : Wr b acc' w w2 := ⟨h'.1, h.2.1.trans h'.2.1, h.2.2.trans h'.2.2⟩
theorem Wr.box {b k : Nat} {acc : List UInt8} {w w' : World} (h : Wr b acc w w') {cs : Array Value} (hk : k ≠ b) (hc : w.heap[k]? = some (.cells cs 37 (0, 0))) : w'.heap[k]? = some (.cells cs 37 (0, 0)) :=
  h.2.2 k _ hc (by simpa using hk) (fun c fz e => by injection e with _ e2; cases e2)
theorem Wr.le {b : Nat} {acc : List UInt8} {w w' : World} (h : Wr b acc w w') (hb : b ≤ w.heap.size) : b ≤ w'.heap.size := Nat.le_trans hb h.2.1.size
def IsB (b : Nat) (acc : List UInt8) (w : World) : Prop := Lib.IsBuilderF 54 5 b b (Lib.byteCells acc) w
theorem Wr.is {b : Nat} {acc : List UInt8} {w w' : World} (h : Wr b acc w w') : IsB b acc w' := h.1

theorem byte_any (b : Nat) (acc : List UInt8) (c : UInt8) (w : World) (h : IsB b acc w) (hl : acc.length + 1 ≤ 140737488355328) (hb : b ≤ w.heap.size) :
    Calls Try.prog 28 #[.pointer (some ⟨b, 0, none⟩), .int .u8 (c.toNat : Int)] w fun e w' => e = .returned .nilIface ∧ Wr b (acc ++ [c]) w w' :=
  (Builder_WriteByte_k b b _ (c.toNat : Int) w h (by rw [Lib.byteCells_length]; exact hl) hb).mono fun _ _ ⟨he, h1, h2, h3⟩ => ⟨he, by rw [Lib.byteCells_append]; exact Or.inr h1, h2, h3⟩
theorem text_any (b : Nat) (acc s : List UInt8) (w : World) (h : IsB b acc w) (hl : acc.length + s.length ≤ 140737488355328) (hb : b ≤ w.heap.size) :
    Calls Try.prog 42 #[.pointer (some ⟨b, 0, none⟩), .string ⟨s.toArray⟩] w fun e w' => e = .returned (.tuple #[.int .i64 (s.length : Int), .nilIface]) ∧ Wr b (acc ++ s) w w' :=
  (Builder_WriteString_k b b _ ⟨s.toArray⟩ w h (by rw [Lib.byteCells_length, size_len]; exact hl) hb).mono fun _ _ ⟨he, h1, h2, h3⟩ => ⟨by rw [he, size_len], by rw [Lib.byteCells_append]; exact Or.inr h1, h2, h3⟩

/-- Within the loop: the first k bytes of the value are written. -/
def WRel (b : Nat) (acc : List UInt8) (x : Lab) (w0 : World) (v : Value) (wr : World) : Prop :=
  ∃ k : Nat, k ≤ x.2.length ∧ v = .int .i64 (k : Int) ∧ Hid (Wr b (acc ++ (x.1 ++ (61 :: 34 :: esc (x.2.take k)))) w0 wr)

set_option maxHeartbeats 6400000 in
set_option maxRecDepth 100000 in
/-- label.writeLabel. -/
theorem wlabel_any (b : Nat) (acc : List UInt8) (x : Lab) (w : World) (h : IsB b acc w) (hl : acc.length + x.1.length + 2 * x.2.length + 8 ≤ 1099511627776) (hb : b < w.heap.size) :
    Calls Try.prog 29 #[.pointer (some ⟨b, 0, none⟩), aggL x] w fun e w' => e = .returned (.tuple #[]) ∧ Wr b (acc ++ one x) w w' := by
  obtain ⟨x1, x2⟩ := x
  simp only at hl
  have hW : Wr b acc w (w.alloc (.cells #[S8 x1, S8 x2] 37)) := ⟨h.alloc _, (Below.refl _ w).mono (Nat.le_of_lt hb) |>.alloc (Nat.le_of_lt hb) _, (Lib.OthersKept.refl _ _ w).alloc _⟩
  have HX0 := Lib.hid (heap_alloc_new w (.cells #[S8 x1, S8 x2] 37))
  have HT1 := Lib.hid (text_any b acc x1 _ hW.is (by omega) (hW.le (Nat.le_of_lt hb)))
  have HW0 := Lib.hid hW
  have hne : w.heap.size ≠ b := by omega
  have HLEN := Lib.hid hl
  have hlx : x2.length ≤ 1099511627776 := by omega
  have HBW := Lib.hid (Nat.le_of_lt hb)
  unfold aggL
  unfold S8 at HT1 HX0 HW0 ⊢
  clear hW h hl hb
  go_enter Try.func29, Try.ntmps29
  go_wp2_with fail
  refine HT1.out.mono ?_
  rintro e w1 ⟨rfl, h1⟩
  have HW1 := Lib.hid (HW0.out.trans h1)
  have HX1 := Lib.hid (h1.box (k := w.heap.size) hne HX0.out)
  have HT2 := Lib.hid (text_any b (acc ++ x1) [61, 34] w1 h1.is (by have := HLEN.out; simp; omega) (HW1.out.le HBW.out))
  clear h1 HT1 HW0 HX0
  go_wp2_with fail
  refine HT2.out.mono ?_
  rintro e w2 ⟨rfl, h2⟩
  have HW2 := Lib.hid (HW1.out.trans h2)
  have HX2 := Lib.hid (h2.box (k := w.heap.size) hne HX1.out)
  have k21 : w2.cell? ⟨w.heap.size, 1, none⟩ = some (.string ⟨x2.toArray⟩) := cell_of HX2.out rfl
  clear h2 HT2 HX1
  obtain ⟨V, hV⟩ : ∃ V, V = (⟨x2.toArray⟩ : ByteArray) := ⟨_, rfl⟩
  have hVs : V.size = x2.length := by rw [hV]; exact size_len x2
  have HVV := Lib.hid hV
  rw [← hV] at k21
  clear hV
  go_wp2
  have HREF : Hid (Wr b (acc ++ x1 ++ [61, 34]) w2 w2) := Lib.hid ⟨HW2.out.1, (Below.refl _ w2).mono (HW2.out.le HBW.out), Lib.OthersKept.refl _ _ w2⟩
  go_loopw [15] (fun v wr => WRel b acc (x1, x2) w2 v wr) (fun v _ => x2.length - (intOf v).toNat)
  case atStart => exact ⟨0, Nat.zero_le _, rfl, Lib.hid (by have := HREF.out; simpa [esc] using this)⟩
  case round =>
    obtain ⟨k, hk, rfl, HR⟩ := hrel
    have hk' : k ≤ x2.length := hk
    clear hk k21 HREF
    have HXr := Lib.hid (HR.out.box (k := w.heap.size) hne HX2.out)
    have kr1 : wr.cell? ⟨w.heap.size, 1, none⟩ = some (.string ⟨x2.toArray⟩) := cell_of HXr.out rfl
    rw [← HVV.out] at kr1
    obtain ⟨P, hP⟩ : ∃ P, P = acc ++ (x1 ++ (61 :: 34 :: esc (x2.take k))) := ⟨_, rfl⟩
    have HR2 : Hid (Wr b P w2 wr) := Lib.hid (by rw [hP]; exact HR.out)
    have HPL : Hid (P.length ≤ acc.length + x1.length + 2 * k + 2) := Lib.hid (by
      have h1 : (esc (x2.take k)).length ≤ 2 * k := by
        have h2 : ∀ v : List UInt8, (esc v).length ≤ 2 * v.length := by
          intro v
          induction v with
          | nil => simp [esc]
          | cons c v ih =>
            rw [esc_cons, List.length_append, List.length_cons]
            have : (esc1 c).length ≤ 2 := by
              unfold esc1
              split
              · simp
              · split <;> simp
            omega
        have := h2 (x2.take k)
        rw [List.length_take] at this
        omega
      rw [hP]
      simp
      omega)
    have hbr : b ≤ wr.heap.size := HR2.out.le (HW2.out.le HBW.out)
    by_cases hlt : k < x2.length
    · have hltV : k < V.size := by omega
      obtain ⟨q, hq⟩ : ∃ q, x2[k] = q := ⟨_, rfl⟩
      obtain ⟨n, hn⟩ : ∃ n, (V[k]'hltV).toNat = n := ⟨_, rfl⟩
      have hqn : q.toNat = n := by
        rw [← hn, ← hq]
        have := HVV.out
        subst this
        rfl
      have HPX : Hid (P ++ esc1 q = acc ++ (x1 ++ (61 :: 34 :: esc (x2.take (k + 1))))) := Lib.hid (by
        rw [hP, esc_next hlt, hq]
        simp)
      have HB1 := fun (c : UInt8) (Q : List UInt8) (w' : World) (h : Wr b Q w2 w') (hl : Q.length + 1 ≤ 140737488355328) => Lib.hid (byte_any b Q c w' h.is hl (h.le (HW2.out.le HBW.out)))
      have HT3 := Lib.hid (text_any b P [92, 110] wr HR2.out.is (by have := HPL.out; have := HLEN.out; simp; omega) hbr)
      have HLL : Hid (P.length + 4 ≤ 140737488355328) := Lib.hid (by have := HPL.out; have := HLEN.out; omega)
      clear hP HR hq hbr
      by_cases c1 : n = 34 ∨ n = 92
      · have he : esc1 q = [92, q] := by
          unfold esc1
          rw [if_pos]
          rcases c1 with c1 | c1
          · exact .inl (UInt8.toNat_inj.1 (by rw [hqn, c1]; rfl))
          · exact .inr (UInt8.toNat_inj.1 (by rw [hqn, c1]; rfl))
        rw [he] at HPX
        have HA := HB1 92 P wr HR2.out (by have := HLL.out; omega)
        have HA2 := fun w' (h : Wr b (P ++ [92]) w2 w') => HB1 q (P ++ [92]) w' h (by have := HLL.out; simp; omega)
        rw [hqn] at HA2
        rw [show ((92 : UInt8).toNat : Int) = 92 from rfl] at HA
        clear he HB1 HT3
        have c1' : ((n : Int) == 34) = true ∨ ((n : Int) == 34) = false ∧ ((n : Int) == 92) = true := by
          rcases c1 with c1 | c1
          · exact .inl (beq_iff_eq.2 (by omega))
          · exact .inr ⟨beq_eq_false_iff_ne.2 (by omega), beq_iff_eq.2 (by omega)⟩
        clear c1
        rcases c1' with c1 | ⟨c1, c2⟩
        · go_wp2_with fail
          refine HA.out.mono ?_
          rintro e w3 ⟨rfl, h3⟩
          have HR3 := Lib.hid (HR2.out.trans h3)
          clear h3 HA
          go_wp2_with fail
          refine (HA2 _ HR3.out).out.mono ?_
          rintro e w4 ⟨rfl, h4⟩
          have HR4 : Hid (Wr b (acc ++ (x1 ++ (61 :: 34 :: esc (x2.take (k + 1))))) w2 w4) := Lib.hid (by
            have := HR3.out.trans h4
            rw [List.append_assoc] at this
            rw [← HPX.out]
            exact this)
          clear h4 HA2
          go_wp2
          go_roundw
          case rel => exact ⟨k + 1, hlt, by go_num, HR4⟩
          case measure => simp [intOf]; omega
        · go_wp2_with fail
          refine HA.out.mono ?_
          rintro e w3 ⟨rfl, h3⟩
          have HR3 := Lib.hid (HR2.out.trans h3)
          clear h3 HA
          go_wp2_with fail
          refine (HA2 _ HR3.out).out.mono ?_
          rintro e w4 ⟨rfl, h4⟩
          have HR4 : Hid (Wr b (acc ++ (x1 ++ (61 :: 34 :: esc (x2.take (k + 1))))) w2 w4) := Lib.hid (by
            have := HR3.out.trans h4
            rw [List.append_assoc] at this
            rw [← HPX.out]
            exact this)
          clear h4 HA2
          go_wp2
          go_roundw
          case rel => exact ⟨k + 1, hlt, by go_num, HR4⟩
          case measure => simp [intOf]; omega
      · have d1 : ((n : Int) == 34) = false := beq_eq_false_iff_ne.2 (by omega)
        have d2 : ((n : Int) == 92) = false := beq_eq_false_iff_ne.2 (by omega)
        have hq1 : ¬ (q = 34 ∨ q = 92) := by
          rintro (h | h)
          · exact c1 (.inl (by rw [← hqn, h]; rfl))
          · exact c1 (.inr (by rw [← hqn, h]; rfl))
        by_cases c3 : n = 10
        · have he : esc1 q = [92, 110] := by
            unfold esc1
            rw [if_neg hq1, if_pos]
            exact UInt8.toNat_inj.1 (by rw [hqn, c3]; rfl)
          rw [he] at HPX
          have d3 : ((n : Int) == 10) = true := beq_iff_eq.2 (by omega)
          clear he hq1 c1 c3 HB1
          go_wp2_with fail
          refine HT3.out.mono ?_
          rintro e w3 ⟨rfl, h3⟩
          have HR4 : Hid (Wr b (acc ++ (x1 ++ (61 :: 34 :: esc (x2.take (k + 1))))) w2 w3) := Lib.hid (by rw [← HPX.out]; exact HR2.out.trans h3)
          clear h3 HT3
          go_wp2
          go_roundw
          case rel => exact ⟨k + 1, hlt, by go_num, HR4⟩
          case measure => simp [intOf]; omega
        · have he : esc1 q = [q] := by
            unfold esc1
            rw [if_neg hq1, if_neg]
            intro h
            exact c3 (by rw [← hqn, h]; rfl)
          rw [he] at HPX
          have d3 : ((n : Int) == 10) = false := beq_eq_false_iff_ne.2 (by omega)
          have HA := HB1 q P wr HR2.out (by have := HLL.out; omega)
          rw [hqn] at HA
          clear he hq1 c1 c3 HB1 HT3
          go_wp2_with fail
          refine HA.out.mono ?_
          rintro e w3 ⟨rfl, h3⟩
          have HR4 : Hid (Wr b (acc ++ (x1 ++ (61 :: 34 :: esc (x2.take (k + 1))))) w2 w3) := Lib.hid (by rw [← HPX.out]; exact HR2.out.trans h3)
          clear h3 HA
          go_wp2
          go_roundw
          case rel => exact ⟨k + 1, hlt, by go_num, HR4⟩
          case measure => simp [intOf]; omega
    · have hkl : k = x2.length := by omega
      have HFIN := Lib.hid (byte_any b P 34 wr HR2.out.is (by have := HPL.out; have := HLEN.out; omega) hbr)
      rw [show ((34 : UInt8).toNat : Int) = 34 from rfl] at HFIN
      have HPX : Hid (P ++ [34] = acc ++ one (x1, x2)) := Lib.hid (by
        rw [hP, hkl, List.take_length]
        unfold one
        simp)
      clear hP HR hbr hlt
      subst hkl
      go_wp2_with fail
      refine HFIN.out.mono ?_
      rintro e w3 ⟨rfl, h3⟩
      have HR4 : Hid (Wr b (acc ++ one (x1, x2)) w w3) := Lib.hid (by rw [← HPX.out]; exact (HW2.out.trans HR2.out).trans h3)
      clear h3 HFIN
      go_wp2
      go_end0
      exact ⟨rfl, HR4.out⟩

theorem fresh (w : World) : IsB w.heap.size [] (w.alloc (.cells #[.pointer none, .slice none 0 0] 54)) := Lib.IsBuilderF.of (Lib.fresh_isBuilder _ _ w)
def WLRel (w : World) (l : List Lab) (v : Value) (wr : World) : Prop :=
  ∃ k : Nat, k ≤ l.length ∧ v = .int .i64 (k : Int) ∧ Hid (Below w.heap.size w wr) ∧ Hid (IsB w.heap.size (123 :: body (l.take k)) wr) ∧ w.heap.size < wr.heap.size
theorem write_mono {l : List Lab} {k : Nat} (h : k < l.length) : (body (l.take k)).length + 1 + (one l[k]).length ≤ (write l).length := by
  have h1 := body_next h
  have h2 := body_mono (show k + 1 ≤ l.length by omega)
  rw [h1] at h2
  rw [write_len]
  simp only [List.length_append] at h2
  split at h2 <;> simp at h2 <;> omega
theorem one_ge (x : Lab) : x.1.length + x.2.length + 3 ≤ (one x).length := by
  have := esc_ge x.2
  unfold one
  simp
  omega

set_option maxHeartbeats 6400000 in
set_option maxRecDepth 100000 in
/-- label.Write. -/
theorem pwrite_any (w : World) (l : List Lab) (A : Option Addr) (c m : Nat) (h : Lb w A m c l) (hw : (write l).length ≤ 16777216) :
    Calls Try.prog 15 #[.slice A m c] w fun e w' => e = .returned (S8 (write l)) ∧ Below w.heap.size w w' := by
  obtain ⟨rfl, hc, hm, hr⟩ := h
  unfold maxLen at hm
  have HR := Lib.hid hr
  have HWL := Lib.hid hw
  clear hr hw
  have HF := Lib.hid (byte_any w.heap.size [] 123 _ (fresh w) (by simp) (by simp))
  rw [show ((123 : UInt8).toNat : Int) = 123 from rfl] at HF
  have HB0 : Hid (Below w.heap.size w (w.alloc (.cells #[.pointer none, .slice none 0 0] 54))) := Lib.hid ((Below.refl _ w).alloc (Nat.le_refl _) _)
  have HP1 := fun (c : UInt8) (Q : List UInt8) (w' : World) (h : IsB w.heap.size Q w') (hl : Q.length + 1 ≤ 140737488355328) (hb : w.heap.size < w'.heap.size) => Lib.hid (byte_any w.heap.size Q c w' h hl (Nat.le_of_lt hb))
  unfold S8
  go_enter Try.func15, Try.ntmps15
  go_wp2_with fail
  refine HF.out.mono ?_
  rintro e w1 ⟨rfl, h1⟩
  have HB1 := Lib.hid (HB0.out.trans h1.2.1)
  have HI1 : Hid (IsB w.heap.size [123] w1) := Lib.hid h1.is
  have hz1 : w.heap.size < w1.heap.size := by have := h1.2.1.size; simp at this; omega
  clear h1 HF HB0
  go_wp2
  go_loopw [9] (fun v wr => WLRel w l v wr) (fun v _ => l.length - (intOf v).toNat)
  case atStart => exact ⟨0, Nat.zero_le _, rfl, HB1, HI1, hz1⟩
  case round =>
    obtain ⟨k, hk, rfl, HB, HI, hz⟩ := hrel
    clear HB1 HI1 hz1
    by_cases hlt : k < l.length
    · obtain ⟨g1, o1, rfl, hg1, hc1⟩ := HR.out (by rw [flat_len]; omega)
      obtain ⟨p0, p1⟩ := cellsL hc1 hlt
      have hzz : g1 < wr.heap.size := Nat.lt_of_lt_of_le hg1 HB.out.size
      have k0 := cell_up HB.out (p := ⟨g1, o1 + k * 2, none⟩) hg1 p0
      have k1 := cell_up HB.out (p := ⟨g1, o1 + k * 2 + 1, none⟩) hg1 p1
      have hwm := write_mono hlt
      have hwo := one_ge l[k]
      have hbn := body_next hlt
      obtain ⟨x, hx⟩ : ∃ x, l[k] = x := ⟨_, rfl⟩
      rw [hx] at k0 k1 hwm hwo hbn
      obtain ⟨P, hP⟩ : ∃ P, P = 123 :: body (l.take k) := ⟨_, rfl⟩
      have HPL : Hid (P.length + (one x).length ≤ 16777216 ∧ x.1.length + x.2.length + 3 ≤ (one x).length) := Lib.hid (by
        have := HWL.out
        rw [hP, List.length_cons]
        exact ⟨by omega, hwo⟩)
      have HN : Hid (P ++ ((if k = 0 then [] else [44]) ++ one x) = 123 :: body (l.take (k + 1))) := Lib.hid (by rw [hP, hbn]; simp)
      have HI2 : Hid (IsB w.heap.size P (wr.alloc (.cells #[S8 x.1, S8 x.2] 37))) := Lib.hid (by rw [hP]; exact HI.out.alloc _)
      have HX := Lib.hid (heap_alloc_new wr (.cells #[S8 x.1, S8 x.2] 37))
      have HBX : Hid (Below w.heap.size w (wr.alloc (.cells #[S8 x.1, S8 x.2] 37))) := Lib.hid (HB.out.alloc (Nat.le_of_lt hz) _)
      have hzx : w.heap.size < (wr.alloc (.cells #[S8 x.1, S8 x.2] 37)).heap.size := by simp; omega
      have HLB := fun (Q : List UInt8) (w' : World) (h : IsB w.heap.size Q w') (hl : Q.length ≤ 16777217) (hb : w.heap.size < w'.heap.size) => Lib.hid (wlabel_any w.heap.size Q x w' h (by have := HPL.out; omega) hb)
      have hne : wr.heap.size ≠ w.heap.size := by omega
      clear hc1 p0 p1 hx HI hwm hwo hbn hP
      unfold aggL S8 at *
      obtain ⟨x1, x2⟩ := x
      simp only at k0 k1 HX HI2 HBX HLB hzx
      by_cases hk0 : k = 0
      · rw [if_pos hk0, List.nil_append] at HN
        have hpos : ¬ (0 : Int) < (k : Int) := by omega
        clear hk0
        have HL := HLB P _ HI2.out (by have := HPL.out; omega) hzx
        clear HLB HP1 hzx
        go_wp2_with fail
        refine HL.out.mono ?_
        rintro e w3 ⟨rfl, h3⟩
        have HB3 := Lib.hid (HBX.out.trans h3.2.1)
        have HI3 : Hid (IsB w.heap.size (123 :: body (l.take (k + 1))) w3) := Lib.hid (by rw [← HN.out]; exact h3.is)
        have hz3 : w.heap.size < w3.heap.size := by have := h3.2.1.size; simp at this; omega
        clear h3 HL HN
        go_wp2
        go_roundw
        case rel => exact ⟨k + 1, by omega, by go_num, HB3, HI3, hz3⟩
        case measure => simp [intOf]; omega
      · rw [if_neg hk0] at HN
        have hpos : (0 : Int) < (k : Int) := by omega
        have HC := HP1 44 P _ HI2.out (by have := HPL.out; omega) hzx
        rw [show ((44 : UInt8).toNat : Int) = 44 from rfl] at HC
        clear HP1 hzx hk0
        go_wp2_with fail
        refine HC.out.mono ?_
        rintro e w2 ⟨rfl, h2⟩
        have HB2 := Lib.hid (HBX.out.trans h2.2.1)
        have hX2 := h2.box (k := wr.heap.size) hne HX.out
        have j0 : w2.cell? ⟨wr.heap.size, 0, none⟩ = some (.string ⟨x1.toArray⟩) := cell_of hX2 rfl
        have j1 : w2.cell? ⟨wr.heap.size, 1, none⟩ = some (.string ⟨x2.toArray⟩) := cell_of hX2 rfl
        have hz2 : w.heap.size < w2.heap.size := by have := h2.2.1.size; simp at this; omega
        have HL := HLB (P ++ [44]) w2 h2.is (by have := HPL.out; simp; omega) hz2
        clear h2 HC HLB hX2 k0 k1
        go_wp2_with fail
        refine HL.out.mono ?_
        rintro e w3 ⟨rfl, h3⟩
        have HB3 := Lib.hid (HB2.out.trans h3.2.1)
        have HI3 : Hid (IsB w.heap.size (123 :: body (l.take (k + 1))) w3) := Lib.hid (by
          have := h3.is
          rw [List.append_assoc] at this
          rw [← HN.out]
          exact this)
        have hz3 : w.heap.size < w3.heap.size := by have := h3.2.1.size; omega
        clear h3 HL HN j0 j1
        go_wp2
        go_roundw
        case rel => exact ⟨k + 1, by omega, by go_num, HB3, HI3, hz3⟩
        case measure => simp [intOf]; omega
    · have hkl : k = l.length := by omega
      have HI2 : Hid (IsB w.heap.size (123 :: body l) wr) := Lib.hid (by have := HI.out; rwa [hkl, List.take_length] at this)
      have HC := HP1 125 (123 :: body l) wr HI2.out (by have := HWL.out; rw [write_len] at this; simp; omega) hz
      rw [show ((125 : UInt8).toNat : Int) = 125 from rfl, show 123 :: body l ++ [125] = write l from rfl] at HC
      clear HI hlt HP1 HI2
      subst hkl
      obtain ⟨T, hT⟩ : ∃ T, write l = T := ⟨_, rfl⟩
      rw [hT] at HC
      have HTT := Lib.hid hT
      clear hT HWL
      go_wp2_with fail
      refine HC.out.mono ?_
      rintro e w3 ⟨rfl, h3⟩
      have HB3 := Lib.hid (HB.out.trans h3.2.1)
      have HST := Lib.hid (Builder_String_any_k w.heap.size w.heap.size T w3 h3.1 (by have := h3.2.1.size; omega))
      clear h3 HC HB
      go_wp2_with fail
      refine HST.out.mono ?_
      rintro e w4 ⟨rfl, _, hb4, _⟩
      have HB4 := Lib.hid (HB3.out.trans hb4)
      clear hb4 HST HB3
      go_wp2
      go_ret
      refine ⟨?_, HB4.out⟩
      rw [HTT.out]
      rfl
end Go.Proofs.Ytngkhcbnndkdeaa.LpWrite
