/- The contract of the document's own Pack: for all lists of numbers the error, or new memory that holds the list's bytes; nothing that was there has changed. Conditions: the slice's length is at most its capacity, the capacity at most the model's greatest length. -/
import Derived.Test.YtokmoodiolnfiaaNeed
import Derived.Test.YtokmoodiolnfiaaPkSpec
import Derived.Test.YtokmoodiolnfiaaRefOne
import Derived.Test.YtokmoodiolnfiaaAppend
namespace Go.Proofs.Ytokmoodiolnfiaa.RefPk
open Go Go.RowKit Words Plain Put RefPut App PkPlain PkSpec Need

/-- What Pack and the document's Pack answer. -/
def PackPost (l : List UInt64) (w : World) (e : Ending) (w' : World) : Prop :=
  (65536 < l.length ∧ e = .returned (.tuple #[.slice none 0 0, .int .i64 3]) ∧ Below w.heap.size w w') ∨
  (l.length ≤ 65536 ∧ ¬ Rising l ∧ e = .returned (.tuple #[.slice none 0 0, .int .i64 1]) ∧ Below w.heap.size w w') ∨
  (l.length ≤ 65536 ∧ Rising l ∧ ∃ v, e = .returned (.tuple #[v, .int .i64 0]) ∧ w'.ownsRow w.heap.size 5 1 v (pk l).length ((pk l).map B8) ∧ Below w.heap.size w w')

def hd (l : List UInt64) (i : Nat) : List UInt8 := Lib.uvarint l.length ++ (if i = 0 then [] else head1 l)
def Rel1 (l : List UInt64) (w : World) (vo vw vi : Value) (wr : World) : Prop := ∃ i : Nat, i ≤ l.length ∧ vi = .int .i64 (i : Int) ∧ vw = .int .i64 ((width ((gaps l).take (i - 1)) : Nat) : Int) ∧
  wr.ownsRow w.heap.size 5 1 vo (hd l i).length ((hd l i).map B8) ∧ RisingTo l i ∧ Below w.heap.size w wr
/-- The loops over the bits: i numbers, then k bits of the next. -/
def Rel2 (n W N : Nat) (wo : World) (vb vi : Value) (wr : World) : Prop := ∃ i : Nat, i + 1 ≤ n ∧ vi = .int .i64 ((i : Int) + 1) ∧ wr.ownsRow wo.heap.size 5 1 vb (i * W) ((bitsOf (i * W) N).map B8) ∧ Below wo.heap.size wo wr
def Rel3 (m W N g : Nat) (wo : World) (vb vd vk : Value) (wr : World) : Prop := ∃ k : Nat, k ≤ W ∧ vk = .int .i64 (k : Int) ∧ vd = .int .u64 ((g / 2 ^ k : Nat) : Int) ∧ wr.ownsRow wo.heap.size 5 1 vb (m + k) ((bitsOf (m + k) N).map B8) ∧ Below wo.heap.size wo wr
def lenOf : Value → Nat
  | .slice _ n _ => n
  | _ => 0
def Rel4 (tot sz N : Nat) (wo : World) (vb : Value) (wr : World) : Prop := ∃ m : Nat, tot ≤ m ∧ m ≤ 8 * sz ∧ wr.ownsRow wo.heap.size 5 1 vb m ((bitsOf m N).map B8) ∧ Below wo.heap.size wo wr
/-- The loop over the bytes: q bytes are written. -/
def Rel5 (H : List UInt8) (W sz N : Nat) (w wo wp : World) (vb : Value) (vo vi : Value) (wr : World) : Prop := ∃ q : Nat, q ≤ sz ∧ vi = .int .i64 (8 * (q : Int)) ∧
  wr.ownsRow w.heap.size 5 1 vo (H.length + 1 + q) ((H ++ (W.toUInt8 :: digs q N)).map B8) ∧ wr.ownsRow wo.heap.size 5 1 vb (8 * sz) ((bitsOf (8 * sz) N).map B8) ∧ Below w.heap.size w wr ∧
  (∀ g, vo.ownBlock = some g → g < wo.heap.size ∨ wp.heap.size ≤ g) ∧ wp.heap.size ≤ wr.heap.size
def Rel6 (N q : Nat) (vc vk : Value) : Prop := ∃ (t C : Nat) (kk : Int), t ≤ 8 ∧ kk + 1 = (t : Int) ∧ vk = .int .i64 kk ∧ vc = .int .u8 (C : Int) ∧ Hid (C = N / 2 ^ (8 * q + t) % 2 ^ (8 - t))
theorem byte_step (N m s : Nat) : N / 2 ^ m % 2 ^ (s + 1) = 2 * (N / 2 ^ (m + 1) % 2 ^ s) + N / 2 ^ m % 2 := by
  have e : 2 ^ m * 2 = 2 ^ (m + 1) := rfl
  rw [Nat.pow_succ', Nat.mod_mul, Nat.div_div_eq_div_mul, e]
  omega
theorem own_dig {w : World} {base : Nat} {e : TypeId} {v : Value} {n q N C : Nat} {H : List UInt8} {z : UInt8} (hx : C = N / 2 ^ (8 * q + 0) % 2 ^ (8 - 0)) (h : w.ownsRow base e 1 v (n + 1) (H.map B8 ++ B8 z :: ((digs q N).map B8 ++ [.int .u8 (C : Int)]))) : w.ownsRow base e 1 v (n + 1) ((H ++ (z :: digs (q + 1) N)).map B8) := by
  subst hx
  have e1 : 2 ^ (8 * q + 0) = 256 ^ q := by rw [Nat.add_zero, Nat.pow_mul]
  have e2 : 2 ^ (8 - 0) = 256 := rfl
  rw [e1, e2] at h
  have e : B8 (N / 256 ^ q % 256).toUInt8 = .int .u8 ((N / 256 ^ q % 256 : Nat) : Int) := by
    simp only [B8]
    congr 1
    simp
  rw [digs_snoc]
  simp only [List.map_append, List.map_cons, List.map_nil, e]
  exact h
theorem own_bit {w : World} {base : Nat} {e : TypeId} {v : Value} {m N : Nat} {x : Int} (hx : x = ((N / 2 ^ m % 2 : Nat) : Int)) (h : w.ownsRow base e 1 v (m + 1) ((bitsOf m N).map B8 ++ [.int .u8 x])) : w.ownsRow base e 1 v (m + 1) ((bitsOf (m + 1) N).map B8) := by
  subst hx
  rw [bitsOf_snoc, List.map_append]
  have e : [(N / 2 ^ m % 2).toUInt8].map B8 = [.int .u8 ((N / 2 ^ m % 2 : Nat) : Int)] := by
    simp only [List.map_cons, List.map_nil, B8]
    congr 2
    simp
    omega
  rw [e]
  exact h
theorem wtake_le (l : List UInt64) (k : Nat) : width ((gaps l).take k) ≤ 64 := (width_le _ _).2 fun g hg => gaps_lt l g (List.mem_of_mem_take hg)

set_option maxHeartbeats 1600000 in
set_option maxRecDepth 100000 in
theorem refpk_long (l : List UInt64) (A : Option Addr) (n c : Nat) (w : World) (hn : n = l.length) (h : 65536 < l.length) :
    Calls Try.prog 11 #[.slice A n c] w (PackPost l w) := by
  subst hn
  go_enter Try.func11, Try.ntmps11
  go_wp2
  go_ret2
  exact .inl ⟨h, rfl, Below.refl _ _⟩

set_option maxHeartbeats 4000000 in
set_option maxRecDepth 100000 in
theorem refpk_ok (l : List UInt64) (A : Option Addr) (c : Nat) (w : World) (hr : Rd w w.heap.size A (l.map B64)) (hc : l.length ≤ c) (hm : c ≤ maxLen) (h : l.length ≤ 65536) :
    Calls Try.prog 11 #[.slice A l.length c] w (PackPost l w) := by
  obtain ⟨i0, hi, hz0, hz1, hz2⟩ := info_parts info_u8
  have HR := Lib.hid hr
  have HU := Lib.hid (Lib.uvarint_length64 (x := l.length) (by omega))
  have hb : decide (65536 < (l.length : Int)) = false := by simp; omega
  clear hr hm
  go_enter Try.func11, Try.ntmps11
  go_wp2_with fail
  refine (one64 l.length _ (by omega)).mono ?_
  rintro e w1 ⟨v1, rfl, hown1, hb1⟩
  have HB1 := Lib.hid hb1
  have HO1 := Lib.hid hown1
  clear hown1 hb1
  go_wp2
  go_loopw [4, 5, 6] (fun vo vw vi wr => Rel1 l w vo vw vi wr) (fun _ _ vi _ => l.length - (intOf vi).toNat)
  case atStart => exact ⟨0, by omega, rfl, rfl, by simpa [hd] using HO1.out, fun i _ h => absurd h (by omega), HB1.out⟩
  case round =>
    obtain ⟨i, hi', rfl, rfl, hown, hris, hbl⟩ := hrel
    have HO := Lib.hid hown
    have HB := Lib.hid hbl
    have HRI := Lib.hid hris
    have hw64 := wtake_le l (i - 1)
    clear hown hris HO1 HB1
    by_cases hlt : i < l.length
    · by_cases h0 : i = 0
      · subst h0
        obtain ⟨b, off, rfl, hbb, hcell⟩ := HR.out (by simp; omega)
        have k1 : wr.cell? ⟨b, off, none⟩ = some (.int .u64 ((l[0].toNat : Nat) : Int)) := (hbl.cell (p := ⟨b, off, none⟩) hbb).trans (cell64 hcell (k := 0) hlt)
        have hx := l[0].toNat_lt
        have ON := Lib.hid (one64 l[0].toNat wr hx)
        have hhd : hd l 1 = hd l 0 ++ Lib.uvarint l[0].toNat := by unfold hd; rw [head1_at hlt]; simp
        have hU0 := Lib.uvarint_length64 (x := l[0].toNat) hx
        generalize l[0].toNat = x at *
        generalize Lib.uvarint x = U at *
        have hH : (hd l 0).length ≤ 10 := by unfold hd; simpa using HU.out
        generalize hd l 0 = H0 at *
        have HH := Lib.hid hhd
        clear hhd hcell hbl
        have e0 : (0 : Int) < (l.length : Int) := by omega
        go_wp2_with fail
        refine ON.out.mono ?_
        rintro e w2 ⟨v2, rfl, hown2, hb2⟩
        have HO2 := Lib.hid (own_keep HO.out hb2)
        have HB2 := Lib.hid (HB.out.trans (hb2.mono HB.out.size))
        obtain ⟨A2, c2, rfl, _, _, _⟩ := own_slice hown2
        have HR2 := Lib.hid (Rd.of_own hown2)
        clear hown2 hb2 HO
        go_wp2_with (at_builtin; refine wpList_append_rd _ rfl (.tmp 29) (.tmp 33) 24 rfl w.heap.size 5 i0 (.int .u8 0) 1 Try.underlying24 hi hz0 hz1 hz2 rfl _ _ _ rfl HO2.out _ A2 U.length c2 (U.map B8) rfl (by simp) HR2.out (one8 U) ?c1 ?c2 HB2.out.size ?_)
        case c1 => unfold maxLen; omega
        case c2 => omega
        intro v3 w3 hown3 hg3 _
        have HB3 := Lib.hid (below_app HO2.out HB2.out hg3)
        have HO3 := Lib.hid (own_join hown3)
        rw [← HH.out] at HO3
        clear hown3 hg3 HO2
        go_wp2
        go_roundw
        case rel => exact ⟨1, by omega, by go_num, rfl, HO3.out, fun i _ h => absurd h (by omega), HB3.out⟩
        case measure => simp [intOf]; omega
      · obtain ⟨k, rfl⟩ : ∃ k, i = k + 1 := ⟨i - 1, by omega⟩
        obtain ⟨b, off, rfl, hbb, hcell⟩ := HR.out (by simp; omega)
        have k1 := (hbl.cell (p := ⟨b, off + (k + 1), none⟩) hbb).trans (cell64 hcell (k := k + 1) hlt)
        have k2 := (hbl.cell (p := ⟨b, off + k, none⟩) hbb).trans (cell64 hcell (k := k) (by omega))
        have hy := l[k + 1].toNat_lt
        have hx := l[k].toNat_lt
        have hgt := congrArg width (gaps_take hlt)
        rw [width_snoc] at hgt
        have hris := fun h1 => Lib.hid (rising_step hlt HRI.out h1)
        have HNR : l[k + 1].toNat ≤ l[k].toNat → Hid (¬ Rising l) := fun h1 h2 => by have := h2 k hlt hlt; omega
        generalize l[k + 1].toNat = y at *
        generalize l[k].toNat = x at *
        have hWk : k + 1 - 1 = k := by omega
        have hw64' : width ((gaps l).take k) ≤ 64 := wtake_le l k
        generalize hW : width ((gaps l).take (k + 1 - 1)) = W at *
        rw [hWk] at hW
        rw [hW] at hgt hw64'
        have HGT := Lib.hid hgt
        clear hW hWk hgt hw64 hcell hbl
        have c2 : decide ((k : Int) + 1 < (l.length : Int)) = true := decide_eq_true (by omega)
        have c3 : ((k : Int) + 1 == 0) = false := beq_eq_false_iff_ne.2 (by omega)
        have b0 : (0 : Int) ≤ (k : Int) + 1 := by omega
        have b1 : (k : Int) + 1 < (l.length : Int) := by omega
        have b2 : (0 : Int) ≤ (k : Int) := by omega
        have b3 : (k : Int) < (l.length : Int) := by omega
        have b4 : IntKind.i64.wrap ((k : Int) + 1 - 1) = (k : Int) := by rw [IntKind.wrap_i64]; omega
        have b5 : IntKind.i64.wrap (k : Int) = (k : Int) := by rw [IntKind.wrap_i64]; omega
        by_cases hle : y ≤ x
        · have hnr := HNR hle
          have c4 : decide ((y : Int) ≤ (x : Int)) = true := decide_eq_true (by omega)
          clear hris HNR
          go_wp2
          go_quiet (fail)
          go_wp2
          go_ret2
          exact .inr (.inl ⟨h, hnr.out, rfl, ⟨HB.out.os, HB.out.tape, HB.out.output, HB.out.size, HB.out.block⟩⟩)
        · have HRS := hris (by omega)
          clear hris
          have c4 : decide ((y : Int) ≤ (x : Int)) = false := decide_eq_false (by omega)
          have s1 : IntKind.u64.wrap ((y : Int) - (x : Int)) = ((y - x : Nat) : Int) := by rw [IntKind.wrap_u64]; omega
          have s2 : IntKind.u64.wrap (((y - x : Nat) : Int) - 1) = ((y - x - 1 : Nat) : Int) := by rw [IntKind.wrap_u64]; omega
          have hnd : y - x - 1 < 18446744073709551616 := by omega
          have ND := fun w' => Lib.hid (need_q (y - x - 1) w' hnd)
          generalize need (y - x - 1) = gN at *
          have c6 : ((k : Int) + 1 + 1) = ((k + 2 : Nat) : Int) := by omega
          go_wp2
          go_quiet (fail)
          go_wp2
          have k1' : (wr.drewN nq).cell? ⟨b, off + (k + 1), none⟩ = some (.int .u64 (y : Int)) := k1
          have k2' : (wr.drewN nq).cell? ⟨b, off + k, none⟩ = some (.int .u64 (x : Int)) := k2
          have HO' : Hid ((wr.drewN nq).ownsRow w.heap.size 5 1 _ _ _) := HO
          have HB' : Hid (Below w.heap.size w (wr.drewN nq)) := ⟨HB.out.os, HB.out.tape, HB.out.output, HB.out.size, HB.out.block⟩
          clear k1 k2 HO HB
          generalize wr.drewN nq = wq at *
          by_cases hWg : W < gN
          · have c5 : decide ((W : Int) < (gN : Int)) = true := decide_eq_true (by omega)
            go_quiet (first | (go_at_call 15; refine Calls.quiet_of_same (ND _).out))
            go_wp2
            have k1 : (wq.drewN nq).cell? ⟨b, off + (k + 1), none⟩ = some (.int .u64 (y : Int)) := k1'
            have k2 : (wq.drewN nq).cell? ⟨b, off + k, none⟩ = some (.int .u64 (x : Int)) := k2'
            have HO : Hid ((wq.drewN nq).ownsRow w.heap.size 5 1 _ _ _) := HO'
            have HB : Hid (Below w.heap.size w (wq.drewN nq)) := ⟨HB'.out.os, HB'.out.tape, HB'.out.output, HB'.out.size, HB'.out.block⟩
            clear k1' k2' HO' HB'
            generalize wq.drewN nq = wp at *
            go_quiet (first | (go_at_call 15; refine Calls.quiet_of_same (ND _).out))
            go_wp2
            go_roundw
            case rel => exact ⟨k + 2, by omega, by go_num, by rw [show k + 2 - 1 = k + 1 by omega, HGT.out, Nat.max_eq_right (by omega)], HO.out, HRS.out, ⟨HB.out.os, HB.out.tape, HB.out.output, HB.out.size, HB.out.block⟩⟩
            case measure => simp [intOf]; omega
          · have c5 : decide ((W : Int) < (gN : Int)) = false := decide_eq_false (by omega)
            go_quiet (first | (go_at_call 15; refine Calls.quiet_of_same (ND _).out))
            go_wp2
            go_roundw
            case rel => exact ⟨k + 2, by omega, by go_num, by rw [show k + 2 - 1 = k + 1 by omega, HGT.out, Nat.max_eq_left (by omega)], HO'.out, HRS.out, ⟨HB'.out.os, HB'.out.tape, HB'.out.output, HB'.out.size, HB'.out.block⟩⟩
            case measure => simp [intOf]; omega
    · obtain rfl : i = l.length := by omega
      have HRG : Hid (Rising l) := HRI
      have hwd : Hid (width ((gaps l).take (l.length - 1)) = wd l) := by
        show width ((gaps l).take (l.length - 1)) = wd l
        rw [List.take_of_length_le (by rw [gaps_length]; exact Nat.le_refl _)]
        rfl
      have hw64 : wd l ≤ 64 := width_64 l
      by_cases h2 : l.length < 2
      · have hpk : Hid (pk l = hd l l.length) := by
          show pk l = hd l l.length
          unfold pk hd tail2
          rw [if_pos h2, List.append_nil]
          split
          · rename_i h0
            rw [List.eq_nil_of_length_eq_zero h0]
            rfl
          · rfl
        have c2 : decide ((l.length : Int) < 2) = true := decide_eq_true (by omega)
        generalize width ((gaps l).take (l.length - 1)) = W at *
        go_wp2
        go_ret2
        refine .inr (.inr ⟨h, HRG.out, _, rfl, ?_, HB.out⟩)
        rw [hpk.out]
        exact HO.out
      · obtain ⟨W, hW⟩ : ∃ W, wd l = W := ⟨_, rfl⟩
        obtain ⟨N, hN⟩ : ∃ N, stk l = N := ⟨_, rfl⟩
        obtain ⟨sz, hsz⟩ : ∃ sz, size8 l = sz := ⟨_, rfl⟩
        have hpk : Hid (pk l = hd l l.length ++ (W.toUInt8 :: digs sz N)) := by
          show pk l = _
          unfold pk hd tail2
          rw [if_neg h2, if_neg (by omega), hW, hN, hsz, List.append_assoc]
        have HBIT := fun (i k : Nat) (hi : i + 1 < l.length) (hk : k < wd l) => Lib.hid (stk_bit hi hk)
        have HHI := fun (m : Nat) (hm : total l ≤ m) => Lib.hid (stk_high hm)
        have htot : total l = (l.length - 1) * W := by unfold total; rw [hW]
        have hsz' : sz = ((l.length - 1) * W + 7) / 8 := by rw [← hsz]; unfold size8; rw [htot]
        rw [htot] at HHI
        rw [hW] at hwd hw64
        simp only [hW, hN] at HBIT HHI
        have HMAX : ∀ i, i ≤ 65536 → i * W ≤ 4194304 := fun i hi => by
          have := Nat.mul_le_mul hi hw64
          omega
        have HTOT := Lib.hid hsz'
        rw [hwd.out]
        clear hW hN hsz htot hsz' hwd
        have hhl : (hd l l.length).length ≤ 20 := by
          unfold hd
          have h3 := HU.out
          rw [if_neg (by omega), head1_at (by omega), List.length_append]
          have h4 := Lib.uvarint_length64 (x := l[0].toNat) l[0].toNat_lt
          omega
        generalize hd l l.length = H at *
        have c2 : decide ((l.length : Int) < 2) = false := decide_eq_false (by omega)
        have s3 : IntKind.u8.wrap (W : Int) = (W : Int) := by rw [IntKind.wrap_u8]; omega
        go_wp2_with (at_builtin; refine wpList_append_rd _ rfl (.tmp 75) (.tmp 78) 24 rfl w.heap.size 5 i0 (.int .u8 0) 1 Try.underlying24 hi hz0 hz1 hz2 rfl _ _ _ rfl (HO.out.alloc _) (wr.heap.size + 1) (some ⟨wr.heap.size, 0, none⟩) 1 1 [.int .u8 (W : Int)] rfl rfl (Rd.made wr #[.int .u8 (W : Int)] 5) ?f1 ?f2 ?f3 ?f4 ?_)
        case f1 => intro u hu; simp at hu; subst hu; rfl
        case f2 => unfold maxLen; omega
        case f3 => omega
        case f4 => have := HB.out.size; simp; omega
        intro vo wo howno hgo _
        have HBO := Lib.hid (below_app (HO.out.alloc _) (HB.out.alloc HB.out.size _) hgo)
        have HOO := Lib.hid howno
        clear howno hgo HO HB
        have HRO := Lib.hid (HR.out.below HBO.out)
        go_wp2
        go_loopw [7, 8] (fun vb vi wr => Rel2 l.length W N wo vb vi wr) (fun _ vi _ => l.length - (intOf vi).toNat)
        case atStart => exact ⟨0, by omega, rfl, by simpa [bitsOf] using World.ownsRow_nil wo wo.heap.size 5 1, Below.refl _ _⟩
        case round =>
          obtain ⟨i, hi', rfl, hownb, hbl2⟩ := hrel
          by_cases hlt2 : i + 1 < l.length
          · obtain ⟨b, off, rfl, hbb, hcell⟩ := HRO.out (by simp; omega)
            have hbo : b < wo.heap.size := Nat.lt_of_lt_of_le hbb HBO.out.size
            have k1 := (hbl2.cell (p := ⟨b, off + (i + 1), none⟩) hbo).trans (cell64 hcell (k := i + 1) hlt2)
            have k2 := (hbl2.cell (p := ⟨b, off + i, none⟩) hbo).trans (cell64 hcell (k := i) (by omega))
            have hy := l[i + 1].toNat_lt
            have hx := l[i].toNat_lt
            have hxy := HRG.out i hlt2 hlt2
            have HB1 : ∀ k, k < W → Hid (N / 2 ^ (i * W + k) % 2 = (l[i + 1].toNat - l[i].toNat - 1) / 2 ^ k % 2) := fun k hk => HBIT i k hlt2 hk
            generalize l[i + 1].toNat = y at *
            generalize l[i].toNat = x at *
            have HM0 := HMAX i (by omega)
            have HM1 : Hid ((i + 1) * W = i * W + W) := Nat.succ_mul i W
            generalize i * W = m0 at *
            have c5 : decide ((i : Int) + 1 < (l.length : Int)) = true := decide_eq_true (by omega)
            have b0 : (0 : Int) ≤ (i : Int) + 1 := by omega
            have b1 : (i : Int) + 1 < (l.length : Int) := by omega
            have b2 : (0 : Int) ≤ (i : Int) := by omega
            have b3 : (i : Int) < (l.length : Int) := by omega
            have b4 : IntKind.i64.wrap ((i : Int) + 1 - 1) = (i : Int) := by rw [IntKind.wrap_i64]; omega
            have b5 : IntKind.i64.wrap (i : Int) = (i : Int) := by rw [IntKind.wrap_i64]; omega
            have s1 : IntKind.u64.wrap ((y : Int) - (x : Int)) = ((y - x : Nat) : Int) := by rw [IntKind.wrap_u64]; omega
            have s2 : IntKind.u64.wrap (((y - x : Nat) : Int) - 1) = ((y - x - 1 : Nat) : Int) := by rw [IntKind.wrap_u64]; omega
            have hg64 : y - x - 1 < 18446744073709551616 := by omega
            have HOB := Lib.hid hownb
            have HB2 := Lib.hid hbl2
            clear hcell hownb hbl2 hxy
            go_wp2
            go_quiet (fail)
            have HOB' : Hid ((wr.drewN nq).ownsRow wo.heap.size 5 1 _ _ _) := HOB
            have HB2' : Hid (Below wo.heap.size wo (wr.drewN nq)) := ⟨HB2.out.os, HB2.out.tape, HB2.out.output, HB2.out.size, HB2.out.block⟩
            clear k1 k2 HOB HB2
            generalize wr.drewN nq = wq at *
            generalize y - x - 1 = g at *
            clear s1 s2
            go_wp2
            go_loopw [7, 9, 10] (fun vb vd vk wr => Rel3 m0 W N g wo vb vd vk wr) (fun _ _ vk _ => W - (intOf vk).toNat)
            case atStart => exact ⟨0, by omega, rfl, by simp, HOB'.out, HB2'.out⟩
            case round =>
              obtain ⟨k, hk, rfl, rfl, hownb, hbl2⟩ := hrel
              clear HOB' HB2'
              have HOB := Lib.hid hownb
              have HB2 := Lib.hid hbl2
              by_cases hlt3 : k < W
              · have hbit := HB1 k hlt3
                have hdl : g / 2 ^ k < 18446744073709551616 := Nat.lt_of_le_of_lt (Nat.div_le_self _ _) hg64
                have hhalf : Hid (g / 2 ^ (k + 1) = g / 2 ^ k / 2) := by show g / 2 ^ (k + 1) = _; rw [Nat.pow_succ, Nat.div_div_eq_div_mul]
                generalize g / 2 ^ k = d at *
                have c6 : decide ((k : Int) < (W : Int)) = true := decide_eq_true (by omega)
                clear hownb hbl2
                go_wp2_with (at_builtin; refine wpList_append_rd _ rfl (.tmp 102) (.tmp 106) 24 rfl wo.heap.size 5 i0 (.int .u8 0) 1 Try.underlying24 hi hz0 hz1 hz2 rfl _ _ _ rfl (HOB.out.alloc _) (wr.heap.size + 1) (some ⟨wr.heap.size, 0, none⟩) 1 1 [.int .u8 ((d : Int) % 2)] rfl rfl (Rd.made wr #[.int .u8 ((d : Int) % 2)] 5) ?f1 ?f2 ?f3 ?f4 ?_)
                case f1 => intro u hu; simp at hu; subst hu; rfl
                case f2 => unfold maxLen; omega
                case f3 => omega
                case f4 => have := HB2.out.size; simp; omega
                intro vb wb hownb hgb _
                have HBB := Lib.hid (below_app (HOB.out.alloc _) (HB2.out.alloc HB2.out.size _) hgb)
                have HBW := Lib.hid (own_bit (m := m0 + k) (N := N) (x := (d : Int) % 2) (by rw [hbit.out]; omega) hownb)
                clear hownb hgb HOB HB2
                go_wp2
                go_roundw
                case rel => exact ⟨k + 1, by omega, by go_num, by rw [hhalf.out, Int.natCast_ediv]; rfl, HBW.out, HBB.out⟩
                case measure => simp [intOf]; omega
              · obtain rfl : k = W := by omega
                go_wp2
                go_roundw
                case rel => exact ⟨i + 1, by omega, by go_num, by rw [HM1.out]; exact HOB.out, HB2.out⟩
                case measure => simp [intOf]; omega
          · have hin : i = l.length - 1 := by omega
            have HT := HTOT.out
            rw [← hin] at HT HHI
            have HM0 := HMAX i (by omega)
            generalize i * W = tot at *
            have HOB := Lib.hid hownb
            have HB2 := Lib.hid hbl2
            have hsz8 : 8 * sz < tot + 8 := by omega
            have hsz9 : tot ≤ 8 * sz := by omega
            have c5 : decide ((i : Int) + 1 < (l.length : Int)) = false := decide_eq_false (by omega)
            have HHI' := Lib.hid HHI
            clear hownb hbl2 HBIT HHI HT HTOT hin
            go_wp2
            go_loopw [7] (fun vb wr => Rel4 tot sz N wo vb wr) (fun vb _ => 8 * sz - lenOf vb)
            case atStart => exact ⟨tot, by omega, by omega, HOB.out, HB2.out⟩
            case round =>
              obtain ⟨m, hm1, hm2, hownb, hbl2⟩ := hrel
              clear HOB HB2
              obtain ⟨Ab, cb, rfl, hb1, hb2, _⟩ := own_slice hownb
              have HOB := Lib.hid hownb
              have HB2 := Lib.hid hbl2
              by_cases hm8 : 0 < m % 8
              · have c6 : decide (0 < (m : Int) % 8) = true := decide_eq_true (by omega)
                have hz := HHI'.out m hm1
                clear hownb hbl2
                go_wp2_with (at_builtin; refine wpList_append_rd _ rfl (.tmp 114) (.tmp 115) 24 rfl wo.heap.size 5 i0 (.int .u8 0) 1 Try.underlying24 hi hz0 hz1 hz2 rfl _ _ _ rfl (HOB.out.alloc _) (wr.heap.size + 1) (some ⟨wr.heap.size, 0, none⟩) 1 1 [.int .u8 0] rfl rfl (Rd.made wr #[.int .u8 0] 5) ?f1 ?f2 ?f3 ?f4 ?_)
                case f1 => intro u hu; simp at hu; subst hu; rfl
                case f2 => unfold maxLen; omega
                case f3 => omega
                case f4 => have := HB2.out.size; simp; omega
                intro vb wb hownb hgb _
                have HBB := Lib.hid (below_app (HOB.out.alloc _) (HB2.out.alloc HB2.out.size _) hgb)
                have HBW := Lib.hid (own_bit (m := m) (N := N) (x := 0) (by rw [hz.out]; rfl) hownb)
                obtain ⟨Ab2, cb2, rfl, _, _, _⟩ := own_slice HBW.out
                clear hownb hgb HOB HB2
                go_wp2
                go_roundw
                case rel => exact ⟨m + 1, by omega, by omega, HBW.out, HBB.out⟩
                case measure => simp [lenOf]; omega
              · have hm3 : m = 8 * sz := by omega
                have c6 : decide (0 < (m : Int) % 8) = false := decide_eq_false (by omega)
                subst hm3
                have HOO' := Lib.hid (own_keep HOO.out ((HB2.out).mono (Nat.le_refl _)))
                have HBL := Lib.hid (HBO.out.trans (HB2.out.mono HBO.out.size))
                have HVB := Lib.hid HOB.out.lt
                have HVO : Hid (∀ g, vo.ownBlock = some g → g < wo.heap.size) := fun g hg => (HOO.out.lt g hg).2
                have S1 : wo.heap.size ≤ wr.heap.size := HB2.out.size
                have S0 : w.heap.size ≤ wo.heap.size := HBO.out.size
                have hszb : sz ≤ 600000 := by omega
                clear hownb hbl2 HB2 HOO HHI' hsz8 hsz9
                have HOV : Hid (wr.ownsRow w.heap.size 5 1 vo (H.length + 1 + 0) ((H ++ (W.toUInt8 :: digs 0 N)).map B8)) := by
                  have eW : B8 W.toUInt8 = .int .u8 (W : Int) := by
                    unfold B8
                    congr 1 <;> (simp <;> omega)
                  have h9 := HOO'.out
                  rw [← eW] at h9
                  show World.ownsRow _ _ _ _ _ _ _
                  rw [List.map_append]
                  exact h9
                clear HOO'
                obtain ⟨wp, rfl⟩ : ∃ wp : World, wp = wr := ⟨_, rfl⟩
                go_wp2
                go_loopw [4, 11] (fun vo vi wr => Rel5 H W sz N w wo wp (.slice Ab (8 * sz) cb) vo vi wr) (fun _ vi _ => 8 * sz - (intOf vi).toNat)
                case atStart => exact ⟨0, by omega, rfl, HOV.out, HOB.out, HBL.out, fun g hg => .inl (HVO.out g hg), Nat.le_refl _⟩
                case round =>
                  obtain ⟨q, hq, rfl, hov, hob, hbl, hsep, hwp⟩ := hrel
                  clear HOV HOB HBL
                  have HOV := Lib.hid hov
                  have HOB := Lib.hid hob
                  have HBL := Lib.hid hbl
                  have HSEP := Lib.hid hsep
                  by_cases hlt5 : q < sz
                  · obtain ⟨gb, cb', hv, hgb1, hgb2, hcellb⟩ := own_addr hob (by omega)
                    injection hv with hv1 hv2 hv3
                    subst hv1 hv3
                    have HCB : Hid (∀ j, j < 8 * sz → wr.cell? ⟨gb, j, none⟩ = some (.int .u8 ((N / 2 ^ j % 2 : Nat) : Int))) := fun j hj => by
                      have h1 := hob.cellAt j (by omega)
                      have hj' : j < (bitsOf (8 * sz) N).length := by rw [bitsOf_length]; exact hj
                      rw [List.getElem?_map, List.getElem?_eq_getElem hj'] at h1
                      rw [h1]
                      show some (B8 _) = _
                      unfold B8
                      rw [bitsOf_at]
                    have c7 : decide (8 * (q : Int) < 8 * (sz : Int)) = true := decide_eq_true (by omega)
                    clear hov hob hbl hsep hcellb
                    go_wp2
                    go_loop [12, 13] (fun vc vk => Rel6 N q vc vk) (fun _ vk => (intOf vk + 1).toNat)
                    case atStart => exact ⟨8, 0, 7, by omega, by omega, rfl, rfl, by show (0 : Nat) = _; simp [Nat.mod_one]⟩
                    case round =>
                      obtain ⟨t, C, kk, ht, hkk, rfl, rfl, hCV⟩ := hrel
                      by_cases ht0 : t = 0
                      · subst ht0
                        obtain rfl : kk = -1 := by omega
                        have hlen5 : H.length + 1 + q ≤ 700000 := by omega
                        have hbs : Hid (wr.ownsRow wo.heap.size 5 1 (.slice (some ⟨gb, 0, none⟩) (8 * sz) cb) (8 * sz) ((bitsOf (8 * sz) N).map B8)) := HOB
                        go_wp2_with (at_builtin; refine wpList_append_rd _ rfl (.tmp 136) (.tmp 138) 24 rfl w.heap.size 5 i0 (.int .u8 0) 1 Try.underlying24 hi hz0 hz1 hz2 rfl _ _ _ rfl (HOV.out.alloc _) (wr.heap.size + 1) (some ⟨wr.heap.size, 0, none⟩) 1 1 [.int .u8 (C : Int)] rfl rfl (Rd.made wr #[.int .u8 (C : Int)] 5) ?f1 ?f2 ?f3 ?f4 ?_)
                        case f1 => first | rfl | (intro u hu; simp at hu; subst hu; rfl)
                        case f2 => unfold maxLen; omega
                        case f3 => omega
                        case f4 => have := HBL.out.size; simp; omega
                        intro vo' w9 hown9 hg9 hat9
                        have HOV9 := Lib.hid (own_dig (N := N) (q := q) hCV.out hown9)
                        have HBL9 := Lib.hid (below_app (HOV.out.alloc (.cells #[.int .u8 (C : Int)] 5)) (HBL.out.alloc HBL.out.size _) hg9)
                        have HOB9 := Lib.hid ((hbs.out.alloc (.cells #[.int .u8 (C : Int)] 5)).kept hg9 (.inr (fun e => by
                          have h1 := hgb1
                          have h2 := HVB.out gb rfl
                          rcases HSEP.out gb e.symm with h3 | h3 <;> omega)))
                        have HSEP9 : Hid (∀ g, vo'.ownBlock = some g → g < wo.heap.size ∨ wp.heap.size ≤ g) := fun g hg => by
                          rcases hat9 with h1 | h1
                          · rw [h1] at hg; exact HSEP.out g hg
                          · rw [h1] at hg
                            simp at hg
                            omega
                        have hwp9 : wp.heap.size ≤ w9.heap.size := by
                          have := hg9.size
                          simp at this
                          omega
                        clear hown9 hg9 hat9 HOV HOB HBL HSEP hbs hwp
                        go_wp2
                        go_roundw
                        case rel => exact ⟨q + 1, by omega, by go_num, HOV9.out, HOB9.out, HBL9.out, HSEP9.out, hwp9⟩
                        case measure => simp [intOf]; omega
                      · obtain ⟨u, rfl⟩ : ∃ u, t = u + 1 := ⟨t - 1, by omega⟩
                        obtain rfl : kk = (u : Int) := by omega
                        have hst := byte_step N (8 * q + u) (7 - u)
                        rw [show 7 - u + 1 = 8 - u by omega, show 8 * q + u + 1 = 8 * q + (u + 1) by omega, show 7 - u = 8 - (u + 1) by omega, ← hCV.out] at hst
                        have hbt := HCB.out (8 * q + u) (by omega)
                        have hC : C < 128 := by
                          rw [hCV.out]
                          exact Nat.lt_of_lt_of_le (Nat.mod_lt _ (Nat.two_pow_pos _)) (show 2 ^ (8 - (u + 1)) ≤ 2 ^ 7 from Nat.pow_le_pow_right (by omega) (by omega))
                        have hB : N / 2 ^ (8 * q + u) % 2 < 2 := Nat.mod_lt _ (by omega)
                        generalize N / 2 ^ (8 * q + u) % 2 = B at *
                        have HST := Lib.hid hst
                        have e9 : 8 * (q : Int) + (u : Int) = ((8 * q + u : Nat) : Int) := by omega
                        have b0 : (0 : Int) ≤ ((8 * q + u : Nat) : Int) := by omega
                        have b1 : ((8 * q + u : Nat) : Int) < ((8 * sz : Nat) : Int) := by omega
                        have hjb : 8 * q + u < 9000000 := by omega
                        clear hst hkk hCV
                        generalize hj : 8 * q + u = j at *
                        have HJ := Lib.hid hj
                        clear hj
                        go_wp2
                        go_round
                        case rel => exact ⟨u, 2 * C + B, (u : Int) - 1, by omega, by omega, rfl, by simp, by show 2 * C + B = _; rw [HJ.out, HST.out]⟩
                        case measure => simp [intOf]
                  · obtain rfl : q = sz := by omega
                    have c7 : decide (8 * (q : Int) < 8 * (q : Int)) = false := decide_eq_false (by omega)
                    clear hov hob hbl hsep
                    go_wp2
                    go_ret2
                    refine .inr (.inr ⟨h, HRG.out, _, rfl, ?_, HBL.out⟩)
                    have h9 := HOV.out
                    rw [hpk.out]
                    have e9 : (H ++ (W.toUInt8 :: digs q N)).length = H.length + 1 + q := by simp [digs_length]; omega
                    rw [e9]
                    exact h9

/-- THE DOCUMENT's PACK. -/
theorem refpk_any (l : List UInt64) (A : Option Addr) (n c : Nat) (w : World) (hn : n = l.length) (hr : Rd w w.heap.size A (l.map B64)) (hc : l.length ≤ c) (hm : c ≤ maxLen) :
    Calls Try.prog 11 #[.slice A n c] w (PackPost l w) := by
  subst hn
  by_cases h : 65536 < l.length
  · exact refpk_long l A _ c w rfl h
  · exact refpk_ok l A c w hr hc hm (by omega)
end Go.Proofs.Ytokmoodiolnfiaa.RefPk
