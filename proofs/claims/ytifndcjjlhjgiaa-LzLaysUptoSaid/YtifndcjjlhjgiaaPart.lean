/- The contract of lz.layPart: what 'LaySpec.part' says of one part, laid in memory of the call's own; nothing that was there has changed. Conditions: what is laid lies in memory of the call's own and is at most 'sz' bytes, sz at most 65536; the bytes read lie ahead of it. -/
import Derived.Test.YtifndcjjlhjgiaaEcho
import Derived.Test.YtifndcjjlhjgiaaAppend
namespace Go.Proofs.Ytifndcjjlhjgiaa.Part
open Go Go.RowKit Words Plain Put Get Own LaySpec Echo App


set_option maxHeartbeats 800000 in
theorem part_err' (b : List UInt8) (A : Option Addr) (c : Nat) (at_ : Nat) (w0 : World) (w : World) (v : Value) (sz : Nat) (hr : Rd w0 w0.heap.size A (b.map B8)) (hc : b.length ≤ c) (hm : c ≤ maxLen) (hat : at_ ≤ b.length) (hb : Below w0.heap.size w0 w) {p k e : Nat} (hd : dec 0 0 (b.drop at_) = (p, k, e)) (he : e ≠ 0) :
    Calls Try.prog 14 #[v, .int .i64 (sz : Int), .slice A b.length c, .int .i64 (at_ : Int)] w (PPost w0 e [] 0) := by
  have hg := get_any b A c at_ w w0.heap.size (hr.below hb) hc hm
  obtain ⟨f1, f2, f3⟩ := fin hat hd
  rw [f1, f2, f3, if_neg he] at hg
  have HG := Lib.hid hg
  have HB := Lib.hid hb
  have h1 : ((e : Int) != 0) = true := by simp; omega
  clear hg f1 f2 f3 hd hr hc hm hat hb he
  go_enter Try.func14, Try.ntmps14
  go_wp2_with fail
  refine HG.out.mono ?_
  rintro e w1 ⟨rfl, rfl⟩
  go_wp2
  go_ret3
  exact ppost_err HB.out rfl

set_option maxHeartbeats 1600000 in
theorem part_form' (b : List UInt8) (A : Option Addr) (c : Nat) (at_ : Nat) (w0 : World) (w : World) (l : List UInt8) (v : Value) (sz : Nat) (hr : Rd w0 w0.heap.size A (b.map B8)) (hc : b.length ≤ c) (hm : c ≤ maxLen) (hat : at_ ≤ b.length) (hown : w.ownsRow w0.heap.size 5 1 v l.length (l.map B8)) (hb : Below w0.heap.size w0 w) (hls : l.length ≤ sz) (hsz : sz ≤ 65536) {p k : Nat} (hd : dec 0 0 (b.drop at_) = (p, k, 0)) (hf : p / 2 = 0 ∨ (p % 2 = 1 ∧ p / 2 < 4) ∨ sz < l.length + p / 2) :
    Calls Try.prog 14 #[v, .int .i64 (sz : Int), .slice A b.length c, .int .i64 (at_ : Int)] w (PPost w0 6 [] 0) := by
  have hg := get_any b A c at_ w w0.heap.size (hr.below hb) hc hm
  obtain ⟨f1, f2, f3⟩ := fin hat hd
  rw [f1, f2, f3, if_pos rfl] at hg
  have HG := Lib.hid hg
  have HB := Lib.hid hb
  have ht := (dec_takes hd).2.2
  obtain ⟨A1, c1, rfl, _, _, _⟩ := own_slice hown
  have q1 : ((p : Int) / 2) = ((p / 2 : Nat) : Int) := by omega
  have q2 : ((p : Int) % 2) = ((p % 2 : Nat) : Int) := by omega
  have ho : p % 2 = 0 ∨ p % 2 = 1 := by omega
  have hn : p / 2 < 9223372036854775808 := by omega
  generalize p / 2 = n at *
  generalize p % 2 = o at *
  have hsl : ((sz : Int) - (l.length : Int)) = ((sz - l.length : Nat) : Int) := by omega
  have hlim : sz - l.length ≤ 65536 := by omega
  have hf' : n = 0 ∨ (o = 1 ∧ n < 4) ∨ sz - l.length < n := by omega
  obtain ⟨m, hmm⟩ : ∃ m, sz - l.length = m := ⟨_, rfl⟩
  rw [hmm] at hsl hf' hlim
  clear hg f1 f2 f3 hd hr hc hm hat hown hb hf hmm
  by_cases hz : n = 0
  · have h0 : ((n : Int) == 0) = true := by simp; omega
    have HZ := Lib.hid hz
    clear hz hf'
    rcases ho with rfl | rfl
    all_goals
      go_enter Try.func14, Try.ntmps14
      go_wp2_with fail
      refine HG.out.mono ?_
      rintro e w1 ⟨rfl, rfl⟩
      go_wp2
      go_ret3
      exact ppost_err HB.out rfl
  · have h0 : ((n : Int) == 0) = false := beq_eq_false_iff_ne.2 (by omega)
    rcases ho with rfl | rfl
    · have h3 : decide ((m : Int) < (n : Int)) = true := by simp; omega
      have h4 : decide (m < n) = true := by simp; omega
      clear hf'
      go_enter Try.func14, Try.ntmps14
      go_wp2_with fail
      refine HG.out.mono ?_
      rintro e w1 ⟨rfl, rfl⟩
      go_wp2
      go_ret3
      exact ppost_err HB.out rfl
    · by_cases h4 : n < 4
      · have h5 : decide ((n : Int) < 4) = true := by simp; omega
        clear hf'
        go_enter Try.func14, Try.ntmps14
        go_wp2_with fail
        refine HG.out.mono ?_
        rintro e w1 ⟨rfl, rfl⟩
        go_wp2
        go_ret3
        exact ppost_err HB.out rfl
      · have h5 : decide ((n : Int) < 4) = false := by simp; omega
        have h3 : decide ((m : Int) < (n : Int)) = true := by simp; omega
        have h6 : decide (m < n) = true := by simp; omega
        clear hf'
        go_enter Try.func14, Try.ntmps14
        go_wp2_with fail
        refine HG.out.mono ?_
        rintro e w1 ⟨rfl, rfl⟩
        go_wp2
        go_ret3
        exact ppost_err HB.out rfl

set_option maxHeartbeats 1600000 in
theorem part_even' (b : List UInt8) (A : Option Addr) (c : Nat) (at_ : Nat) (w0 : World) (w : World) (l : List UInt8) (v : Value) (sz : Nat) (hr : Rd w0 w0.heap.size A (b.map B8)) (hc : b.length ≤ c) (hm : c ≤ maxLen) (hat : at_ ≤ b.length) (hown : w.ownsRow w0.heap.size 5 1 v l.length (l.map B8)) (hb : Below w0.heap.size w0 w) (hls : l.length ≤ sz) (hsz : sz ≤ 65536) (hbl : b.length ≤ 140737488355327) {p k : Nat} (hd : dec 0 0 (b.drop at_) = (p, k, 0)) (hf : ¬ (p / 2 = 0 ∨ (p % 2 = 1 ∧ p / 2 < 4) ∨ sz < l.length + p / 2)) (h2 : p % 2 = 0) (hs : b.length - at_ - k < p / 2) :
    Calls Try.prog 14 #[v, .int .i64 (sz : Int), .slice A b.length c, .int .i64 (at_ : Int)] w (PPost w0 5 [] 0) := by
  have hg := get_any b A c at_ w w0.heap.size (hr.below hb) hc hm
  obtain ⟨f1, f2, f3⟩ := fin hat hd
  rw [f1, f2, f3, if_pos rfl, show ((at_ : Int) + (k : Int)) = ((at_ + k : Nat) : Int) by omega] at hg
  have HG := Lib.hid hg
  have HB := Lib.hid hb
  have ht := dec_takes hd
  rw [List.length_drop] at ht
  unfold maxLen at hm
  obtain ⟨A1, c1, rfl, _, _, _⟩ := own_slice hown
  have q1 : ((p : Int) / 2) = ((p / 2 : Nat) : Int) := by omega
  have q2 : ((p : Int) % 2) = 0 := by omega
  have hlim : p / 2 ≤ 65536 := by omega
  have h0 : (((p / 2 : Nat) : Int) == 0) = false := beq_eq_false_iff_ne.2 (by omega)
  have hsl : ((sz : Int) - (l.length : Int)) = ((sz - l.length : Nat) : Int) := by omega
  have h3 : decide (((sz - l.length : Nat) : Int) < ((p / 2 : Nat) : Int)) = false := by simp; omega
  have h4 : decide (sz - l.length < p / 2) = false := by simp; omega
  have hend : b.length < at_ + k + p / 2 := by omega
  have hlim2 : sz - l.length ≤ 65536 := by omega
  have hkl : at_ + k ≤ 140737488355327 := by omega
  generalize p / 2 = n at *
  generalize sz - l.length = m at *
  generalize at_ + k = t at *
  have ht0 : (0 : Int) ≤ (t : Int) := by omega
  have h7 : decide ((b.length : Int) < (t : Int) + (n : Int)) = true := by simp; omega
  have h8 : decide (b.length < t + n) = true := by simp; omega
  have hp : p < 18446744073709551616 := ht.2.2
  clear hg f1 f2 f3 hd hr hc hat hown hb hf hs h2 ht
  go_enter Try.func14, Try.ntmps14
  go_wp2_with fail
  refine HG.out.mono ?_
  rintro e w1 ⟨rfl, rfl⟩
  go_wp2
  go_ret3
  exact ppost_err HB.out rfl

set_option maxHeartbeats 1600000 in
theorem part_plain' (b : List UInt8) (A : Option Addr) (c : Nat) (at_ : Nat) (w0 : World) (w : World) (l : List UInt8) (v : Value) (sz : Nat) (hr : Rd w0 w0.heap.size A (b.map B8)) (hc : b.length ≤ c) (hm : c ≤ maxLen) (hat : at_ ≤ b.length) (hown : w.ownsRow w0.heap.size 5 1 v l.length (l.map B8)) (hb : Below w0.heap.size w0 w) (hls : l.length ≤ sz) (hsz : sz ≤ 65536) (hbl : b.length ≤ 140737488355327) {p k : Nat} (hd : dec 0 0 (b.drop at_) = (p, k, 0)) (hf : ¬ (p / 2 = 0 ∨ (p % 2 = 1 ∧ p / 2 < 4) ∨ sz < l.length + p / 2)) (h2 : p % 2 = 0) (hs : ¬ b.length - at_ - k < p / 2) :
    Calls Try.prog 14 #[v, .int .i64 (sz : Int), .slice A b.length c, .int .i64 (at_ : Int)] w (PPost w0 0 (l ++ (b.drop (at_ + k)).take (p / 2)) (at_ + (k + p / 2))) := by
  obtain ⟨i0, hi, hz0, hz1, hz2⟩ := info_parts info_u8
  have hg := get_any b A c at_ w w0.heap.size (hr.below hb) hc hm
  obtain ⟨f1, f2, f3⟩ := fin hat hd
  rw [f1, f2, f3, if_pos rfl, show ((at_ : Int) + (k : Int)) = ((at_ + k : Nat) : Int) by omega] at hg
  have HG := Lib.hid hg
  have HB := Lib.hid hb
  have HO := Lib.hid hown
  have ht := dec_takes hd
  rw [List.length_drop] at ht
  unfold maxLen at hm
  obtain ⟨A1, c1, rfl, _, _, _⟩ := own_slice hown
  have q1 : ((p : Int) / 2) = ((p / 2 : Nat) : Int) := by omega
  have q2 : ((p : Int) % 2) = 0 := by omega
  have hlim : p / 2 ≤ 65536 := by omega
  have h0 : (((p / 2 : Nat) : Int) == 0) = false := beq_eq_false_iff_ne.2 (by omega)
  have hsl : ((sz : Int) - (l.length : Int)) = ((sz - l.length : Nat) : Int) := by omega
  have h3 : decide (((sz - l.length : Nat) : Int) < ((p / 2 : Nat) : Int)) = false := by simp; omega
  have h4 : decide (sz - l.length < p / 2) = false := by simp; omega
  have hend : at_ + k + p / 2 ≤ b.length := by omega
  have hlim2 : sz - l.length ≤ 65536 := by omega
  have hkl : at_ + k ≤ 140737488355327 := by omega
  have hpos : 0 < p / 2 := by omega
  have hll : l.length ≤ 65536 := by omega
  rw [show at_ + (k + p / 2) = at_ + k + p / 2 by omega]
  generalize p / 2 = n at *
  generalize sz - l.length = m at *
  generalize at_ + k = t at *
  have ht0 : (0 : Int) ≤ (t : Int) := by omega
  have h7 : decide ((b.length : Int) < (t : Int) + (n : Int)) = false := by simp; omega
  have h8 : decide (b.length < t + n) = false := by simp; omega
  have hp : p < 18446744073709551616 := ht.2.2
  have HR : Hid (Rd w w0.heap.size (if c = t then A else A.map (·.add t)) (((b.drop t).take n).map B8)) := by
    refine Lib.hid ?_
    rw [List.map_take, List.map_drop]
    exact ((hr.below hb).cut (by simpa using hc)).take n
  have hLen : ((b.drop t).take n).length = n := by simp; omega
  have HLen := Lib.hid hLen
  have hst : (t : Int) + (n : Int) - (t : Int) = (n : Int) := by omega
  obtain ⟨q, hq⟩ : ∃ q, (b.drop t).take n = q := ⟨_, rfl⟩
  rw [hq] at HR HLen
  rw [hq]
  have hct : c ≠ t := by omega
  rw [if_neg hct] at HR
  have hct' : ¬ c = t := hct
  have hA : ∃ g off, A = some ⟨g, off, none⟩ := by
    obtain ⟨g, off, e, _⟩ := hr (by simp; omega)
    exact ⟨g, off, e⟩
  obtain ⟨g, off, rfl⟩ := hA
  simp only [Option.map_some, add_off] at HR
  clear hg f1 f2 f3 hd hr hat hown hb hf hs h2 ht hq hLen hct
  go_enter Try.func14, Try.ntmps14
  go_wp2_with fail
  refine HG.out.mono ?_
  rintro e w1 ⟨rfl, rfl⟩
  go_wp2_with (at_builtin; refine wpList_append_rd _ rfl (.tmp 67) (.tmp 71) 22 rfl w0.heap.size 5 i0 (.int .u8 0) 1 Try.underlying22 hi hz0 hz1 hz2 rfl _ _ _ rfl HO.out w0.heap.size _ _ _ (q.map B8) rfl (by simp [HLen.out]) HR.out (one8 q) ?f2 ?f3 HB.out.size ?_)
  case f2 => unfold maxLen; omega
  case f3 => omega
  intro v6 w6 hown6 hg6 _
  have HB6 := Lib.hid (below_app HO.out HB.out hg6)
  have hown7 : w6.ownsRow w0.heap.size 5 1 v6 (l ++ q).length ((l ++ q).map B8) := by simpa [HLen.out] using hown6
  have HO7 := Lib.hid hown7
  clear hown6 hown7 hg6 HO HB
  go_wp2
  go_ret3
  exact ⟨_, by rfl, HO7.out, HB6.out⟩

set_option maxHeartbeats 1600000 in
theorem part_odd' (b : List UInt8) (A : Option Addr) (c : Nat) (at_ : Nat) (w0 : World) (w : World) (l : List UInt8) (v : Value) (sz : Nat) (hr : Rd w0 w0.heap.size A (b.map B8)) (hc : b.length ≤ c) (hm : c ≤ maxLen) (hat : at_ ≤ b.length) (hown : w.ownsRow w0.heap.size 5 1 v l.length (l.map B8)) (hb : Below w0.heap.size w0 w) (hls : l.length ≤ sz) (hsz : sz ≤ 65536) {p k : Nat} (hd : dec 0 0 (b.drop at_) = (p, k, 0)) (hf : ¬ (p / 2 = 0 ∨ (p % 2 = 1 ∧ p / 2 < 4) ∨ sz < l.length + p / 2)) (h2 : p % 2 = 1) {err to_ : Nat} {l' : List UInt8}
    (hE : Calls Try.prog 18 #[v, .int .i64 ((p / 2 : Nat) : Int), .slice A b.length c, .int .i64 ((at_ + k : Nat) : Int)] w (PPost w0 err l' to_)) :
    Calls Try.prog 14 #[v, .int .i64 (sz : Int), .slice A b.length c, .int .i64 (at_ : Int)] w (PPost w0 err l' to_) := by
  have hg := get_any b A c at_ w w0.heap.size (hr.below hb) hc hm
  obtain ⟨f1, f2, f3⟩ := fin hat hd
  rw [f1, f2, f3, if_pos rfl, show ((at_ : Int) + (k : Int)) = ((at_ + k : Nat) : Int) by omega] at hg
  have HG := Lib.hid hg
  have ht := dec_takes hd
  rw [List.length_drop] at ht
  unfold maxLen at hm
  obtain ⟨A1, c1, rfl, _, _, _⟩ := own_slice hown
  have q1 : ((p : Int) / 2) = ((p / 2 : Nat) : Int) := by omega
  have q2 : ((p : Int) % 2) = 1 := by omega
  have hlim : p / 2 ≤ 65536 := by omega
  have h0 : (((p / 2 : Nat) : Int) == 0) = false := beq_eq_false_iff_ne.2 (by omega)
  have h5 : decide (((p / 2 : Nat) : Int) < 4) = false := by simp; omega
  have hsl : ((sz : Int) - (l.length : Int)) = ((sz - l.length : Nat) : Int) := by omega
  have h3 : decide (((sz - l.length : Nat) : Int) < ((p / 2 : Nat) : Int)) = false := by simp; omega
  have h4 : decide (sz - l.length < p / 2) = false := by simp; omega
  have hlim2 : sz - l.length ≤ 65536 := by omega
  have hp : p < 18446744073709551616 := ht.2.2
  have HE := Lib.hid hE
  generalize p / 2 = n at *
  generalize sz - l.length = m at *
  generalize at_ + k = t at *
  clear hg f1 f2 f3 hd hr hc hat hown hb hf h2 ht hE
  go_enter Try.func14, Try.ntmps14
  go_wp2_with fail
  refine HG.out.mono ?_
  rintro e w1 ⟨rfl, rfl⟩
  go_wp2_with fail
  refine HE.out.mono ?_
  rintro e w1 ⟨v2, rfl, hown2, hb2⟩
  have HO := Lib.hid hown2
  have HB := Lib.hid hb2
  clear hown2 hb2
  go_wp2
  go_ret3
  exact ⟨v2, rfl, HO.out, HB.out⟩

/-- lz.layPart. -/
theorem part_any (b : List UInt8) (A : Option Addr) (c : Nat) (at_ : Nat) (w0 : World) (w : World) (l : List UInt8) (v : Value) (sz : Nat) (hr : Rd w0 w0.heap.size A (b.map B8)) (hc : b.length ≤ c) (hm : c ≤ maxLen) (hat : at_ ≤ b.length) (hown : w.ownsRow w0.heap.size 5 1 v l.length (l.map B8)) (hb : Below w0.heap.size w0 w) (hls : l.length ≤ sz) (hsz : sz ≤ 65536) (hbl : b.length ≤ 140737488355327) {err k : Nat} {l' : List UInt8} (hP : LaySpec.part sz (b.drop at_) l = (err, l', k)) :
    Calls Try.prog 14 #[v, .int .i64 (sz : Int), .slice A b.length c, .int .i64 (at_ : Int)] w (PPost w0 err l' (if err = 0 then at_ + k else 0)) := by
  obtain ⟨p, k1, e, hd⟩ : ∃ p k e, dec 0 0 (b.drop at_) = (p, k, e) := ⟨_, _, _, rfl⟩
  by_cases he : e = 0
  · subst he
    have ht := dec_takes hd
    rw [List.length_drop] at ht
    by_cases hf : p / 2 = 0 ∨ (p % 2 = 1 ∧ p / 2 < 4) ∨ sz < l.length + p / 2
    · rw [part_form hd hf] at hP
      obtain ⟨rfl, rfl, rfl⟩ : 6 = err ∧ [] = l' ∧ 0 = k := by simpa using hP
      exact part_form' b A c at_ w0 w l v sz hr hc hm hat hown hb hls hsz hd hf
    by_cases h2 : p % 2 = 0
    · by_cases hs : b.length - at_ - k1 < p / 2
      · rw [part_short hd hf h2 (by rw [List.length_drop]; exact hs)] at hP
        obtain ⟨rfl, rfl, rfl⟩ : 5 = err ∧ [] = l' ∧ 0 = k := by simpa using hP
        exact part_even' b A c at_ w0 w l v sz hr hc hm hat hown hb hls hsz hbl hd hf h2 hs
      · rw [part_plain hd hf h2 (by rw [List.length_drop]; exact hs), List.drop_drop] at hP
        simp only [Prod.mk.injEq] at hP
        obtain ⟨rfl, rfl, rfl⟩ := hP
        exact part_plain' b A c at_ w0 w l v sz hr hc hm hat hown hb hls hsz hbl hd hf h2 hs
    · have h1 : p % 2 = 1 := by omega
      obtain ⟨d, k2, e2, hd2⟩ : ∃ p' k' e', dec 0 0 ((b.drop at_).drop k1) = (p', k', e') := ⟨_, _, _, rfl⟩
      have hd3 := hd2
      rw [List.drop_drop] at hd3
      by_cases he2 : e2 = 0
      · subst he2
        by_cases hq : d = 0 ∨ l.length < d
        · rw [part_far hd hf h1 hd2 hq] at hP
          obtain ⟨rfl, rfl, rfl⟩ : 6 = err ∧ [] = l' ∧ 0 = k := by simpa using hP
          exact part_odd' b A c at_ w0 w l v sz hr hc hm hat hown hb hls hsz hd hf h1 (echo_far b A c (at_ + k1) w0 w l v (p / 2) hr hc hm (by omega) hown hb hd3 hq (by omega))
        · rw [part_echo hd hf h1 hd2 hq] at hP
          simp only [Prod.mk.injEq] at hP
          obtain ⟨rfl, rfl, rfl⟩ := hP
          rw [if_pos rfl, ← Nat.add_assoc]
          exact part_odd' b A c at_ w0 w l v sz hr hc hm hat hown hb hls hsz hd hf h1 (echo_ok b A c (at_ + k1) w0 w l v (p / 2) hr hc hm (by omega) hown hb hd3 hq (by omega))
      · rw [part_err2 hd hf h1 hd2 he2] at hP
        simp only [Prod.mk.injEq] at hP
        obtain ⟨rfl, rfl, rfl⟩ := hP
        rw [if_neg he2]
        exact part_odd' b A c at_ w0 w l v sz hr hc hm hat hown hb hls hsz hd hf h1 (echo_err b A c (at_ + k1) w0 w v (p / 2) hr hc hm (by omega) hb hd3 he2)
  · rw [part_err hd he] at hP
    simp only [Prod.mk.injEq] at hP
    obtain ⟨rfl, rfl, rfl⟩ := hP
    rw [if_neg he]
    exact part_err' b A c at_ w0 w v sz hr hc hm hat hb hd he
end Go.Proofs.Ytifndcjjlhjgiaa.Part
