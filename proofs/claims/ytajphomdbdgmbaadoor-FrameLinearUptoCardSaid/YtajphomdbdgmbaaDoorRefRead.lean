/- The contract of the document's own Read: for all bytes and every place it answers as the plain words say; nothing that was there has changed. Conditions: the slice's length is at most its capacity, the capacity at most the model's greatest length. -/
import Derived.Test.YtajphomdbdgmbaaDoorRead2
namespace Go.Proofs.YtajphomdbdgmbaaDoor.RefRead
open Go Go.RowKit Words Plain Crc Tab Summ RefSum SumB Put RefPut App Get RefGet Framed Reading Read2

set_option maxHeartbeats 800000 in
set_option maxRecDepth 100000 in
theorem refr_err (l : List UInt8) (A : Option Addr) (c : Nat) (at_ : Int) (w : World) (B : Nat) (hr : Rd w B A (l.map B8)) (hc : l.length ≤ c) (hm : c ≤ maxLen) (h : getE l at_ ≠ 0) :
    Calls Tryd.prog 19 #[.slice A l.length c, .int .i64 at_] w (ReadPost l at_ w) := by
  have HG := Lib.hid (ref_any l A c at_ w B hr hc hm)
  have HP := Lib.hid (rd_err h)
  have hb : (getE l at_ != 0) = true := by simpa using h
  generalize getE l at_ = ee at *
  generalize getN l at_ = en at *
  generalize getTo l at_ = et at *
  clear hr hc hm h
  go_enter Tryd.func19, Tryd.ntmps19
  go_wp2_with fail
  refine HG.out.mono ?_
  rintro e w1 ⟨rfl, rfl⟩
  go_wp2
  go_ret3
  exact post_nil HP.out rfl (Below.refl _ _)

set_option maxHeartbeats 800000 in
set_option maxRecDepth 100000 in
theorem refr_long (l : List UInt8) (A : Option Addr) (c : Nat) (at_ : Int) (w : World) (B : Nat) (hr : Rd w B A (l.map B8)) (hc : l.length ≤ c) (hm : c ≤ maxLen) (n : Nat) (h : getE l at_ = 0) (hn : getN l at_ = n) (hl : 65536 < n) :
    Calls Tryd.prog 19 #[.slice A l.length c, .int .i64 at_] w (ReadPost l at_ w) := by
  have hg := ref_any l A c at_ w B hr hc hm
  have HP := Lib.hid (rd_long h hn hl)
  rw [h, hn] at hg
  have HG := Lib.hid hg
  clear hg h hn hr hc hm
  generalize getTo l at_ = et at *
  go_enter Tryd.func19, Tryd.ntmps19
  go_wp2_with fail
  refine HG.out.mono ?_
  rintro e w1 ⟨rfl, rfl⟩
  go_wp2
  go_ret3
  exact post_nil HP.out rfl (Below.refl _ _)

set_option maxHeartbeats 800000 in
set_option maxRecDepth 100000 in
theorem refr_short (l : List UInt8) (A : Option Addr) (c : Nat) (at_ : Int) (w : World) (B : Nat) (hr : Rd w B A (l.map B8)) (hc : l.length ≤ c) (hm : c ≤ maxLen) (hlen : l.length ≤ 4611686018427387904) (n f : Nat) (h : getE l at_ = 0) (hn : getN l at_ = n) (hf : getTo l at_ = f) (hle : f ≤ l.length) (hl : ¬ 65536 < n) (hs : l.length < f + n + 4) :
    Calls Tryd.prog 19 #[.slice A l.length c, .int .i64 at_] w (ReadPost l at_ w) := by
  have hg := ref_any l A c at_ w B hr hc hm
  have HP := Lib.hid (rd_short h hn hf hl hs)
  rw [h, hn, hf] at hg
  have HG := Lib.hid hg
  unfold maxLen at hm
  clear hg h hn hf hr
  generalize l.length = m at *
  have hb : decide ((m : Int) < (f : Int) + (n : Int) + 4) = true := decide_eq_true (by omega)
  go_enter Tryd.func19, Tryd.ntmps19
  go_wp2_with fail
  refine HG.out.mono ?_
  rintro e w1 ⟨rfl, rfl⟩
  go_wp2
  go_ret3
  exact post_nil HP.out rfl (Below.refl _ _)

set_option maxHeartbeats 1600000 in
set_option maxRecDepth 100000 in
theorem refr_in (l : List UInt8) (A : Option Addr) (c : Nat) (at_ : Int) (w : World) (hr : Rd w w.heap.size A (l.map B8)) (hc : l.length ≤ c) (hm : c ≤ maxLen) (hlen : l.length ≤ 4611686018427387904) (n f : Nat) (h : getE l at_ = 0) (hn : getN l at_ = n) (hf : getTo l at_ = f) (hl : ¬ 65536 < n) (hs : ¬ l.length < f + n + 4) :
    Calls Tryd.prog 19 #[.slice A l.length c, .int .i64 at_] w (ReadPost l at_ w) := by
  obtain ⟨i0, hi, hz0, hz1, hz2⟩ := info_parts info_u8
  obtain ⟨b, off, rfl, _, _⟩ := hr (by simp; omega)
  have hg := ref_any l _ c at_ w _ hr hc hm
  have R1 := Lib.hid (rd_pay hr f n)
  have R2 := Lib.hid (rd_pay hr (f + n) 4)
  have L1 := pay_length (l := l) (f := f) (n := n) (by omega)
  have L2 := pay_length (l := l) (f := f + n) (n := 4) (by omega)
  have HP7 := Lib.hid (rd_sum h hn hf hl hs)
  have HP0 := Lib.hid (rd_good h hn hf hl hs)
  rw [h, hn, hf] at hg
  have HG := Lib.hid hg
  unfold maxLen at hm
  clear hg h hn hf hr
  generalize pay l f n = P at *
  generalize pay l (f + n) 4 = Q at *
  generalize l.length = m at *
  have e1 : (f : Int) + (n : Int) = ((f + n : Nat) : Int) := by omega
  generalize ht : f + n = t at *
  have hcf : ¬ c = f := by omega
  have hcn : ¬ c = t := by omega
  have hb : decide ((m : Int) < (t : Int) + 4) = false := decide_eq_false (by omega)
  have b1 : (0 : Int) ≤ (t : Int) := by omega
  have b2 : (t : Int) ≤ (t : Int) + 4 := by omega
  have b3 : (t : Int) + 4 ≤ (c : Int) := by omega
  have b4 : IntKind.i64.wrap ((t : Int) + 4) = (t : Int) + 4 := by rw [IntKind.wrap_i64]; omega
  have b5 : (f : Int) ≤ (t : Int) := by omega
  go_enter Tryd.func19, Tryd.ntmps19
  go_wp2_with fail
  refine HG.out.mono ?_
  rintro e w1 ⟨rfl, rfl⟩
  go_wp2_with (at_builtin; refine wpList_append_rd (v := .slice none 0 0) _ rfl (.tmp 33) (.tmp 37) 24 rfl w.heap.size 5 i0 (.int .u8 0) 1 Tryd.underlying24 hi hz0 hz1 hz2 rfl 0 [] rfl (World.ownsRow_nil _ _ _ _) w.heap.size (some ⟨b, off + f, none⟩) _ _ (P.map B8) rfl ?c0 R1.out (one8 P) ?c1 ?c2 (Nat.le_refl _) ?_)
  case c0 => rw [List.length_map, L1]; omega
  case c1 => unfold maxLen; omega
  case c2 => omega
  intro v2 w2 hown2 hg2 _
  have HB2 := Lib.hid (below_app (World.ownsRow_nil w w.heap.size 5 1) (Below.refl _ _) hg2)
  have e2 : t - f = n := by omega
  rw [e2] at hown2
  have hown3 : w2.ownsRow w.heap.size 5 1 v2 n (P.map B8) := hown2
  obtain ⟨A2, c2, rfl, h21, h22, _⟩ := own_slice hown3
  have HO2 := Lib.hid hown3
  have HRP := Lib.hid (Rd.of_own hown3)
  have SB := fun w' => Lib.hid (fun hw : Below w2.heap.size w2 w' => refsum_any P A2 c2 w' w2.heap.size (HRP.out.below hw) (by omega) h22)
  rw [L1] at SB
  have R2' := fun w' => Lib.hid (fun hw : Below w.heap.size w w' => run_str w' (some ⟨b, off + t, none⟩) (((t : Int) + 4).toNat - t) (c - t) (by omega) (R2.out.below hw))
  have HF := fun w' => Lib.hid (four_any (sum P) w' (sum_lt P))
  have hSL := four_length (sum P)
  clear hown2 hown3 hg2 h21 h22
  generalize four (sum P) = S at *
  generalize sum P = sm at *
  have q0 := (R2' w2.drew).out (HB2.out.trans ((drew_below w2).mono HB2.out.size))
  obtain ⟨x, hx⟩ : ∃ x, (S == Q) = x := ⟨_, rfl⟩
  go_wp2
  go_region_with (first
    | (go_at_call 10; refine ((SB _).out (drew_below w2)).mono ?_; rintro e w3 ⟨rfl, rfl⟩)
    | (go_at_call 18; refine (HF _).out.mono ?_; rintro e w3 ⟨A3, rfl, hr3, hb3⟩; have q3 := run_str w3 A3 4 4 hSL.symm hr3; have HB23 := Lib.hid (below_drew hb3); have HB3 := Lib.hid (HB2.out.trans (HB23.out.mono HB2.out.size)); have q4 := (R2' w3).out HB3.out; clear hr3 hb3))
  all_goals
    clear SB HF R2'
    have HOw := Lib.hid (own_keep HO2.out HB23.out)
    cases x
    · go_wp2
      go_ret3
      exact post_nil (HP7.out (by intro e; simp [e] at hx)) rfl HB3.out
    · obtain ⟨p1, p2, p3⟩ := HP0.out (by have := eq_of_beq hx; exact this.symm)
      have HP := Lib.hid (And.intro p1 (And.intro p2 p3))
      clear p1 p2 p3 HP0 HP7
      go_wp2
      go_ret3
      unfold ReadPost
      rw [HP.out.1, HP.out.2.1, HP.out.2.2, L1, e1]
      exact ⟨.slice A2 n c2, rfl, HOw.out, HB3.out⟩

/-- THE DOCUMENT's READ. -/
theorem refr_any (l : List UInt8) (A : Option Addr) (m c : Nat) (at_ : Int) (w : World) (h0 : m = l.length) (hr : Rd w w.heap.size A (l.map B8)) (hc : l.length ≤ c) (hm : c ≤ maxLen) (hlen : l.length ≤ 4611686018427387904) :
    Calls Tryd.prog 19 #[.slice A m c, .int .i64 at_] w (ReadPost l at_ w) := by
  subst h0
  by_cases h : getE l at_ = 0
  · obtain ⟨n, f, hn, hf, hle, hlt⟩ := get_ok h
    by_cases hl : 65536 < n
    · exact refr_long l A c at_ w _ hr hc hm n h hn hl
    · by_cases hs : l.length < f + n + 4
      · exact refr_short l A c at_ w _ hr hc hm hlen n f h hn hf hle hl hs
      · exact refr_in l A c at_ w hr hc hm hlen n f h hn hf hl hs
  · exact refr_err l A c at_ w _ hr hc hm h
end Go.Proofs.YtajphomdbdgmbaaDoor.RefRead
