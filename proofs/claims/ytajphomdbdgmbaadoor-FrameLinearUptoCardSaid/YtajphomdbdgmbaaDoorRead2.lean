/- The contract of frame.Read: for all bytes and every place it answers the error, the payload in new memory, and the place behind the frame, as the plain words of the text before say; nothing that was there has changed. Conditions: the table lies as the program's text lays it; the slice's length is at most its capacity, the capacity at most the model's greatest length. -/
import Derived.Test.YtajphomdbdgmbaaDoorRead
import Derived.Deep.RegionWith
import Derived.Deep.QuietTactic
import Derived.BigQuiet
namespace Go.Proofs.YtajphomdbdgmbaaDoor.Read2
open Go Go.RowKit Words Plain Crc Tab Summ RefSum SumB Put RefPut App Get RefGet Framed Reading

theorem pay_length {l : List UInt8} {f n : Nat} (h : f + n ≤ l.length) : (pay l f n).length = n := by
  unfold pay
  rw [List.length_take, List.length_drop]
  omega
theorem rd_pay {w : World} {B b off : Nat} {l : List UInt8} (h : Rd w B (some ⟨b, off, none⟩) (l.map B8)) (f n : Nat) : Rd w B (some ⟨b, off + f, none⟩) ((pay l f n).map B8) := fun hn => by
  rw [List.length_map] at hn
  unfold pay at hn
  rw [List.length_take, List.length_drop] at hn
  obtain ⟨b', off', e, hb, hc⟩ := h (by simp; omega)
  injection e with e; injection e with e1 e2 _
  subst e1 e2
  refine ⟨b, off + f, rfl, hb, fun j u hu => ?_⟩
  unfold pay at hu
  rw [List.map_take, List.map_drop, List.getElem?_take] at hu
  split at hu
  · rw [List.getElem?_drop] at hu
    rw [Nat.add_assoc]
    exact hc _ u hu
  · cases hu
theorem drew_below (w : World) : Below w.heap.size w w.drew := ⟨rfl, rfl, rfl, Nat.le_refl _, fun _ _ => rfl⟩
theorem below_drew {w w' : World} {B : Nat} (h : Below B w.drew w') : Below B w w' := ⟨h.os, h.tape, h.output, h.size, h.block⟩

set_option maxHeartbeats 1600000 in
set_option maxRecDepth 100000 in
theorem read_in (l : List UInt8) (A : Option Addr) (c : Nat) (at_ : Int) (w : World) (hr : Rd w w.heap.size A (l.map B8)) (hc : l.length ≤ c) (hm : c ≤ maxLen) (hL : Laid w w.heap.size) (n f : Nat) (h : getE l at_ = 0) (hn : getN l at_ = n) (hf : getTo l at_ = f) (hl : ¬ 65536 < n) (hs : ¬ l.length < f + n + 4) :
    Calls Tryd.prog 14 #[.slice A l.length c, .int .i64 at_] w (ReadPost l at_ w) := by
  obtain ⟨b, off, rfl, _, _⟩ := hr (by simp; omega)
  have hg := get_any l _ c at_ w _ hr hc hm
  have R1 := Lib.hid (rd_pay hr f n)
  have R2 : Hid (Rd w w.heap.size (some ⟨b, off + f + n, none⟩) ((pay l (f + n) 4).map B8)) := by
    have := rd_pay hr (f + n) 4
    rw [← Nat.add_assoc] at this
    exact this
  have L1 := pay_length (l := l) (f := f) (n := n) (by omega)
  have L2 := pay_length (l := l) (f := f + n) (n := 4) (by omega)
  have HP7 := Lib.hid (rd_sum h hn hf hl hs)
  have HP0 := Lib.hid (rd_good h hn hf hl hs)
  rw [h, hn, hf] at hg
  have HG := Lib.hid hg
  unfold maxLen at hm
  clear hg h hn hf hr
  generalize pay l f n = P at *
  generalize pay l (f + n) 4 = Q at *
  have HPost := Lib.hid (show ReadPost l at_ w = ReadPost l at_ w from rfl)
  generalize l.length = m at *
  have hb : decide ((m : Int) - (f : Int) < (n : Int) + 4) = false := decide_eq_false (by omega)
  have hcf : ¬ c = f := by omega
  have hcn : ¬ c - f = n := by omega
  have SB := fun (w' : World) (hw : Below w.heap.size w w') => Lib.hid (sumb_any P (some ⟨b, off + f, none⟩) n (c - f) w' w.heap.size L1.symm (R1.out.below hw) hw.size (by omega) (by unfold maxLen; omega) (hL.below hw))
  clear hL
  have hSL := four_length (sum P)
  generalize four (sum P) = S at *
  have b1 : (0 : Int) ≤ (n : Int) := by omega
  have b2 : (n : Int) ≤ (n : Int) + 4 := by omega
  have b3 : (n : Int) + 4 ≤ ((c - f : Nat) : Int) := by omega
  have b4 : IntKind.i64.wrap ((n : Int) + 4) = (n : Int) + 4 := by rw [IntKind.wrap_i64]; omega
  go_enter Tryd.func14, Tryd.ntmps14
  go_wp2_with fail
  refine HG.out.mono ?_
  rintro e w1 ⟨rfl, rfl⟩
  go_wp2
  obtain ⟨x, hx⟩ : ∃ x, (Q == S) = x := ⟨_, rfl⟩
  go_region_with (first
    | (go_at_call 16; refine (SB _ (drew_below w)).out.mono ?_; rintro e w1 ⟨A3, rfl, hr3, hb3⟩; have HB3 := Lib.hid (below_drew hb3); have HR3 := Lib.hid hr3; clear hr3 hb3)
    | (go_at_call 21; refine (equal_any Q S _ _ _ _ _ _ _ _ _ (by omega) (by omega) (R2.out.below HB3.out) HR3.out x hx).mono ?_; rintro e w2 ⟨rfl, rfl⟩))
  all_goals
    clear SB
    cases x
    · go_wp2
      go_ret3
      exact post_nil (HP7.out (by simpa using hx)) rfl HB3.out
    · obtain ⟨p1, p2, p3⟩ := HP0.out (by simpa using hx)
      have HP := Lib.hid (And.intro p1 (And.intro p2 p3))
      clear p1 p2 p3 HP0 HP7
      go_wp2_with fail
      refine (clone_any P _ _ _ _ w.heap.size L1.symm (R1.out.below HB3.out) HB3.out.size (by omega)).mono ?_
      rintro e w4 ⟨v, rfl, hown, hb4⟩
      have HO := Lib.hid (own_mono hown HB3.out.size)
      have HB4 := Lib.hid (HB3.out.trans (hb4.mono HB3.out.size))
      clear hown hb4
      go_wp2
      go_ret3
      unfold ReadPost
      rw [HP.out.1, HP.out.2.1, HP.out.2.2]
      exact ⟨v, rfl, HO.out, HB4.out⟩

/-- READ. -/
theorem read_any (l : List UInt8) (A : Option Addr) (m c : Nat) (at_ : Int) (w : World) (h0 : m = l.length) (hr : Rd w w.heap.size A (l.map B8)) (hc : l.length ≤ c) (hm : c ≤ maxLen) (hL : Laid w w.heap.size) :
    Calls Tryd.prog 14 #[.slice A m c, .int .i64 at_] w (ReadPost l at_ w) := by
  subst h0
  by_cases h : getE l at_ = 0
  · obtain ⟨n, f, hn, hf, hle, hlt⟩ := get_ok h
    by_cases hl : 65536 < n
    · exact read_long l A c at_ w _ hr hc hm n f h hn hl
    · by_cases hs : l.length < f + n + 4
      · exact read_short l A c at_ w _ hr hc hm n f h hn hf hle hl hs
      · exact read_in l A c at_ w hr hc hm hL n f h hn hf hl hs
  · exact read_err l A c at_ w _ hr hc hm h
end Go.Proofs.YtajphomdbdgmbaaDoor.Read2
