/- What reading a frame at a place answers, in plain words: the error, the payload, the place behind it. And the contracts of bytes.Equal and bytes.Clone. Conditions: lengths are at most capacities, these at most the model's greatest length. · The contract of frame.Read: for all bytes and every place it answers the error, the payload in new memory, and the place behind the frame, as the plain words of the text before say; nothing that was there has changed. Conditions: the table lies as the program's text lays it; the slice's length is at most its capacity, the capacity at most the model's greatest length. · The contract of the document's own Read: for all bytes and every place it answers as the plain words say; nothing that was there has changed. Conditions: the slice's length is at most its capacity, the capacity at most the model's greatest length. · Plain facts on frames: a frame that stands between other bytes is read as its payload; each shorter beginning is too short; with one byte behind its length changed it is not taken. No conditions but that the payload has at most 65536 bytes. -/
import Derived.Test.YtjninegpaoblfaaGreatDoorFrame
import Derived.Test.YtjninegpaoblfaaGreatDoorGets
import Derived.Deep.RegionWith
import Derived.Deep.QuietTactic
import Derived.BigQuiet
namespace Go.Proofs.YtjninegpaoblfaaGreatDoor.Reading
open Go Go.RowKit Words Plain Crc Tab Summ RefSum SumB Put RefPut App Get RefGet Framed

theorem get_ok {l : List UInt8} {at_ : Int} (h : getE l at_ = 0) : ∃ n f : Nat, getN l at_ = n ∧ getTo l at_ = f ∧ f ≤ l.length ∧ n < 18446744073709551616 := by
  unfold getE at h
  unfold getN getTo
  by_cases h0 : at_ < 0 ∨ (l.length : Int) < at_
  · rw [if_pos h0] at h; omega
  rw [if_neg h0] at h
  rw [if_neg h0, if_neg h0]
  obtain ⟨⟨n, c, e⟩, hd⟩ : ∃ x, dec 0 0 (l.drop at_.toNat) = x := ⟨_, rfl⟩
  rw [hd] at h
  rw [hd]
  simp only at h ⊢
  have he : e = 0 := by omega
  subst he
  obtain ⟨x, h1, h2, h3, _, _, h6⟩ := dec_back _ 0 0 n c (by omega) (by decide) hd
  rw [List.length_drop] at h3
  exact ⟨n, at_.toNat + c, rfl, by simp; omega, by omega, h6⟩

/-- The payload of n bytes from f on; the four bytes from p on. -/
def pay (l : List UInt8) (f n : Nat) : List UInt8 := (l.drop f).take n
def rdE (l : List UInt8) (at_ : Int) : Int :=
  if getE l at_ ≠ 0 then getE l at_ else if 65536 < getN l at_ then 4 else if (l.length : Int) < getTo l at_ + getN l at_ + 4 then 5
  else if pay l ((getTo l at_).toNat + (getN l at_).toNat) 4 = four (sum (pay l (getTo l at_).toNat (getN l at_).toNat)) then 0 else 7
def rdP (l : List UInt8) (at_ : Int) : List UInt8 := if rdE l at_ = 0 then pay l (getTo l at_).toNat (getN l at_).toNat else []
def rdT (l : List UInt8) (at_ : Int) : Int := if rdE l at_ = 0 then getTo l at_ + getN l at_ + 4 else 0

section
variable {l : List UInt8} {at_ : Int} {n f : Nat}
theorem rd_err (h : getE l at_ ≠ 0) : rdE l at_ = getE l at_ ∧ rdP l at_ = [] ∧ rdT l at_ = 0 := by
  have h1 : rdE l at_ = getE l at_ := by unfold rdE; rw [if_pos h]
  unfold rdP rdT
  rw [if_neg (by rw [h1]; exact h), if_neg (by rw [h1]; exact h)]
  exact ⟨h1, rfl, rfl⟩
theorem rd_long (h : getE l at_ = 0) (hn : getN l at_ = n) (hl : 65536 < n) : rdE l at_ = 4 ∧ rdP l at_ = [] ∧ rdT l at_ = 0 := by
  have h1 : rdE l at_ = 4 := by unfold rdE; rw [if_neg (by omega), if_pos (by omega)]
  unfold rdP rdT
  rw [if_neg (by omega), if_neg (by omega)]
  exact ⟨h1, rfl, rfl⟩
theorem rd_short (h : getE l at_ = 0) (hn : getN l at_ = n) (hf : getTo l at_ = f) (hl : ¬ 65536 < n) (hs : l.length < f + n + 4) : rdE l at_ = 5 ∧ rdP l at_ = [] ∧ rdT l at_ = 0 := by
  have h1 : rdE l at_ = 5 := by unfold rdE; rw [if_neg (by omega), if_neg (by omega), if_pos (by omega)]
  unfold rdP rdT
  rw [if_neg (by omega), if_neg (by omega)]
  exact ⟨h1, rfl, rfl⟩
theorem rd_sum (h : getE l at_ = 0) (hn : getN l at_ = n) (hf : getTo l at_ = f) (hl : ¬ 65536 < n) (hs : ¬ l.length < f + n + 4) (hq : pay l (f + n) 4 ≠ four (sum (pay l f n))) : rdE l at_ = 7 ∧ rdP l at_ = [] ∧ rdT l at_ = 0 := by
  have h1 : rdE l at_ = 7 := by unfold rdE; rw [if_neg (by omega), if_neg (by omega), if_neg (by omega), hn, hf, if_neg (by simpa using hq)]
  unfold rdP rdT
  rw [if_neg (by omega), if_neg (by omega)]
  exact ⟨h1, rfl, rfl⟩
theorem rd_good (h : getE l at_ = 0) (hn : getN l at_ = n) (hf : getTo l at_ = f) (hl : ¬ 65536 < n) (hs : ¬ l.length < f + n + 4) (hq : pay l (f + n) 4 = four (sum (pay l f n))) : rdE l at_ = 0 ∧ rdP l at_ = pay l f n ∧ rdT l at_ = f + n + 4 := by
  have h1 : rdE l at_ = 0 := by unfold rdE; rw [if_neg (by omega), if_neg (by omega), if_neg (by omega), hn, hf, if_pos (by simpa using hq)]
  unfold rdP rdT
  rw [if_pos h1, if_pos h1, hn, hf]
  exact ⟨h1, by simp, rfl⟩
end

/-- What Read and the document's Read answer. -/
def ReadPost (l : List UInt8) (at_ : Int) (w : World) (e : Ending) (w' : World) : Prop :=
  ∃ v, e = .returned (.tuple #[v, .int .i64 (rdT l at_), .int .i64 (rdE l at_)]) ∧ w'.ownsRow w.heap.size 5 1 v (rdP l at_).length ((rdP l at_).map B8) ∧ Below w.heap.size w w'
theorem post_nil {l : List UInt8} {at_ : Int} {w w' : World} {e : Ending} {x : Int} (h : rdE l at_ = x ∧ rdP l at_ = [] ∧ rdT l at_ = 0) (he : e = .returned (.tuple #[.slice none 0 0, .int .i64 0, .int .i64 x])) (hb : Below w.heap.size w w') : ReadPost l at_ w e w' := by
  obtain ⟨rfl, h2, h3⟩ := h
  unfold ReadPost
  rw [h2, h3]
  exact ⟨_, he, World.ownsRow_nil _ _ _ _, hb⟩

theorem run_str {s : List UInt8} {B : Nat} (w : World) (A : Option Addr) (n c : Nat) (hn : n = s.length) (hr : Rd w B A (s.map B8)) : (convert 51 9 (.slice A n c)).run Tryz.prog w = .ok (.string ⟨s.toArray⟩) w := by
  subst hn
  exact run_bytes w 51 9 5 Tryz.underlying51 Tryz.underlying5 Tryz.underlying9 A s c B hr
set_option maxHeartbeats 800000 in
set_option maxRecDepth 100000 in
theorem equal_any (a b : List UInt8) (A1 A2 : Option Addr) (n1 n2 c1 c2 : Nat) (w : World) (B1 B2 : Nat) (h1 : n1 = a.length) (h2 : n2 = b.length) (hr1 : Rd w B1 A1 (a.map B8)) (hr2 : Rd w B2 A2 (b.map B8)) (x : Bool) (hx : (a == b) = x) :
    Calls Tryz.prog 72 #[.slice A1 n1 c1, .slice A2 n2 c2] w fun e w' => e = .returned (.bool x) ∧ w = w' := by
  subst h1 h2
  have s1 := run_str w A1 _ c1 rfl hr1
  have s2 := run_str w A2 _ c2 rfl hr2
  clear hr1 hr2
  go_enter Tryz.func72, Tryz.ntmps72
  go_wp2
  go_ret
  exact ⟨rfl, rfl⟩

set_option maxHeartbeats 800000 in
set_option maxRecDepth 100000 in
theorem clone_any (l : List UInt8) (A : Option Addr) (n c : Nat) (w : World) (B : Nat) (hn : n = l.length) (hr : Rd w B A (l.map B8)) (hB : B ≤ w.heap.size) (hl : l.length ≤ 65536) :
    Calls Tryz.prog 41 #[.slice A n c] w fun e w' => ∃ v, e = .returned v ∧ w'.ownsRow w.heap.size 5 1 v l.length (l.map B8) ∧ Below w.heap.size w w' := by
  obtain ⟨i0, hi, hz0, hz1, hz2⟩ := info_parts info_u8
  subst hn
  have HR := Lib.hid hr
  cases A with
  | none =>
    have h0 : l = [] := by
      by_cases h : l = []
      · exact h
      · obtain ⟨b, off, e, _⟩ := hr (by simp; exact List.length_pos_iff.2 h)
        cases e
    subst h0
    clear hr
    have he : ∀ w : World, (binOp .eql 51 (.slice none 0 c) (.slice none 0 0)).run Tryz.prog w = .ok (.bool true) w := fun _ => rfl
    go_enter Tryz.func41, Tryz.ntmps41
    go_wp2
    go_ret
    exact ⟨_, rfl, World.ownsRow_nil _ _ _ _, Below.refl _ _⟩
  | some a =>
    clear hr
    have hown0 := World.ownsRow_lit (base := w.heap.size) (e := 5) (size := 1) w #[] 0 (Nat.le_refl _) (by unfold maxLen; omega) rfl
    have HB1 := Lib.hid ((Below.refl w.heap.size w).alloc (Nat.le_refl _) (.cells #[] 5))
    have he : ∀ w : World, (binOp .eql 51 (.slice (some a) l.length c) (.slice none 0 0)).run Tryz.prog w = .ok (.bool false) w := fun _ => rfl
    go_enter Tryz.func41, Tryz.ntmps41
    go_wp2_with (at_builtin; refine wpList_append_rd (v := .slice (some ⟨w.heap.size, 0, none⟩) 0 0) _ rfl (.tmp 5) (.tmp 6) 51 rfl w.heap.size 5 i0 (.int .u8 0) 1 Tryz.underlying51 hi hz0 hz1 hz2 rfl 0 [] rfl hown0 B (some a) l.length c (l.map B8) rfl (by simp) (HR.out.alloc hB _) (one8 l) ?c1 ?c2 HB1.out.size ?_)
    case c1 => unfold maxLen; omega
    case c2 => omega
    intro v2 w2 hown2 hg2 _
    have HB2 := Lib.hid (below_app hown0 HB1.out hg2)
    have hown3 : w2.ownsRow w.heap.size 5 1 v2 l.length (l.map B8) := by simpa using hown2
    have HO2 := Lib.hid hown3
    clear hown0 hown2 hown3 hg2
    go_wp2
    go_ret
    exact ⟨v2, rfl, HO2.out, HB2.out⟩

set_option maxHeartbeats 800000 in
set_option maxRecDepth 100000 in
theorem read_err (l : List UInt8) (A : Option Addr) (c : Nat) (at_ : Int) (w : World) (B : Nat) (hr : Rd w B A (l.map B8)) (hc : l.length ≤ c) (hm : c ≤ maxLen) (h : getE l at_ ≠ 0) :
    Calls Tryz.prog 48 #[.slice A l.length c, .int .i64 at_] w (ReadPost l at_ w) := by
  have HG := Lib.hid (get_any l A c at_ w B hr hc hm)
  have HP := Lib.hid (rd_err h)
  have hb : (getE l at_ != 0) = true := by simpa using h
  generalize getE l at_ = ee at *
  generalize getN l at_ = en at *
  generalize getTo l at_ = et at *
  clear hr hc hm h
  go_enter Tryz.func48, Tryz.ntmps48
  go_wp2_with fail
  refine HG.out.mono ?_
  rintro e w1 ⟨rfl, rfl⟩
  go_wp2
  go_ret3
  exact post_nil HP.out rfl (Below.refl _ _)

set_option maxHeartbeats 800000 in
set_option maxRecDepth 100000 in
theorem read_long (l : List UInt8) (A : Option Addr) (c : Nat) (at_ : Int) (w : World) (B : Nat) (hr : Rd w B A (l.map B8)) (hc : l.length ≤ c) (hm : c ≤ maxLen) (n : Nat) (h : getE l at_ = 0) (hn : getN l at_ = n) (hl : 65536 < n) :
    Calls Tryz.prog 48 #[.slice A l.length c, .int .i64 at_] w (ReadPost l at_ w) := by
  have hg := get_any l A c at_ w B hr hc hm
  have HP := Lib.hid (rd_long h hn hl)
  rw [h, hn] at hg
  have HG := Lib.hid hg
  clear hg h hn hr hc hm
  generalize getTo l at_ = et at *
  go_enter Tryz.func48, Tryz.ntmps48
  go_wp2_with fail
  refine HG.out.mono ?_
  rintro e w1 ⟨rfl, rfl⟩
  go_wp2
  go_ret3
  exact post_nil HP.out rfl (Below.refl _ _)

set_option maxHeartbeats 800000 in
set_option maxRecDepth 100000 in
theorem read_short (l : List UInt8) (A : Option Addr) (c : Nat) (at_ : Int) (w : World) (B : Nat) (hr : Rd w B A (l.map B8)) (hc : l.length ≤ c) (hm : c ≤ maxLen) (n f : Nat) (h : getE l at_ = 0) (hn : getN l at_ = n) (hf : getTo l at_ = f) (hle : f ≤ l.length) (hl : ¬ 65536 < n) (hs : l.length < f + n + 4) :
    Calls Tryz.prog 48 #[.slice A l.length c, .int .i64 at_] w (ReadPost l at_ w) := by
  have hg := get_any l A c at_ w B hr hc hm
  have HP := Lib.hid (rd_short h hn hf hl hs)
  rw [h, hn, hf] at hg
  have HG := Lib.hid hg
  unfold maxLen at hm
  clear hg h hn hf hr
  generalize l.length = m at *
  have hb : decide ((m : Int) - (f : Int) < (n : Int) + 4) = true := decide_eq_true (by omega)
  by_cases hcf : c = f
  · subst hcf
    go_enter Tryz.func48, Tryz.ntmps48
    go_wp2_with fail
    refine HG.out.mono ?_
    rintro e w1 ⟨rfl, rfl⟩
    go_wp2
    go_ret3
    exact post_nil HP.out rfl (Below.refl _ _)
  · go_enter Tryz.func48, Tryz.ntmps48
    go_wp2_with fail
    refine HG.out.mono ?_
    rintro e w1 ⟨rfl, rfl⟩
    go_wp2
    go_ret3
    exact post_nil HP.out rfl (Below.refl _ _)
end Go.Proofs.YtjninegpaoblfaaGreatDoor.Reading

namespace Go.Proofs.YtjninegpaoblfaaGreatDoor.Read2
open Go Go.RowKit Words Plain Crc Tab Summ RefSum SumB Put RefPut App Get RefGet Framed Reading

theorem pay_length {l : List UInt8} {f n : Nat} (h : f + n ≤ l.length) : (pay l f n).length = n := by
  unfold pay
  rw [List.length_take, List.length_drop]
  omega
theorem rd_pay {w : World} {B b off : Nat} {l : List UInt8} (h : Rd w B (some ⟨b, off, none⟩) (l.map B8)) (f n : Nat) : Rd w B (some ⟨b, off + f, none⟩) ((pay l f n).map B8) := fun hn => by
  rw [List.length_map] at hn
  unfold pay at hn
  rw [List.length_take, List.length_drop] at hn
  obtain ⟨b', off', e, hb, hc⟩ := h (by simp; omega)
  injection e with e; injection e with e1 e2 _
  subst e1 e2
  refine ⟨b, off + f, rfl, hb, fun j u hu => ?_⟩
  unfold pay at hu
  rw [List.map_take, List.map_drop, List.getElem?_take] at hu
  split at hu
  · rw [List.getElem?_drop] at hu
    rw [Nat.add_assoc]
    exact hc _ u hu
  · cases hu
theorem drew_below (w : World) : Below w.heap.size w w.drew := ⟨rfl, rfl, rfl, Nat.le_refl _, fun _ _ => rfl⟩
theorem below_drew {w w' : World} {B : Nat} (h : Below B w.drew w') : Below B w w' := ⟨h.os, h.tape, h.output, h.size, h.block⟩

set_option maxHeartbeats 1600000 in
set_option maxRecDepth 100000 in
theorem read_in (l : List UInt8) (A : Option Addr) (c : Nat) (at_ : Int) (w : World) (hr : Rd w w.heap.size A (l.map B8)) (hc : l.length ≤ c) (hm : c ≤ maxLen) (hL : Laid w w.heap.size) (n f : Nat) (h : getE l at_ = 0) (hn : getN l at_ = n) (hf : getTo l at_ = f) (hl : ¬ 65536 < n) (hs : ¬ l.length < f + n + 4) :
    Calls Tryz.prog 48 #[.slice A l.length c, .int .i64 at_] w (ReadPost l at_ w) := by
  obtain ⟨b, off, rfl, _, _⟩ := hr (by simp; omega)
  have hg := get_any l _ c at_ w _ hr hc hm
  have R1 := Lib.hid (rd_pay hr f n)
  have R2 : Hid (Rd w w.heap.size (some ⟨b, off + f + n, none⟩) ((pay l (f + n) 4).map B8)) := by
    have := rd_pay hr (f + n) 4
    rw [← Nat.add_assoc] at this
    exact this
  have L1 := pay_length (l := l) (f := f) (n := n) (by omega)
  have L2 := pay_length (l := l) (f := f + n) (n := 4) (by omega)
  have HP7 := Lib.hid (rd_sum h hn hf hl hs)
  have HP0 := Lib.hid (rd_good h hn hf hl hs)
  rw [h, hn, hf] at hg
  have HG := Lib.hid hg
  unfold maxLen at hm
  clear hg h hn hf hr
  generalize pay l f n = P at *
  generalize pay l (f + n) 4 = Q at *
  have HPost := Lib.hid (show ReadPost l at_ w = ReadPost l at_ w from rfl)
  generalize l.length = m at *
  have hb : decide ((m : Int) - (f : Int) < (n : Int) + 4) = false := decide_eq_false (by omega)
  have hcf : ¬ c = f := by omega
  have hcn : ¬ c - f = n := by omega
  have SB := fun (w' : World) (hw : Below w.heap.size w w') => Lib.hid (sumb_any P (some ⟨b, off + f, none⟩) n (c - f) w' w.heap.size L1.symm (R1.out.below hw) hw.size (by omega) (by unfold maxLen; omega) (hL.below hw))
  clear hL
  have hSL := four_length (sum P)
  generalize four (sum P) = S at *
  have b1 : (0 : Int) ≤ (n : Int) := by omega
  have b2 : (n : Int) ≤ (n : Int) + 4 := by omega
  have b3 : (n : Int) + 4 ≤ ((c - f : Nat) : Int) := by omega
  have b4 : IntKind.i64.wrap ((n : Int) + 4) = (n : Int) + 4 := by rw [IntKind.wrap_i64]; omega
  go_enter Tryz.func48, Tryz.ntmps48
  go_wp2_with fail
  refine HG.out.mono ?_
  rintro e w1 ⟨rfl, rfl⟩
  go_wp2
  obtain ⟨x, hx⟩ : ∃ x, (Q == S) = x := ⟨_, rfl⟩
  go_region_with (first
    | (go_at_call 69; refine (SB _ (drew_below w)).out.mono ?_; rintro e w1 ⟨A3, rfl, hr3, hb3⟩; have HB3 := Lib.hid (below_drew hb3); have HR3 := Lib.hid hr3; clear hr3 hb3)
    | (go_at_call 72; refine (equal_any Q S _ _ _ _ _ _ _ _ _ (by omega) (by omega) (R2.out.below HB3.out) HR3.out x hx).mono ?_; rintro e w2 ⟨rfl, rfl⟩))
  all_goals
    clear SB
    cases x
    · go_wp2
      go_ret3
      exact post_nil (HP7.out (by simpa using hx)) rfl HB3.out
    · obtain ⟨p1, p2, p3⟩ := HP0.out (by simpa using hx)
      have HP := Lib.hid (And.intro p1 (And.intro p2 p3))
      clear p1 p2 p3 HP0 HP7
      go_wp2_with fail
      refine (clone_any P _ _ _ _ w.heap.size L1.symm (R1.out.below HB3.out) HB3.out.size (by omega)).mono ?_
      rintro e w4 ⟨v, rfl, hown, hb4⟩
      have HO := Lib.hid (own_mono hown HB3.out.size)
      have HB4 := Lib.hid (HB3.out.trans (hb4.mono HB3.out.size))
      clear hown hb4
      go_wp2
      go_ret3
      unfold ReadPost
      rw [HP.out.1, HP.out.2.1, HP.out.2.2]
      exact ⟨v, rfl, HO.out, HB4.out⟩

/-- READ. -/
theorem read_any (l : List UInt8) (A : Option Addr) (m c : Nat) (at_ : Int) (w : World) (h0 : m = l.length) (hr : Rd w w.heap.size A (l.map B8)) (hc : l.length ≤ c) (hm : c ≤ maxLen) (hL : Laid w w.heap.size) :
    Calls Tryz.prog 48 #[.slice A m c, .int .i64 at_] w (ReadPost l at_ w) := by
  subst h0
  by_cases h : getE l at_ = 0
  · obtain ⟨n, f, hn, hf, hle, hlt⟩ := get_ok h
    by_cases hl : 65536 < n
    · exact read_long l A c at_ w _ hr hc hm n h hn hl
    · by_cases hs : l.length < f + n + 4
      · exact read_short l A c at_ w _ hr hc hm n f h hn hf hle hl hs
      · exact read_in l A c at_ w hr hc hm hL n f h hn hf hl hs
  · exact read_err l A c at_ w _ hr hc hm h
end Go.Proofs.YtjninegpaoblfaaGreatDoor.Read2

namespace Go.Proofs.YtjninegpaoblfaaGreatDoor.RefRead
open Go Go.RowKit Words Plain Crc Tab Summ RefSum SumB Put RefPut App Get RefGet Framed Reading Read2

set_option maxHeartbeats 800000 in
set_option maxRecDepth 100000 in
theorem refr_err (l : List UInt8) (A : Option Addr) (c : Nat) (at_ : Int) (w : World) (B : Nat) (hr : Rd w B A (l.map B8)) (hc : l.length ≤ c) (hm : c ≤ maxLen) (h : getE l at_ ≠ 0) :
    Calls Tryz.prog 61 #[.slice A l.length c, .int .i64 at_] w (ReadPost l at_ w) := by
  have HG := Lib.hid (ref_any l A c at_ w B hr hc hm)
  have HP := Lib.hid (rd_err h)
  have hb : (getE l at_ != 0) = true := by simpa using h
  generalize getE l at_ = ee at *
  generalize getN l at_ = en at *
  generalize getTo l at_ = et at *
  clear hr hc hm h
  go_enter Tryz.func61, Tryz.ntmps61
  go_wp2_with fail
  refine HG.out.mono ?_
  rintro e w1 ⟨rfl, rfl⟩
  go_wp2
  go_ret3
  exact post_nil HP.out rfl (Below.refl _ _)

set_option maxHeartbeats 800000 in
set_option maxRecDepth 100000 in
theorem refr_long (l : List UInt8) (A : Option Addr) (c : Nat) (at_ : Int) (w : World) (B : Nat) (hr : Rd w B A (l.map B8)) (hc : l.length ≤ c) (hm : c ≤ maxLen) (n : Nat) (h : getE l at_ = 0) (hn : getN l at_ = n) (hl : 65536 < n) :
    Calls Tryz.prog 61 #[.slice A l.length c, .int .i64 at_] w (ReadPost l at_ w) := by
  have hg := ref_any l A c at_ w B hr hc hm
  have HP := Lib.hid (rd_long h hn hl)
  rw [h, hn] at hg
  have HG := Lib.hid hg
  clear hg h hn hr hc hm
  generalize getTo l at_ = et at *
  go_enter Tryz.func61, Tryz.ntmps61
  go_wp2_with fail
  refine HG.out.mono ?_
  rintro e w1 ⟨rfl, rfl⟩
  go_wp2
  go_ret3
  exact post_nil HP.out rfl (Below.refl _ _)

set_option maxHeartbeats 800000 in
set_option maxRecDepth 100000 in
theorem refr_short (l : List UInt8) (A : Option Addr) (c : Nat) (at_ : Int) (w : World) (B : Nat) (hr : Rd w B A (l.map B8)) (hc : l.length ≤ c) (hm : c ≤ maxLen) (hlen : l.length ≤ 4611686018427387904) (n f : Nat) (h : getE l at_ = 0) (hn : getN l at_ = n) (hf : getTo l at_ = f) (hle : f ≤ l.length) (hl : ¬ 65536 < n) (hs : l.length < f + n + 4) :
    Calls Tryz.prog 61 #[.slice A l.length c, .int .i64 at_] w (ReadPost l at_ w) := by
  have hg := ref_any l A c at_ w B hr hc hm
  have HP := Lib.hid (rd_short h hn hf hl hs)
  rw [h, hn, hf] at hg
  have HG := Lib.hid hg
  unfold maxLen at hm
  clear hg h hn hf hr
  generalize l.length = m at *
  have hb : decide ((m : Int) < (f : Int) + (n : Int) + 4) = true := decide_eq_true (by omega)
  go_enter Tryz.func61, Tryz.ntmps61
  go_wp2_with fail
  refine HG.out.mono ?_
  rintro e w1 ⟨rfl, rfl⟩
  go_wp2
  go_ret3
  exact post_nil HP.out rfl (Below.refl _ _)

set_option maxHeartbeats 1600000 in
set_option maxRecDepth 100000 in
theorem refr_in (l : List UInt8) (A : Option Addr) (c : Nat) (at_ : Int) (w : World) (hr : Rd w w.heap.size A (l.map B8)) (hc : l.length ≤ c) (hm : c ≤ maxLen) (hlen : l.length ≤ 4611686018427387904) (n f : Nat) (h : getE l at_ = 0) (hn : getN l at_ = n) (hf : getTo l at_ = f) (hl : ¬ 65536 < n) (hs : ¬ l.length < f + n + 4) :
    Calls Tryz.prog 61 #[.slice A l.length c, .int .i64 at_] w (ReadPost l at_ w) := by
  obtain ⟨i0, hi, hz0, hz1, hz2⟩ := info_parts info_u8
  obtain ⟨b, off, rfl, _, _⟩ := hr (by simp; omega)
  have hg := ref_any l _ c at_ w _ hr hc hm
  have R1 := Lib.hid (rd_pay hr f n)
  have R2 := Lib.hid (rd_pay hr (f + n) 4)
  have L1 := pay_length (l := l) (f := f) (n := n) (by omega)
  have L2 := pay_length (l := l) (f := f + n) (n := 4) (by omega)
  have HP7 := Lib.hid (rd_sum h hn hf hl hs)
  have HP0 := Lib.hid (rd_good h hn hf hl hs)
  rw [h, hn, hf] at hg
  have HG := Lib.hid hg
  unfold maxLen at hm
  clear hg h hn hf hr
  generalize pay l f n = P at *
  generalize pay l (f + n) 4 = Q at *
  generalize l.length = m at *
  have e1 : (f : Int) + (n : Int) = ((f + n : Nat) : Int) := by omega
  generalize ht : f + n = t at *
  have hcf : ¬ c = f := by omega
  have hcn : ¬ c = t := by omega
  have hb : decide ((m : Int) < (t : Int) + 4) = false := decide_eq_false (by omega)
  have b1 : (0 : Int) ≤ (t : Int) := by omega
  have b2 : (t : Int) ≤ (t : Int) + 4 := by omega
  have b3 : (t : Int) + 4 ≤ (c : Int) := by omega
  have b4 : IntKind.i64.wrap ((t : Int) + 4) = (t : Int) + 4 := by rw [IntKind.wrap_i64]; omega
  have b5 : (f : Int) ≤ (t : Int) := by omega
  go_enter Tryz.func61, Tryz.ntmps61
  go_wp2_with fail
  refine HG.out.mono ?_
  rintro e w1 ⟨rfl, rfl⟩
  go_wp2_with (at_builtin; refine wpList_append_rd (v := .slice none 0 0) _ rfl (.tmp 33) (.tmp 37) 51 rfl w.heap.size 5 i0 (.int .u8 0) 1 Tryz.underlying51 hi hz0 hz1 hz2 rfl 0 [] rfl (World.ownsRow_nil _ _ _ _) w.heap.size (some ⟨b, off + f, none⟩) _ _ (P.map B8) rfl ?c0 R1.out (one8 P) ?c1 ?c2 (Nat.le_refl _) ?_)
  case c0 => rw [List.length_map, L1]; omega
  case c1 => unfold maxLen; omega
  case c2 => omega
  intro v2 w2 hown2 hg2 _
  have HB2 := Lib.hid (below_app (World.ownsRow_nil w w.heap.size 5 1) (Below.refl _ _) hg2)
  have e2 : t - f = n := by omega
  rw [e2] at hown2
  have hown3 : w2.ownsRow w.heap.size 5 1 v2 n (P.map B8) := hown2
  obtain ⟨A2, c2, rfl, h21, h22, _⟩ := own_slice hown3
  have HO2 := Lib.hid hown3
  have HRP := Lib.hid (Rd.of_own hown3)
  have SB := fun w' => Lib.hid (fun hw : Below w2.heap.size w2 w' => refsum_any P A2 c2 w' w2.heap.size (HRP.out.below hw) (by omega) h22)
  rw [L1] at SB
  have R2' := fun w' => Lib.hid (fun hw : Below w.heap.size w w' => run_str w' (some ⟨b, off + t, none⟩) (((t : Int) + 4).toNat - t) (c - t) (by omega) (R2.out.below hw))
  have HF := fun w' => Lib.hid (four_any (sum P) w' (sum_lt P))
  have hSL := four_length (sum P)
  clear hown2 hown3 hg2 h21 h22
  generalize four (sum P) = S at *
  generalize sum P = sm at *
  have q0 := (R2' w2.drew).out (HB2.out.trans ((drew_below w2).mono HB2.out.size))
  obtain ⟨x, hx⟩ : ∃ x, (S == Q) = x := ⟨_, rfl⟩
  go_wp2
  go_region_with (first
    | (go_at_call 78; refine ((SB _).out (drew_below w2)).mono ?_; rintro e w3 ⟨rfl, rfl⟩)
    | (go_at_call 77; refine (HF _).out.mono ?_; rintro e w3 ⟨A3, rfl, hr3, hb3⟩; have q3 := run_str w3 A3 4 4 hSL.symm hr3; have HB23 := Lib.hid (below_drew hb3); have HB3 := Lib.hid (HB2.out.trans (HB23.out.mono HB2.out.size)); have q4 := (R2' w3).out HB3.out; clear hr3 hb3))
  all_goals
    clear SB HF R2'
    have HOw := Lib.hid (own_keep HO2.out HB23.out)
    cases x
    · go_wp2
      go_ret3
      exact post_nil (HP7.out (by intro e; simp [e] at hx)) rfl HB3.out
    · obtain ⟨p1, p2, p3⟩ := HP0.out (by have := eq_of_beq hx; exact this.symm)
      have HP := Lib.hid (And.intro p1 (And.intro p2 p3))
      clear p1 p2 p3 HP0 HP7
      go_wp2
      go_ret3
      unfold ReadPost
      rw [HP.out.1, HP.out.2.1, HP.out.2.2, L1, e1]
      exact ⟨.slice A2 n c2, rfl, HOw.out, HB3.out⟩

/-- THE DOCUMENT's READ. -/
theorem refr_any (l : List UInt8) (A : Option Addr) (m c : Nat) (at_ : Int) (w : World) (h0 : m = l.length) (hr : Rd w w.heap.size A (l.map B8)) (hc : l.length ≤ c) (hm : c ≤ maxLen) (hlen : l.length ≤ 4611686018427387904) :
    Calls Tryz.prog 61 #[.slice A m c, .int .i64 at_] w (ReadPost l at_ w) := by
  subst h0
  by_cases h : getE l at_ = 0
  · obtain ⟨n, f, hn, hf, hle, hlt⟩ := get_ok h
    by_cases hl : 65536 < n
    · exact refr_long l A c at_ w _ hr hc hm n h hn hl
    · by_cases hs : l.length < f + n + 4
      · exact refr_short l A c at_ w _ hr hc hm hlen n f h hn hf hle hl hs
      · exact refr_in l A c at_ w hr hc hm hlen n f h hn hf hl hs
  · exact refr_err l A c at_ w _ hr hc hm h
end Go.Proofs.YtjninegpaoblfaaGreatDoor.RefRead

namespace Go.Proofs.YtjninegpaoblfaaGreatDoor.BackF
open Go Go.RowKit Words Plain Crc RefSum Get Framed Reading

theorem get_frm (x l r : List UInt8) (h : l.length ≤ 65536) : getE (x ++ (Lib.uvarint l.length ++ r)) x.length = 0 ∧ getN (x ++ (Lib.uvarint l.length ++ r)) x.length = l.length ∧ getTo (x ++ (Lib.uvarint l.length ++ r)) x.length = ((x.length + (Lib.uvarint l.length).length : Nat) : Int) := by
  have hd := dec_uvarint 9 0 0 l.length r rfl (by omega) (by simp; omega) (by omega)
  have f := fin (l := x ++ (Lib.uvarint l.length ++ r)) (p := x.length) (n := l.length) (c := (Lib.uvarint l.length).length) (e := 0) (by simp) (by
    rw [List.drop_left' rfl, hd]
    simp)
  refine ⟨f.2.2, f.1, ?_⟩
  rw [f.2.1]
  simp
theorem pay_mid (x l r : List UInt8) : pay (x ++ (l ++ r)) x.length l.length = l := by
  unfold pay
  rw [List.drop_left' rfl, List.take_left' rfl]

/-- A frame between other bytes. -/
theorem rd_frm (x l y : List UInt8) (h : l.length ≤ 65536) : rdE (x ++ (frm l ++ y)) x.length = 0 ∧ rdP (x ++ (frm l ++ y)) x.length = l ∧ rdT (x ++ (frm l ++ y)) x.length = ((x.length + (frm l).length : Nat) : Int) := by
  have e0 : x ++ (frm l ++ y) = x ++ (Lib.uvarint l.length ++ (l ++ (four (sum l) ++ y))) := by simp [frm]
  have hlen : (x ++ (frm l ++ y)).length = x.length + (Lib.uvarint l.length).length + l.length + 4 + y.length := by simp [frm_length]; omega
  obtain ⟨g1, g2, g3⟩ := get_frm x l (l ++ (four (sum l) ++ y)) h
  rw [← e0] at g1 g2 g3
  have p1 : pay (x ++ (frm l ++ y)) (x.length + (Lib.uvarint l.length).length) l.length = l := by
    have := pay_mid (x ++ Lib.uvarint l.length) l (four (sum l) ++ y)
    rw [List.length_append] at this
    rw [e0, ← List.append_assoc]
    exact this
  have p2 : pay (x ++ (frm l ++ y)) (x.length + (Lib.uvarint l.length).length + l.length) 4 = four (sum l) := by
    have := pay_mid (x ++ Lib.uvarint l.length ++ l) (four (sum l)) y
    rw [List.length_append, List.length_append, four_length] at this
    rw [e0]
    rw [List.append_assoc, List.append_assoc] at this
    exact this
  obtain ⟨h1, h2, h3⟩ := rd_good g1 g2 g3 (by omega) (by omega) (by rw [p1, p2])
  rw [p1] at h2
  refine ⟨h1, h2, ?_⟩
  rw [h3, frm_length]
  omega

theorem rd_frm0 (l : List UInt8) (h : l.length ≤ 65536) : rdE (frm l) 0 = 0 ∧ rdP (frm l) 0 = l ∧ rdT (frm l) 0 = (((frm l).length : Nat) : Int) := by
  have := rd_frm [] l [] h
  simpa using this

/-- Each shorter beginning is too short. -/
theorem rd_short_frm (l : List UInt8) (h : l.length ≤ 65536) (k : Nat) (hk : k < (frm l).length) : rdE ((frm l).take k) 0 = 5 ∧ rdP ((frm l).take k) 0 = [] := by
  by_cases hu : k < (Lib.uvarint l.length).length
  · have e0 : (frm l).take k = (Lib.uvarint l.length).take k := by
      unfold frm
      rw [List.take_append_of_le_length (by omega)]
    have hd := dec_short 0 0 l.length k (by simp; omega) (by omega) hu
    have f := fin (l := (Lib.uvarint l.length).take k) (p := 0) (n := 0) (c := 0) (e := 5) (by omega) (by simpa using hd)
    have hE : getE ((frm l).take k) 0 = 5 := by rw [e0]; exact f.2.2
    obtain ⟨h1, h2, _⟩ := rd_err (l := (frm l).take k) (at_ := 0) (by rw [hE]; omega)
    exact ⟨h1.trans hE, h2⟩
  · have e0 : (frm l).take k = [] ++ (Lib.uvarint l.length ++ (l ++ four (sum l)).take (k - (Lib.uvarint l.length).length)) := by
      unfold frm
      rw [List.take_append, List.take_of_length_le (by omega), List.nil_append]
    obtain ⟨g1, g2, g3⟩ := get_frm [] l ((l ++ four (sum l)).take (k - (Lib.uvarint l.length).length)) h
    rw [← e0] at g1 g2 g3
    obtain ⟨h1, h2, _⟩ := rd_short (l := (frm l).take k) (at_ := ([] : List UInt8).length) g1 g2 g3 (by omega) (by
      rw [frm_length] at hk
      rw [List.length_take, frm_length]
      simp
      omega)
    exact ⟨h1, h2⟩

theorem four_inj {s t : Nat} (hs : s < 2 ^ 32) (ht : t < 2 ^ 32) (h : four s = four t) : s = t := by
  have h1 := congrArg (List.map B8) h
  rw [four_map s hs, four_map t ht] at h1
  simp only [List.cons.injEq, Value.int.injEq, true_and, and_true] at h1
  omega
theorem sum_set (l : List UInt8) (j : Nat) (hj : j < l.length) (y : UInt8) (hy : y ≠ l[j]) : sum (l.set j y) ≠ sum l := by
  intro e
  rw [List.set_eq_take_append_cons_drop, if_pos hj] at e
  have e2 : l = l.take j ++ l[j] :: l.drop (j + 1) := by rw [← List.drop_eq_getElem_cons hj, List.take_append_drop]
  conv at e => rhs; rw [e2]
  exact hy (sum_diff _ _ _ _ e)

/-- With one byte behind its length changed a frame is not taken. -/
theorem rd_turned (l : List UInt8) (h : l.length ≤ 65536) (j : Nat) (hj : j < l.length + 4) (y : UInt8) (hy : ∀ hi : (Lib.uvarint l.length).length + j < (frm l).length, y ≠ (frm l)[(Lib.uvarint l.length).length + j]) :
    rdE ((frm l).set ((Lib.uvarint l.length).length + j) y) 0 = 7 ∧ rdP ((frm l).set ((Lib.uvarint l.length).length + j) y) 0 = [] := by
  have e0 : (frm l).set ((Lib.uvarint l.length).length + j) y = Lib.uvarint l.length ++ (l ++ four (sum l)).set j y := by
    unfold frm
    rw [List.set_append_right _ _ (by omega)]
    congr 2
    omega
  have hq : y ≠ (l ++ four (sum l))[j]'(by simp [four_length]; omega) := by
    have := hy (by rw [frm_length]; omega)
    simp only [frm] at this
    rw [List.getElem_append_right (by omega)] at this
    simpa using this
  have key : ∀ (l' q' : List UInt8), (l ++ four (sum l)).set j y = l' ++ q' → l'.length = l.length → q'.length = 4 → q' ≠ four (sum l') → rdE (Lib.uvarint l.length ++ (l ++ four (sum l)).set j y) 0 = 7 ∧ rdP (Lib.uvarint l.length ++ (l ++ four (sum l)).set j y) 0 = [] := by
    intro l' q' e1 h1 h2 h3
    rw [e1]
    have g := get_frm [] l' q' (by omega)
    rw [h1] at g
    have e2 : (l' ++ q' : List UInt8) = l' ++ q' := rfl
    have g' := get_frm [] l (l' ++ q') h
    simp only [List.nil_append, List.length_nil] at g'
    obtain ⟨g1, g2, g3⟩ := g'
    have p1 : pay (Lib.uvarint l.length ++ (l' ++ q')) (0 + (Lib.uvarint l.length).length) l.length = l' := by
      have := pay_mid (Lib.uvarint l.length) l' q'
      rw [h1] at this
      rw [Nat.zero_add]
      exact this
    have p2 : pay (Lib.uvarint l.length ++ (l' ++ q')) (0 + (Lib.uvarint l.length).length + l.length) 4 = q' := by
      have := pay_mid (Lib.uvarint l.length ++ l') q' []
      rw [List.append_nil, List.length_append, h1, h2, List.append_assoc] at this
      rw [Nat.zero_add]
      exact this
    obtain ⟨r1, r2, _⟩ := rd_sum (l := Lib.uvarint l.length ++ (l' ++ q')) (at_ := 0) g1 g2 g3 (by omega) (by simp [h1, h2]; omega) (by rw [p1, p2]; exact h3)
    exact ⟨r1, r2⟩
  rw [e0]
  by_cases hjl : j < l.length
  · rw [List.getElem_append_left hjl] at hq
    exact key (l.set j y) (four (sum l)) (List.set_append_left _ _ hjl) (by simp) (four_length _) (fun e => sum_set l j hjl y hq (four_inj (sum_lt _) (sum_lt _) e).symm)
  · rw [List.getElem_append_right (by omega)] at hq
    refine key l ((four (sum l)).set (j - l.length) y) (List.set_append_right _ _ (by omega)) rfl (by rw [List.length_set, four_length]) (fun e => hq ?_)
    have h4 : j - l.length < (four (sum l)).length := by rw [four_length]; omega
    have h5 : ((four (sum l)).set (j - l.length) y)[j - l.length]? = some y := List.getElem?_set_self h4
    rw [e, List.getElem?_eq_getElem h4] at h5
    exact (Option.some.inj h5).symm
end Go.Proofs.YtjninegpaoblfaaGreatDoor.BackF

