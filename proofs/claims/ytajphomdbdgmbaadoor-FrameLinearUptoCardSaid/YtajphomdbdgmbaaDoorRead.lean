/- What reading a frame at a place answers, in plain words: the error, the payload, the place behind it. And the contracts of bytes.Equal and bytes.Clone. Conditions: lengths are at most capacities, these at most the model's greatest length. -/
import Derived.Test.YtajphomdbdgmbaaDoorFrame
import Derived.Test.YtajphomdbdgmbaaDoorRefGet
namespace Go.Proofs.YtajphomdbdgmbaaDoor.Reading
open Go Go.RowKit Words Plain Crc Tab Summ RefSum SumB Put RefPut App Get RefGet Framed

theorem get_ok {l : List UInt8} {at_ : Int} (h : getE l at_ = 0) : ∃ n f : Nat, getN l at_ = n ∧ getTo l at_ = f ∧ f ≤ l.length ∧ n < 18446744073709551616 := by
  unfold getE at h
  unfold getN getTo
  by_cases h0 : at_ < 0 ∨ (l.length : Int) < at_
  · rw [if_pos h0] at h; omega
  rw [if_neg h0] at h
  rw [if_neg h0, if_neg h0]
  obtain ⟨⟨n, c, e⟩, hd⟩ : ∃ x, dec 0 0 (l.drop at_.toNat) = x := ⟨_, rfl⟩
  rw [hd] at h
  rw [hd]
  simp only at h ⊢
  have he : e = 0 := by omega
  subst he
  obtain ⟨x, h1, h2, h3, _, _, h6⟩ := dec_back _ 0 0 n c (by omega) (by decide) hd
  rw [List.length_drop] at h3
  exact ⟨n, at_.toNat + c, rfl, by simp; omega, by omega, h6⟩

/-- The payload of n bytes from f on; the four bytes from p on. -/
def pay (l : List UInt8) (f n : Nat) : List UInt8 := (l.drop f).take n
def rdE (l : List UInt8) (at_ : Int) : Int :=
  if getE l at_ ≠ 0 then getE l at_ else if 65536 < getN l at_ then 4 else if (l.length : Int) < getTo l at_ + getN l at_ + 4 then 5
  else if pay l ((getTo l at_).toNat + (getN l at_).toNat) 4 = four (sum (pay l (getTo l at_).toNat (getN l at_).toNat)) then 0 else 7
def rdP (l : List UInt8) (at_ : Int) : List UInt8 := if rdE l at_ = 0 then pay l (getTo l at_).toNat (getN l at_).toNat else []
def rdT (l : List UInt8) (at_ : Int) : Int := if rdE l at_ = 0 then getTo l at_ + getN l at_ + 4 else 0

section
variable {l : List UInt8} {at_ : Int} {n f : Nat}
theorem rd_err (h : getE l at_ ≠ 0) : rdE l at_ = getE l at_ ∧ rdP l at_ = [] ∧ rdT l at_ = 0 := by
  have h1 : rdE l at_ = getE l at_ := by unfold rdE; rw [if_pos h]
  unfold rdP rdT
  rw [if_neg (by rw [h1]; exact h), if_neg (by rw [h1]; exact h)]
  exact ⟨h1, rfl, rfl⟩
theorem rd_long (h : getE l at_ = 0) (hn : getN l at_ = n) (hl : 65536 < n) : rdE l at_ = 4 ∧ rdP l at_ = [] ∧ rdT l at_ = 0 := by
  have h1 : rdE l at_ = 4 := by unfold rdE; rw [if_neg (by omega), if_pos (by omega)]
  unfold rdP rdT
  rw [if_neg (by omega), if_neg (by omega)]
  exact ⟨h1, rfl, rfl⟩
theorem rd_short (h : getE l at_ = 0) (hn : getN l at_ = n) (hf : getTo l at_ = f) (hl : ¬ 65536 < n) (hs : l.length < f + n + 4) : rdE l at_ = 5 ∧ rdP l at_ = [] ∧ rdT l at_ = 0 := by
  have h1 : rdE l at_ = 5 := by unfold rdE; rw [if_neg (by omega), if_neg (by omega), if_pos (by omega)]
  unfold rdP rdT
  rw [if_neg (by omega), if_neg (by omega)]
  exact ⟨h1, rfl, rfl⟩
theorem rd_sum (h : getE l at_ = 0) (hn : getN l at_ = n) (hf : getTo l at_ = f) (hl : ¬ 65536 < n) (hs : ¬ l.length < f + n + 4) (hq : pay l (f + n) 4 ≠ four (sum (pay l f n))) : rdE l at_ = 7 ∧ rdP l at_ = [] ∧ rdT l at_ = 0 := by
  have h1 : rdE l at_ = 7 := by unfold rdE; rw [if_neg (by omega), if_neg (by omega), if_neg (by omega), hn, hf, if_neg (by simpa using hq)]
  unfold rdP rdT
  rw [if_neg (by omega), if_neg (by omega)]
  exact ⟨h1, rfl, rfl⟩
theorem rd_good (h : getE l at_ = 0) (hn : getN l at_ = n) (hf : getTo l at_ = f) (hl : ¬ 65536 < n) (hs : ¬ l.length < f + n + 4) (hq : pay l (f + n) 4 = four (sum (pay l f n))) : rdE l at_ = 0 ∧ rdP l at_ = pay l f n ∧ rdT l at_ = f + n + 4 := by
  have h1 : rdE l at_ = 0 := by unfold rdE; rw [if_neg (by omega), if_neg (by omega), if_neg (by omega), hn, hf, if_pos (by simpa using hq)]
  unfold rdP rdT
  rw [if_pos h1, if_pos h1, hn, hf]
  exact ⟨h1, by simp, rfl⟩
end

/-- What Read and the document's Read answer. -/
def ReadPost (l : List UInt8) (at_ : Int) (w : World) (e : Ending) (w' : World) : Prop :=
  ∃ v, e = .returned (.tuple #[v, .int .i64 (rdT l at_), .int .i64 (rdE l at_)]) ∧ w'.ownsRow w.heap.size 5 1 v (rdP l at_).length ((rdP l at_).map B8) ∧ Below w.heap.size w w'
theorem post_nil {l : List UInt8} {at_ : Int} {w w' : World} {e : Ending} {x : Int} (h : rdE l at_ = x ∧ rdP l at_ = [] ∧ rdT l at_ = 0) (he : e = .returned (.tuple #[.slice none 0 0, .int .i64 0, .int .i64 x])) (hb : Below w.heap.size w w') : ReadPost l at_ w e w' := by
  obtain ⟨rfl, h2, h3⟩ := h
  unfold ReadPost
  rw [h2, h3]
  exact ⟨_, he, World.ownsRow_nil _ _ _ _, hb⟩

theorem run_str {s : List UInt8} {B : Nat} (w : World) (A : Option Addr) (n c : Nat) (hn : n = s.length) (hr : Rd w B A (s.map B8)) : (convert 24 9 (.slice A n c)).run Tryd.prog w = .ok (.string ⟨s.toArray⟩) w := by
  subst hn
  exact run_bytes w 24 9 5 Tryd.underlying24 Tryd.underlying5 Tryd.underlying9 A s c B hr
set_option maxHeartbeats 800000 in
theorem equal_any (a b : List UInt8) (A1 A2 : Option Addr) (n1 n2 c1 c2 : Nat) (w : World) (B1 B2 : Nat) (h1 : n1 = a.length) (h2 : n2 = b.length) (hr1 : Rd w B1 A1 (a.map B8)) (hr2 : Rd w B2 A2 (b.map B8)) (x : Bool) (hx : (a == b) = x) :
    Calls Tryd.prog 21 #[.slice A1 n1 c1, .slice A2 n2 c2] w fun e w' => e = .returned (.bool x) ∧ w = w' := by
  subst h1 h2
  have s1 := run_str w A1 _ c1 rfl hr1
  have s2 := run_str w A2 _ c2 rfl hr2
  clear hr1 hr2
  go_enter Tryd.func21, Tryd.ntmps21
  go_wp2
  go_ret
  exact ⟨rfl, rfl⟩

set_option maxHeartbeats 800000 in
theorem clone_any (l : List UInt8) (A : Option Addr) (n c : Nat) (w : World) (B : Nat) (hn : n = l.length) (hr : Rd w B A (l.map B8)) (hB : B ≤ w.heap.size) (hl : l.length ≤ 65536) :
    Calls Tryd.prog 22 #[.slice A n c] w fun e w' => ∃ v, e = .returned v ∧ w'.ownsRow w.heap.size 5 1 v l.length (l.map B8) ∧ Below w.heap.size w w' := by
  obtain ⟨i0, hi, hz0, hz1, hz2⟩ := info_parts info_u8
  subst hn
  have HR := Lib.hid hr
  cases A with
  | none =>
    have h0 : l = [] := by
      by_cases h : l = []
      · exact h
      · obtain ⟨b, off, e, _⟩ := hr (by simp; exact List.length_pos_iff.2 h)
        cases e
    subst h0
    clear hr
    have he : ∀ w : World, (binOp .eql 24 (.slice none 0 c) (.slice none 0 0)).run Tryd.prog w = .ok (.bool true) w := fun _ => rfl
    go_enter Tryd.func22, Tryd.ntmps22
    go_wp2
    go_ret
    exact ⟨_, rfl, World.ownsRow_nil _ _ _ _, Below.refl _ _⟩
  | some a =>
    clear hr
    have hown0 := World.ownsRow_lit (base := w.heap.size) (e := 5) (size := 1) w #[] 0 (Nat.le_refl _) (by unfold maxLen; omega) rfl
    have HB1 := Lib.hid ((Below.refl w.heap.size w).alloc (Nat.le_refl _) (.cells #[] 5))
    have he : ∀ w : World, (binOp .eql 24 (.slice (some a) l.length c) (.slice none 0 0)).run Tryd.prog w = .ok (.bool false) w := fun _ => rfl
    go_enter Tryd.func22, Tryd.ntmps22
    go_wp2_with (at_builtin; refine wpList_append_rd (v := .slice (some ⟨w.heap.size, 0, none⟩) 0 0) _ rfl (.tmp 5) (.tmp 6) 24 rfl w.heap.size 5 i0 (.int .u8 0) 1 Tryd.underlying24 hi hz0 hz1 hz2 rfl 0 [] rfl hown0 B (some a) l.length c (l.map B8) rfl (by simp) (HR.out.alloc hB _) (one8 l) ?c1 ?c2 HB1.out.size ?_)
    case c1 => unfold maxLen; omega
    case c2 => omega
    intro v2 w2 hown2 hg2 _
    have HB2 := Lib.hid (below_app hown0 HB1.out hg2)
    have hown3 : w2.ownsRow w.heap.size 5 1 v2 l.length (l.map B8) := by simpa using hown2
    have HO2 := Lib.hid hown3
    clear hown0 hown2 hown3 hg2
    go_wp2
    go_ret
    exact ⟨v2, rfl, HO2.out, HB2.out⟩

set_option maxHeartbeats 800000 in
set_option maxRecDepth 100000 in
theorem read_err (l : List UInt8) (A : Option Addr) (c : Nat) (at_ : Int) (w : World) (B : Nat) (hr : Rd w B A (l.map B8)) (hc : l.length ≤ c) (hm : c ≤ maxLen) (h : getE l at_ ≠ 0) :
    Calls Tryd.prog 14 #[.slice A l.length c, .int .i64 at_] w (ReadPost l at_ w) := by
  have HG := Lib.hid (get_any l A c at_ w B hr hc hm)
  have HP := Lib.hid (rd_err h)
  have hb : (getE l at_ != 0) = true := by simpa using h
  generalize getE l at_ = ee at *
  generalize getN l at_ = en at *
  generalize getTo l at_ = et at *
  clear hr hc hm h
  go_enter Tryd.func14, Tryd.ntmps14
  go_wp2_with fail
  refine HG.out.mono ?_
  rintro e w1 ⟨rfl, rfl⟩
  go_wp2
  go_ret3
  exact post_nil HP.out rfl (Below.refl _ _)

set_option maxHeartbeats 800000 in
set_option maxRecDepth 100000 in
theorem read_long (l : List UInt8) (A : Option Addr) (c : Nat) (at_ : Int) (w : World) (B : Nat) (hr : Rd w B A (l.map B8)) (hc : l.length ≤ c) (hm : c ≤ maxLen) (n f : Nat) (h : getE l at_ = 0) (hn : getN l at_ = n) (hl : 65536 < n) :
    Calls Tryd.prog 14 #[.slice A l.length c, .int .i64 at_] w (ReadPost l at_ w) := by
  have hg := get_any l A c at_ w B hr hc hm
  have HP := Lib.hid (rd_long h hn hl)
  rw [h, hn] at hg
  have HG := Lib.hid hg
  clear hg h hn hr hc hm
  generalize getTo l at_ = et at *
  go_enter Tryd.func14, Tryd.ntmps14
  go_wp2_with fail
  refine HG.out.mono ?_
  rintro e w1 ⟨rfl, rfl⟩
  go_wp2
  go_ret3
  exact post_nil HP.out rfl (Below.refl _ _)

set_option maxHeartbeats 800000 in
set_option maxRecDepth 100000 in
theorem read_short (l : List UInt8) (A : Option Addr) (c : Nat) (at_ : Int) (w : World) (B : Nat) (hr : Rd w B A (l.map B8)) (hc : l.length ≤ c) (hm : c ≤ maxLen) (n f : Nat) (h : getE l at_ = 0) (hn : getN l at_ = n) (hf : getTo l at_ = f) (hle : f ≤ l.length) (hl : ¬ 65536 < n) (hs : l.length < f + n + 4) :
    Calls Tryd.prog 14 #[.slice A l.length c, .int .i64 at_] w (ReadPost l at_ w) := by
  have hg := get_any l A c at_ w B hr hc hm
  have HP := Lib.hid (rd_short h hn hf hl hs)
  rw [h, hn, hf] at hg
  have HG := Lib.hid hg
  unfold maxLen at hm
  clear hg h hn hf hr
  generalize l.length = m at *
  have hb : decide ((m : Int) - (f : Int) < (n : Int) + 4) = true := decide_eq_true (by omega)
  by_cases hcf : c = f
  · subst hcf
    go_enter Tryd.func14, Tryd.ntmps14
    go_wp2_with fail
    refine HG.out.mono ?_
    rintro e w1 ⟨rfl, rfl⟩
    go_wp2
    go_ret3
    exact post_nil HP.out rfl (Below.refl _ _)
  · go_enter Tryd.func14, Tryd.ntmps14
    go_wp2_with fail
    refine HG.out.mono ?_
    rintro e w1 ⟨rfl, rfl⟩
    go_wp2
    go_ret3
    exact post_nil HP.out rfl (Below.refl _ _)
end Go.Proofs.YtajphomdbdgmbaaDoor.Reading
