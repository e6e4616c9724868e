/- The contract of the document's own Unpack: for all bytes and every place the error, the list in new memory, and the place behind it; nothing that was there has changed. Conditions: the slice's length is at most its capacity, the capacity at most the model's greatest length, the length at most 2^47. -/
import Derived.Test.YtokmoodiolnfiaaNeed
import Derived.Test.YtokmoodiolnfiaaUnSpec
import Derived.Test.YtokmoodiolnfiaaRefGet
import Derived.Test.YtokmoodiolnfiaaRefOne
import Derived.Test.YtokmoodiolnfiaaAppend
namespace Go.Proofs.Ytokmoodiolnfiaa.RefUn
open Go Go.RowKit Words Plain Put RefPut App PkPlain PkSpec UnSpec Need Get RefGet

theorem un_get_ok {l : List UInt8} {at_ : Int} (h : getE l at_ = 0) : ∃ n f : Nat, getN l at_ = n ∧ getTo l at_ = f ∧ f ≤ l.length ∧ n < 18446744073709551616 := by
  unfold getE at h
  unfold getN getTo
  by_cases h0 : at_ < 0 ∨ (l.length : Int) < at_
  · rw [if_pos h0] at h; omega
  rw [if_neg h0] at h
  rw [if_neg h0, if_neg h0]
  obtain ⟨⟨n, c, e⟩, hd⟩ : ∃ x, dec 0 0 (l.drop at_.toNat) = x := ⟨_, rfl⟩
  rw [hd] at h
  rw [hd]
  simp only at h ⊢
  have he : e = 0 := by omega
  subst he
  obtain ⟨x, h1, h2, h3, _, _, h6⟩ := dec_back _ 0 0 n c (by omega) (by decide) hd
  rw [List.length_drop] at h3
  exact ⟨n, at_.toNat + c, rfl, by simp; omega, by omega, h6⟩

/-- What Unpack and the document's Unpack answer. -/
def UnPost (b : List UInt8) (at_ : Int) (w : World) (e : Ending) (w' : World) : Prop :=
  ∃ v, e = .returned (.tuple #[v, .int .i64 (unp b at_).2.2, .int .i64 (unp b at_).1]) ∧ w'.ownsRow w.heap.size 34 1 v (unp b at_).2.1.length ((unp b at_).2.1.map B64) ∧ Below w.heap.size w w'
theorem post_nil {b : List UInt8} {at_ : Int} {w w' : World} {e : Ending} {x t : Int} (h : unp b at_ = (x, [], t)) (he : e = .returned (.tuple #[.slice none 0 0, .int .i64 t, .int .i64 x])) (hb : Below w.heap.size w w') : UnPost b at_ w e w' := by
  unfold UnPost
  rw [h]
  exact ⟨_, he, World.ownsRow_nil _ _ _ _, hb⟩

section
variable (b : List UInt8) (A : Option Addr) (c : Nat) (at_ : Int) (w : World) (B : Nat) (hr : Rd w B A (b.map B8)) (hc : b.length ≤ c) (hm : c ≤ maxLen)
include hr hc hm

set_option maxHeartbeats 800000 in
set_option maxRecDepth 100000 in
theorem refun_err (h : getE b at_ ≠ 0) : Calls Try.prog 21 #[.slice A b.length c, .int .i64 at_] w (UnPost b at_ w) := by
  have HG := Lib.hid (ref_any b A c at_ w B hr hc hm)
  have HP := Lib.hid (show unp b at_ = (getE b at_, [], 0) by unfold unp; rw [if_pos h])
  have hb : (getE b at_ != 0) = true := by simpa using h
  generalize getE b at_ = ee at *
  generalize getN b at_ = en at *
  generalize getTo b at_ = et at *
  clear hr hc hm h
  go_enter Try.func21, Try.ntmps21
  go_wp2_with fail
  refine HG.out.mono ?_
  rintro e w1 ⟨rfl, rfl⟩
  go_wp2
  go_ret3
  exact post_nil HP.out rfl (Below.refl _ _)

set_option maxHeartbeats 800000 in
set_option maxRecDepth 100000 in
theorem refun_many (n : Nat) (h : getE b at_ = 0) (hn : getN b at_ = n) (hl : 65536 < n) : Calls Try.prog 21 #[.slice A b.length c, .int .i64 at_] w (UnPost b at_ w) := by
  have hg := ref_any b A c at_ w B hr hc hm
  have HP := Lib.hid (show unp b at_ = (3, [], 0) by unfold unp; rw [if_neg (by omega), if_pos (by omega)])
  rw [h, hn] at hg
  have HG := Lib.hid hg
  clear hg h hn hr hc hm
  generalize getTo b at_ = et at *
  go_enter Try.func21, Try.ntmps21
  go_wp2_with fail
  refine HG.out.mono ?_
  rintro e w1 ⟨rfl, rfl⟩
  go_wp2
  go_ret3
  exact post_nil HP.out rfl (Below.refl _ _)

set_option maxHeartbeats 800000 in
set_option maxRecDepth 100000 in
theorem refun_zero (h : getE b at_ = 0) (hn : getN b at_ = 0) : Calls Try.prog 21 #[.slice A b.length c, .int .i64 at_] w (UnPost b at_ w) := by
  have hg := ref_any b A c at_ w B hr hc hm
  have HP := Lib.hid (show unp b at_ = (0, [], getTo b at_) by unfold unp; rw [if_neg (by omega), if_neg (by omega), if_pos hn])
  rw [h, hn] at hg
  have HG := Lib.hid hg
  clear hg h hn hr hc hm
  generalize getTo b at_ = et at *
  go_enter Try.func21, Try.ntmps21
  go_wp2_with fail
  refine HG.out.mono ?_
  rintro e w1 ⟨rfl, rfl⟩
  go_wp2
  go_ret3
  exact post_nil HP.out rfl (Below.refl _ _)

set_option maxHeartbeats 800000 in
set_option maxRecDepth 100000 in
theorem refun_err2 (n : Nat) (f : Int) (h : getE b at_ = 0) (hn : getN b at_ = n) (hl : ¬ 65536 < n) (h0 : n ≠ 0) (hf : getTo b at_ = f) (h2 : getE b f ≠ 0) : Calls Try.prog 21 #[.slice A b.length c, .int .i64 at_] w (UnPost b at_ w) := by
  have hg := ref_any b A c at_ w B hr hc hm
  have HG2 := Lib.hid (ref_any b A c f w B hr hc hm)
  have HP := Lib.hid (show unp b at_ = (getE b f, [], 0) by unfold unp; rw [if_neg (by omega), if_neg (by omega), if_neg (by omega), hf, if_pos h2])
  rw [h, hn, hf] at hg
  have HG := Lib.hid hg
  have hb : (getE b f != 0) = true := by simpa using h2
  clear hg h hn hr hc hm hf h2
  generalize getE b f = ee at *
  generalize getN b f = en at *
  generalize getTo b f = et at *
  go_enter Try.func21, Try.ntmps21
  go_wp2_with fail
  refine HG.out.mono ?_
  rintro e w1 ⟨rfl, rfl⟩
  go_wp2_with fail
  refine HG2.out.mono ?_
  rintro e w1 ⟨rfl, rfl⟩
  go_wp2
  go_ret3
  exact post_nil HP.out rfl (Below.refl _ _)

set_option maxHeartbeats 800000 in
set_option maxRecDepth 100000 in
theorem refun_one (f : Int) (x p : Nat) (h : getE b at_ = 0) (hn : getN b at_ = 1) (hf : getTo b at_ = f) (h2 : getE b f = 0) (hx : getN b f = x) (hp : getTo b f = p) (hx64 : x < 18446744073709551616) : Calls Try.prog 21 #[.slice A b.length c, .int .i64 at_] w (UnPost b at_ w) := by
  have hg := ref_any b A c at_ w B hr hc hm
  have hg2 := ref_any b A c f w B hr hc hm
  have HP := Lib.hid (show unp b at_ = (0, [x.toUInt64], (p : Int)) by unfold unp; rw [if_neg (by omega), if_neg (by omega), if_neg (by omega), hf, if_neg (by omega), if_pos hn, hx, hp]; rfl)
  rw [h, hn, hf] at hg
  rw [h2, hx, hp] at hg2
  have HG := Lib.hid hg
  have HG2 := Lib.hid hg2
  have hown := World.ownsRow_lit (base := w.heap.size) (e := 34) (size := 1) w #[.int .u64 (x : Int)] 1 (Nat.le_refl _) (by unfold maxLen; omega) rfl
  have HO := Lib.hid hown
  clear hg hg2 h hn hr hc hm hf h2 hx hp hown
  go_enter Try.func21, Try.ntmps21
  go_wp2_with fail
  refine HG.out.mono ?_
  rintro e w1 ⟨rfl, rfl⟩
  go_wp2_with fail
  refine HG2.out.mono ?_
  rintro e w1 ⟨rfl, rfl⟩
  go_wp2
  go_ret3
  unfold UnPost
  rw [HP.out]
  have ex : [x.toUInt64].map B64 = (#[Value.int .u64 (x : Int)] : Array Value).toList := by simp [B64]; omega
  refine ⟨_, rfl, ?_, (Below.refl _ _).alloc (Nat.le_refl _) _⟩
  show World.ownsRow _ _ _ _ _ 1 ([x.toUInt64].map B64)
  rw [ex]
  exact HO.out

set_option maxHeartbeats 1600000 in
set_option maxRecDepth 100000 in
theorem refun_bad (n : Nat) (f : Int) (x p : Nat) (h : getE b at_ = 0) (hn : getN b at_ = n) (hl : ¬ 65536 < n) (h1 : 2 ≤ n) (hf : getTo b at_ = f) (h2 : getE b f = 0) (hx : getN b f = x) (hp : getTo b f = p) (hx64 : x < 18446744073709551616)
    (hbad : b.length ≤ p ∨ (p < b.length ∧ 64 < (b.getD p 0).toNat)) : Calls Try.prog 21 #[.slice A b.length c, .int .i64 at_] w (UnPost b at_ w) := by
  have hg := ref_any b A c at_ w B hr hc hm
  have hg2 := ref_any b A c f w B hr hc hm
  have hu : unp b at_ = body b n x p := by
    unfold unp
    rw [if_neg (by omega), if_neg (by omega), if_neg (by omega), hf, if_neg (by omega), if_neg (by omega), hx, hp, hn]
    rfl
  have HR := Lib.hid hr
  rw [h, hn, hf] at hg
  rw [h2, hx, hp] at hg2
  have HG := Lib.hid hg
  have HG2 := Lib.hid hg2
  have e1 : ((n : Int) == 0) = false := beq_eq_false_iff_ne.2 (by omega)
  have e2 : ((n : Int) == 1) = false := beq_eq_false_iff_ne.2 (by omega)
  unfold maxLen at hm
  rcases hbad with h5 | ⟨h5, h6⟩
  · have HP : Hid (unp b at_ = (5, [], 0)) := by
      show unp b at_ = _
      rw [hu]
      unfold body
      rw [if_pos h5]
    have e3 : decide ((b.length : Int) ≤ (p : Int)) = true := decide_eq_true (by omega)
    clear hg hg2 h hn hr hf h2 hx hp hu
    go_enter Try.func21, Try.ntmps21
    go_wp2_with fail
    refine HG.out.mono ?_
    rintro e w1 ⟨rfl, rfl⟩
    go_wp2_with fail
    refine HG2.out.mono ?_
    rintro e w1 ⟨rfl, rfl⟩
    go_wp2
    go_ret3
    exact post_nil HP.out rfl ((Below.refl _ _).alloc (Nat.le_refl _) _)
  · have HP : Hid (unp b at_ = (6, [], 0)) := by
      show unp b at_ = _
      rw [hu]
      unfold body
      rw [if_neg (by omega), if_pos h6]
    obtain ⟨bb, off, rfl, hbb, hcell⟩ := HR.out (by simp; omega)
    have k1 : (w.alloc (.cells #[.int .u64 (x : Int)] 34)).cell? ⟨bb, off + p, none⟩ = some (.int .u8 (((b.getD p 0).toNat : Nat) : Int)) := by
      have hk := cell8 hcell h5
      rw [World.cell?_alloc_lt w _ _ (World.block_lt_of_cell? w _ hk), hk]
      simp [h5]
    have hb8 := (b.getD p 0).toNat_lt
    generalize (b.getD p 0).toNat = wv at *
    have e3 : decide ((b.length : Int) ≤ (p : Int)) = false := decide_eq_false (by omega)
    have e4 : decide (64 < (wv : Int)) = true := decide_eq_true (by omega)
    clear hg hg2 h hn hr hf h2 hx hp hu hcell
    go_enter Try.func21, Try.ntmps21
    go_wp2_with fail
    refine HG.out.mono ?_
    rintro e w1 ⟨rfl, rfl⟩
    go_wp2_with fail
    refine HG2.out.mono ?_
    rintro e w1 ⟨rfl, rfl⟩
    go_wp2
    go_ret3
    exact post_nil HP.out rfl ((Below.refl _ _).alloc (Nat.le_refl _) _)
end
end Go.Proofs.Ytokmoodiolnfiaa.RefUn
