/- The contract of pack.Unpack: for all bytes and every place the error, the list in new memory, and the place behind it; nothing that was there has changed. Conditions: the slice's length is at most its capacity, the capacity at most the model's greatest length, the length at most 2^47. -/
import Derived.Test.YtfojpbbmicmooaaOthers
import Derived.Test.YtfojpbbmicmooaaRefPks
namespace Go.Proofs.Ytfojpbbmicmooaa.Unpack
open Go Go.RowKit Words Plain Put RefPut PkPlain PkSpec UnSpec RefUn Get Others AddG PkHas

section
variable (b : List UInt8) (A : Option Addr) (c : Nat) (at_ : Int) (w : World) (hr : Rd w w.heap.size A (b.map B8)) (hc : b.length ≤ c) (hm : c ≤ maxLen)
include hr hc hm

set_option maxHeartbeats 800000 in
theorem un_err (h : getE b at_ ≠ 0) : Calls Try.prog 31 #[.slice A b.length c, .int .i64 at_] w (UnPost b at_ w) := by
  have HG := Lib.hid (get_any b A c at_ w _ hr hc hm)
  have HP := Lib.hid (show unp b at_ = (getE b at_, [], 0) by unfold unp; rw [if_pos h])
  have hb : (getE b at_ != 0) = true := by simpa using h
  generalize getE b at_ = ee at *
  generalize getN b at_ = en at *
  generalize getTo b at_ = et at *
  clear hr hc hm h
  go_enter Try.func31, Try.ntmps31
  go_wp2_with fail
  refine HG.out.mono ?_
  rintro e w1 ⟨rfl, rfl⟩
  go_wp2
  go_ret3
  exact post_nil HP.out rfl (Below.refl _ _)

set_option maxHeartbeats 800000 in
theorem un_many (n : Nat) (h : getE b at_ = 0) (hn : getN b at_ = n) (hl : 65536 < n) : Calls Try.prog 31 #[.slice A b.length c, .int .i64 at_] w (UnPost b at_ w) := by
  have hg := get_any b A c at_ w _ hr hc hm
  have HP := Lib.hid (show unp b at_ = (3, [], 0) by unfold unp; rw [if_neg (by omega), if_pos (by omega)])
  rw [h, hn] at hg
  have HG := Lib.hid hg
  clear hg h hn hr hc hm
  generalize getTo b at_ = et at *
  go_enter Try.func31, Try.ntmps31
  go_wp2_with fail
  refine HG.out.mono ?_
  rintro e w1 ⟨rfl, rfl⟩
  go_wp2
  go_ret3
  exact post_nil HP.out rfl (Below.refl _ _)

set_option maxHeartbeats 800000 in
theorem un_zero (h : getE b at_ = 0) (hn : getN b at_ = 0) : Calls Try.prog 31 #[.slice A b.length c, .int .i64 at_] w (UnPost b at_ w) := by
  have hg := get_any b A c at_ w _ hr hc hm
  have HP := Lib.hid (show unp b at_ = (0, [], getTo b at_) by unfold unp; rw [if_neg (by omega), if_neg (by omega), if_pos hn])
  rw [h, hn] at hg
  have HG := Lib.hid hg
  clear hg h hn hr hc hm
  generalize getTo b at_ = et at *
  go_enter Try.func31, Try.ntmps31
  go_wp2_with fail
  refine HG.out.mono ?_
  rintro e w1 ⟨rfl, rfl⟩
  go_wp2
  go_ret3
  exact post_nil HP.out rfl (Below.refl _ _)

set_option maxHeartbeats 800000 in
theorem un_err2 (n : Nat) (f : Int) (h : getE b at_ = 0) (hn : getN b at_ = n) (hl : ¬ 65536 < n) (h0 : n ≠ 0) (hf : getTo b at_ = f) (h2 : getE b f ≠ 0) : Calls Try.prog 31 #[.slice A b.length c, .int .i64 at_] w (UnPost b at_ w) := by
  have hg := get_any b A c at_ w _ hr hc hm
  have HG2 := Lib.hid (get_any b A c f w _ hr hc hm)
  have HP := Lib.hid (show unp b at_ = (getE b f, [], 0) by unfold unp; rw [if_neg (by omega), if_neg (by omega), if_neg (by omega), hf, if_pos h2])
  rw [h, hn, hf] at hg
  have HG := Lib.hid hg
  have hb : (getE b f != 0) = true := by simpa using h2
  have hz : ((n : Int) == 0) = false := beq_eq_false_iff_ne.2 (by omega)
  clear hg h hn hr hc hm hf h2
  generalize getE b f = ee at *
  generalize getN b f = en at *
  generalize getTo b f = et at *
  go_enter Try.func31, Try.ntmps31
  go_wp2_with fail
  refine HG.out.mono ?_
  rintro e w1 ⟨rfl, rfl⟩
  go_wp2_with fail
  refine HG2.out.mono ?_
  rintro e w1 ⟨rfl, rfl⟩
  go_wp2
  go_ret3
  exact post_nil HP.out rfl (Below.refl _ _)

set_option maxHeartbeats 800000 in
theorem un_one (f : Int) (x p : Nat) (h : getE b at_ = 0) (hn : getN b at_ = 1) (hf : getTo b at_ = f) (h2 : getE b f = 0) (hx : getN b f = x) (hp : getTo b f = p) (hx64 : x < 18446744073709551616) : Calls Try.prog 31 #[.slice A b.length c, .int .i64 at_] w (UnPost b at_ w) := by
  have hg := get_any b A c at_ w _ hr hc hm
  have hg2 := get_any b A c f w _ hr hc hm
  have HP := Lib.hid (show unp b at_ = (0, [x.toUInt64], (p : Int)) by unfold unp; rw [if_neg (by omega), if_neg (by omega), if_neg (by omega), hf, if_neg (by omega), if_pos hn, hx, hp]; rfl)
  rw [h, hn, hf] at hg
  rw [h2, hx, hp] at hg2
  have HG := Lib.hid hg
  have HG2 := Lib.hid hg2
  have hown := World.ownsRow_lit (base := w.heap.size) (e := 31) (size := 1) w #[.int .u64 (x : Int)] 1 (Nat.le_refl _) (by unfold maxLen; omega) rfl
  have HO := Lib.hid hown
  clear hg hg2 h hn hr hc hm hf h2 hx hp hown
  go_enter Try.func31, Try.ntmps31
  go_wp2_with fail
  refine HG.out.mono ?_
  rintro e w1 ⟨rfl, rfl⟩
  go_wp2_with fail
  refine HG2.out.mono ?_
  rintro e w1 ⟨rfl, rfl⟩
  go_wp2
  go_ret3
  unfold UnPost
  rw [HP.out]
  have ex : [x.toUInt64].map B64 = (#[Value.int .u64 (x : Int)] : Array Value).toList := by simp [B64]; omega
  refine ⟨_, rfl, ?_, (Below.refl _ _).alloc (Nat.le_refl _) _⟩
  show World.ownsRow _ _ _ _ _ 1 ([x.toUInt64].map B64)
  rw [ex]
  exact HO.out

set_option maxHeartbeats 800000 in
theorem un_in (hlen : b.length ≤ 140737488355327) (m : Nat) (f : Int) (x p : Nat) (h : getE b at_ = 0) (hn : getN b at_ = ((m + 1 : Nat) : Int)) (hl : m < 65536) (h1 : 1 ≤ m)
    (hf : getTo b at_ = f) (h2 : getE b f = 0) (hx : getN b f = x) (hp : getTo b f = p) (hpl : p ≤ b.length) (hx64 : x < 18446744073709551616) : Calls Try.prog 31 #[.slice A b.length c, .int .i64 at_] w (UnPost b at_ w) := by
  have hg := get_any b A c at_ w _ hr hc hm
  have hg2 := get_any b A c f w _ hr hc hm
  have hu : Hid (unp b at_ = body b (m + 1) x p) := by
    show unp b at_ = _
    unfold unp
    rw [if_neg (by omega), if_neg (by omega), if_neg (by omega), hf, if_neg (by omega), if_neg (by omega), hx, hp, hn]
    rfl
  have HC : Hid (Calls Try.prog 41 #[.slice A b.length c, .int .i64 (p : Int), .int .u64 (x : Int), .int .i64 ((m + 1 : Nat) : Int)] w (OPost (body b (m + 1) x p) w)) := by
    by_cases hpb : p < b.length
    · by_cases hw : (b.getD p 0).toNat ≤ 64
      · exact others_in b A c x m p w hr hc hm hlen hl h1 hx64 hpb hw
      · exact others_wide b A c x m p w hr hlen hpb (by omega)
    · exact others_end b A c x m p w (by omega)
  rw [h, hn, hf] at hg
  rw [h2, hx, hp] at hg2
  have HG := Lib.hid hg
  have HG2 := Lib.hid hg2
  have e1 : ((((m + 1 : Nat)) : Int) == 0) = false := beq_eq_false_iff_ne.2 (by omega)
  have e2 : ((((m + 1 : Nat)) : Int) == 1) = false := beq_eq_false_iff_ne.2 (by omega)
  have e5 : decide (65536 < (((m + 1 : Nat)) : Int)) = false := decide_eq_false (by omega)
  have hm1 : m + 1 ≤ 65536 := by omega
  clear hg hg2 h hn hr hc hm hf h2 hx hp h1 hl
  generalize m + 1 = n at *
  go_enter Try.func31, Try.ntmps31
  go_wp2_with fail
  refine HG.out.mono ?_
  rintro e w1 ⟨rfl, rfl⟩
  go_wp2_with fail
  refine HG2.out.mono ?_
  rintro e w1 ⟨rfl, rfl⟩
  go_wp2_with fail
  refine HC.out.mono ?_
  rintro e w1 ⟨v, rfl, hown, hb⟩
  have HO := Lib.hid hown
  have HB := Lib.hid hb
  clear hown hb
  obtain ⟨r, hr⟩ : ∃ r, body b n x p = r := ⟨_, rfl⟩
  rw [hr] at hu HO
  rw [hr]
  clear hr
  go_wp2
  go_ret3
  unfold UnPost
  rw [hu.out]
  exact ⟨v, rfl, HO.out, HB.out⟩
end

/-- pack.Unpack. -/
theorem un_any : UnAny := by
  intro b A n c at_ w hn hr hc hm hlen
  subst hn
  by_cases h : getE b at_ = 0
  · obtain ⟨n, f, hn, hf, hle, hlt⟩ := un_get_ok h
    by_cases hl : 65536 < n
    · exact un_many b A c at_ w hr hc hm n h hn hl
    by_cases hz : n = 0
    · exact un_zero b A c at_ w hr hc hm h (by rw [hn, hz]; rfl)
    by_cases h2 : getE b (f : Int) = 0
    · obtain ⟨x, p, hx, hp, hpl, hx64⟩ := un_get_ok h2
      by_cases h1 : n = 1
      · exact un_one b A c at_ w hr hc hm f x p h (by rw [hn, h1]; rfl) hf h2 hx hp hx64
      obtain ⟨m, rfl⟩ : ∃ m, n = m + 1 := ⟨n - 1, by omega⟩
      exact un_in b A c at_ w hr hc hm hlen m f x p h hn (by omega) (by omega) hf h2 hx hp hpl hx64
    · exact un_err2 b A c at_ w hr hc hm n f h hn hl hz hf h2
  · exact un_err b A c at_ w hr hc hm h
end Go.Proofs.Ytfojpbbmicmooaa.Unpack
