/- The contracts of the document's member and digit. Conditions: the parser lies in memory and has found no fault so far, its place is within the text, which has at most 1000 runes. -/
import Derived.Test.YtdmbgjpidlllcaaRxEsc
namespace Go.Proofs.Ytdmbgjpidlllcaa.RxMbr
open Go Go.RowKit Words AppN Km Mo_ RxSpec RxEq RxMem RxPeek RxIn RxEsc

theorem SPost.from {w w1 : World} {K K1 : Nat → Nat} {o p : Nat} {S : Sl} {rs : List Nat} {q q1 : PSt} {ms : List NM} {v : Value} {ans : Option (List Nat × List Nat)} {e : Ending} {w' : World} (h : SPost w1 K1 o p S rs q1 ms v ans e w') (hm : Mo K K1 (fun x => x = o) w w1) (hd : q1.deep = q.deep) (hmo : q1.most = q.most) : SPost w K o p S rs q ms v ans e w' := by
  obtain ⟨A, c, zs, K', at', b, he, hs, hr, hm2, r⟩ := h
  refine ⟨A, c, zs, K', at', b, he, hs, ?_, hm.trans hm2, r⟩
  rw [show ({ q with at_ := at', bad := b } : PSt) = { q1 with at_ := at', bad := b } by rw [← hd, ← hmo]]
  exact hr
def mbrB : List UInt8 := [91, 93, 94, 45]
set_option maxHeartbeats 6400000 in
set_option maxRecDepth 100000 in
theorem member_any {w : World} {K : Nat → Nat} {o p : Nat} {S : Sl} {rs : List Nat} {q : PSt} {ms : List NM} {v : Value} (h : RP w K o p S rs q ms v) (hb : q.bad = false) (hat : q.at_ ≤ rs.length) (hlen : rs.length ≤ 1000) :
    Calls Try.prog 57 #[.pointer (some ⟨p, 0, none⟩)] w (SPost w K o p S rs q ms v (member (rs.drop q.at_))) := by
  obtain ⟨ans, ha⟩ : ∃ ans, member (rs.drop q.at_) = ans := ⟨_, rfl⟩
  rw [ha]
  have HC := peek_any h (by omega)
  have H := Lib.hid h
  cases hd0 : rs.drop q.at_ with
  | nil =>
    rw [hd0] at ha
    have HN : Hid (ans = none) := Lib.hid ha.symm
    rw [pkz_nil hd0] at HC
    clear h ha hd0
    go_enter Try.func57, Try.ntmps57
    go_wp2_with fail
    refine HC.mono ?_
    rintro _ w1 ⟨rfl, hbl⟩
    have H1 := Lib.hid (H.out.below hbl)
    obtain ⟨c0, c1, c2, c3, c4, c5⟩ := H1.out.cells
    have f1 := H1.out.frozen 1
    have H2 := Lib.hid (pokeAt H1.out)
    have HM2 : Hid (Mo K K (fun x => x = o) w (w1.setCell ⟨p, 1, none⟩ (.int .i64 ((q.at_ : Int) + 1)))) := Lib.hid ((Mo.same hbl).trans (H1.out.pokeMo 1 _))
    have f5 := H2.out.frozen 5
    have e5 := H2.out.cells.2.2.2.2.2
    have H3 := Lib.hid (H2.out.poke 5 (.bool true) { q with at_ := q.at_ + 1, bad := true } (by unfold pcells; simp))
    have HM3 := Lib.hid (HM2.out.trans (H2.out.pokeMo 5 (.bool true)))
    clear HC hbl H H1
    go_wp2
    go_ret
    exact esc_fin (q := q) (ans := ans) (at' := q.at_ + 1) (b := true) (zs := [-1, -1]) H3.out HM3.out (n := _) (by simp) (by simp) (by simp) (by omega) (fun m r1 hm => by rw [HN.out] at hm; cases hm) (fun _ => rfl)
  | cons r t =>
    obtain ⟨hpk, hdr, hle⟩ := pkz_cons hb hd0
    rw [hd0, member_cons] at ha
    rw [hpk] at HC
    have hr0 : decide ((r : Int) < 0) = false := decide_eq_false (by omega)
    have HDR := Lib.hid hdr
    have HQ : Hid (∀ at' : Nat, ({ q with at_ := at' } : PSt) = { q with at_ := at', bad := false }) := Lib.hid fun at' => by rw [← hb]
    clear h hd0 hpk hdr
    by_cases e92 : r = 92
    · subst e92
      rw [if_pos rfl] at ha
      have HN := Lib.hid ha
      clear ha
      go_enter Try.func57, Try.ntmps57
      go_wp2_with fail
      refine HC.mono ?_
      rintro _ w1 ⟨rfl, hbl⟩
      have H1 := Lib.hid (H.out.below hbl)
      obtain ⟨c0, c1, c2, c3, c4, c5⟩ := H1.out.cells
      have f1 := H1.out.frozen 1
      have H2 := Lib.hid (pokeAt H1.out)
      have HM2 : Hid (Mo K K (fun x => x = o) w (w1.setCell ⟨p, 1, none⟩ (.int .i64 ((q.at_ : Int) + 1)))) := Lib.hid ((Mo.same hbl).trans (H1.out.pokeMo 1 _))
      have HE := escape_any H2.out hb (by simp only; omega) hlen
      simp only [HDR.out, HN.out] at HE
      have HE := Lib.hid HE
      clear HC hbl H H1 HQ
      go_wp2_with fail
      refine HE.out.mono ?_
      intro e w4 h4
      have h5 := SPost.from (q := q) (q1 := { q with at_ := q.at_ + 1 }) h4 HM2.out rfl rfl
      obtain ⟨A, c, zs, K', at', b, rfl, r'⟩ := h5
      have HR := Lib.hid r'
      clear r' h4 HE
      go_wp2
      go_ret
      exact ⟨A, c, zs, K', at', b, rfl, HR.out⟩
    have d92 : ((r : Int) == 92) = false := by simp; omega
    rw [if_neg e92] at ha
    have HI : ∀ wz, Calls Try.prog 51 #[.int .i32 (r : Int), .string ⟨mbrB.toArray⟩] wz fun e w' => e = .returned (.bool (inn r [91, 93, 94, 45])) ∧ Below wz.heap.size wz w' := fun wz => by
      have h := in_any wz (r : Int) mbrB (by decide)
      rw [any_inn, show mbrB.map UInt8.toNat = [91, 93, 94, 45] from rfl] at h
      exact h
    have HN := Lib.hid ha
    clear ha e92
    go_enter Try.func57, Try.ntmps57
    go_wp2_with fail
    refine HC.mono ?_
    rintro _ w1 ⟨rfl, hbl⟩
    have H1 := Lib.hid (H.out.below hbl)
    obtain ⟨c0, c1, c2, c3, c4, c5⟩ := H1.out.cells
    have f1 := H1.out.frozen 1
    have H2 := Lib.hid (pokeAt H1.out)
    have HM2 : Hid (Mo K K (fun x => x = o) w (w1.setCell ⟨p, 1, none⟩ (.int .i64 ((q.at_ : Int) + 1)))) := Lib.hid ((Mo.same hbl).trans (H1.out.pokeMo 1 _))
    have H3 := H2.out
    rw [HQ.out] at H3
    have H3 := Lib.hid H3
    go_wp2_with fail
    refine (HI _).mono ?_
    rintro _ w4 ⟨rfl, hb4⟩
    have H4 := Lib.hid (H3.out.below hb4)
    have HM4 := Lib.hid (HM2.out.trans (Mo.same hb4))
    obtain ⟨c0, c1, c2, c3, c4, c5⟩ := H4.out.cells
    have f5 := H4.out.frozen 5
    have H5 := Lib.hid (H4.out.poke 5 (.bool true) { q with at_ := q.at_ + 1, bad := true } (by unfold pcells; simp))
    have HM5 := Lib.hid (HM4.out.trans (H4.out.pokeMo 5 (.bool true)))
    cases hi : inn r [91, 93, 94, 45] with
    | false =>
      rw [hi] at HN
      clear HC hbl H H1 H2 HQ HI hb4 H3 hi
      go_wp2
      go_ret
      exact esc_fin (q := q) (ans := ans) (at' := q.at_ + 1) (b := false) (zs := [(r : Int), (r : Int)]) H4.out HM4.out (n := _) (by simp) (by simp) (by simp) (by omega) (fun m r1 hm => by
        have h := HN.out
        rw [hm] at h
        simp at h
        exact ⟨by rw [← h.1]; rfl, rfl, hle, by rw [← h.2]; exact HDR.out⟩) (fun hn => by have h := HN.out; rw [hn] at h; simp at h)
    | true =>
      rw [hi] at HN
      clear HC hbl H H1 H2 HQ HI hb4 H3 hi
      go_wp2
      go_ret
      exact esc_fin (q := q) (ans := ans) (at' := q.at_ + 1) (b := true) (zs := [(r : Int), (r : Int)]) H5.out HM5.out (n := _) (by simp) (by simp) (by simp) (by omega) (fun m r1 hm => by
        have h := HN.out
        rw [hm] at h
        simp at h) (fun _ => rfl)
/-- A number is answered, or a fault is found. -/
def DPost (w : World) (K : Nat → Nat) (o p : Nat) (S : Sl) (rs : List Nat) (q : PSt) (ms : List NM) (v : Value) (ans : Option (Nat × List Nat)) (e : Ending) (w' : World) : Prop :=
  ∃ (n : Nat) (at' : Nat) (b : Bool), e = .returned (.int .i64 (n : Int)) ∧ n ≤ 8 ∧ RP w' K o p S rs { q with at_ := at', bad := b } ms v ∧ Mo K K (fun x => x = o) w w' ∧ at' ≤ rs.length ∧
    (∀ m r1, ans = some (m, r1) → n = m ∧ b = false ∧ rs.drop at' = r1) ∧ (ans = none → b = true)
set_option maxHeartbeats 6400000 in
set_option maxRecDepth 100000 in
theorem digit_any {w : World} {K : Nat → Nat} {o p : Nat} {S : Sl} {rs : List Nat} {q : PSt} {ms : List NM} {v : Value} (h : RP w K o p S rs q ms v) (hb : q.bad = false) (hat : q.at_ ≤ rs.length) (hlen : rs.length ≤ 1000) :
    Calls Try.prog 40 #[.pointer (some ⟨p, 0, none⟩)] w (DPost w K o p S rs q ms v (digit (rs.drop q.at_))) := by
  obtain ⟨ans, ha⟩ : ∃ ans, digit (rs.drop q.at_) = ans := ⟨_, rfl⟩
  rw [ha]
  have HC := peek_any h (by omega)
  have H := Lib.hid h
  obtain ⟨z, hz⟩ : ∃ z, pkz rs q = z := ⟨_, rfl⟩
  rw [hz] at HC
  by_cases hg : 48 ≤ z ∧ z ≤ 56
  · cases hd0 : rs.drop q.at_ with
    | nil => rw [pkz_nil hd0] at hz; omega
    | cons r t =>
      obtain ⟨hpk, hdr, hle⟩ := pkz_cons hb hd0
      rw [hd0, digit_cons, if_pos (by omega)] at ha
      have hzr : z = (r : Int) := by rw [← hz, hpk]
      subst hzr
      have HN := Lib.hid ha
      have HDR := Lib.hid hdr
      have HQ : Hid (({ q with at_ := q.at_ + 1 } : PSt) = { q with at_ := q.at_ + 1, bad := false }) := Lib.hid (by rw [← hb])
      have d1 : decide ((r : Int) < 48) = false := decide_eq_false (by omega)
      have d2 : decide (56 < (r : Int)) = false := decide_eq_false (by omega)
      have HW : Hid ((r : Int) - 48 = ((r - 48 : Nat) : Int)) := Lib.hid (by omega)
      clear h ha hz hpk hdr hd0
      go_enter Try.func40, Try.ntmps40
      go_wp2_with fail
      refine HC.mono ?_
      rintro _ w1 ⟨rfl, hbl⟩
      have H1 := Lib.hid (H.out.below hbl)
      obtain ⟨c0, c1, c2, c3, c4, c5⟩ := H1.out.cells
      have f1 := H1.out.frozen 1
      have H2 := pokeAt H1.out
      rw [HQ.out] at H2
      have H2 := Lib.hid H2
      have HM2 : Hid (Mo K K (fun x => x = o) w (w1.setCell ⟨p, 1, none⟩ (.int .i64 ((q.at_ : Int) + 1)))) := Lib.hid ((Mo.same hbl).trans (H1.out.pokeMo 1 _))
      clear HC hbl H H1 HQ
      go_wp2
      go_ret
      exact ⟨r - 48, q.at_ + 1, false, by rw [← HW.out]; rfl, by omega, H2.out, HM2.out, hle, fun m r1 hm => by
        have h := HN.out
        rw [hm] at h
        simp at h
        exact ⟨h.1, rfl, by rw [← h.2]; exact HDR.out⟩, (fun hn => by have h := HN.out; rw [hn] at h; cases h)⟩
  · have HN : Hid (ans = none) := Lib.hid (by
      cases hd0 : rs.drop q.at_ with
      | nil => rw [hd0] at ha; exact ha.symm
      | cons r t =>
        obtain ⟨hpk, _, _⟩ := pkz_cons hb hd0
        rw [hd0, digit_cons, if_neg (by omega)] at ha
        exact ha.symm)
    have HQ : Hid (({ q with bad := true } : PSt) = { q with at_ := q.at_, bad := true }) := Lib.hid rfl
    clear h ha hz
    by_cases hlo : z < 48
    case' pos =>
      have d1 : decide (z < 48) = true := decide_eq_true hlo
    case' neg =>
      have d1 : decide (z < 48) = false := decide_eq_false hlo
      have d2 : decide (56 < z) = true := decide_eq_true (by omega)
    all_goals
      go_enter Try.func40, Try.ntmps40
      go_wp2_with fail
      refine HC.mono ?_
      rintro _ w1 ⟨rfl, hbl⟩
      have H1 := Lib.hid (H.out.below hbl)
      obtain ⟨c0, c1, c2, c3, c4, c5⟩ := H1.out.cells
      have f5 := H1.out.frozen 5
      have H2 := Lib.hid (H1.out.poke 5 (.bool true) { q with at_ := q.at_, bad := true } (by unfold pcells; simp))
      have HM2 := Lib.hid ((Mo.same (K := K) hbl).trans (H1.out.pokeMo 5 (.bool true)))
      clear HC hbl H H1 HQ
      go_wp2
      go_ret
      exact ⟨0, q.at_, true, rfl, by omega, H2.out, HM2.out, hat, (fun m r1 hm => by rw [HN.out] at hm; cases hm), fun _ => rfl⟩
end Go.Proofs.Ytdmbgjpidlllcaa.RxMbr
