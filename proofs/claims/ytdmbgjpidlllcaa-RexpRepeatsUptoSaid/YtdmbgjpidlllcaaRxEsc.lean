/- The contracts of the document's escape, member and digit. Conditions: the parser lies in memory and has found no fault so far, its place is within the text, which has at most 1000 runes. -/
import Derived.Test.YtdmbgjpidlllcaaRxMems
namespace Go.Proofs.Ytdmbgjpidlllcaa.RxEsc
open Go Go.RowKit Words AppN Km Mo_ RxSpec RxEq RxMem RxPeek RxIn

theorem r32_i32 (l : List Nat) : l.map R32 = (l.map fun (n : Nat) => (n : Int)).map I32 := by
  rw [List.map_map]; rfl
theorem pkz_cons {rs : List Nat} {q : PSt} {r : Nat} {t : List Nat} (hb : q.bad = false) (h : rs.drop q.at_ = r :: t) : pkz rs q = (r : Int) ∧ rs.drop (q.at_ + 1) = t ∧ q.at_ + 1 ≤ rs.length := by
  have hl : q.at_ < rs.length := by
    by_cases hl : q.at_ < rs.length
    · exact hl
    · rw [List.drop_eq_nil_iff.2 (by omega)] at h; cases h
  have h1 := List.drop_eq_getElem_cons hl
  rw [h] at h1
  injection h1 with h2 h3
  refine ⟨?_, h3.symm, hl⟩
  unfold pkz
  rw [if_neg (by simp [hb]; omega), List.getD_eq_getElem?_getD, List.getElem?_eq_getElem hl, h2]
  rfl
theorem pkz_nil {rs : List Nat} {q : PSt} (h : rs.drop q.at_ = []) : pkz rs q = -1 := by
  unfold pkz
  rw [if_pos (.inr (List.drop_eq_nil_iff.1 h))]
theorem pkz_bad {rs : List Nat} {q : PSt} (h : q.bad = true) : pkz rs q = -1 := by
  unfold pkz
  rw [if_pos (.inl h)]
/-- Pairs of runes are answered, or a fault is found. -/
def SPost (w : World) (K : Nat → Nat) (o p : Nat) (S : Sl) (rs : List Nat) (q : PSt) (ms : List NM) (v : Value) (ans : Option (List Nat × List Nat)) (e : Ending) (w' : World) : Prop :=
  ∃ (A : Option Addr) (c : Nat) (zs : List Int) (K' : Nat → Nat) (at' : Nat) (b : Bool), e = .returned (.slice A zs.length c) ∧ Sd w' K' o (A, zs.length, c) (zs.map I32) ∧ RP w' K' o p S rs { q with at_ := at', bad := b } ms v ∧ Mo K K' (fun x => x = o) w w' ∧
    at' ≤ rs.length + 2 ∧ 2 ≤ zs.length ∧ zs.length ≤ 8 ∧ (∀ m r1, ans = some (m, r1) → zs = m.map (fun (n : Nat) => (n : Int)) ∧ b = false ∧ at' ≤ rs.length ∧ rs.drop at' = r1) ∧ (ans = none → b = true)
theorem made_sd (w : World) (K : Nat → Nat) (o : Nat) (zs : List Int) (hz : zs.length ≤ 8) : Sd (w.alloc (.cells (zs.map I32).toArray 21)) (kmark K w.heap.size (o + 2)) o (some ⟨w.heap.size, 0, none⟩, zs.length, zs.length) (zs.map I32) := by
  have h := Rd.made' w (zs.map I32).toArray 21
  refine ⟨by simp, Nat.le_refl _, show zs.length ≤ maxLen by unfold maxLen; omega, by simpa using h, fun b off e _ => ?_⟩
  injection e with e
  injection e with e _
  rw [← e, kmark_new (Nat.le_refl _)]
  exact ⟨by omega, by omega⟩
theorem new_mo (w : World) (K : Nat → Nat) (ob : Obj) (n : Nat) : Mo K (kmark K w.heap.size n) (fun _ => False) w (w.alloc ob) := Mo.new ((Below.refl _ _).alloc (Nat.le_refl _) _) n
theorem esc_fin {w w1 : World} {K : Nat → Nat} {o p : Nat} {S : Sl} {rs : List Nat} {q : PSt} {ms : List NM} {v : Value} {at' : Nat} {b : Bool} {ans : Option (List Nat × List Nat)} (h : RP w1 K o p S rs { q with at_ := at', bad := b } ms v) (hm : Mo K K (fun x => x = o) w w1)
    (zs : List Int) (n : Nat) (hsz : w1.heap.size = n) (h2 : 2 ≤ zs.length) (h8 : zs.length ≤ 8) (hat : at' ≤ rs.length + 2) (hs : ∀ m r1, ans = some (m, r1) → zs = m.map (fun (n : Nat) => (n : Int)) ∧ b = false ∧ at' ≤ rs.length ∧ rs.drop at' = r1) (hn : ans = none → b = true) :
    SPost w K o p S rs q ms v ans (.returned (.slice (some ⟨n, 0, none⟩) zs.length zs.length)) (w1.alloc (.cells (zs.map I32).toArray 21)) := by
  subst hsz
  exact ⟨_, _, zs, _, at', b, rfl, made_sd w1 K o zs h8, h.mo (new_mo w1 K _ (o + 2)), hm.trans ((new_mo w1 K _ (o + 2)).widen fun _ h => h.elim), hat, h2, h8, hs, hn⟩
theorem any_inn (s : List UInt8) (r : Nat) : (s.any fun c => ((c.toNat : Int) == (r : Int))) = inn r (s.map UInt8.toNat) := by
  unfold inn
  rw [Bool.eq_iff_iff, List.any_eq_true, List.contains_iff_mem, List.mem_map]
  constructor
  · rintro ⟨c, hc, he⟩
    have h2 := eq_of_beq he
    exact ⟨c, hc, by omega⟩
  · rintro ⟨c, hc, he⟩
    exact ⟨c, hc, beq_iff_eq.2 (by omega)⟩
def escsB : List UInt8 := [92, 40, 41, 91, 93, 123, 125, 42, 43, 63, 124, 46, 94, 36, 45]
theorem escsB_nat : escsB.map UInt8.toNat = escs := rfl

set_option maxHeartbeats 6400000 in
set_option maxRecDepth 100000 in
theorem escape_any {w : World} {K : Nat → Nat} {o p : Nat} {S : Sl} {rs : List Nat} {q : PSt} {ms : List NM} {v : Value} (h : RP w K o p S rs q ms v) (hb : q.bad = false) (hat : q.at_ ≤ rs.length) (hlen : rs.length ≤ 1000) :
    Calls Try.prog 50 #[.pointer (some ⟨p, 0, none⟩)] w (SPost w K o p S rs q ms v (esc (rs.drop q.at_))) := by
  obtain ⟨ans, ha⟩ : ∃ ans, esc (rs.drop q.at_) = ans := ⟨_, rfl⟩
  rw [ha]
  have HC := peek_any h (by omega)
  have H := Lib.hid h
  cases hd0 : rs.drop q.at_ with
  | nil =>
    rw [hd0] at ha
    have HN : Hid (ans = none) := Lib.hid ha.symm
    rw [pkz_nil hd0] at HC
    clear h ha hd0
    go_enter Try.func50, Try.ntmps50
    go_wp2_with fail
    refine HC.mono ?_
    rintro _ w1 ⟨rfl, hbl⟩
    have H1 := Lib.hid (H.out.below hbl)
    obtain ⟨c0, c1, c2, c3, c4, c5⟩ := H1.out.cells
    have f1 := H1.out.frozen 1
    have H2 := Lib.hid (pokeAt H1.out)
    have HM2 : Hid (Mo K K (fun x => x = o) w (w1.setCell ⟨p, 1, none⟩ (.int .i64 ((q.at_ : Int) + 1)))) := Lib.hid ((Mo.same hbl).trans (H1.out.pokeMo 1 _))
    have f5 := H2.out.frozen 5
    have e5 := H2.out.cells.2.2.2.2.2
    have H3 := Lib.hid (H2.out.poke 5 (.bool true) { q with at_ := q.at_ + 1, bad := true } (by unfold pcells; simp))
    have HM3 := Lib.hid (HM2.out.trans (H2.out.pokeMo 5 (.bool true)))
    clear HC hbl H H1
    go_wp2
    go_ret
    exact esc_fin (q := q) (ans := ans) (at' := q.at_ + 1) (b := true) (zs := [-1, -1]) H3.out HM3.out (n := _) (by simp) (by simp) (by simp) (by omega) (fun m r1 hm => by rw [HN.out] at hm; cases hm) (fun _ => rfl)
  | cons r t =>
    obtain ⟨hpk, hdr, hle⟩ := pkz_cons hb hd0
    rw [hd0, esc_cons] at ha
    rw [hpk] at HC
    have hr0 : decide ((r : Int) < 0) = false := decide_eq_false (by omega)
    have HDR := Lib.hid hdr
    have HQ : Hid (∀ at' : Nat, ({ q with at_ := at' } : PSt) = { q with at_ := at', bad := false }) := Lib.hid fun at' => by rw [← hb]
    clear h hd0 hpk hdr
    by_cases e110 : r = 110
    case' pos =>
      subst e110
      have HN := Lib.hid ha
      clear ha
      go_enter Try.func50, Try.ntmps50
      go_wp2_with fail
      refine HC.mono ?_
      rintro _ w1 ⟨rfl, hbl⟩
      have H1 := Lib.hid (H.out.below hbl)
      obtain ⟨c0, c1, c2, c3, c4, c5⟩ := H1.out.cells
      have f1 := H1.out.frozen 1
      have H2 := Lib.hid (pokeAt H1.out)
      have HM2 : Hid (Mo K K (fun x => x = o) w (w1.setCell ⟨p, 1, none⟩ (.int .i64 ((q.at_ : Int) + 1)))) := Lib.hid ((Mo.same hbl).trans (H1.out.pokeMo 1 _))
      have H3 := H2.out
      rw [HQ.out] at H3
      have H3 := Lib.hid H3
      clear HC hbl H H1 H2 HQ
      go_wp2
      go_ret
      exact esc_fin (q := q) (ans := ans) (at' := q.at_ + 1) (b := false) (zs := [10, 10]) H3.out HM2.out (n := _) (by simp) (by simp) (by simp) (by omega) (fun m r1 hm => by
        have h := HN.out
        rw [hm] at h
        simp at h
        exact ⟨by rw [← h.1]; rfl, rfl, hle, by rw [← h.2]; exact HDR.out⟩) (fun hn => by have h := HN.out; rw [hn] at h; simp at h)
    have d110 : ((r : Int) == 110) = false := by simp; omega
    rw [if_neg e110] at ha
    by_cases e116 : r = 116
    case' pos =>
      subst e116
      have HN := Lib.hid ha
      clear ha
      go_enter Try.func50, Try.ntmps50
      go_wp2_with fail
      refine HC.mono ?_
      rintro _ w1 ⟨rfl, hbl⟩
      have H1 := Lib.hid (H.out.below hbl)
      obtain ⟨c0, c1, c2, c3, c4, c5⟩ := H1.out.cells
      have f1 := H1.out.frozen 1
      have H2 := Lib.hid (pokeAt H1.out)
      have HM2 : Hid (Mo K K (fun x => x = o) w (w1.setCell ⟨p, 1, none⟩ (.int .i64 ((q.at_ : Int) + 1)))) := Lib.hid ((Mo.same hbl).trans (H1.out.pokeMo 1 _))
      have H3 := H2.out
      rw [HQ.out] at H3
      have H3 := Lib.hid H3
      clear HC hbl H H1 H2 HQ
      go_wp2
      go_ret
      exact esc_fin (q := q) (ans := ans) (at' := q.at_ + 1) (b := false) (zs := [9, 9]) H3.out HM2.out (n := _) (by simp) (by simp) (by simp) (by omega) (fun m r1 hm => by
        have h := HN.out
        rw [hm] at h
        simp at h
        exact ⟨by rw [← h.1]; rfl, rfl, hle, by rw [← h.2]; exact HDR.out⟩) (fun hn => by have h := HN.out; rw [hn] at h; simp at h)
    have d116 : ((r : Int) == 116) = false := by simp; omega
    rw [if_neg e116] at ha
    by_cases e100 : r = 100
    case' pos =>
      subst e100
      have HN := Lib.hid ha
      clear ha
      go_enter Try.func50, Try.ntmps50
      go_wp2_with fail
      refine HC.mono ?_
      rintro _ w1 ⟨rfl, hbl⟩
      have H1 := Lib.hid (H.out.below hbl)
      obtain ⟨c0, c1, c2, c3, c4, c5⟩ := H1.out.cells
      have f1 := H1.out.frozen 1
      have H2 := Lib.hid (pokeAt H1.out)
      have HM2 : Hid (Mo K K (fun x => x = o) w (w1.setCell ⟨p, 1, none⟩ (.int .i64 ((q.at_ : Int) + 1)))) := Lib.hid ((Mo.same hbl).trans (H1.out.pokeMo 1 _))
      have H3 := H2.out
      rw [HQ.out] at H3
      have H3 := Lib.hid H3
      clear HC hbl H H1 H2 HQ
      go_wp2
      go_ret
      exact esc_fin (q := q) (ans := ans) (at' := q.at_ + 1) (b := false) (zs := [48, 57]) H3.out HM2.out (n := _) (by simp) (by simp) (by simp) (by omega) (fun m r1 hm => by
        have h := HN.out
        rw [hm] at h
        simp at h
        exact ⟨by rw [← h.1]; rfl, rfl, hle, by rw [← h.2]; exact HDR.out⟩) (fun hn => by have h := HN.out; rw [hn] at h; simp at h)
    have d100 : ((r : Int) == 100) = false := by simp; omega
    rw [if_neg e100] at ha
    by_cases e119 : r = 119
    case' pos =>
      subst e119
      have HN := Lib.hid ha
      clear ha
      go_enter Try.func50, Try.ntmps50
      go_wp2_with fail
      refine HC.mono ?_
      rintro _ w1 ⟨rfl, hbl⟩
      have H1 := Lib.hid (H.out.below hbl)
      obtain ⟨c0, c1, c2, c3, c4, c5⟩ := H1.out.cells
      have f1 := H1.out.frozen 1
      have H2 := Lib.hid (pokeAt H1.out)
      have HM2 : Hid (Mo K K (fun x => x = o) w (w1.setCell ⟨p, 1, none⟩ (.int .i64 ((q.at_ : Int) + 1)))) := Lib.hid ((Mo.same hbl).trans (H1.out.pokeMo 1 _))
      have H3 := H2.out
      rw [HQ.out] at H3
      have H3 := Lib.hid H3
      clear HC hbl H H1 H2 HQ
      go_wp2
      go_ret
      exact esc_fin (q := q) (ans := ans) (at' := q.at_ + 1) (b := false) (zs := [48, 57, 65, 90, 95, 95, 97, 122]) H3.out HM2.out (n := _) (by simp) (by simp) (by simp) (by omega) (fun m r1 hm => by
        have h := HN.out
        rw [hm] at h
        simp at h
        exact ⟨by rw [← h.1]; rfl, rfl, hle, by rw [← h.2]; exact HDR.out⟩) (fun hn => by have h := HN.out; rw [hn] at h; simp at h)
    have d119 : ((r : Int) == 119) = false := by simp; omega
    rw [if_neg e119] at ha
    by_cases e115 : r = 115
    case' pos =>
      subst e115
      have HN := Lib.hid ha
      clear ha
      go_enter Try.func50, Try.ntmps50
      go_wp2_with fail
      refine HC.mono ?_
      rintro _ w1 ⟨rfl, hbl⟩
      have H1 := Lib.hid (H.out.below hbl)
      obtain ⟨c0, c1, c2, c3, c4, c5⟩ := H1.out.cells
      have f1 := H1.out.frozen 1
      have H2 := Lib.hid (pokeAt H1.out)
      have HM2 : Hid (Mo K K (fun x => x = o) w (w1.setCell ⟨p, 1, none⟩ (.int .i64 ((q.at_ : Int) + 1)))) := Lib.hid ((Mo.same hbl).trans (H1.out.pokeMo 1 _))
      have H3 := H2.out
      rw [HQ.out] at H3
      have H3 := Lib.hid H3
      clear HC hbl H H1 H2 HQ
      go_wp2
      go_ret
      exact esc_fin (q := q) (ans := ans) (at' := q.at_ + 1) (b := false) (zs := [9, 10, 13, 13, 32, 32]) H3.out HM2.out (n := _) (by simp) (by simp) (by simp) (by omega) (fun m r1 hm => by
        have h := HN.out
        rw [hm] at h
        simp at h
        exact ⟨by rw [← h.1]; rfl, rfl, hle, by rw [← h.2]; exact HDR.out⟩) (fun hn => by have h := HN.out; rw [hn] at h; simp at h)
    have d115 : ((r : Int) == 115) = false := by simp; omega
    rw [if_neg e115] at ha
    clear e110 e116 e100 e119 e115
    have HI : ∀ wz, Calls Try.prog 51 #[.int .i32 (r : Int), .string ⟨escsB.toArray⟩] wz fun e w' => e = .returned (.bool (inn r escs)) ∧ Below wz.heap.size wz w' := fun wz => by
      have h := in_any wz (r : Int) escsB (by decide)
      rw [any_inn, escsB_nat] at h
      exact h
    have HN := Lib.hid ha
    clear ha
    go_enter Try.func50, Try.ntmps50
    go_wp2_with fail
    refine HC.mono ?_
    rintro _ w1 ⟨rfl, hbl⟩
    have H1 := Lib.hid (H.out.below hbl)
    obtain ⟨c0, c1, c2, c3, c4, c5⟩ := H1.out.cells
    have f1 := H1.out.frozen 1
    have H2 := Lib.hid (pokeAt H1.out)
    have HM2 : Hid (Mo K K (fun x => x = o) w (w1.setCell ⟨p, 1, none⟩ (.int .i64 ((q.at_ : Int) + 1)))) := Lib.hid ((Mo.same hbl).trans (H1.out.pokeMo 1 _))
    have H3 := H2.out
    rw [HQ.out] at H3
    have H3 := Lib.hid H3
    go_wp2_with fail
    refine (HI _).mono ?_
    rintro _ w4 ⟨rfl, hb4⟩
    have H4 := Lib.hid (H3.out.below hb4)
    have HM4 := Lib.hid (HM2.out.trans (Mo.same hb4))
    obtain ⟨c0, c1, c2, c3, c4, c5⟩ := H4.out.cells
    have f5 := H4.out.frozen 5
    have H5 := Lib.hid (H4.out.poke 5 (.bool true) { q with at_ := q.at_ + 1, bad := true } (by unfold pcells; simp))
    have HM5 := Lib.hid (HM4.out.trans (H4.out.pokeMo 5 (.bool true)))
    cases hi : inn r escs with
    | true =>
      rw [hi] at HN
      clear HC hbl H H1 H2 HQ HI hb4 H3 hi
      go_wp2
      go_ret
      exact esc_fin (q := q) (ans := ans) (at' := q.at_ + 1) (b := false) (zs := [(r : Int), (r : Int)]) H4.out HM4.out (n := _) (by simp) (by simp) (by simp) (by omega) (fun m r1 hm => by
        have h := HN.out
        rw [hm] at h
        simp at h
        exact ⟨by rw [← h.1]; rfl, rfl, hle, by rw [← h.2]; exact HDR.out⟩) (fun hn => by have h := HN.out; rw [hn] at h; simp at h)
    | false =>
      rw [hi] at HN
      clear HC hbl H H1 H2 HQ HI hb4 H3 hi
      go_wp2
      go_ret
      exact esc_fin (q := q) (ans := ans) (at' := q.at_ + 1) (b := true) (zs := [(r : Int), (r : Int)]) H5.out HM5.out (n := _) (by simp) (by simp) (by simp) (by omega) (fun m r1 hm => by
        have h := HN.out
        rw [hm] at h
        simp at h) (fun _ => rfl)
end Go.Proofs.Ytdmbgjpidlllcaa.RxEsc
