/- The contract of the document's GetAll of records. Conditions: the bytes lie in memory. -/
import Derived.Test.YtahbaifbihpppaaRcRefRd
namespace Go.Proofs.Ytahbaifbihpppaa.RcRefGa
open Go Go.RowKit Words AppN Less LbSpec LbText LbMem LbRef LbCmp LbCanon RcSpec RcAll RcMem RcRef RcRefPut RcRefGt RcRefRd UtOwn

/-! ### Plain -/
theorem recs_err : ∀ (k : Nat) (l : List UInt8), (recs k l).1 ≠ 0 → recs k l = ((recs k l).1, [], [])
  | 0, l, h => absurd rfl h
  | k + 1, l, h => by
    rw [recs] at h ⊢
    split
    · rfl
    · split
      · rfl
      · rename_i h1 h2
        rw [if_neg h1, if_neg h2] at h
        exact absurd rfl h
def afterR (acc : List Rec) (r : Nat × List Rec × List UInt8) : Nat × List Rec × List UInt8 := if r.1 ≠ 0 then (r.1, [], []) else (0, acc ++ r.2.1, r.2.2)
theorem afterR_nil (k : Nat) (l : List UInt8) : afterR [] (recs k l) = recs k l := by
  unfold afterR
  split
  · rename_i h; exact (recs_err k l h).symm
  · rename_i h
    rw [List.nil_append]
    exact (triple (by omega)).symm
theorem afterR_zero (acc : List Rec) (l : List UInt8) : afterR acc (recs 0 l) = (0, acc, l) := by simp [afterR, recs]
theorem afterR_err (acc : List Rec) (k : Nat) {l : List UInt8} (h : (RcSpec.get l).1 ≠ 0) : afterR acc (recs (k + 1) l) = ((RcSpec.get l).1, [], []) := by
  rw [recs, if_pos h]
  unfold afterR
  rw [if_pos h]
theorem afterR_ok (acc : List Rec) (k : Nat) {l : List UInt8} (h1 : (RcSpec.get l).1 = 0) :
    afterR acc (recs (k + 1) l) = afterR (acc ++ [(RcSpec.get l).2.1]) (recs k (RcSpec.get l).2.2) := by
  rw [recs, if_neg (show ¬ (RcSpec.get l).1 ≠ 0 by omega)]
  generalize recs k (RcSpec.get l).2.2 = q
  unfold afterR
  by_cases h3 : q.1 = 0 <;> simp [h3]
def gaC (q : Nat × List Rec × List UInt8) : Nat × List Rec := if q.1 ≠ 0 then (q.1, []) else if q.2.2 ≠ [] then (6, []) else (0, q.2.1)
theorem getAll_eq (b : List UInt8) : getAll b = if (num b).1 ≠ 0 then ((num b).1, []) else if 65536 < (num b).2.1 then (3, []) else gaC (recs (num b).2.1 (num b).2.2) := rfl
theorem gaC_err {e : Nat} (h : e ≠ 0) : gaC (e, [], []) = (e, []) := by
  unfold gaC
  rw [if_pos h]
theorem gaC_ok (l : List Rec) (r : List UInt8) : gaC (0, l, r) = if r ≠ [] then (6, []) else (0, l) := rfl

/-! ### Records in a row of the call's own -/
theorem own_row {w : World} {e : TypeId} {base n s : Nat} {v : Value} {xs : List Value} (h : w.ownsRow base e s v n xs) (hl : xs.length = n * s) : ∃ A c, v = .slice A n c ∧ n ≤ c ∧ c ≤ maxLen ∧ Rd w w.heap.size A xs := by
  rcases h.2 with ⟨rfl, rfl⟩ | ⟨g, cap, cur, rfl, hb, hg, h1, h2, h3, h4⟩
  · have hx : xs = [] := List.eq_nil_of_length_eq_zero (by rw [hl]; omega)
    subst hx
    exact ⟨none, 0, rfl, by omega, by unfold maxLen; omega, Rd.nil_⟩
  · refine ⟨_, _, rfl, h1, h2, fun hn => ?_⟩
    refine ⟨g, 0, rfl, (Array.getElem?_eq_some_iff.1 hg).1, fun j u hu => ?_⟩
    have := h.cells (g := g) rfl j u hu
    rwa [add_off] at this
/-- Where a record's labels lie: not in the row v. -/
def Away (v : Value) (w : World) (m : RM) : Prop := m.1.labels = [] ∨ ∃ g, m.2.1 = some ⟨g, 0, .none⟩ ∧ v.ownBlock ≠ some g ∧ g < w.heap.size
theorem Away.call {v : Value} {w w' : World} {m : RM} (h : Away v w m) (hs : w.heap.size ≤ w'.heap.size) : Away v w' m := h.imp id fun ⟨g, e, h1, h2⟩ => ⟨g, e, h1, Nat.lt_of_lt_of_le h2 hs⟩
structure ArSt (w : World) (ms : List RM) (v : Value) (wr : World) : Prop where
  own : wr.ownsRow w.heap.size 33 4 v ms.length (flatR ms)
  below : Below w.heap.size w wr
  each : ∀ m ∈ ms, Okm wr m ∧ Away v wr m
variable {w wr w1 : World} {ms : List RM} {v : Value}
theorem ArSt.call (h : ArSt w ms v wr) (hb : Below wr.heap.size wr w1) : ArSt w ms v w1 :=
  ⟨own_keepN h.own hb, h.below.trans (hb.mono h.below.size), fun m hm => ⟨(h.each m hm).1.below hb, (h.each m hm).2.imp id fun ⟨g, e, h1, h2⟩ => ⟨g, e, h1, Nat.lt_of_lt_of_le h2 hb.size⟩⟩⟩
theorem away_grown {m : RM} (h : Okm wr m) (ha : Away v wr m) (hg : wr.grownBy w1 v.ownBlock) (hs : wr.heap.size ≤ w1.heap.size) : Okm w1 m := by
  refine ⟨⟨h.labs.1, h.labs.2.1, h.labs.2.2.1, ?_⟩, h.fits⟩
  rcases ha with ha | ⟨g, e, h1, h2⟩
  · rw [ha]
    exact Rd.nil_
  · refine (h.labs.2.2.2.grownBy hg (Nat.le_refl _) ?_).more hs
    intro b off e2
    rw [e] at e2
    cases e2
    exact fun e3 => h1 e3.symm
theorem ArSt.app (h : ArSt w ms v wr) {m : RM} {v' : Value} (hm : Okm wr m) (ha : Away v wr m) (ho : w1.ownsRow w.heap.size 33 4 v' (ms.length + 1) (flatR ms ++ rcells m)) (hg : wr.grownBy w1 v.ownBlock) (hv : v'.ownBlock = v.ownBlock ∨ v'.ownBlock = some wr.heap.size) : ArSt w (ms ++ [m]) v' w1 := by
  have hs : wr.heap.size ≤ w1.heap.size := hg.size
  refine ⟨by rw [flatR_append, flatR_one, List.length_append]; exact ho, h.below.grown hg h.below.size (fun k hk => (h.own.lt k hk).1), fun x hx => ?_⟩
  have key : Okm wr x ∧ Away v wr x := by
    rcases List.mem_append.1 hx with hx | hx
    · exact h.each x hx
    · rw [List.mem_singleton.1 hx]; exact ⟨hm, ha⟩
  refine ⟨away_grown key.1 key.2 hg hs, key.2.imp id fun ⟨g, e, h1, h2⟩ => ⟨g, e, ?_, Nat.lt_of_lt_of_le h2 hs⟩⟩
  rcases hv with hv | hv
  · rw [hv]; exact h1
  · rw [hv]; intro e2; cases e2; omega
theorem ArSt.rl (h : ArSt w ms v wr) : ∃ A c, v = .slice A ms.length c ∧ Rl wr A ms.length c ms := by
  obtain ⟨A, c, e, h1, h2, h3⟩ := own_row h.own (flatR_len ms)
  exact ⟨A, c, e, rfl, h1, h2, h3, fun m hm => (h.each m hm).1⟩
theorem away_new (h : ArSt w ms v wr) {A : Option Addr} {n c : Nat} {r : Rec} (hb : Below wr.heap.size wr w1) (ho : w1.ownsRow wr.heap.size 46 2 (.slice A n c) r.labels.length (flat r.labels)) (hf : Fits r) : n = r.labels.length ∧ Okm w1 (r, A, n, c) ∧ Away v w1 (r, A, n, c) := by
  obtain ⟨A1, c1, e, h1, h2, h3, h4⟩ := own_lab ho
  cases e
  refine ⟨rfl, ⟨⟨rfl, h1, h2, h3⟩, hf⟩, ?_⟩
  rcases h4 with h4 | ⟨g, rfl, hg⟩
  · exact .inl (List.eq_nil_of_length_eq_zero h4)
  · by_cases hz : r.labels = []
    · exact .inl hz
    · refine .inr ⟨g, rfl, fun e => ?_, ?_⟩
      · have := (h.own.lt g e).2
        omega
      · obtain ⟨b', off, e2, hlt, _⟩ := h3 (by rw [flat_len]; have := List.length_pos_iff.2 hz; omega)
        cases e2
        exact hlt

/-! ### The walk -/
/-- What GetAll answers. -/
def GaPost (r : Nat × List Rec) (w : World) (e : Ending) (w' : World) : Prop :=
  ∃ (A : Option Addr) (c : Nat) (ms : List RM), e = .returned (.tuple #[.slice A ms.length c, .int .i64 (r.1 : Int)]) ∧ recsOf ms = r.2 ∧ Rl w' A ms.length c ms ∧ Below w.heap.size w w'
theorem ga_err {q : Nat} {R : Nat × List Rec} (hR : (q, []) = R) {w w' : World} (hb : Below w.heap.size w w') : GaPost R w (.returned (.tuple #[.slice .none 0 0, .int .i64 (q : Int)])) w' := by
  subst hR
  exact ⟨.none, 0, [], rfl, rfl, ⟨rfl, Nat.le_refl _, by unfold maxLen; omega, Rd.nil_, fun m hm => by cases hm⟩, hb⟩
def GaRel (w : World) (b : List UInt8) (R : Nat × List Rec) (n : Nat) (va vl vi : Value) (wr : World) : Prop :=
  ∃ (q k : Nat) (ms : List RM), va = .int .i64 (q : Int) ∧ vi = .int .i64 (k : Int) ∧ q ≤ b.length ∧ k ≤ n ∧ Hid (ms.length = k) ∧ Hid (ArSt w ms vl wr) ∧ Hid (gaC (afterR (recsOf ms) (recs (n - k) (b.drop q))) = R)

set_option maxHeartbeats 6400000 in
set_option maxRecDepth 100000 in
theorem rgetall_any (w : World) (b : List UInt8) (A : Option Addr) (c : Nat) (hr : Rd w w.heap.size A (b.map B8)) (hc : b.length ≤ c) (hm : c ≤ maxLen) :
    Calls Try.prog 20 #[.slice A b.length c] w (GaPost (getAll b) w) := by
  obtain ⟨i1, gi, gz0, gz1, gz2⟩ := info_parts info_record
  obtain ⟨R, hR⟩ : ∃ R, getAll b = R := ⟨_, rfl⟩
  rw [hR]
  have HRD := Lib.hid hr
  obtain ⟨p1, h11, h12, h13, h14, hcall⟩ := rnum_any w b A c w.heap.size 0 hr hc hm (Nat.zero_le _)
  rw [getAll_eq] at hR
  rw [List.drop_zero] at h13 h14 hcall
  rw [h13] at hR
  have HC := Lib.hid hcall
  rw [show ((0 : Nat) : Int) = 0 from rfl] at HC
  generalize num b = N at hR h14 HC
  obtain ⟨e1, n, l1⟩ := N
  simp only at hR h14 HC
  clear hcall h13 hr
  by_cases he : e1 = 0
  · subst he
    rw [if_neg (by decide)] at hR
    rw [if_pos rfl] at HC
    by_cases hn : 65536 < n
    · rw [if_pos hn] at hR
      have HE := Lib.hid hR
      have j : (65536 : Int) < (n : Int) := by omega
      clear hR hn
      go_enter Try.func20, Try.ntmps20
      go_wp2_with fail
      refine HC.out.mono ?_
      rintro e w1 ⟨rfl, rfl⟩
      go_wp2
      go_ret2
      exact ga_err HE.out (Below.refl _ _)
    · rw [if_neg hn] at hR
      have j : ¬ (65536 : Int) < (n : Int) := by omega
      have hnn : n ≤ 65536 := by omega
      have hwn : IntKind.i64.wrap (n : Int) = (n : Int) := by rw [IntKind.wrap_i64]; omega
      have HG : Hid (gaC (afterR (recsOf []) (recs (n - 0) (b.drop p1))) = R) := Lib.hid (by rw [show recsOf [] = [] from rfl, afterR_nil]; exact hR)
      have HS0 : Hid (ArSt w [] (.slice .none 0 0) w) := Lib.hid ⟨World.ownsRow_nil .., Below.refl _ _, fun m hm => by cases hm⟩
      clear hR hn
      go_enter Try.func20, Try.ntmps20
      go_wp2_with fail
      refine HC.out.mono ?_
      rintro e w1 ⟨rfl, rfl⟩
      clear HC
      go_wp2
      go_loopw [5, 7, 8] (fun va vl vi wr => GaRel w b R n va vl vi wr) (fun _ _ vi _ => n - (intOf vi).toNat)
      case atStart => exact ⟨p1, 0, [], rfl, rfl, h12, Nat.zero_le _, Lib.hid rfl, HS0, HG⟩
      case round =>
        obtain ⟨q, k, ms, rfl, rfl, hq, hk, HAL, HS, HGr⟩ := hrel
        clear HS0 HG
        by_cases hlt : k < n
        · obtain ⟨m, hmk⟩ : ∃ m, n - k = m + 1 := ⟨n - k - 1, by omega⟩
          have HG4 : Hid (gaC (afterR (recsOf ms) (recs (m + 1) (b.drop q))) = R) := Lib.hid (by rw [← hmk]; exact HGr.out)
          have HMK : Hid (m = n - (k + 1)) := Lib.hid (by omega)
          clear HGr hmk
          have HC := Lib.hid (rget_any wr b A c q ((HRD.out.below HS.out.below).more HS.out.below.size) hc hm hq)
          have HFT : Hid (∀ r rest, RcSpec.get (b.drop q) = (0, r, rest) → Fits r) := Lib.hid fun r rest h => (get_inv h).2.2
          have HA1 : Hid ((RcSpec.get (b.drop q)).1 ≠ 0 → ((RcSpec.get (b.drop q)).1, []) = R) := Lib.hid fun te => by
            have h := HG4.out
            rw [afterR_err _ m te, gaC_err te] at h
            exact h
          have HA2 : Hid ((RcSpec.get (b.drop q)).1 = 0 → gaC (afterR (recsOf ms ++ [(RcSpec.get (b.drop q)).2.1]) (recs (n - (k + 1)) (RcSpec.get (b.drop q)).2.2)) = R) := Lib.hid fun te => by
            have h := HG4.out
            rw [afterR_ok _ m te, HMK.out] at h
            exact h
          unfold GPost aggR at HC
          generalize RcSpec.get (b.drop q) = G at HC HFT HA1 HA2
          obtain ⟨ee, ⟨t, sq, ls, ln⟩, rest⟩ := G
          simp only at HC HFT HA1 HA2
          clear HG4 HMK
          by_cases te : ee = 0
          · subst te
            have HC2 : Hid (Calls Try.prog 18 #[.slice A b.length c, .int .i64 (q : Int)] wr fun e w' => ∃ A1 n1 c1 q1, e = .returned (.tuple #[.agg #[.int .i64 t, .int .u64 (sq : Int), .slice A1 n1 c1, .string ⟨ln.toArray⟩], .int .i64 ((q1 : Nat) : Int), .int .i64 0]) ∧ q1 ≤ b.length ∧ rest = b.drop q1 ∧ w'.ownsRow wr.heap.size 46 2 (.slice A1 n1 c1) ls.length (flat ls) ∧ Below wr.heap.size wr w') := Lib.hid (HC.out.mono (by
              rintro e w' ⟨⟨A1, n1, c1⟩, q1, rfl, h1, h2, h3⟩
              exact ⟨A1, n1, c1, q1, by simp [slV, S8], (h1 rfl).1, (h1 rfl).2, h2, h3⟩))
            have HA := Lib.hid (HA2.out rfl)
            have HF := Lib.hid (HFT.out _ _ rfl)
            clear HC HA1 HA2 HFT
            go_wp2_with fail
            refine HC2.out.mono ?_
            rintro e w2 ⟨A1, n1, c1, q1, rfl, hq1, rfl, hown, hb2⟩
            obtain ⟨hn1, hokm, haway⟩ := away_new HS.out hb2 hown HF.out
            have hb3 : Below w2.heap.size w2 ((w2.alloc (.cells #[.int .i64 t, .int .u64 (sq : Int), .slice A1 n1 c1, .string ⟨ln.toArray⟩] 33)).alloc (.cells #[.int .i64 t, .int .u64 (sq : Int), .slice A1 n1 c1, .string ⟨ln.toArray⟩] 33)) := ((Below.refl _ w2).alloc (Nat.le_refl _) _).alloc (by simp) _
            have HS3 := Lib.hid ((HS.out.call hb2).call hb3)
            have HOK3 := Lib.hid (hokm.below hb3)
            have HAW3 := Lib.hid (haway.call hb3.size)
            have HMD : Hid (Rd ((w2.alloc (.cells #[.int .i64 t, .int .u64 (sq : Int), .slice A1 n1 c1, .string ⟨ln.toArray⟩] 33)).alloc (.cells #[.int .i64 t, .int .u64 (sq : Int), .slice A1 n1 c1, .string ⟨ln.toArray⟩] 33)) (w2.heap.size + 1 + 1) (some ⟨w2.heap.size + 1, 0, .none⟩) [.int .i64 t, .int .u64 (sq : Int), .slice A1 n1 c1, .string ⟨ln.toArray⟩]) := Lib.hid (by
              have h := Rd.made (w2.alloc (.cells #[.int .i64 t, .int .u64 (sq : Int), .slice A1 n1 c1, .string ⟨ln.toArray⟩] 33)) #[.int .i64 t, .int .u64 (sq : Int), .slice A1 n1 c1, .string ⟨ln.toArray⟩] 33
              rwa [show (w2.alloc (.cells #[.int .i64 t, .int .u64 (sq : Int), .slice A1 n1 c1, .string ⟨ln.toArray⟩] 33)).heap.size = w2.heap.size + 1 by simp] at h)
            have HNN := Lib.hid hn1
            have HSZ : Hid (w.heap.size ≤ w2.heap.size) := Lib.hid (Nat.le_trans HS.out.below.size hb2.size)
            clear hn1 hokm haway hb3 hown hb2 HC2 HS HF
            go_wp2_with (at_builtin; refine wpList_append_rd _ rfl (.tmp 39) (.tmp 41) 22 rfl w.heap.size 4 33 i1 (.agg #[.int .i64 0, .int .u64 0, .slice .none 0 0, .string ByteArray.empty]) 56 Try.underlying22 gi gz0 gz1 gz2 rfl (by omega) _ _ _ rfl HS3.out.own (w2.heap.size + 1 + 1) (some ⟨w2.heap.size + 1, 0, .none⟩) 1 1 [.int .i64 t, .int .u64 (sq : Int), .slice A1 n1 c1, .string ⟨ln.toArray⟩] rfl rfl HMD.out ?f1 ?f2 ?f3 ?f4 ?_)
            case f1 => intro u hu; simp at hu; rcases hu with rfl | rfl | rfl | rfl <;> rfl
            case f2 => have := HAL.out; unfold maxLen; omega
            case f3 => have := HAL.out; omega
            case f4 => have := HSZ.out; simp; omega
            intro v' w5 hown5 hg5 hv5
            have HS5 := Lib.hid (HS3.out.app (m := (⟨t, sq, ls, ln⟩, A1, n1, c1)) HOK3.out HAW3.out hown5 hg5 (by simpa using hv5))
            clear hown5 hg5 hv5 HS3 HOK3 HAW3 HMD
            go_wp2
            go_roundw
            case rel => exact ⟨q1, k + 1, ms ++ [(⟨t, sq, ls, ln⟩, A1, n1, c1)], rfl, by go_num, hq1, by omega, Lib.hid (by rw [List.length_append, HAL.out]; rfl), HS5, Lib.hid (by
              have h := HA.out
              rwa [show recsOf (ms ++ [(⟨t, sq, ls, ln⟩, A1, n1, c1)]) = recsOf ms ++ [⟨t, sq, ls, ln⟩] by simp [recsOf]])⟩
            case measure => simp [intOf]; omega
          · have HE := Lib.hid (HA1.out te)
            have j : ((ee : Int) != 0) = true := by simp [te]
            have HC2 : Hid (Calls Try.prog 18 #[.slice A b.length c, .int .i64 (q : Int)] wr fun e w' => ∃ A1 n1 c1, e = .returned (.tuple #[.agg #[.int .i64 t, .int .u64 (sq : Int), .slice A1 n1 c1, .string ⟨ln.toArray⟩], .int .i64 0, .int .i64 (ee : Int)]) ∧ Below wr.heap.size wr w') := Lib.hid (HC.out.mono (by
              rintro e w' ⟨⟨A1, n1, c1⟩, q1, rfl, h1, h2, h3⟩
              exact ⟨A1, n1, c1, by simp [slV, S8, te], h3⟩))
            clear HC HA1 HA2 HFT
            go_wp2_with fail
            refine HC2.out.mono ?_
            rintro e w2 ⟨A1, n1, c1, rfl, hb2⟩
            have HS2 := Lib.hid (((HS.out.call hb2).call ((Below.refl _ w2).alloc (Nat.le_refl _) (.cells #[.int .i64 t, .int .u64 (sq : Int), .slice A1 n1 c1, .string ⟨ln.toArray⟩] 33))).below)
            clear hb2 HC2 HS
            go_wp2
            go_ret2
            exact ga_err HE.out HS2.out
        · have hkn : k = n := by omega
          subst hkn
          have HD : Hid ((if b.drop q ≠ [] then (6, []) else (0, recsOf ms)) = R) := Lib.hid (by
            have h := HGr.out
            rw [Nat.sub_self, afterR_zero, gaC_ok] at h
            exact h)
          clear HGr hlt hk
          by_cases hqe : q = b.length
          · have HE : Hid ((0, recsOf ms) = R) := Lib.hid (by have h := HD.out; rwa [hqe, List.drop_length, if_neg (by simp)] at h)
            have j2 : ((q : Int) != (b.length : Int)) = false := by simp [hqe]
            clear hqe HD
            go_wp2
            go_ret2
            obtain ⟨A9, c9, rfl, hrl⟩ := HS.out.rl
            rw [← HE.out]
            exact ⟨A9, c9, ms, rfl, rfl, hrl, HS.out.below⟩
          · have HE : Hid ((6, []) = R) := Lib.hid (by
              have h := HD.out
              rwa [if_pos (by intro e; have := congrArg List.length e; rw [List.length_drop] at this; simp at this; omega)] at h)
            have j2 : ((q : Int) != (b.length : Int)) = true := by simp; omega
            clear hqe HD
            go_wp2
            go_ret2
            exact ga_err HE.out HS.out.below
  · rw [if_pos he] at hR
    have HE := Lib.hid hR
    have j : ((e1 : Int) != 0) = true := by simp [he]
    simp only [if_neg he] at HC
    clear hR
    go_enter Try.func20, Try.ntmps20
    go_wp2_with fail
    refine HC.out.mono ?_
    rintro e w1 ⟨rfl, rfl⟩
    go_wp2
    go_ret2
    exact ga_err HE.out (Below.refl _ _)
end Go.Proofs.Ytahbaifbihpppaa.RcRefGa
