/- record.GetAll: what is read is new memory, each list of labels a row of its own. Conditions: the bytes lie in memory. -/
import Derived.Test.YtahbaifbihpppaaRpGet
import Derived.Test.YtahbaifbihpppaaRpCheck
import Derived.Test.YtahbaifbihpppaaRcRefGa
namespace Go.Proofs.Ytahbaifbihpppaa.RpGa
open Go Go.RowKit Words AppN Less LbSpec LbText LbMem LbRef LbCmp LbCanon RcSpec RcAll RcMem RcRef RcRefPut RcRefGt RcRefRd RcRefGa RcLaw RpPlain RpGet RpCheck UtOwn

theorem pnum_any (w : World) (b : List UInt8) (A : Option Addr) (c B p : Nat) (hr : Rd w B A (b.map B8)) (hc : b.length ≤ c) (hm : c ≤ maxLen) (hp : p ≤ b.length) : ∃ p' : Nat, p ≤ p' ∧ p' ≤ b.length ∧ (num (b.drop p)).2.2 = b.drop p' ∧ (num (b.drop p)).2.1 < 18446744073709551616 ∧
    Calls Try.prog 44 #[.slice A b.length c, .int .i64 (p : Int)] w fun e w' => e = .returned (.tuple #[.int .u64 ((num (b.drop p)).2.1 : Int), .int .i64 (if (num (b.drop p)).1 = 0 then (p' : Int) else 0), .int .i64 ((num (b.drop p)).1 : Int)]) ∧ w = w' := by
  obtain ⟨p', h1, h2, h3, h4, h5, h6, h7⟩ := num_at b p hp
  refine ⟨p', h1, h2, h3, h7, ?_⟩
  have h := Get.get_any b A c p w B hr hc hm
  rw [h4, h5, h6] at h
  exact h
theorem pget_any (w : World) (b : List UInt8) (A : Option Addr) (c : Nat) (at_ : Int) (hr : Rd w w.heap.size A (b.map B8)) (hc : b.length ≤ c) (hm : c ≤ maxLen) : Calls Try.prog 17 #[.slice A b.length c, .int .i64 at_] w (GPost (getAt b at_) b w) := by
  refine (get_walk check_any w b A c at_ hr hc hm).mono ?_
  rintro e w' ⟨X, nx, cx, rfl, h1, h2⟩
  unfold getAt
  by_cases ho : at_ < 0 ∨ (b.length : Int) < at_
  · rw [if_pos ho]
    rw [rget_out ho] at h1 ⊢
    exact ⟨(X, nx, cx), 0, rfl, fun h => absurd h (by decide), h1, h2⟩
  · rw [if_neg ho]
    obtain ⟨p, rfl⟩ := Int.eq_ofNat_of_zero_le (show 0 ≤ at_ by omega)
    obtain ⟨p', h3, h4, h5⟩ := rget_ok (b := b) (p := p) (by omega)
    rw [h4] at h1 ⊢
    exact ⟨(X, nx, cx), p', rfl, fun h => ⟨h3, h5 h⟩, h1, h2⟩
theorem pget_at (w : World) (b : List UInt8) (A : Option Addr) (c p : Nat) (hr : Rd w w.heap.size A (b.map B8)) (hc : b.length ≤ c) (hm : c ≤ maxLen) (hp : p ≤ b.length) : Calls Try.prog 17 #[.slice A b.length c, .int .i64 (p : Int)] w (GPost (RcSpec.get (b.drop p)) b w) := by
  have h := pget_any w b A c p hr hc hm
  unfold getAt at h
  rwa [if_neg (by omega)] at h

/-! ### Records, their labels in rows of their own -/
def Apart (a b : Value) : Prop := ∀ g, a.ownBlock = some g → b.ownBlock ≠ some g
structure ArN (w : World) (ms : List RM) (v : Value) (wr : World) : Prop where
  own : wr.ownsRow w.heap.size 33 4 v ms.length (flatR ms)
  below : Below w.heap.size w wr
  fits : ∀ m ∈ ms, Fits m.1
  each : ∀ m ∈ ms, wr.ownsRow w.heap.size 46 2 (slV m.2) m.1.labels.length (flat m.1.labels)
  away : ∀ m ∈ ms, Apart v (slV m.2)
  apart : ms.Pairwise fun a b => Apart (slV a.2) (slV b.2)
theorem arn_nil (w : World) : ArN w [] (.slice .none 0 0) w := ⟨World.ownsRow_nil .., Below.refl _ _, fun m hm => (by cases hm), fun m hm => (by cases hm), fun m hm => (by cases hm), List.Pairwise.nil⟩
variable {w wr w1 : World} {ms : List RM} {v : Value} {m : RM}
theorem ArN.call (h : ArN w ms v wr) (hb : Below wr.heap.size wr w1) : ArN w ms v w1 :=
  ⟨own_keepN h.own hb, h.below.trans (hb.mono h.below.size), h.fits, fun m hm => own_keepN (h.each m hm) hb, h.away, h.apart⟩
theorem ArN.set (h : ArN w ms v wr) {a : Addr} (ha : w.heap.size ≤ a.block) (hv : v.ownBlock ≠ some a.block) (hms : ∀ m ∈ ms, (slV m.2).ownBlock ≠ some a.block) (u : Value) : ArN w ms v (wr.setCell a u) :=
  ⟨ownsRow_setCell_other h.own hv u, h.below.setCell ha u, h.fits, fun m hm => ownsRow_setCell_other (h.each m hm) (hms m hm) u, h.away, h.apart⟩
/-- A record that was read just now: its labels lie in a row of the call's own, apart from all others. -/
structure MNew (w : World) (v : Value) (ms : List RM) (m : RM) (wr : World) : Prop where
  fits : Fits m.1
  own : wr.ownsRow w.heap.size 46 2 (slV m.2) m.1.labels.length (flat m.1.labels)
  away : Apart v (slV m.2)
  apart : ∀ x ∈ ms, Apart (slV x.2) (slV m.2)
theorem MNew.call (h : MNew w v ms m wr) (hb : Below wr.heap.size wr w1) : MNew w v ms m w1 := ⟨h.fits, own_keepN h.own hb, h.away, h.apart⟩
theorem ArN.app (h : ArN w ms v wr) (hm : MNew w v ms m wr) {v' : Value} (ho : w1.ownsRow w.heap.size 33 4 v' (ms.length + 1) (flatR ms ++ rcells m)) (hg : wr.grownBy w1 v.ownBlock) (hv : v'.ownBlock = v.ownBlock ∨ v'.ownBlock = some wr.heap.size) : ArN w (ms ++ [m]) v' w1 := by
  have key : ∀ x : RM, wr.ownsRow w.heap.size 46 2 (slV x.2) x.1.labels.length (flat x.1.labels) → Apart v (slV x.2) → w1.ownsRow w.heap.size 46 2 (slV x.2) x.1.labels.length (flat x.1.labels) ∧ Apart v' (slV x.2) := fun x hx ha => by
    refine ⟨hx.kept hg ?_, fun g hg2 e => ?_⟩
    · cases e : v.ownBlock with
      | none => cases e2 : (slV x.2).ownBlock with
        | none => exact .inl rfl
        | some k => exact .inr (by simp)
      | some g => exact .inr (fun e2 => ha g e e2)
    · rcases hv with hv | hv
      · rw [hv] at hg2
        exact ha g hg2 e
      · rw [hv] at hg2
        cases hg2
        have := (hx.lt _ e).2
        omega
  refine ⟨by rw [flatR_append, flatR_one, List.length_append]; exact ho, h.below.grown hg h.below.size (fun k hk => (h.own.lt k hk).1), fun x hx => ?_, fun x hx => ?_, fun x hx => ?_, ?_⟩
  · rcases List.mem_append.1 hx with hx | hx
    · exact h.fits x hx
    · rw [List.mem_singleton.1 hx]; exact hm.fits
  · rcases List.mem_append.1 hx with hx | hx
    · exact (key x (h.each x hx) (h.away x hx)).1
    · rw [List.mem_singleton.1 hx]; exact (key m hm.own hm.away).1
  · rcases List.mem_append.1 hx with hx | hx
    · exact (key x (h.each x hx) (h.away x hx)).2
    · rw [List.mem_singleton.1 hx]; exact (key m hm.own hm.away).2
  · rw [List.pairwise_append]
    exact ⟨h.apart, List.pairwise_singleton .., fun a ha b hb => by rw [List.mem_singleton.1 hb]; exact hm.apart a ha⟩
/-- Behind the reading of one more record into a box ahead of its labels. -/
theorem ArN.more (h : ArN w ms v wr) {r : Rec} {X : Option Addr} {nx cx : Nat} {u0 u1 u2 u3 : Value} (h1 : ArN w ms v w1) (hs : wr.heap.size + 1 ≤ w1.heap.size) (ho : w1.ownsRow (wr.heap.size + 1) 46 2 (.slice X nx cx) r.labels.length (flat r.labels)) (hf : Fits r) :
    nx = r.labels.length ∧ ArN w ms v ((((w1.setCell ⟨wr.heap.size, 0, .none⟩ u0).setCell ⟨wr.heap.size, 1, .none⟩ u1).setCell ⟨wr.heap.size, 2, .none⟩ u2).setCell ⟨wr.heap.size, 3, .none⟩ u3) ∧
      MNew w v ms (r, X, nx, cx) ((((w1.setCell ⟨wr.heap.size, 0, .none⟩ u0).setCell ⟨wr.heap.size, 1, .none⟩ u1).setCell ⟨wr.heap.size, 2, .none⟩ u2).setCell ⟨wr.heap.size, 3, .none⟩ u3) := by
  have hv : v.ownBlock ≠ some wr.heap.size := fun e => by have := (h.own.lt _ e).2; omega
  have hms : ∀ x ∈ ms, (slV x.2).ownBlock ≠ some wr.heap.size := fun x hx e => by have := ((h.each x hx).lt _ e).2; omega
  have hn : nx = r.labels.length := by
    obtain ⟨A1, c1, e, _⟩ := own_lab ho
    cases e
    rfl
  have hne : (Value.slice X nx cx).ownBlock ≠ some wr.heap.size := fun e => by have := (ho.lt _ e).1; omega
  refine ⟨hn, (((h1.set h.below.size hv hms _).set h.below.size hv hms _).set h.below.size hv hms _).set h.below.size hv hms _, hf, ?_, ?_, ?_⟩
  · exact own_monoN (ownsRow_setCell_other (ownsRow_setCell_other (ownsRow_setCell_other (ownsRow_setCell_other ho hne _) hne _) hne _) hne _) (by have := h.below.size; omega)
  · intro g hg e
    have h1 := (h.own.lt _ hg).2
    have h2 := (ho.lt _ e).1
    omega
  · intro x hx g hg e
    have h1 := ((h.each x hx).lt _ hg).2
    have h2 := (ho.lt _ e).1
    omega
/-- What GetAll leaves. -/
def GnPost (r : Nat × List Rec) (w : World) (e : Ending) (w' : World) : Prop :=
  ∃ (A : Option Addr) (c : Nat) (ms : List RM), e = .returned (.tuple #[.slice A ms.length c, .int .i64 (r.1 : Int)]) ∧ recsOf ms = r.2 ∧ ArN w ms (.slice A ms.length c) w'
theorem gn_err {q : Nat} {R : Nat × List Rec} (hR : (q, []) = R) {w w' : World} (hb : Below w.heap.size w w') : GnPost R w (.returned (.tuple #[.slice .none 0 0, .int .i64 (q : Int)])) w' := by
  subst hR
  exact ⟨.none, 0, [], rfl, rfl, World.ownsRow_nil .., hb, fun m hm => (by cases hm), fun m hm => (by cases hm), fun m hm => (by cases hm), List.Pairwise.nil⟩
theorem ArN.rl (h : ArN w ms v wr) : ∃ A c, v = .slice A ms.length c ∧ Rl wr A ms.length c ms := by
  obtain ⟨A, c, e, h1, h2, h3⟩ := own_row h.own (flatR_len ms)
  refine ⟨A, c, e, rfl, h1, h2, h3, fun m hm => ?_⟩
  obtain ⟨A1, c1, e1, hl⟩ := own_lb (h.each m hm)
  unfold slV at e1
  simp only [Value.slice.injEq] at e1
  obtain ⟨e2, e3, e4⟩ := e1
  exact ⟨by rw [e2, e3, e4]; exact hl, h.fits m hm⟩
theorem gn_ga {r : Nat × List Rec} {w : World} {e : Ending} {w' : World} (h : GnPost r w e w') : GaPost r w e w' := by
  obtain ⟨A, c, ms, he, hr, ha⟩ := h
  obtain ⟨A1, c1, e1, hl⟩ := ha.rl
  simp only [Value.slice.injEq] at e1
  obtain ⟨rfl, _, rfl⟩ := e1
  exact ⟨A, c, ms, he, hr, hl, ha.below⟩
def GnRel (w : World) (b : List UInt8) (R : Nat × List Rec) (n : Nat) (va vl vi : Value) (wr : World) : Prop :=
  ∃ (q k : Nat) (ms : List RM), va = .int .i64 (q : Int) ∧ vi = .int .u64 (k : Int) ∧ q ≤ b.length ∧ k ≤ n ∧ Hid (ms.length = k) ∧ Hid (ArN w ms vl wr) ∧ Hid (gaC (afterR (recsOf ms) (recs (n - k) (b.drop q))) = R)

set_option maxHeartbeats 6400000 in
set_option maxRecDepth 100000 in
theorem getall_any (w : World) (b : List UInt8) (A : Option Addr) (c : Nat) (hr : Rd w w.heap.size A (b.map B8)) (hc : b.length ≤ c) (hm : c ≤ maxLen) :
    Calls Try.prog 19 #[.slice A b.length c] w (GnPost (getAll b) w) := by
  obtain ⟨i1, gi, gz0, gz1, gz2⟩ := info_parts info_record
  obtain ⟨R, hR⟩ : ∃ R, getAll b = R := ⟨_, rfl⟩
  rw [hR]
  have HRD := Lib.hid hr
  obtain ⟨p1, h11, h12, h13, h14, hcall⟩ := pnum_any w b A c w.heap.size 0 hr hc hm (Nat.zero_le _)
  rw [getAll_eq] at hR
  rw [List.drop_zero] at h13 h14 hcall
  rw [h13] at hR
  have HC := Lib.hid hcall
  rw [show ((0 : Nat) : Int) = 0 from rfl] at HC
  generalize num b = N at hR h14 HC
  obtain ⟨e1, n, l1⟩ := N
  simp only at hR h14 HC
  clear hcall h13 hr
  by_cases he : e1 = 0
  · subst he
    rw [if_neg (by decide)] at hR
    rw [if_pos rfl] at HC
    by_cases hn : 65536 < n
    · rw [if_pos hn] at hR
      have HE := Lib.hid hR
      have j : (65536 : Int) < (n : Int) := by omega
      clear hR hn
      go_enter Try.func19, Try.ntmps19
      go_wp2_with fail
      refine HC.out.mono ?_
      rintro e w1 ⟨rfl, rfl⟩
      go_wp2
      go_ret2
      exact gn_err HE.out (Below.refl _ _)
    · rw [if_neg hn] at hR
      have j : ¬ (65536 : Int) < (n : Int) := by omega
      have hnn : n ≤ 65536 := by omega
      have HG : Hid (gaC (afterR (recsOf []) (recs (n - 0) (b.drop p1))) = R) := Lib.hid (by rw [show recsOf [] = [] from rfl, afterR_nil]; exact hR)
      have HS0 : Hid (ArN w [] (.slice .none 0 0) w) := Lib.hid (arn_nil w)
      clear hR hn
      go_enter Try.func19, Try.ntmps19
      go_wp2_with fail
      refine HC.out.mono ?_
      rintro e w1 ⟨rfl, rfl⟩
      clear HC
      go_wp2
      go_loopw [5, 7, 21] (fun va vl vi wr => GnRel w b R n va vl vi wr) (fun _ _ vi _ => n - (intOf vi).toNat)
      case atStart => exact ⟨p1, 0, [], rfl, rfl, h12, Nat.zero_le _, Lib.hid rfl, HS0, HG⟩
      case round =>
        obtain ⟨q, k, ms, rfl, rfl, hq, hk, HAL, HS, HGr⟩ := hrel
        clear HS0 HG
        by_cases hlt : k < n
        · obtain ⟨m, hmk⟩ : ∃ m, n - k = m + 1 := ⟨n - k - 1, by omega⟩
          have HG4 : Hid (gaC (afterR (recsOf ms) (recs (m + 1) (b.drop q))) = R) := Lib.hid (by rw [← hmk]; exact HGr.out)
          have HMK : Hid (m = n - (k + 1)) := Lib.hid (by omega)
          clear HGr hmk
          have hbx : Below wr.heap.size wr (wr.alloc (.cells #[.int .i64 0, .int .u64 0, .slice .none 0 0, .string ⟨#[]⟩] 33)) := (Below.refl _ wr).alloc (Nat.le_refl _) _
          have HBX := Lib.hid (heap_alloc_new wr (.cells #[.int .i64 0, .int .u64 0, .slice .none 0 0, .string ⟨#[]⟩] 33))
          have HSX := Lib.hid (HS.out.call hbx)
          have hzx : (wr.alloc (.cells #[.int .i64 0, .int .u64 0, .slice .none 0 0, .string ⟨#[]⟩] 33)).heap.size = wr.heap.size + 1 := by simp
          have HC := Lib.hid (pget_at _ b A c q ((HRD.out.below HSX.out.below).more HSX.out.below.size) hc hm hq)
          clear hbx
          have HFT : Hid (∀ r rest, RcSpec.get (b.drop q) = (0, r, rest) → Fits r) := Lib.hid fun r rest h => (get_inv h).2.2
          have HA1 : Hid ((RcSpec.get (b.drop q)).1 ≠ 0 → ((RcSpec.get (b.drop q)).1, []) = R) := Lib.hid fun te => by
            have h := HG4.out
            rw [afterR_err _ m te, gaC_err te] at h
            exact h
          have HA2 : Hid ((RcSpec.get (b.drop q)).1 = 0 → gaC (afterR (recsOf ms ++ [(RcSpec.get (b.drop q)).2.1]) (recs (n - (k + 1)) (RcSpec.get (b.drop q)).2.2)) = R) := Lib.hid fun te => by
            have h := HG4.out
            rw [afterR_ok _ m te, HMK.out] at h
            exact h
          unfold GPost aggR at HC
          generalize RcSpec.get (b.drop q) = G at HC HFT HA1 HA2
          obtain ⟨ee, ⟨t, sq, ls, ln⟩, rest⟩ := G
          simp only at HC HFT HA1 HA2
          clear HG4 HMK
          by_cases te : ee = 0
          · subst te
            have HC2 : Hid (Calls Try.prog 17 #[.slice A b.length c, .int .i64 (q : Int)] (wr.alloc (.cells #[.int .i64 0, .int .u64 0, .slice .none 0 0, .string ⟨#[]⟩] 33)) fun e w' => ∃ A1 n1 c1 q1, e = .returned (.tuple #[.agg #[.int .i64 t, .int .u64 (sq : Int), .slice A1 n1 c1, .string ⟨ln.toArray⟩], .int .i64 ((q1 : Nat) : Int), .int .i64 0]) ∧ q1 ≤ b.length ∧ rest = b.drop q1 ∧ w'.ownsRow (wr.heap.size + 1) 46 2 (.slice A1 n1 c1) ls.length (flat ls) ∧ Below (wr.heap.size + 1) (wr.alloc (.cells #[.int .i64 0, .int .u64 0, .slice .none 0 0, .string ⟨#[]⟩] 33)) w') := Lib.hid (HC.out.mono (by
              rintro e w' ⟨⟨A1, n1, c1⟩, q1, rfl, h1, h2, h3⟩
              rw [hzx] at h2 h3
              exact ⟨A1, n1, c1, q1, by simp [slV, S8], (h1 rfl).1, (h1 rfl).2, h2, h3⟩))
            have HA := Lib.hid (HA2.out rfl)
            have HF := Lib.hid (HFT.out _ _ rfl)
            clear HC HA1 HA2 HFT
            go_wp2_with fail
            refine HC2.out.mono ?_
            rintro e w2 ⟨A1, n1, c1, q1, rfl, hq1, rfl, hown, hb2⟩
            have hbox := (hb2.block wr.heap.size (Nat.lt_succ_self _)).trans HBX.out
            have a0 := box_cell (j := 0) hbox rfl
            have a1 := box_cell (j := 1) hbox rfl
            have a2 := box_cell (j := 2) hbox rfl
            have a3 := box_cell (j := 3) hbox rfl
            have z0 := box_frozen (j := 0) hbox
            have z1 := box_frozen (j := 1) hbox
            have z2 := box_frozen (j := 2) hbox
            have z3 := box_frozen (j := 3) hbox
            have hs2 : wr.heap.size + 1 ≤ w2.heap.size := by have := hb2.size; rwa [hzx] at this
            obtain ⟨hn1, hs3, hm3⟩ := HS.out.more (r := ⟨t, sq, ls, ln⟩) (u0 := .int .i64 t) (u1 := .int .u64 (sq : Int)) (u2 := .slice A1 n1 c1) (u3 := .string ⟨ln.toArray⟩) (HSX.out.call (by rw [hzx]; exact hb2)) hs2 hown HF.out
            obtain ⟨wz, hwz⟩ : ∃ wz, (((w2.setCell ⟨wr.heap.size, 0, .none⟩ (.int .i64 t)).setCell ⟨wr.heap.size, 1, .none⟩ (.int .u64 (sq : Int))).setCell ⟨wr.heap.size, 2, .none⟩ (.slice A1 n1 c1)).setCell ⟨wr.heap.size, 3, .none⟩ (.string ⟨ln.toArray⟩) = wz := ⟨_, rfl⟩
            have hzz : wz.heap.size = w2.heap.size := by rw [← hwz]; simp
            have hal : Below wz.heap.size wz (wz.alloc (.cells #[.int .i64 t, .int .u64 (sq : Int), .slice A1 n1 c1, .string ⟨ln.toArray⟩] 33)) := (Below.refl _ wz).alloc (Nat.le_refl _) _
            rw [hwz] at hs3 hm3
            have hs4 := hs3.call hal
            have hm4 := hm3.call hal
            have hmd := Rd.made wz #[.int .i64 t, .int .u64 (sq : Int), .slice A1 n1 c1, .string ⟨ln.toArray⟩] 33
            rw [hzz] at hmd
            rw [← hwz] at hs4 hm4 hmd
            have HS4 := Lib.hid hs4
            have HM4 := Lib.hid hm4
            have HMD := Lib.hid hmd
            have HSZ : Hid (w.heap.size ≤ w2.heap.size) := Lib.hid (by have := HS.out.below.size; omega)
            clear hn1 hs3 hm3 hwz hzz hal hs4 hm4 hmd hown hb2 HC2 HS HSX HF hbox HBX
            go_wp2_with (at_builtin; refine wpList_append_rd _ rfl (.tmp 33) (.tmp 35) 22 rfl w.heap.size 4 33 i1 (.agg #[.int .i64 0, .int .u64 0, .slice .none 0 0, .string ByteArray.empty]) 56 Try.underlying22 gi gz0 gz1 gz2 rfl (by omega) _ _ _ rfl HS4.out.own (w2.heap.size + 1) (some ⟨w2.heap.size, 0, .none⟩) 1 1 [.int .i64 t, .int .u64 (sq : Int), .slice A1 n1 c1, .string ⟨ln.toArray⟩] rfl rfl HMD.out ?f1 ?f2 ?f3 ?f4 ?_)
            case f1 => intro u hu; simp at hu; rcases hu with rfl | rfl | rfl | rfl <;> rfl
            case f2 => have := HAL.out; unfold maxLen; omega
            case f3 => have := HAL.out; omega
            case f4 => have := HSZ.out; simp; omega
            intro v' w5 hown5 hg5 hv5
            have HS5 := Lib.hid (HS4.out.app HM4.out hown5 hg5 (by simpa using hv5))
            clear hown5 hg5 hv5 HS4 HM4 HMD
            go_wp2
            go_roundw
            case rel => exact ⟨q1, k + 1, ms ++ [(⟨t, sq, ls, ln⟩, A1, n1, c1)], rfl, by go_num, hq1, by omega, Lib.hid (by rw [List.length_append, HAL.out]; rfl), HS5, Lib.hid (by
              have h := HA.out
              rwa [show recsOf (ms ++ [(⟨t, sq, ls, ln⟩, A1, n1, c1)]) = recsOf ms ++ [⟨t, sq, ls, ln⟩] by simp [recsOf]])⟩
            case measure => simp [intOf]; omega
          · have HE := Lib.hid (HA1.out te)
            have j : ((ee : Int) != 0) = true := by simp [te]
            have HC2 : Hid (Calls Try.prog 17 #[.slice A b.length c, .int .i64 (q : Int)] (wr.alloc (.cells #[.int .i64 0, .int .u64 0, .slice .none 0 0, .string ⟨#[]⟩] 33)) fun e w' => ∃ A1 n1 c1, e = .returned (.tuple #[.agg #[.int .i64 t, .int .u64 (sq : Int), .slice A1 n1 c1, .string ⟨ln.toArray⟩], .int .i64 0, .int .i64 (ee : Int)]) ∧ Below (wr.heap.size + 1) (wr.alloc (.cells #[.int .i64 0, .int .u64 0, .slice .none 0 0, .string ⟨#[]⟩] 33)) w') := Lib.hid (HC.out.mono (by
              rintro e w' ⟨⟨A1, n1, c1⟩, q1, rfl, h1, h2, h3⟩
              rw [hzx] at h3
              exact ⟨A1, n1, c1, by simp [slV, S8, te], h3⟩))
            clear HC HA1 HA2 HFT
            go_wp2_with fail
            refine HC2.out.mono ?_
            rintro e w2 ⟨A1, n1, c1, rfl, hb2⟩
            have hbox := (hb2.block wr.heap.size (Nat.lt_succ_self _)).trans HBX.out
            have a0 := box_cell (j := 0) hbox rfl
            have a1 := box_cell (j := 1) hbox rfl
            have a2 := box_cell (j := 2) hbox rfl
            have a3 := box_cell (j := 3) hbox rfl
            have z0 := box_frozen (j := 0) hbox
            have z1 := box_frozen (j := 1) hbox
            have z2 := box_frozen (j := 2) hbox
            have z3 := box_frozen (j := 3) hbox
            have HB2 : Hid (Below w.heap.size w w2) := Lib.hid (HSX.out.below.trans (hb2.mono (by have := HS.out.below.size; omega)))
            have hws : w.heap.size ≤ wr.heap.size := HS.out.below.size
            clear hb2 HC2 HS hbox
            go_wp2
            go_ret2
            exact gn_err HE.out ((((HB2.out.setCell (by exact hws) _).setCell (by exact hws) _).setCell (by exact hws) _).setCell (by exact hws) _)
        · have hkn : k = n := by omega
          subst hkn
          have HD : Hid ((if b.drop q ≠ [] then (6, []) else (0, recsOf ms)) = R) := Lib.hid (by
            have h := HGr.out
            rw [Nat.sub_self, afterR_zero, gaC_ok] at h
            exact h)
          clear HGr hlt hk
          by_cases hqe : q = b.length
          · have HE : Hid ((0, recsOf ms) = R) := Lib.hid (by have h := HD.out; rwa [hqe, List.drop_length, if_neg (by simp)] at h)
            have j2 : ¬ (q : Int) < (b.length : Int) := by omega
            clear hqe HD
            go_wp2
            go_ret2
            obtain ⟨A9, c9, rfl, hrl⟩ := HS.out.rl
            rw [← HE.out]
            exact ⟨A9, c9, ms, rfl, rfl, HS.out⟩
          · have HE : Hid ((6, []) = R) := Lib.hid (by
              have h := HD.out
              rwa [if_pos (by intro e; have := congrArg List.length e; rw [List.length_drop] at this; simp at this; omega)] at h)
            have j2 : (q : Int) < (b.length : Int) := by omega
            clear hqe HD
            go_wp2
            go_ret2
            exact gn_err HE.out HS.out.below
  · rw [if_pos he] at hR
    have HE := Lib.hid hR
    have j : ((e1 : Int) != 0) = true := by simp [he]
    simp only [if_neg he] at HC
    clear hR
    go_enter Try.func19, Try.ntmps19
    go_wp2_with fail
    refine HC.out.mono ?_
    rintro e w1 ⟨rfl, rfl⟩
    go_wp2
    go_ret2
    exact gn_err HE.out (Below.refl _ _)
end Go.Proofs.Ytahbaifbihpppaa.RpGa
