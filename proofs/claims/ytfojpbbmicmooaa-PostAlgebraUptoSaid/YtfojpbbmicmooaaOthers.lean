/- The contract of pack.readOthers: what stands behind the first number: the error, or the list in new memory and the place behind it, as the plain word 'body' says; nothing that was there has changed. Conditions: the place lies within the bytes, lengths are bounded. -/
import Derived.Test.YtfojpbbmicmooaaAddG
import Derived.Test.YtfojpbbmicmooaaPkAgain
namespace Go.Proofs.Ytfojpbbmicmooaa.Others
open Go Go.RowKit Words Put RefPut PkPlain PkSpec UnSpec PkLay PRise Lay Bits AddG PkAgain

def OPost (r : Int × List UInt64 × Int) (w : World) (e : Ending) (w' : World) : Prop :=
  ∃ v, e = .returned (.tuple #[v, .int .i64 r.2.2, .int .i64 r.1]) ∧ w'.ownsRow w.heap.size 31 1 v r.2.1.length (r.2.1.map B64) ∧ Below w.heap.size w w'
theorem opost_nil {r : Int × List UInt64 × Int} {w w' : World} {e : Ending} {x t : Int} (h : r = (x, [], t)) (he : e = .returned (.tuple #[.slice none 0 0, .int .i64 t, .int .i64 x])) (hb : Below w.heap.size w w') : OPost r w e w' := by
  subst h
  exact ⟨_, he, World.ownsRow_nil _ _ _ _, hb⟩

set_option maxHeartbeats 800000 in
set_option maxRecDepth 100000 in
theorem others_end (b : List UInt8) (A : Option Addr) (c x m p : Nat) (w : World) (hp : p = b.length) : Calls Try.prog 41 #[.slice A b.length c, .int .i64 (p : Int), .int .u64 (x : Int), .int .i64 ((m + 1 : Nat) : Int)] w (OPost (body b (m + 1) x p) w) := by
  have HP : Hid (body b (m + 1) x p = (5, [], 0)) := by
    show body b (m + 1) x p = _
    unfold body
    rw [if_pos (by omega)]
  have e1 : ((p : Int) == (b.length : Int)) = true := by rw [hp]; simp
  clear hp
  go_enter Try.func41, Try.ntmps41
  go_wp2
  go_ret3
  exact opost_nil HP.out rfl (Below.refl _ _)

set_option maxHeartbeats 800000 in
set_option maxRecDepth 100000 in
theorem others_wide (b : List UInt8) (A : Option Addr) (c x m p : Nat) (w : World) (hr : Rd w w.heap.size A (b.map B8)) (hlen : b.length ≤ 140737488355327) (hp : p < b.length) (hw : 64 < (b.getD p 0).toNat) : Calls Try.prog 41 #[.slice A b.length c, .int .i64 (p : Int), .int .u64 (x : Int), .int .i64 ((m + 1 : Nat) : Int)] w (OPost (body b (m + 1) x p) w) := by
  have HP : Hid (body b (m + 1) x p = (6, [], 0)) := by
    show body b (m + 1) x p = _
    unfold body
    rw [if_neg (by omega), if_pos hw]
  have e1 : ((p : Int) == (b.length : Int)) = false := beq_eq_false_iff_ne.2 (by omega)
  obtain ⟨bb, off, rfl, hbb, hcell⟩ := hr (by simp; omega)
  have k1 := cell8 hcell hp
  have hg : b[p] = b.getD p 0 := by simp [List.getD_eq_getElem?_getD, List.getElem?_eq_getElem hp]
  rw [hg] at k1
  have hy8 := (b.getD p 0).toNat_lt
  generalize (b.getD p 0).toNat = wv at *
  have e2 : decide (64 < (wv : Int)) = true := decide_eq_true (by omega)
  clear hr hcell hg
  go_enter Try.func41, Try.ntmps41
  go_wp2
  go_ret3
  exact opost_nil HP.out rfl (Below.refl _ _)

set_option maxHeartbeats 4000000 in
set_option maxRecDepth 100000 in
theorem others_in (b : List UInt8) (A : Option Addr) (c x m p : Nat) (w : World) (hr : Rd w w.heap.size A (b.map B8)) (hc : b.length ≤ c) (hm : c ≤ maxLen) (hlen : b.length ≤ 140737488355327) (hmm : m < 65536) (h1 : 1 ≤ m) (hx : x < 18446744073709551616) (hp : p < b.length) (hw : (b.getD p 0).toNat ≤ 64) : Calls Try.prog 41 #[.slice A b.length c, .int .i64 (p : Int), .int .u64 (x : Int), .int .i64 ((m + 1 : Nat) : Int)] w (OPost (body b (m + 1) x p) w) := by
  obtain ⟨u, hu⟩ : ∃ u, body b (m + 1) x p = u := ⟨_, rfl⟩
  have hu' := hu
  unfold body at hu'
  rw [if_neg (by omega), if_neg (by omega), Nat.add_sub_cancel] at hu'
  rw [hu]
  clear hu
  have e1 : ((p : Int) == (b.length : Int)) = false := beq_eq_false_iff_ne.2 (by omega)
  have HR := Lib.hid hr
  obtain ⟨bb, off, rfl, hbb, hcell⟩ := hr (by simp; omega)
  have k1 := cell8 hcell hp
  have hg : b[p] = b.getD p 0 := by simp [List.getD_eq_getElem?_getD, List.getElem?_eq_getElem hp]
  rw [hg] at k1
  generalize (b.getD p 0).toNat = W at *
  obtain ⟨tot, htot⟩ : ∃ tot, m * W = tot := ⟨_, rfl⟩
  have htb : tot ≤ 4194304 := by
    rw [← htot]
    have := Nat.mul_le_mul (show m ≤ 65536 by omega) hw
    omega
  have hpr : (m : Int) * (W : Int) = (tot : Int) := by rw [← htot]; simp
  have HTOT := Lib.hid htot
  rw [htot] at hu'
  have HBY := fun w' => Lib.hid (bytes_any tot w' (by omega))
  obtain ⟨sz, hsz⟩ : ∃ sz, (tot + 7) / 8 = sz := ⟨_, rfl⟩
  rw [hsz] at hu' HBY
  have HSZ := Lib.hid hsz
  have hszb : sz ≤ 600000 := by omega
  have HU := Lib.hid hu'
  have e2 : decide (64 < (W : Int)) = false := decide_eq_false (by omega)
  clear hr hcell hg htot hsz hu'
  by_cases hTl : b.length < p + 1 + sz
  · have HP : Hid (u = (5, [], 0)) := by
      show u = _
      rw [← HU.out, if_pos hTl]
    have e3 : decide ((b.length : Int) - ((p : Int) + 1) < (sz : Int)) = true := decide_eq_true (by omega)
    go_enter Try.func41, Try.ntmps41
    go_wp2_with fail
    refine (HBY _).out.mono ?_
    rintro e w1 ⟨rfl, rfl⟩
    go_wp2
    go_ret3
    exact opost_nil HP.out rfl (Below.refl _ _)
  · have e3 : decide ((b.length : Int) - ((p : Int) + 1) < (sz : Int)) = false := decide_eq_false (by omega)
    rw [if_neg hTl] at HU
    obtain ⟨d, hd⟩ : ∃ d, (b.drop (p + 1)).take sz = d := ⟨_, rfl⟩
    have hdl : d.length = sz := by rw [← hd, List.length_take, List.length_drop]; omega
    have hra : Rd w w.heap.size (some ⟨bb, off + (p + 1), none⟩) (d.map B8) := fun hn => by
      refine ⟨bb, off + (p + 1), rfl, hbb, fun j v hj => ?_⟩
      rw [Nat.add_assoc]
      obtain ⟨b', off', e, _, hc'⟩ := HR.out (by simp; omega)
      injection e with e; injection e with e1 e2 _
      subst e1 e2
      refine hc' _ _ ?_
      rw [← hd, List.map_take, List.map_drop, List.getElem?_take] at hj
      split at hj
      · rwa [List.getElem?_drop] at hj
      · cases hj
    have hrb : c = p + 1 → Rd w w.heap.size (some ⟨bb, off, none⟩) (d.map B8) := fun e => by
      have : d = [] := by rw [← hd, List.drop_eq_nil_of_le (by omega)]; simp
      rw [this]
      exact Rd.nil_
    have HRA := Lib.hid hra
    have HRB := Lib.hid hrb
    rw [hd] at HU
    have HADD : ∀ A2 c2, Rd w w.heap.size A2 (d.map B8) → Hid (Calls Try.prog 52 #[.slice A2 sz c2, .int .i64 (W : Int), .int .u64 (x : Int), .int .i64 ((m : Int) + 1)] w (AddPost x m W (num d) w)) := fun A2 c2 h2 => by
      have h := add_any d A2 c2 x m W w h2 (by omega) hw hmm h1 hx (by have h3 := HTOT.out; have h4 := HSZ.out; omega)
      rw [hdl] at h
      exact h
    have HFIL : ∀ w' A2 c2, Rd w' w.heap.size A2 (d.map B8) → Hid (Calls Try.prog 53 #[.slice A2 sz c2, .int .i64 (tot : Int)] w' (FilPost d tot w')) := fun w' A2 c2 h2 => by
      have h := filled_any d A2 c2 tot w' w.heap.size h2 (by omega) (by rw [hdl]; exact HSZ.out)
      rw [hdl] at h
      exact h
    unfold FilPost at HFIL
    generalize num d = M at *
    have HC1 := Lib.hid (cuts_length M W m)
    have HC2 := Lib.hid (cuts_lt M W m)
    unfold maxLen at hm
    clear hra hrb hd hdl
    by_cases hcp : c = p + 1
    all_goals
      go_enter Try.func41, Try.ntmps41
      go_wp2_with fail
      refine (HBY _).out.mono ?_
      rintro e w1 ⟨rfl, rfl⟩
      go_wp2_with fail
      refine (HADD _ _ (by first | exact HRA.out | exact HRB.out hcp)).out.mono ?_
      rintro e w1 (⟨hnone, rfl, hb1⟩ | ⟨L, v, hsome, rfl, hown, hb1⟩)
      · have HP : Hid (u = (6, [], 0)) := by
          show u = _
          rw [← HU.out, hnone]
        have HB1 := Lib.hid hb1
        clear HU hnone hb1
        go_wp2
        go_ret3
        exact opost_nil HP.out rfl HB1.out
      · obtain ⟨r, hL, hgaps, hris⟩ := run_back _ _ _ hx hsome
        have hLl := run_length hsome
        rw [HC1.out] at hLl
        have hwd : wd L ≤ W := by unfold wd; rw [hgaps]; exact (width_le _ _).2 HC2.out
        have HU2 : Hid ((if M < 2 ^ tot ∧ wd L = W then (0, L, ((p + 1 + sz : Nat) : Int)) else (6, [], 0)) = u) := by
          show _ = u
          rw [← HU.out, hsome]
          unfold wd
          rw [hgaps]
        obtain ⟨A3, c3, rfl, _, _, _⟩ := own_slice hown
        have HGAP := Lib.hid (gap_any L A3 (m + 1) c3 w1 w1.heap.size (by omega) (Rd.of_own hown) (by omega) (by omega) hris)
        have HO1 := Lib.hid hown
        have HB1 := Lib.hid hb1
        have HLL := Lib.hid hLl
        clear HU hsome hL hgaps hris hLl hown hb1
        generalize hWd : wd L = Wd at *
        go_wp2_with fail
        refine HGAP.out.mono ?_
        rintro e w2 ⟨rfl, nq, rfl⟩
        by_cases hlt : Wd < W
        · have HP : Hid (u = (6, [], 0)) := by
            show u = _
            rw [← HU2.out, if_neg (fun h => by omega)]
          have e4 : decide ((Wd : Int) < (W : Int)) = true := decide_eq_true (by omega)
          clear HU2
          go_wp2
          go_ret3
          exact opost_nil HP.out rfl (HB1.out.trans (below_drewN _ _ |>.mono HB1.out.size))
        · have e4 : decide ((Wd : Int) < (W : Int)) = false := decide_eq_false (by omega)
          go_wp2_with fail
          refine (HFIL _ _ _ (by first | exact (HRA.out.below HB1.out).drewN nq | exact ((HRB.out hcp).below HB1.out).drewN nq)).out.mono ?_
          rintro e w3 ⟨⟨fb, rfl, hfb⟩, nq2, rfl⟩
          have hWW : Wd = W := by omega
          cases fb
          · have HP : Hid (u = (6, [], 0)) := by
              show u = _
              rw [← HU2.out, if_neg (fun h => by have := hfb.2 h.1; cases this)]
            clear HU2 hfb hWW
            go_wp2
            go_ret3
            exact opost_nil HP.out rfl (HB1.out.trans (below_drewN _ _ |>.mono HB1.out.size))
          · have HP : Hid (u = (0, L, ((p + 1 + sz : Nat) : Int))) := by
              show u = _
              rw [← HU2.out, if_pos ⟨hfb.1 rfl, hWW⟩]
            clear HU2 hfb hWW
            go_wp2
            go_ret3
            rw [HP.out]
            refine ⟨.slice A3 (m + 1) c3, ?_, ?_, HB1.out.trans (below_drewN _ _ |>.mono HB1.out.size)⟩
            · rfl
            · show World.ownsRow _ _ _ _ _ L.length _
              rw [HLL.out]
              exact HO1.out
end Go.Proofs.Ytfojpbbmicmooaa.Others
