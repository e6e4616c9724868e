/- RecordPuts, walked over the contracts of record's calls. -/
import Derived.Test.YtahbaifbihpppaaRcLaw
import Derived.Test.YtahbaifbihpppaaRcRefAll
import Derived.Deep.DeepCutAuto
import Derived.Deep.RegionHeld3
import Derived.StillTailTactics
namespace Go.Proofs.Ytahbaifbihpppaa.RcPutsW
open Go Go.RowKit Words AppN Less LbSpec LbText LbMem LbRef LbCmp LbCanon RcSpec RcAll RcMem RcRef RcRefPut RcRefAll RcRefGt RcRefRd RcRefGa RcLaw UtOwn

theorem step {B : Nat} {a w w' : World} (h : Below B a w) (hB : B ≤ w.heap.size) (h2 : Below w.heap.size w w') : Below B a w' := h.trans (h2.mono hB)
/-- What Put and PutAll answer, as bytes that are read. -/
def DPost (r : Nat × List UInt8) (w : World) (e : Ending) (w' : World) : Prop :=
  ∃ A c, e = .returned (.tuple #[.slice A r.2.length c, .int .i64 (r.1 : Int)]) ∧ Rd w' w'.heap.size A (r.2.map B8) ∧ Below w.heap.size w w'
theorem bpost_d {r : Nat × List UInt8} {w w' : World} {e : Ending} (h : BPost r w e w') : DPost r w e w' := by
  obtain ⟨v, rfl, ho, hb⟩ := h
  obtain ⟨A, c, rfl, _, _, hr⟩ := own_row ho (by simp)
  exact ⟨A, c, rfl, hr, hb⟩
/-- A call that changes nothing that was there keeps what holds of all worlds that do so. -/
theorem calls_keepS {S : World → Prop} {f : FuncId} {args : Array Value} {v : Value} {wz w : World} (hs : ∀ w', Below wz.heap.size wz w' → S w') (hb : Below wz.heap.size wz w)
    (h : Calls Try.prog f args w fun e w' => e = .returned v ∧ Below w.heap.size w w') : Calls Try.prog f args w fun e w' => e = .returned v ∧ Hid (Below wz.heap.size wz w') ∧ S w' :=
  h.mono fun _ _ ⟨he, h2⟩ => ⟨he, Lib.hid (step hb hb.size h2), hs _ (step hb hb.size h2)⟩
def PRel (w3 : World) (n : Nat) (v : Value) (wr : World) : Prop := ∃ k : Nat, v = .int .i64 (k : Int) ∧ k ≤ n ∧ Hid (Below w3.heap.size w3 wr)

set_option maxHeartbeats 12800000 in
set_option maxRecDepth 100000 in
theorem walk0 (P : Rcd) (w : World) (ms : List RM) (A : Option Addr) (c : Nat) (h : Rl w A ms.length c ms) :
    Calls Try.prog 3 #[.slice A ms.length c] w fun e w' => e = .returned (.bool true) ∧ Below w.heap.size w w' := by
  have A0 := Lib.hid (awake_any P w)
  have A1 := fun w h => Lib.hid ((P.putAll w ms A ms.length c h).mono fun _ _ h => bpost_d h)
  have A2 := fun w h => Lib.hid ((rputall_any w ms A ms.length c h).mono fun _ _ h => bpost_d h)
  have HRL := Lib.hid h
  have hml : ms.length ≤ 9223372036854775807 := by have h1 := h.le; have h2 := h.cap; unfold maxLen at h2; omega
  unfold DPost at A1 A2
  obtain ⟨q, hq⟩ : ∃ q, putAll (recsOf ms) = q := ⟨_, rfl⟩
  simp only [hq] at A1 A2
  obtain ⟨q, T⟩ := q
  simp only at A1 A2
  have e1 : (T == T) = true := by simp
  have e2 : ((q : Int) != (q : Int)) = false := by simp
  clear h hq
  go_enter Try.func3, Try.ntmps3
  go_wp2_with fail
  refine A0.out.mono ?_
  rintro e w1 ⟨rfl, hb1⟩
  have HB1 := Lib.hid hb1
  have HR1 := Lib.hid (HRL.out.below hb1)
  clear hb1 A0 HRL
  go_wp2_with fail
  refine (A1 w1 HR1.out).out.mono ?_
  rintro e w2 ⟨X, cx, rfl, hx, hb2⟩
  have HB2 := Lib.hid (step HB1.out HB1.out.size hb2)
  have HR2 := Lib.hid (HR1.out.below hb2)
  have HX := Lib.hid hx
  clear hb2 A1 HB1 HR1 hx
  go_wp2_with fail
  refine (A2 w2 HR2.out).out.mono ?_
  rintro e w3 ⟨Y, cy, rfl, hy, hb3⟩
  have HB3 := Lib.hid (step HB2.out HB2.out.size hb3)
  have HR3 := Lib.hid (HR2.out.below hb3)
  have hcx := run_bytes (P := Try.prog) w3 24 9 5 Try.underlying24 Try.underlying5 Try.underlying9 _ T cx w3.heap.size ((HX.out.below hb3).more hb3.size)
  have hcy := run_bytes (P := Try.prog) w3 24 9 5 Try.underlying24 Try.underlying5 Try.underlying9 _ T cy w3.heap.size hy
  clear hb3 A2 HB2 HR2 HX hy
  go_wp2
  go_loopw [7] (fun v wr => PRel w3 ms.length v wr) (fun v _ => ms.length - (intOf v).toNat)
  case atStart => exact ⟨0, rfl, Nat.zero_le _, Lib.hid (Below.refl _ _)⟩
  case round =>
    obtain ⟨k, rfl, hk, HB⟩ := hrel
    clear hcx hcy e1 e2
    by_cases hlt : k < ms.length
    · obtain ⟨g, o, rfl, hg, hcell⟩ := HR3.out.rd (by rw [flatR_len]; omega)
      obtain ⟨p0, p1, p2, p3⟩ := cellsR hcell hlt
      obtain ⟨z0, z1, z2, z3⟩ := cellsR hcell (show 0 < ms.length by omega)
      have HOK := Lib.hid (HR3.out.each _ (List.getElem_mem hlt))
      have HOK0 := Lib.hid (HR3.out.each _ (List.getElem_mem (show 0 < ms.length by omega)))
      simp only [Nat.zero_mul, Nat.add_zero] at z0 z1 z2 z3
      generalize ms[k] = m at *
      generalize ms[0]'(by omega) = m0 at *
      have HC := Lib.hid (⟨p0, p1, p2, p3, z0, z1, z2, z3⟩ : _ ∧ _ ∧ _ ∧ _ ∧ _ ∧ _ ∧ _ ∧ _)
      have hi1 : (0 : Int) ≤ (k : Int) := by omega
      have hi2 : (k : Int) < (ms.length : Int) := by omega
      have hi3 : (0 : Int) < (ms.length : Int) := by omega
      have hi4 : 0 < ms.length := by omega
      have hi5 : ms ≠ [] := List.length_pos_iff.1 hi4
      have k0 := (HB.out.cell (p := ⟨g, o + k * 4, .none⟩) hg).trans p0
      have k1 := (HB.out.cell (p := ⟨g, o + k * 4 + 1, .none⟩) hg).trans p1
      have k2 := (HB.out.cell (p := ⟨g, o + k * 4 + 2, .none⟩) hg).trans p2
      have k3 := (HB.out.cell (p := ⟨g, o + k * 4 + 3, .none⟩) hg).trans p3
      have A1 := Lib.hid ((P.put wr m (HOK.out.below HB.out)).mono fun _ _ h => bpost_d h)
      have A2 := fun w h => Lib.hid ((rput_any w m h).mono fun _ _ h => bpost_d h)
      have B1 := fun w h => Lib.hid (P.check w m h)
      have B2 := fun w h => Lib.hid (rcheck_any w m h)
      have B3 := fun w h0 h => Lib.hid (P.compare w m0 m h0 h)
      have B4 := fun w => Lib.hid (rcmpr_any w m0 m)
      have B5 := fun w h h0 => Lib.hid (P.compare w m m0 h h0)
      have B6 := fun w => Lib.hid (rcmpr_any w m m0)
      obtain ⟨⟨t, s, ls, ln⟩, L, n, cl⟩ := m
      obtain ⟨⟨t0, s0, ls0, ln0⟩, L0, n0, cl0⟩ := m0
      unfold DPost at A1 A2
      unfold aggR slV S8 at A1 A2 B1 B2 B3 B4 B5 B6
      unfold slV at HC k2 p2 z2
      simp only at A1 A2 B1 B2 B3 B4 B5 B6 HC k0 k1 k2 k3
      obtain ⟨Q, hQ⟩ : ∃ Q, RcAll.put ⟨t, s, ls, ln⟩ = Q := ⟨_, rfl⟩
      simp only [hQ] at A1 A2
      obtain ⟨q, T⟩ := Q
      simp only at A1 A2
      generalize check ⟨t, s, ls, ln⟩ = ck at B1 B2
      generalize cmpR ⟨t0, s0, ls0, ln0⟩ ⟨t, s, ls, ln⟩ = cA at B3 B4
      generalize cmpR ⟨t, s, ls, ln⟩ ⟨t0, s0, ls0, ln0⟩ = cB at B5 B6
      have e1 : (T == T) = true := by simp
      have e2 : ((q : Int) != (q : Int)) = false := by simp
      have e3 : ((ck : Int) != (ck : Int)) = false := by simp
      have e4 : (cA != cA) = false := by simp
      have e5 : (cB != cB) = false := by simp
      clear hQ p0 p1 p2 p3 z0 z1 z2 z3 hcell
      go_wp2_with fail
      refine A1.out.mono ?_
      rintro e w4 ⟨X1, cx1, rfl, hx, hb4⟩
      have HB4 := Lib.hid (step HB.out HB.out.size hb4)
      have HX := Lib.hid hx
      obtain ⟨c0, c1, c2, c3, _⟩ := HC.out
      clear k0 k1 k2 k3
      have k0 := (HB4.out.cell (p := ⟨g, o + k * 4, .none⟩) hg).trans c0
      have k1 := (HB4.out.cell (p := ⟨g, o + k * 4 + 1, .none⟩) hg).trans c1
      have k2 := (HB4.out.cell (p := ⟨g, o + k * 4 + 2, .none⟩) hg).trans c2
      have k3 := (HB4.out.cell (p := ⟨g, o + k * 4 + 3, .none⟩) hg).trans c3
      clear hb4 A1 HB hx c0 c1 c2 c3
      go_wp2_with fail
      refine (A2 w4 (HOK.out.below HB4.out)).out.mono ?_
      rintro e w5 ⟨Y1, cy1, rfl, hy, hb5⟩
      have HB5 := Lib.hid (step HB4.out HB4.out.size hb5)
      have HX5 := Lib.hid ((HX.out.below hb5).more hb5.size)
      have HY5 := Lib.hid hy
      have HOK5 := Lib.hid (HOK.out.below HB5.out)
      have HOK05 := Lib.hid (HOK0.out.below HB5.out)
      clear hb5 A2 hy HB4 HX k0 k1 k2 k3
      go_upto_region 12 with fail
      go_cut [112] (fun s112 wx => s112 = .bool false ∧ Hid (Below w5.heap.size w5 wx))
      case first =>
        have HCY : Hid (∀ w', Below w5.heap.size w5 w' → (convert 24 9 (.slice X1 T.length cx1)).run Try.prog w' = .ok (.string ⟨T.toArray⟩) w' ∧ (convert 24 9 (.slice Y1 T.length cy1)).run Try.prog w' = .ok (.string ⟨T.toArray⟩) w' ∧
            (w'.cell? ⟨g, o + k * 4, .none⟩ = some (.int .i64 t) ∧ w'.cell? ⟨g, o + k * 4 + 1, .none⟩ = some (.int .u64 (s : Int)) ∧ w'.cell? ⟨g, o + k * 4 + 2, .none⟩ = some (.slice L n cl) ∧ w'.cell? ⟨g, o + k * 4 + 3, .none⟩ = some (.string ⟨ln.toArray⟩)) ∧
            (w'.cell? ⟨g, o, .none⟩ = some (.int .i64 t0) ∧ w'.cell? ⟨g, o + 1, .none⟩ = some (.int .u64 (s0 : Int)) ∧ w'.cell? ⟨g, o + 2, .none⟩ = some (.slice L0 n0 cl0) ∧ w'.cell? ⟨g, o + 3, .none⟩ = some (.string ⟨ln0.toArray⟩))) := Lib.hid fun w' hb => by
          obtain ⟨c0, c1, c2, c3, d0, d1, d2, d3⟩ := HC.out
          have hbb := step HB5.out HB5.out.size hb
          have K := fun (j : Nat) (u : Value) (hu : w3.cell? ⟨g, j, .none⟩ = some u) => (hbb.cell (p := ⟨g, j, .none⟩) hg).trans hu
          exact ⟨run_bytes (P := Try.prog) w' 24 9 5 Try.underlying24 Try.underlying5 Try.underlying9 _ T cx1 w5.heap.size (HX5.out.below hb), run_bytes (P := Try.prog) w' 24 9 5 Try.underlying24 Try.underlying5 Try.underlying9 _ T cy1 w5.heap.size (HY5.out.below hb), ⟨K _ _ c0, K _ _ c1, K _ _ c2, K _ _ c3⟩, ⟨K _ _ d0, K _ _ d1, K _ _ d2, K _ _ d3⟩⟩
        have G1 := fun w' (g' : Hid (Below w5.heap.size w5 w')) => Lib.hid (calls_keepS HCY.out g'.out (B1 w' (HOK5.out.below g'.out)).out)
        have G2 := fun w' (g' : Hid (Below w5.heap.size w5 w')) => Lib.hid (calls_keepS HCY.out g'.out (B2 w' (HOK5.out.below g'.out)).out)
        have G3 := fun w' (g' : Hid (Below w5.heap.size w5 w')) => Lib.hid (calls_keepS HCY.out g'.out (B3 w' (HOK05.out.below g'.out) (HOK5.out.below g'.out)).out)
        have G4 := fun w' (g' : Hid (Below w5.heap.size w5 w')) => Lib.hid (calls_keepS HCY.out g'.out (B4 w').out)
        have G5 := fun w' (g' : Hid (Below w5.heap.size w5 w')) => Lib.hid (calls_keepS HCY.out g'.out (B5 w' (HOK5.out.below g'.out) (HOK05.out.below g'.out)).out)
        have G6 := fun w' (g' : Hid (Below w5.heap.size w5 w')) => Lib.hid (calls_keepS HCY.out g'.out (B6 w').out)
        have HG0 : Hid (Below w5.heap.size w5 w5.drew) := Lib.hid ⟨rfl, rfl, rfl, Nat.le_refl _, fun _ _ => rfl⟩
        obtain ⟨v1, v2, ⟨a0, a1, a2, a3⟩, ⟨b0, b1, b2, b3⟩⟩ := HCY.out w5.drew HG0.out
        clear HC HOK HOK0 HR3 HB5 HX5 HY5 HOK5 HOK05 B1 B2 B3 B4 B5 B6 HCY
        go_wp2
        all_goals
          go_region_held3 (fun w' => Hid (Below w5.heap.size w5 w') ∧ (convert 24 9 (.slice X1 T.length cx1)).run Try.prog w' = .ok (.string ⟨T.toArray⟩) w' ∧ (convert 24 9 (.slice Y1 T.length cy1)).run Try.prog w' = .ok (.string ⟨T.toArray⟩) w' ∧
            (w'.cell? ⟨g, o + k * 4, .none⟩ = some (.int .i64 t) ∧ w'.cell? ⟨g, o + k * 4 + 1, .none⟩ = some (.int .u64 (s : Int)) ∧ w'.cell? ⟨g, o + k * 4 + 2, .none⟩ = some (.slice L n cl) ∧ w'.cell? ⟨g, o + k * 4 + 3, .none⟩ = some (.string ⟨ln.toArray⟩)) ∧
            (w'.cell? ⟨g, o, .none⟩ = some (.int .i64 t0) ∧ w'.cell? ⟨g, o + 1, .none⟩ = some (.int .u64 (s0 : Int)) ∧ w'.cell? ⟨g, o + 2, .none⟩ = some (.slice L0 n0 cl0) ∧ w'.cell? ⟨g, o + 3, .none⟩ = some (.string ⟨ln0.toArray⟩))) (first | assumption | go_keep) (first
            | (go_at_call 13; ((with_reducible refine (G1 _ (by assumption)).out.mono ?_); rintro e w' ⟨rfl, g', x1, x2, ⟨x3, x4, x5, x6⟩, ⟨x7, x8, x9, x10⟩⟩))
            | (go_at_call 14; ((with_reducible refine (G2 _ (by assumption)).out.mono ?_); rintro e w' ⟨rfl, g', x1, x2, ⟨x3, x4, x5, x6⟩, ⟨x7, x8, x9, x10⟩⟩))
            | (go_at_call 15; ((with_reducible refine (G3 _ (by assumption)).out.mono ?_); rintro e w' ⟨rfl, g', x1, x2, ⟨x3, x4, x5, x6⟩, ⟨x7, x8, x9, x10⟩⟩))
            | (go_at_call 16; ((with_reducible refine (G4 _ (by assumption)).out.mono ?_); rintro e w' ⟨rfl, g', x1, x2, ⟨x3, x4, x5, x6⟩, ⟨x7, x8, x9, x10⟩⟩))
            | (go_at_call 15; ((with_reducible refine (G5 _ (by assumption)).out.mono ?_); rintro e w' ⟨rfl, g', x1, x2, ⟨x3, x4, x5, x6⟩, ⟨x7, x8, x9, x10⟩⟩))
            | (go_at_call 16; ((with_reducible refine (G6 _ (by assumption)).out.mono ?_); rintro e w' ⟨rfl, g', x1, x2, ⟨x3, x4, x5, x6⟩, ⟨x7, x8, x9, x10⟩⟩)))
        all_goals
          go_wp2
          go_meet
          exact ⟨rfl, by assumption⟩
      case rest =>
        obtain ⟨rfl, HBc⟩ := hcut
        have HB6 := Lib.hid (step HB5.out HB5.out.size HBc.out)
        clear HBc HB5
        go_wp2
        go_roundw
        case rel => exact ⟨k + 1, by go_num, by omega, HB6⟩
        case measure => simp [intOf]; omega
    · have HB6 := Lib.hid (HB3.out.trans (HB.out.mono HB3.out.size))
      have hkn : ¬ (k : Int) < (ms.length : Int) := by omega
      clear hlt hk
      go_wp2
      go_ret
      exact ⟨rfl, HB6.out⟩
end Go.Proofs.Ytahbaifbihpppaa.RcPutsW
