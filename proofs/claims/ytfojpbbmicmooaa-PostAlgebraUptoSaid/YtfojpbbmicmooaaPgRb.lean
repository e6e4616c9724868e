/- post.readBlocks of bytes that hold a rising list's blocks: its numbers in new memory. Conditions: those of the statement. -/
import Derived.Test.YtfojpbbmicmooaaPgRe
import Derived.Test.YtfojpbbmicmooaaPgFol
import Derived.Test.YtfojpbbmicmooaaPgWr
import Derived.Test.YtfojpbbmicmooaaUnpack
namespace Go.Proofs.Ytfojpbbmicmooaa.PgRb
open Go Go.RowKit Words PkSpec PsSpec PgPlain PsAwake PgRe PgFol PgWr PgCat PkHas RefUn

theorem take_next {l : List UInt64} {k : Nat} : l.take (32 * (k + 1)) = l.take (32 * k) ++ ch l k := by
  unfold ch
  rw [show 32 * (k + 1) = 32 * k + 32 by omega, List.take_add]
set_option maxHeartbeats 16000000 in
set_option maxRecDepth 100000 in
theorem blocks_any (l : List UInt64) (pre : List UInt8) (A : Option Addr) (c g : Nat) (w : World) (b : List UInt8) (hb : b = pre ++ packs l (nb l)) (hl : l.length ≤ 65536) (hri : Rising l) (hr : Rd w w.heap.size A (b.map B8)) (hc : b.length ≤ c) (hm : c ≤ maxLen) (hb47 : b.length ≤ 140737488355327)
    (hg : g < w.heap.size) (hE : Ents w g l (nb l) (nb l)) :
    Calls Try.prog 19 #[.slice A b.length c, .int .i64 (pre.length : Int), .slice (some ⟨g, 0, none⟩) (nb l) (nb l)] w fun e w' => ∃ v, e = .returned (.tuple #[v, .int .i64 (b.length : Int), .bool true]) ∧ w'.ownsRow w.heap.size 31 1 v l.length (l.map B64) ∧ Below w.heap.size w w' := by
  obtain ⟨P, hP⟩ : ∃ P : Nat → Nat, ∀ k, P k = (pre ++ packs l k).length := ⟨_, fun _ => rfl⟩
  have HU : Hid (∀ (k : Nat) (w' : World), Below w.heap.size w w' → k < nb l → Calls Try.prog 31 #[.slice A b.length c, .int .i64 (P k : Int)] w' fun e w2 =>
      ∃ v, e = .returned (.tuple #[v, .int .i64 (P (k + 1) : Int), .int .i64 0]) ∧ w2.ownsRow w'.heap.size 31 1 v (ch l k).length ((ch l k).map B64) ∧ Below w'.heap.size w' w2) := by
    show ∀ (k : Nat) (w' : World), _
    intro k w' hB hk
    obtain ⟨t, ht⟩ := packs_pre l (k + 1) (nb l - (k + 1))
    rw [show k + 1 + (nb l - (k + 1)) = nb l by omega, packs_succ] at ht
    have hu := PkBack.unp_pk (ch l k) (pre ++ packs l k) t (by have := ch_le l k; omega) (rise_ch hri k)
    rw [show (pre ++ packs l k) ++ (pk (ch l k) ++ t) = b by rw [hb, ht]; simp] at hu
    have h := Unpack.un_any b A b.length c (((pre ++ packs l k).length : Nat) : Int) w' rfl ((hr.below hB).more hB.size) hc hm hb47
    unfold UnPost at h
    rw [hu] at h
    have e1 : (pre ++ packs l (k + 1)).length = (pre ++ packs l k).length + (pk (ch l k)).length := by rw [packs_succ, ← List.append_assoc, List.length_append]
    rw [hP, hP, e1]
    exact h
  obtain ⟨M, hM⟩ : ∃ M, M = nb l := ⟨_, rfl⟩
  have hM3 : M ≤ 2048 := by rw [hM]; unfold nb; omega
  have hP0 : pre.length = P 0 := by rw [hP, packs_zero, List.append_nil]
  have hPM : b.length = P M := by rw [hP, hb, hM]
  have HPS : Hid (∀ k, P (k + 1) = P k + sizeN l k) := fun k => by rw [hP, hP, packs_succ, ← List.append_assoc, List.length_append]; rfl
  have HPle : Hid (∀ k, k < M → P (k + 1) ≤ b.length) := fun k hk => by
    obtain ⟨t, ht⟩ := packs_pre l (k + 1) (nb l - (k + 1))
    rw [show k + 1 + (nb l - (k + 1)) = nb l by omega] at ht
    rw [hP, hb, ht]
    simp
  rw [hP0, hPM]
  rw [hPM] at HU HPle hc hb47
  rw [← hM] at HU hE ⊢
  have HE : Hid (Ents w g l M M) := hE
  have HM : Hid (M = nb l) := hM
  have HRI : Hid (Rising l) := hri
  have HNil := Lib.hid (World.ownsRow_nil w w.heap.size 31 1)
  clear hE hP0 hPM hr hP hb hM hri
  obtain ⟨bn, hbn⟩ : ∃ bn, bn = P M := ⟨_, rfl⟩
  rw [← hbn] at HU HPle hc hb47 ⊢
  have HPM : Hid (P M = bn) := hbn.symm
  clear hbn
  obtain ⟨i1, gi, gz0, gz1, gz2⟩ := info_parts info_u64
  go_enter Try.func19, Try.ntmps19
  go_wp2_with fail
  go_loopw [1, 9, 17] (fun va vl vi wr => ∃ (k : Nat) (T : List UInt64), va = .int .i64 (P k : Int) ∧ vi = .int .i64 (k : Int) ∧ k ≤ M ∧ Hid (T = l.take (32 * k)) ∧ Hid (wr.ownsRow w.heap.size 31 1 vl T.length (T.map B64)) ∧ Hid (Below w.heap.size w wr)) (fun _ _ vi _ => M - SoKit.natOf vi)
  case atStart => exact ⟨0, [], rfl, rfl, Nat.zero_le _, rfl, HNil.out, Below.refl _ _⟩
  case round =>
    clear HNil
    obtain ⟨k, T, rfl, rfl, hk, HT, HO, HB⟩ := hrel
    obtain ⟨A1, c1, rfl, hc1, hm1, hrd1, hA1⟩ := own_rd HO.out
    by_cases hlt : k < M
    · have x0 : wr.cell? ⟨g, k * 2, none⟩ = some (.int .u64 (lastN l k : Int)) := by rw [HB.out.cell (p := ⟨g, k * 2, none⟩) hg, Nat.mul_comm]; exact HE.out.last k hlt
      have x1 : wr.cell? ⟨g, k * 2 + 1, none⟩ = some (.int .u64 (sizeN l k : Int)) := by rw [HB.out.cell (p := ⟨g, k * 2 + 1, none⟩) hg, Nat.mul_comm]; exact HE.out.size k hlt
      have HRD1 : Hid (Rd wr wr.heap.size A1 (T.map B64)) := hrd1
      clear hrd1
      have hba := (Below.refl wr.heap.size wr).alloc (Nat.le_refl _) (.cells #[.int .u64 (lastN l k : Int), .int .u64 (sizeN l k : Int)] 61)
      have y0 : (wr.alloc (.cells #[.int .u64 (lastN l k : Int), .int .u64 (sizeN l k : Int)] 61)).cell? ⟨wr.heap.size, 0, none⟩ = some (.int .u64 (lastN l k : Int)) := by simp
      have y1 : (wr.alloc (.cells #[.int .u64 (lastN l k : Int), .int .u64 (sizeN l k : Int)] 61)).cell? ⟨wr.heap.size, 1, none⟩ = some (.int .u64 (sizeN l k : Int)) := by simp
      have hsz : wr.heap.size < (wr.alloc (.cells #[.int .u64 (lastN l k : Int), .int .u64 (sizeN l k : Int)] 61)).heap.size := by simp
      have HC := Lib.hid (HU.out k _ (HB.out.trans (hba.mono HB.out.size)) hlt)
      go_wp2_with fail
      generalize wr.alloc (.cells #[.int .u64 (lastN l k : Int), .int .u64 (sizeN l k : Int)] 61) = w2 at *
      refine HC.out.mono ?_
      clear HC x0 x1
      rintro e w3 ⟨v3, rfl, ho3, hb3⟩
      obtain ⟨A3, c3, rfl, hc3, hm3', hrd3, hA3⟩ := own_rd ho3
      have hb23 : Below wr.heap.size wr w3 := hba.trans (hb3.mono hba.size)
      have HRD3 : Hid (Rd w3 w3.heap.size A3 ((ch l k).map B64)) := hrd3
      have HRD1' : Hid (Rd w3 w3.heap.size A1 (T.map B64)) := (HRD1.out.below hb23).more hb23.size
      have HO3 : Hid (w3.ownsRow w.heap.size 31 1 (.slice A1 T.length c1) T.length (T.map B64)) := UtOwn.own_keep HO.out hb23
      have HB3 : Hid (Below w.heap.size w w3) := UtOwn.below_step HB.out hb23
      have z0 : w3.cell? ⟨wr.heap.size, 0, none⟩ = some (.int .u64 (lastN l k : Int)) := by rw [hb3.cell (p := ⟨wr.heap.size, 0, none⟩) hsz]; exact y0
      have z1 : w3.cell? ⟨wr.heap.size, 1, none⟩ = some (.int .u64 (sizeN l k : Int)) := by rw [hb3.cell (p := ⟨wr.heap.size, 1, none⟩) hsz]; exact y1
      have hk32 : 32 * k < l.length := by have := HM.out; unfold nb at this; omega
      have es : (P (k + 1) : Int) - (P k : Int) = (sizeN l k : Int) := by have := HPS.out k; omega
      have hs64 : sizeN l k ≤ 300 := pk_small _ (ch_le l k)
      have HFQ := folq_at hk32
      rw [← HT.out, decide_eq_true (by
        rcases Nat.eq_zero_or_pos k with h0 | h0
        · exact .inl h0
        · exact .inr (rise_join HRI.out h0 hk32))] at HFQ
      have htk : T.length = 32 * k := by rw [HT.out, List.length_take]; omega
      have htk2 : T.length ≤ 65536 := by omega
      have hcl : 0 < (ch l k).length := by rw [ch_len]; omega
      have hcl2 := ch_le l k
      have HFO : ∀ n, Calls Try.prog 16 #[.slice A3 (ch l k).length c3, .slice A1 T.length c1] (w3.drewN n) fun e w' => e = .returned (.bool true) ∧ ∃ q, w' = (w3.drewN n).drewN q := fun n => by
        have h := fol_any (ch l k) T A3 A1 (ch l k).length T.length c3 c1 (w3.drewN n) rfl rfl (HRD3.out.drewN n) (HRD1'.out.drewN n) hcl hcl2 (by rw [htk]; omega) (by rw [htk]; omega)
        rwa [HFQ] at h
      obtain ⟨b3, o3, rfl, _, hce⟩ := HRD3.out (by rw [List.length_map]; exact hcl)
      have zl : w3.cell? ⟨b3, o3 + ((ch l k).length - 1), none⟩ = some (.int .u64 (lastN l k : Int)) := by
        refine hce ((ch l k).length - 1) _ ?_
        have e1 : (ch l k).length = min 32 (l.length - 32 * k) := ch_len l k
        rw [List.getElem?_map, List.getElem?_eq_getElem (show (ch l k).length - 1 < (ch l k).length by omega), Option.map_some, ch_at]
        unfold lastN
        rw [List.getD_eq_getElem?_getD, List.getElem?_eq_getElem (show min (32 * k + 32) l.length - 1 < l.length by omega), Option.getD_some]
        have e2 : 32 * k + ((ch l k).length - 1) = min (32 * k + 32) l.length - 1 := by omega
        simp only [e2]
        rfl
      have HT1 : Hid (T ++ ch l k = l.take (32 * (k + 1))) := by show _ = _; rw [take_next, HT.out]
      have HFO' : Hid _ := HFO
      have HKK : Hid (32 * k < l.length) := hk32
      clear HFO HFQ hce hrd3 ho3 hA3 hA1 hb3 hba hb23 y0 y1 hsz HO HB HRD1 htk hk32
      generalize ch l k = C at *
      generalize lastN l k = la at *
      go_wp2_with fail
      go_quiet (first | (go_at_call 16; refine Calls.quiet_of (HFO'.out _)))
      have HO4 : Hid ((w3.drewN nq).ownsRow w.heap.size 31 1 (.slice A1 T.length c1) T.length (T.map B64)) := HO3.out
      have HB4 : Hid (Below w.heap.size w (w3.drewN nq)) := ⟨HB3.out.os, HB3.out.tape, HB3.out.output, HB3.out.size, HB3.out.block⟩
      have HRD4 : Hid (Rd (w3.drewN nq) (w3.drewN nq).heap.size (some ⟨b3, o3, none⟩) (C.map B64)) := HRD3.out
      clear HO3 HB3 HRD3 HRD1' z0 z1 zl HFO' es
      generalize w3.drewN nq = w4 at *
      go_wp2_with (at_builtin; refine App.wpList_append_rd (v := .slice A1 T.length c1) _ rfl (.tmp 54) (.tmp 55) 22 rfl w.heap.size 31 i1 (.int .u64 0) 8 Try.underlying22 gi gz0 gz1 gz2 rfl _ _ rfl HO4.out w4.heap.size _ _ _ (C.map B64) rfl (by simp) HRD4.out (one64s C) ?d1 ?d2 HB4.out.size ?_)
      case d1 => have := HKK.out; unfold maxLen; omega
      case d2 => have := HKK.out; omega
      intro v5 w5 hown5 hg5 _
      have HO5 : Hid (w5.ownsRow w.heap.size 31 1 v5 (T ++ C).length ((T ++ C).map B64)) := by
        show World.ownsRow _ _ _ _ _ _ _
        rw [List.length_append, List.map_append]; exact hown5
      have HB5 : Hid (Below w.heap.size w w5) := App.below_app HO4.out HB4.out hg5
      clear hown5 hg5 HO4 HB4 HRD4
      go_wp2_with fail
      go_roundw
      case rel => exact ⟨k + 1, T ++ C, rfl, by go_num, by omega, HT1, HO5, HB5⟩
      case measure => simp [SoKit.natOf]; omega
    · obtain rfl : k = M := by omega
      have hPM2 := HPM.out
      have HTL : Hid (T = l) := by
        show _ = _
        rw [HT.out, List.take_of_length_le]
        have := HM.out; unfold nb at this; omega
      go_wp2_with fail
      go_ret3
      refine ⟨_, by rw [hPM2]; rfl, ?_, HB.out⟩
      rw [← HTL.out]
      exact HO.out
end Go.Proofs.Ytfojpbbmicmooaa.PgRb
