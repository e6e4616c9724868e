/- post.Write: a list's bytes, or the error. Conditions: those of the statement. -/
import Derived.Test.YtfojpbbmicmooaaPgFol
import Derived.Test.YtfojpbbmicmooaaPgPlain
import Derived.Test.YtfojpbbmicmooaaPgCat
import Derived.Test.YtfojpbbmicmooaaPack
namespace Go.Proofs.Ytfojpbbmicmooaa.PgWr
open Go Go.RowKit Words PkSpec PsSpec PsLaw PsAwake PgPlain PgFol RefPk PkHas Put Get Pack PgCat

theorem put_1 (n : Nat) (w : World) (hn : n < 18446744073709551616) : Calls Try.prog 15 #[.slice (some ⟨w.heap.size, 0, none⟩) 1 1] (w.alloc (.cells #[.int .u64 (n : Int)] 31)) (Pack.PutPost w (Lib.uvarint n)) := by
  have h1 := Rd.made' w #[.int .u64 (n : Int)] 31
  have h2 : [n.toUInt64].map B64 = (#[Value.int .u64 (n : Int)] : Array Value).toList := by
    simp only [List.map_cons, List.map_nil, B64]
    rw [u64_cast _ hn]
  rw [← h2] at h1
  refine (put_any [n.toUInt64] _ 1 _ h1 (by simp)).mono ?_
  rintro e w' ⟨v, he, ho, hb⟩
  rw [encs_one, u64_cast _ hn] at ho
  exact ⟨v, he, UtOwn.own_mono ho (by simp), ((Below.refl _ _).alloc (Nat.le_refl _) _).trans (hb.mono (by simp))⟩

theorem put_2 (x y : Nat) (w : World) (hx : x < 18446744073709551616) (hy : y < 18446744073709551616) : Calls Try.prog 15 #[.slice (some ⟨w.heap.size, 0, none⟩) 2 2] (w.alloc (.cells #[.int .u64 (y : Int), .int .u64 (x : Int)] 31)) (Pack.PutPost w (Lib.uvarint y ++ Lib.uvarint x)) := Pack.put_two y x w hy hx
theorem info_u8 : (Try.prog.info? 5).map (fun i => (i.zero, i.size, i.bytes)) = some (some (.int .u8 0), 1, 1) := by kernel_rfl
theorem apart_step {X Y Z : Option Nat} {N : Nat} (h : X = none ∨ X ≠ Y) (hX : ∀ k, X = some k → k < N) (hZ : Z = Y ∨ Z = some N) : Z = none ∨ Z ≠ X := by
  by_cases e : Z = X
  · subst e
    rcases hZ with e2 | e2
    · rcases h with h | h
      · exact .inl h
      · exact absurd e2 h
    · have := hX N e2; omega
  · exact .inr e
theorem rd_ch {w : World} {B b off : Nat} {l : List UInt64} {k at_ : Nat} (hat : at_ = 32 * k) (hb : b < B) (hc : ∀ j u, (l.map B64)[j]? = some u → w.cell? ⟨b, off + j, none⟩ = some u) : Rd w B (some ⟨b, off + at_, none⟩) ((ch l k).map B64) := fun _ =>
  ⟨b, off + at_, rfl, hb, fun j u hu => by
    rw [Nat.add_assoc]
    refine hc (at_ + j) u ?_
    rw [List.getElem?_map] at hu ⊢
    unfold ch at hu
    rw [List.getElem?_take] at hu
    split at hu
    · rw [List.getElem?_drop] at hu; rw [hat]; exact hu
    · cases hu⟩
theorem rd_to {w : World} {B b off : Nat} {l : List UInt64} (m : Nat) (hb : b < B) (hc : ∀ j u, (l.map B64)[j]? = some u → w.cell? ⟨b, off + j, none⟩ = some u) : Rd w B (some ⟨b, off, none⟩) ((l.take m).map B64) := fun _ =>
  ⟨b, off, rfl, hb, fun j u hu => by
    refine hc j u ?_
    rw [List.getElem?_map] at hu ⊢
    rw [List.getElem?_take] at hu
    split at hu
    · exact hu
    · cases hu⟩
theorem folq_at {l : List UInt64} {k : Nat} (h : 32 * k < l.length) : folq (ch l k) (l.take (32 * k)) = decide (k = 0 ∨ (l[32 * k - 1]'(by omega)).toNat < l[32 * k].toNat) := by
  have h1 : (ch l k).getD 0 0 = l[32 * k] := by
    have hl := ch_len l k
    have h2 : 0 < (ch l k).length := by omega
    rw [List.getD_eq_getElem?_getD, List.getElem?_eq_getElem h2, Option.getD_some, ch_at]
    congr 1
  unfold folq
  rw [h1, List.length_take, Nat.min_eq_left (by omega)]
  by_cases h0 : k = 0
  · subst h0; simp
  · have h2 : (l.take (32 * k)).getD (32 * k - 1) 0 = l[32 * k - 1]'(by omega) := by
      rw [List.getD_eq_getElem?_getD, List.getElem?_take_of_lt (by omega), List.getElem?_eq_getElem (by omega), Option.getD_some]
    rw [h2]
    have h3 : ¬ 32 * k = 0 := by omega
    simp [h0, h3]
set_option maxHeartbeats 16000000 in
set_option maxRecDepth 100000 in
theorem write_long (w : World) (l : List UInt64) (A : Option Addr) (c : Nat) (hl : 65536 < l.length) (hr : Rd w w.heap.size A (l.map B64)) (hlc : l.length ≤ c) (hc : c ≤ maxLen) : Calls Try.prog 7 #[.slice A l.length c] w (WPost w (wr l)) := by
  rw [wr_long hl]
  have HNil := Lib.hid (World.ownsRow_nil w w.heap.size 5 1)
  have hl' : (65536 : Int) < (l.length : Int) := by omega
  generalize l.length = n at *
  clear hr
  go_enter Try.func7, Try.ntmps7
  go_wp2
  go_ret2
  exact ⟨_, rfl, HNil.out, Below.refl _ _⟩
set_option maxHeartbeats 16000000 in
set_option maxRecDepth 100000 in
theorem write_short (w : World) (l : List UInt64) (A : Option Addr) (c : Nat) (hl : l.length ≤ 65536) (hr : Rd w w.heap.size A (l.map B64)) (hlc : l.length ≤ c) (hc : c ≤ maxLen) : Calls Try.prog 7 #[.slice A l.length c] w (WPost w (wr l)) := by
  obtain ⟨n, hn⟩ : ∃ n, n = l.length := ⟨_, rfl⟩
  have HR := Lib.hid hr
  have HNl : Hid (n = l.length) := hn
  obtain ⟨M, hM⟩ : ∃ M, M = nb l := ⟨_, rfl⟩
  have hM2 : M = (n + 31) / 32 := by rw [hM, hn]; rfl
  have eM : ((n : Int) + 32 - 1) / 32 = (M : Int) := by omega
  have hM3 : M ≤ 2048 := by omega
  have HM : Hid (M = nb l) := hM
  have HP := Lib.hid (put_1 M w (by omega))
  rw [← hn] at hl hlc ⊢
  clear hr hn hM hM2
  go_enter Try.func7, Try.ntmps7
  go_wp2_with fail
  refine HP.out.mono ?_
  rintro e w1 ⟨v, rfl, ho, hb⟩
  have HO : Hid (w1.ownsRow w.heap.size 5 1 v (Lib.uvarint M ++ heads l 0).length ((Lib.uvarint M ++ heads l 0).map B8)) := by
    show World.ownsRow _ _ _ _ _ _ _
    rw [heads_zero, List.append_nil]; exact ho
  have HB : Hid (Below w.heap.size w w1) := hb
  have HK : Hid (w1.ownsRow w.heap.size 5 1 (.slice none 0 0) (packs l 0).length ((packs l 0).map B8)) := World.ownsRow_nil _ _ _ _
  clear ho hb
  obtain ⟨i1, gi, gz0, gz1, gz2⟩ := info_parts info_u8
  go_wp2_with fail
  go_loopw [4, 5, 6] (fun vb vk vi wr => ∃ k at_ : Nat, vi = .int .i64 (at_ : Int) ∧ k ≤ M ∧ Hid (at_ = 32 * k) ∧ Hid (RisingTo l (32 * k)) ∧ Hid (wr.ownsRow w.heap.size 5 1 vb (Lib.uvarint M ++ heads l k).length ((Lib.uvarint M ++ heads l k).map B8)) ∧
      Hid (wr.ownsRow w.heap.size 5 1 vk (packs l k).length ((packs l k).map B8)) ∧ Hid (vk.ownBlock = none ∨ vk.ownBlock ≠ vb.ownBlock) ∧ Hid (Below w.heap.size w wr)) (fun _ _ vi _ => n + 32 - SoKit.natOf vi)
  case atStart => exact ⟨0, 0, rfl, Nat.zero_le _, rfl, fun i h hk => by omega, HO, HK, .inl rfl, HB⟩
  case round =>
    clear HO HK HB
    obtain ⟨k, at_, rfl, hkM, HAT, HRI, HO, HK, HAP, HB⟩ := hrel
    by_cases hlt : at_ < n
    · obtain ⟨b0, off, rfl, hb0, hcell⟩ := HR.out (by rw [List.length_map, ← HNl.out]; omega)
      obtain ⟨m, hm⟩ : ∃ m, m = min (at_ + 32) n := ⟨_, rfl⟩
      have em : min ((at_ : Int) + 32) (n : Int) = (m : Int) := by omega
      have hm1 : at_ < m := by omega
      have hm2 : m ≤ n := by omega
      have hm3 : m ≤ at_ + 32 := by omega
      have HM4 : Hid (m = min (at_ + 32) n) := hm
      clear hm
      have hca : ¬ c = at_ := by omega
      have hk32 : Hid (32 * k < l.length) := by show _ < _; rw [← HAT.out, ← HNl.out]; exact hlt
      have hcw : ∀ j u, (l.map B64)[j]? = some u → wr.cell? ⟨b0, off + j, none⟩ = some u := fun j u hu => by rw [HB.out.cell (p := ⟨b0, off + j, none⟩) hb0]; exact hcell j u hu
      have hbw : b0 < wr.heap.size := Nat.lt_of_lt_of_le hb0 HB.out.size
      have hlen : m - at_ = (ch l k).length := by rw [ch_len, HM4.out, HAT.out, HNl.out]; have := hk32.out; omega
      have HLEN : Hid (m - at_ = (ch l k).length) := hlen
      have HFO := Lib.hid (fol_any (ch l k) (l.take at_) (some ⟨b0, off + at_, none⟩) (some ⟨b0, off, none⟩) (m - at_) at_ (c - at_) c wr hlen (by rw [List.length_take, ← HNl.out]; omega) (rd_ch HAT.out hbw hcw) (rd_to at_ hbw hcw) (by omega) (by omega) (by have := HAT.out; omega) (by omega))
      have HFQ : Hid (folq (ch l k) (l.take at_) = decide (k = 0 ∨ (l[32 * k - 1]'(by have := hk32.out; omega)).toNat < (l[32 * k]'hk32.out).toNat)) := by show _ = _; rw [HAT.out]; exact folq_at hk32.out
      have HCW : Hid _ := hcw
      clear hcw hlen hcell
      generalize folq (ch l k) (l.take at_) = q at *
      go_wp2_with fail
      refine HFO.out.mono ?_
      clear HFO
      rintro e w2 ⟨rfl, nq, rfl⟩
      cases q
      · -- not behind what is ahead of it
        have HN : Hid (¬ Rising l) := by
          have h1 := of_decide_eq_false HFQ.out.symm
          have hk0 : 0 < k := by
            rcases Nat.eq_zero_or_pos k with e | e
            · exact absurd (.inl e) h1
            · exact e
          exact rise_not1 hk0 hk32.out (fun h => h1 (.inr h))
        have HNil := Lib.hid (World.ownsRow_nil (wr.drewN nq) w.heap.size 5 1)
        have HB2 : Hid (Below w.heap.size w (wr.drewN nq)) := ⟨HB.out.os, HB.out.tape, HB.out.output, HB.out.size, HB.out.block⟩
        clear HFQ hk32
        go_wp2_with fail
        go_ret2
        rw [wr_not (by have := HNl.out; omega) HN.out]
        exact ⟨_, rfl, HNil.out, HB2.out⟩
      · have HB2 : Hid (Below w.heap.size w (wr.drewN nq)) := ⟨HB.out.os, HB.out.tape, HB.out.output, HB.out.size, HB.out.block⟩
        have HO2 : Hid ((wr.drewN nq).ownsRow w.heap.size 5 1 u4 (Lib.uvarint M ++ heads l k).length ((Lib.uvarint M ++ heads l k).map B8)) := HO.out
        have HK2 : Hid ((wr.drewN nq).ownsRow w.heap.size 5 1 u5 (packs l k).length ((packs l k).map B8)) := HK.out
        have HCW2 : Hid (∀ j u, (l.map B64)[j]? = some u → (wr.drewN nq).cell? ⟨b0, off + j, none⟩ = some u) := HCW.out
        have hbw2 : b0 < (wr.drewN nq).heap.size := hbw
        have HJ : Hid (∀ (h0 : 0 < k) (hk : 32 * k < l.length), (l[32 * k - 1]'(by omega)).toNat < l[32 * k].toNat) := fun h0 hk => by
          rcases of_decide_eq_true HFQ.out.symm with h | h
          · omega
          · exact h
        clear HB HO HK HCW hbw HFQ
        generalize wr.drewN nq = w2 at *
        have HPK := Lib.hid (pack_any (ch l k) (some ⟨b0, off + at_, none⟩) (m - at_) (c - at_) w2 HLEN.out (rd_ch HAT.out hbw2 HCW2.out) (by rw [← HLEN.out]; omega) (by omega))
        go_wp2_with fail
        refine HPK.out.mono ?_
        clear HPK
        rintro e w3 (⟨hbad, _⟩ | ⟨_, hnr, rfl, hb3⟩ | ⟨_, hri, v3, rfl, ho3, hb3⟩)
        · exfalso
          have := ch_le l k
          omega
        · have HN : Hid (¬ Rising l) := fun h => hnr (rise_ch h k)
          have HNil := Lib.hid (World.ownsRow_nil w3 w.heap.size 5 1)
          have HB3 : Hid (Below w.heap.size w w3) := UtOwn.below_step HB2.out hb3
          clear hk32 hnr hb3 HJ
          go_wp2_with fail
          go_ret2
          rw [wr_not (by have := HNl.out; omega) HN.out]
          exact ⟨_, rfl, HNil.out, HB3.out⟩
        · have HRN : Hid (RisingTo l (32 * (k + 1))) := rise_ok HRI.out HJ.out hri
          obtain ⟨A3, c3, rfl, hc3, hm3', hrd3, hA3⟩ := own_rd ho3
          have HRD3 : Hid (Rd w3 w3.heap.size A3 ((pk (ch l k)).map B8)) := hrd3
          have HO3 : Hid (w3.ownsRow w.heap.size 5 1 u4 (Lib.uvarint M ++ heads l k).length ((Lib.uvarint M ++ heads l k).map B8)) := UtOwn.own_keep HO2.out hb3
          have HK3 : Hid (w3.ownsRow w.heap.size 5 1 u5 (packs l k).length ((packs l k).map B8)) := UtOwn.own_keep HK2.out hb3
          have HP3 : Hid (w3.ownsRow w2.heap.size 5 1 (.slice A3 (pk (ch l k)).length c3) (pk (ch l k)).length ((pk (ch l k)).map B8)) := ho3
          have HB3 : Hid (Below w.heap.size w w3) := UtOwn.below_step HB2.out hb3
          have hcl : w3.cell? ⟨b0, off + at_ + (m - at_ - 1), none⟩ = some (.int .u64 ((l[min (32 * k + 32) l.length - 1]'(by have := hk32.out; omega)).toNat : Int)) := by
            rw [hb3.cell (p := ⟨b0, off + at_ + (m - at_ - 1), none⟩) hbw2, show off + at_ + (m - at_ - 1) = off + (m - 1) by omega]
            refine HCW2.out (m - 1) _ ?_
            have e1 : m - 1 = min (32 * k + 32) l.length - 1 := by rw [HM4.out, HAT.out, HNl.out]
            rw [e1, List.getElem?_map, List.getElem?_eq_getElem (by have := hk32.out; omega), Option.map_some]
            rfl
          have HHD : Hid (headOf (ch l k) = Lib.uvarint (l[min (32 * k + 32) l.length - 1]'(by have := hk32.out; omega)).toNat ++ Lib.uvarint (pk (ch l k)).length) := head_eq hk32.out
          have hy64 : (l[min (32 * k + 32) l.length - 1]'(by have := hk32.out; omega)).toNat < 18446744073709551616 := UInt64.toNat_lt _
          generalize (l[min (32 * k + 32) l.length - 1]'(by have := hk32.out; omega)).toNat = y at *
          have hsm := pk_small (ch l k) (ch_le l k)
          have HHL := Lib.hid (heads_le l k)
          have HPL := Lib.hid (packs_le l k)
          have HHS := Lib.hid (heads_succ l k)
          have HPS := Lib.hid (packs_succ l k)
          have HPU := Lib.hid (put_2 (pk (ch l k)).length y w3 (by omega) hy64)
          have HOB : Hid (∀ g, u4.ownBlock = some g → g < w2.heap.size) := fun g hg => (HO2.out.lt g hg).2
          clear hrd3 ho3 hA3 hri HB2 HO2 HK2 HCW2 HJ HRI
          go_wp2_with fail
          refine HPU.out.mono ?_
          clear HPU hcl
          rintro e w4 ⟨v4, rfl, ho4, hb4⟩
          obtain ⟨A4, c4, rfl, hc4, hm4', hrd4, hA4⟩ := own_rd ho4
          have HRD4 : Hid (Rd w4 w4.heap.size A4 ((Lib.uvarint y ++ Lib.uvarint (pk (ch l k)).length).map B8)) := hrd4
          have HO4 : Hid (w4.ownsRow w.heap.size 5 1 u4 (Lib.uvarint M ++ heads l k).length ((Lib.uvarint M ++ heads l k).map B8)) := UtOwn.own_keep HO3.out hb4
          have HK4 : Hid (w4.ownsRow w.heap.size 5 1 u5 (packs l k).length ((packs l k).map B8)) := UtOwn.own_keep HK3.out hb4
          have HP4 : Hid (w4.ownsRow w2.heap.size 5 1 (.slice A3 (pk (ch l k)).length c3) (pk (ch l k)).length ((pk (ch l k)).map B8)) := UtOwn.own_keep HP3.out hb4
          have HB4 : Hid (Below w.heap.size w w4) := UtOwn.below_step HB3.out hb4
          have hul : (Lib.uvarint M).length ≤ 10 := Lib.uvarint_length64 (by omega)
          have hyl : (Lib.uvarint y).length ≤ 10 := Lib.uvarint_length64 hy64
          have hpl : (Lib.uvarint (pk (ch l k)).length).length ≤ 10 := Lib.uvarint_length64 (by omega)
          have hS1 : (Lib.uvarint M ++ heads l k).length ≤ 50000 := by rw [List.length_append]; have := HHL.out; omega
          have hS2 : (Lib.uvarint y ++ Lib.uvarint (pk (ch l k)).length).length ≤ 20 := by rw [List.length_append]; omega
          have HS3 : Hid ((packs l k).length ≤ 700000) := by show _ ≤ _; have := HPL.out; omega
          have HH5 : Hid (Lib.uvarint M ++ heads l (k + 1) = (Lib.uvarint M ++ heads l k) ++ (Lib.uvarint y ++ Lib.uvarint (pk (ch l k)).length)) := by show _ = _; rw [HHS.out, HHD.out, List.append_assoc]
          clear hrd4 ho4 hA4 hb4 HO3 HK3 HP3 HB3 HHS HHD hul hyl hpl
          generalize Lib.uvarint y ++ Lib.uvarint (pk (ch l k)).length = U at *
          generalize Lib.uvarint M ++ heads l k = V at *
          go_wp2_with (at_builtin; refine App.wpList_append_rd _ rfl (.tmp 49) (.tmp 60) 24 rfl w.heap.size 5 i1 (.int .u8 0) 1 Try.underlying24 gi gz0 gz1 gz2 rfl _ _ _ rfl HO4.out w4.heap.size _ _ _ (U.map B8) rfl (by simp) HRD4.out (Words.one8 U) ?c1 ?c2 HB4.out.size ?_)
          case c1 => unfold maxLen; omega
          case c2 => omega
          intro v5 w5 hown5 hg5 hb5
          have HO5 : Hid (w5.ownsRow w.heap.size 5 1 v5 (V ++ U).length ((V ++ U).map B8)) := by
            show World.ownsRow _ _ _ _ _ _ _
            rw [List.length_append, List.map_append]; exact hown5
          have HK5 : Hid (w5.ownsRow w.heap.size 5 1 u5 (packs l k).length ((packs l k).map B8)) := HK4.out.kept hg5 HAP.out
          have HP5 : Hid (w5.ownsRow w2.heap.size 5 1 (.slice A3 (pk (ch l k)).length c3) (pk (ch l k)).length ((pk (ch l k)).map B8)) := HP4.out.kept hg5 (by
            by_cases e : (Value.slice A3 (pk (ch l k)).length c3).ownBlock = none
            · exact .inl e
            · right
              intro e2
              obtain ⟨g, hg⟩ := Option.ne_none_iff_exists'.1 e
              have h1 := (HP4.out.lt g hg).1
              have h2 := HOB.out g (by rw [← e2]; exact hg)
              omega)
          have HB5 : Hid (Below w.heap.size w w5) := App.below_app HO4.out HB4.out hg5
          have HAP5 : Hid (v5.ownBlock = none ∨ v5.ownBlock ≠ u5.ownBlock) := apart_step HAP.out (fun g hg => (HK4.out.lt g hg).2) hb5
          clear hown5 hg5 hb5 HO4 HK4 HP4 HB4 HRD4 HAP HOB
          obtain ⟨A6, c6, e6, hc6, hm6, hrd6, _⟩ := own_rd HP5.out
          injection e6 with e6 _ e6'
          subst e6 e6'
          have HRD6 : Hid (Rd w5 w5.heap.size A3 ((pk (ch l k)).map B8)) := hrd6
          clear hrd6
          go_wp2_with (at_builtin; refine App.wpList_append_rd _ rfl (.tmp 62) (.tmp 63) 24 rfl w.heap.size 5 i1 (.int .u8 0) 1 Try.underlying24 gi gz0 gz1 gz2 rfl _ _ _ rfl HK5.out w5.heap.size _ _ _ ((pk (ch l k)).map B8) rfl (by simp) HRD6.out (Words.one8 (pk (ch l k))) ?d1 ?d2 HB5.out.size ?_)
          case d1 => have := HS3.out; unfold maxLen; omega
          case d2 => have := HS3.out; omega
          intro v6 w6 hown6 hg6 hb6
          have HK6 : Hid (w6.ownsRow w.heap.size 5 1 v6 (packs l (k + 1)).length ((packs l (k + 1)).map B8)) := by
            show World.ownsRow _ _ _ _ _ _ _
            rw [HPS.out, List.length_append, List.map_append]; exact hown6
          have HO6 : Hid (w6.ownsRow w.heap.size 5 1 v5 (Lib.uvarint M ++ heads l (k + 1)).length ((Lib.uvarint M ++ heads l (k + 1)).map B8)) := by
            show World.ownsRow _ _ _ _ _ _ _
            rw [HH5.out]; exact HO5.out.kept hg6 HAP5.out
          have HB6 : Hid (Below w.heap.size w w6) := App.below_app HK5.out HB5.out hg6
          have HAP6 : Hid (v6.ownBlock = none ∨ v6.ownBlock ≠ v5.ownBlock) := apart_step HAP5.out (fun g hg => (HO5.out.lt g hg).2) hb6
          have HK1 : Hid (k + 1 ≤ M) := by have h1 := HM.out; have h2 := hk32.out; unfold nb at h1; show _ ≤ _; omega
          have HAT1 : Hid (at_ + 32 = 32 * (k + 1)) := by have := HAT.out; show _ = _; omega
          clear hown6 hg6 hb6 HK5 HO5 HP5 HB5 HAP5 HRD6 HH5 HPS HPL HHL HS3 hS1 hS2 hsm
          go_wp2_with fail
          go_roundw
          case rel => exact ⟨k + 1, at_ + 32, by go_num, HK1.out, HAT1, HRN, HO6, HK6, HAP6, HB6⟩
          case measure => simp [SoKit.natOf]; omega
    · obtain ⟨A5, c5, rfl, hc5, hm5', hrd5, hA5⟩ := own_rd HK.out
      have hkM' : k = M := by have := HAT.out; have := HM.out; unfold nb at this; have := HNl.out; omega
      have HRD5 : Hid (Rd wr wr.heap.size A5 ((packs l k).map B8)) := hrd5
      have HRI2 : Hid (Rising l) := rise_all HRI.out (by have := HAT.out; have := HNl.out; omega)
      have HL1 : Hid ((Lib.uvarint M ++ heads l k).length ≤ 50000) := by
        have h1 := heads_le l k
        have h2 : (Lib.uvarint M).length ≤ 10 := Lib.uvarint_length64 (by omega)
        show _ ≤ _
        rw [List.length_append]; omega
      have HL2 : Hid ((packs l k).length ≤ 700000) := by have h1 := packs_le l k; show _ ≤ _; omega
      have HPB : Hid (pb l = (Lib.uvarint M ++ heads l k) ++ packs l k) := by show _ = _; rw [pb_eq, hkM', HM.out]
      clear hrd5 hA5 HK hkM'
      generalize Lib.uvarint M ++ heads l k = V at *
      go_wp2_with (at_builtin; refine App.wpList_append_rd _ rfl (.tmp 65) (.tmp 66) 24 rfl w.heap.size 5 i1 (.int .u8 0) 1 Try.underlying24 gi gz0 gz1 gz2 rfl _ _ _ rfl HO.out wr.heap.size _ _ _ ((packs l k).map B8) rfl (by simp) HRD5.out (Words.one8 (packs l k)) ?e1 ?e2 HB.out.size ?_)
      case e1 => have := HL1.out; have := HL2.out; unfold maxLen; omega
      case e2 => have := HL1.out; have := HL2.out; omega
      intro v5 w5 hown5 hg5 _
      have HO5 : Hid (w5.ownsRow w.heap.size 5 1 v5 (pb l).length ((pb l).map B8)) := by
        show World.ownsRow _ _ _ _ _ _ _
        rw [HPB.out, List.length_append, List.map_append]; exact hown5
      have HB5 : Hid (Below w.heap.size w w5) := App.below_app HO.out HB.out hg5
      clear hown5 hg5 HL1 HL2 HPB
      go_wp2_with fail
      go_ret2
      rw [wr_ok (by have := HNl.out; omega) HRI2.out]
      exact ⟨_, rfl, HO5.out, HB5.out⟩
theorem write_any (w : World) (l : List UInt64) (A : Option Addr) (c : Nat) (hr : Rd w w.heap.size A (l.map B64)) (hlc : l.length ≤ c) (hc : c ≤ maxLen) : Calls Try.prog 7 #[.slice A l.length c] w (WPost w (wr l)) := by
  by_cases h : 65536 < l.length
  · exact write_long w l A c h hr hlc hc
  · exact write_short w l A c (by omega) hr hlc hc
end Go.Proofs.Ytfojpbbmicmooaa.PgWr
