/- The program's numbersIn and areOfManifest: the numbers that bytes are made of. Conditions: the bytes lie in memory, at most 65536 of them. · Plain: the manifest that the program makes of a list of numbers; when it is the one whose bytes were read. Of no program. No conditions but those that the theorems name. -/
import Derived.Test.YtjninegpaoblfaaGreatDoorRefMr
import Derived.Test.YtjninegpaoblfaaGreatDoorMpMays
namespace Go.Proofs.YtjninegpaoblfaaGreatDoor.MpNin
open Go Go.RowKit Words AppN MfSpec MfMem RefMf RefMay RefMw RefMr Plain Zig Put Framed Reading MfRead

/-- What numbersIn answers: all the numbers, or that there is a place where none stands. -/
def NiPost (p : List UInt8) (w : World) (e : Ending) (w' : World) : Prop :=
  Below w.heap.size w w' ∧ ((∃ (L : List UInt64) (v : Value), e = .returned (.tuple #[v, .bool true]) ∧ encs L = p ∧ w'.ownsRow w.heap.size 34 1 v L.length (L.map B64)) ∨
    (e = .returned (.tuple #[.slice none 0 0, .bool false]) ∧ ∃ (ns : List UInt64) (k : Nat), k < p.length ∧ encs ns = p.take k ∧ getE p k ≠ 0))

set_option maxHeartbeats 3200000 in
set_option maxRecDepth 100000 in
theorem numbersIn_any (w1 : World) (p : List UInt8) (A1 : Option Addr) (n c1 : Nat) (h0 : n = p.length) (hr : Rd w1 w1.heap.size A1 (p.map B8)) (hc : p.length ≤ c1) (hm : c1 ≤ maxLen) (hlen : p.length ≤ 65536) :
    Calls Tryz.prog 49 #[.slice A1 n c1] w1 (NiPost p w1) := by
  obtain ⟨i0, hi, hz0, hz1, hz2⟩ := info_parts info_u64
  subst h0
  have HRP := Lib.hid hr
  have HC1 := Lib.hid hc
  have HM1 := Lib.hid hm
  have hcm1 : c1 ≤ 9223372036854775807 := by unfold maxLen at hm; omega
  clear hr hm
  unfold NiPost
  go_enter Tryz.func49, Tryz.ntmps49
  go_wp2
  go_loopw [5, 4] (fun i v wr => L1Rel w1 p i v wr) (fun i _ _ => p.length - (intOf i).toNat)
  case atStart => exact ⟨0, [], Nat.zero_le _, rfl, Lib.hid (by simp [encs]), Lib.hid (World.ownsRow_nil _ _ _ _), Lib.hid (Below.refl _ _)⟩
  case round =>
    obtain ⟨k, ns, hk, rfl, HNS, HOW, HBr⟩ := hrel
    have HNL : Hid (ns.length ≤ k) := Lib.hid (by have h1 := encs_ge ns; rw [HNS.out, List.length_take] at h1; omega)
    by_cases hlt : k < p.length
    · have HG := Lib.hid (Get.get_any p A1 c1 (k : Int) wr _ (HRP.out.below HBr.out) HC1.out HM1.out)
      by_cases hg : getE p k = 0
      case neg =>
        have HX : Hid (∃ (ns : List UInt64) (k : Nat), k < p.length ∧ encs ns = p.take k ∧ getE p k ≠ 0) := Lib.hid ⟨ns, k, hlt, HNS.out, hg⟩
        have j1 : (getE p k != 0) = true := by simpa using hg
        generalize getE p k = ge at *
        generalize getN p k = gn at *
        generalize getTo p k = gt at *
        clear hg HNS
        go_wp2_with fail
        refine HG.out.mono ?_
        rintro e w2 ⟨rfl, rfl⟩
        go_wp2
        go_ret2
        exact ⟨HBr.out, .inr ⟨rfl, HX.out⟩⟩
      obtain ⟨x, m, g1, g2, g3, g4, g5⟩ := got_num hk hg
      rw [hg, g1, g2] at HG
      have HNX : Hid (encs (ns ++ [x]) = p.take (k + m)) := Lib.hid (by rw [encs_append, HNS.out, g5])
      have HOA : Hid ((wr.alloc (.cells #[.int .u64 (x.toNat : Int)] 34)).ownsRow w1.heap.size 34 1 u4 ns.length (ns.map B64)) := Lib.hid (HOW.out.alloc _)
      have HBA : Hid (Below w1.heap.size w1 (wr.alloc (.cells #[.int .u64 (x.toNat : Int)] 34))) := Lib.hid (HBr.out.trans (((Below.refl _ wr).alloc (Nat.le_refl _) _).mono HBr.out.size))
      have hnl := HNL.out
      generalize hkm : k + m = q at *
      have hq1 : q ≤ p.length := g3
      have hq2 : k < q := by omega
      clear hg g1 g2 g5 g3 g4 hkm HNS
      go_wp2_with fail
      refine HG.out.mono ?_
      rintro e w2 ⟨rfl, rfl⟩
      go_wp2_with (at_builtin; refine wpList_append_own _ rfl (.tmp 22) (.tmp 24) 80 rfl w1.heap.size 34 i0 (.int .u64 0) 1 8 Tryz.underlying80 hi hz0 hz1 hz2 rfl (by decide) _ _ _ rfl HOA.out ⟨wr.heap.size, 0, none⟩ 1 1 ([x].map B64) rfl (by simp) (new1 _ _ _) (one64s _) ?c3 ?c4 HBA.out.size ?_)
      case c3 => unfold maxLen; omega
      case c4 => omega
      intro v2 w2 hown2 hg2 _
      have hb2 : Below w1.heap.size w1 w2 := HBA.out.grown hg2 HBA.out.size (own_lt HOA.out)
      have HO2 : Hid (w2.ownsRow w1.heap.size 34 1 v2 (ns ++ [x]).length ((ns ++ [x]).map B64)) := Lib.hid (by
        rw [List.map_append, List.length_append]
        exact hown2)
      have HB2 := Lib.hid hb2
      clear hown2 hg2 hb2 HOA HBA
      go_wp2
      go_roundw
      case rel => exact ⟨q, ns ++ [x], hq1, rfl, HNX, HO2, HB2⟩
      case measure => simp [intOf]; omega
    · have hkp : k = p.length := by omega
      have HL : Hid (encs ns = p) := Lib.hid (by rw [HNS.out, hkp, List.take_length])
      have hd : decide ((k : Int) < (p.length : Int)) = false := decide_eq_false (by omega)
      clear hkp HNS
      go_wp2
      go_ret2
      exact ⟨HBr.out, .inl ⟨ns, _, rfl, HL.out, HOW.out⟩⟩

/-- As many numbers as they say themselves. -/
def areOf (L : List UInt64) : Bool := decide (5 ≤ L.length) && (decide ((L.length - 5) % 4 = 0) && decide ((L.getD 4 0).toNat = (L.length - 5) / 4))

set_option maxHeartbeats 1600000 in
set_option maxRecDepth 100000 in
theorem areOf_any (L : List UInt64) (A : Option Addr) (n c : Nat) (w : World) (B : Nat) (hn : n = L.length) (hr : Rd w B A (L.map B64)) (hL : n ≤ 65536) :
    Calls Tryz.prog 50 #[.slice A n c] w fun e w' => e = .returned (.bool (areOf L)) ∧ w = w' := by
  obtain ⟨r, hR⟩ : ∃ r, areOf L = r := ⟨_, rfl⟩
  rw [hR]
  by_cases h5 : 5 ≤ n
  case neg =>
    have HX : Hid (r = false) := Lib.hid (by rw [← hR]; unfold areOf; rw [decide_eq_false (show ¬ 5 ≤ L.length by omega), Bool.false_and])
    have j1 : decide ((n : Int) < 5) = true := decide_eq_true (by omega)
    clear hn hr hR
    go_enter Tryz.func50, Tryz.ntmps50
    go_wp2
    go_ret
    rw [HX.out]
    exact ⟨rfl, rfl⟩
  have j1 : decide ((n : Int) < 5) = false := decide_eq_false (by omega)
  have j2 : IntKind.i64.wrap ((n : Int) - 5) = (n : Int) - 5 := IntWalk.i64_in _ (by omega)
  obtain ⟨t, ht⟩ : ∃ t, n - 5 = t := ⟨_, rfl⟩
  have ht2 : (n : Int) - 5 = (t : Int) := by omega
  have HR : Hid (r = (decide (t % 4 = 0) && decide ((L.getD 4 0).toNat = t / 4))) := Lib.hid (by rw [← hR]; unfold areOf; rw [← hn, ht, decide_eq_true h5, Bool.true_and])
  have hi2 : 4 < L.length := by omega
  obtain ⟨b, off, rfl, hb, hc⟩ := hr (by simp; omega)
  have k0 := cell64 hc hi2
  have HG : Hid ((L.getD 4 0) = L[4]) := Lib.hid (by rw [List.getD_eq_getElem?_getD, List.getElem?_eq_getElem hi2]; rfl)
  rw [HG.out] at HR
  generalize L[4] = x at *
  have hx := x.toNat_lt
  have i1 : (4 : Int) < (n : Int) := by omega
  have m1 : (t : Int).tmod 4 = ((t % 4 : Nat) : Int) := by rw [Int.tmod_eq_emod_of_nonneg (by omega)]; omega
  have m2 : (t : Int).tdiv 4 = ((t / 4 : Nat) : Int) := by rw [Int.tdiv_eq_ediv_of_nonneg (by omega)]; omega
  have m3 : IntKind.i64.wrap ((t / 4 : Nat) : Int) = ((t / 4 : Nat) : Int) := IntWalk.i64_in _ (by omega)
  have m4 : IntKind.u64.wrap ((t / 4 : Nat) : Int) = ((t / 4 : Nat) : Int) := IntWalk.u64_in _ (by omega)
  have m5 : IntKind.i64.wrap ((t % 4 : Nat) : Int) = ((t % 4 : Nat) : Int) := IntWalk.i64_in _ (by omega)
  rw [ht2] at j2
  clear hn hR HG hc ht hi2
  by_cases h4 : t % 4 = 0
  · have HX : Hid (r = decide (x.toNat = t / 4)) := Lib.hid (by rw [HR.out, decide_eq_true h4, Bool.true_and])
    have j3 : (((t % 4 : Nat) : Int) == 0) = true := by rw [h4]; rfl
    have j4 : ((x.toNat : Int) == ((t / 4 : Nat) : Int)) = decide (x.toNat = t / 4) := by rw [Bool.eq_iff_iff]; simp; omega
    clear h4 HR
    generalize t / 4 = d at *
    generalize t % 4 = f at *
    go_enter Tryz.func50, Tryz.ntmps50
    go_wp2
    go_ret
    rw [HX.out]
    exact ⟨rfl, rfl⟩
  · have HX : Hid (r = false) := Lib.hid (by rw [HR.out, decide_eq_false h4, Bool.false_and])
    have j3 : (((t % 4 : Nat) : Int) == 0) = false := beq_eq_false_iff_ne.2 (by omega)
    clear h4 HR
    generalize t / 4 = d at *
    generalize t % 4 = f at *
    go_enter Tryz.func50, Tryz.ntmps50
    go_wp2
    go_ret
    rw [HX.out]
    exact ⟨rfl, rfl⟩
end Go.Proofs.YtjninegpaoblfaaGreatDoor.MpNin

namespace Go.Proofs.YtjninegpaoblfaaGreatDoor.MpPlain
open Go Go.RowKit Plain Zig Crc RefSum Framed Reading BackF MfSpec MfRead MpNin

/-! ### A frame that is read is written again -/
theorem frm_back {b : List UInt8} (h : rdE b 0 = 0) (ht : rdT b 0 = (b.length : Int)) : frm (rdP b 0) = b := by
  have hP : rdP b 0 = pay b (getTo b 0).toNat (getN b 0).toNat := by unfold rdP; rw [if_pos h]
  have hT : rdT b 0 = getTo b 0 + getN b 0 + 4 := by unfold rdT; rw [if_pos h]
  have h0 : getE b 0 = 0 := by
    unfold rdE at h
    split at h
    · contradiction
    · rename_i hh; omega
  have hsum : pay b ((getTo b 0).toNat + (getN b 0).toNat) 4 = four (sum (pay b (getTo b 0).toNat (getN b 0).toNat)) := by
    unfold rdE at h
    rw [if_neg (by omega)] at h
    split at h
    · omega
    · split at h
      · omega
      · split at h
        · assumption
        · omega
  obtain ⟨x, n, g1, g2, g3, g4, g5⟩ := got_num (p := b) (k := 0) (Nat.zero_le _) h0
  have g1 : getN b 0 = (x.toNat : Int) := g1
  have g2 : getTo b 0 = ((0 + n : Nat) : Int) := g2
  rw [g1, g2] at hP hT hsum
  simp only [Int.toNat_natCast, Nat.zero_add] at hP hsum
  rw [ht] at hT
  rw [hP]
  have hl : b.length = n + x.toNat + 4 := by omega
  have hpl : (pay b n x.toNat).length = x.toNat := by unfold pay; rw [List.length_take, List.length_drop]; omega
  unfold frm
  rw [hpl, ← hsum]
  rw [Nat.zero_add, List.take_zero, List.nil_append, encs_one] at g5
  rw [← g5]
  unfold pay
  rw [← List.drop_drop]
  rw [List.take_of_length_le (l := List.drop x.toNat (List.drop n b)) (by rw [List.length_drop, List.length_drop]; omega), List.take_append_drop, List.take_append_drop]

/-! ### Numbers that an int takes -/
/-- A number as an int: what no int takes is below 0. -/
def wnum (x : UInt64) : Int := IntKind.i64.wrap (x.toNat : Int)
theorem wnum_eq (x : UInt64) : wnum x = if x.toNat < 9223372036854775808 then (x.toNat : Int) else (x.toNat : Int) - 18446744073709551616 := by
  have := x.toNat_lt
  unfold wnum
  rw [IntWalk.i64_left]
  unfold wrap64
  split <;> omega
theorem wnum_in (x : UInt64) : In64 (wnum x) := by
  have := x.toNat_lt
  rw [wnum_eq]
  unfold In64
  split <;> constructor <;> omega
theorem u_wnum {x : UInt64} (h : 0 ≤ wnum x) : u (wnum x) = x := by
  have := x.toNat_lt
  rw [wnum_eq] at h ⊢
  split at h
  · rename_i hx
    rw [if_pos hx]
    unfold u
    rw [Int.toNat_natCast]
    exact UInt64.toNat_inj.1 (by rw [UInt64.toNat_ofNat']; omega)
  · omega
theorem wnum_u {n : Int} (h : 0 ≤ n ∧ n ≤ 9223372036854775807) : wnum (u n) = n := by
  rw [wnum_eq, u_toNat (by omega), if_pos (by omega)]
  omega
theorem u_zig_zag (L : List UInt64) (i : Nat) : u (zig (zag (at64 L i))) = L.getD i 0 := by
  rw [zig_zag (by omega)]
  unfold u at64
  rw [Int.toNat_natCast]
  exact UInt64.toNat_inj.1 (by rw [UInt64.toNat_ofNat']; have := (L.getD i 0).toNat_lt; omega)

/-! ### The manifest of a list of numbers -/
def segP (L : List UInt64) (j : Nat) : Sg := ⟨wnum (L.getD (5 + 4 * j) 0), wnum (L.getD (5 + 4 * j + 1) 0), zag (at64 L (5 + 4 * j + 2)), zag (at64 L (5 + 4 * j + 3))⟩
def segsP (L : List UInt64) (k : Nat) : List Sg := (List.range k).map (segP L)
theorem segsP_succ (L : List UInt64) (k : Nat) : segsP L (k + 1) = segsP L k ++ [segP L k] := by unfold segsP; rw [List.range_succ, List.map_append]; rfl
theorem segsP_len (L : List UInt64) (k : Nat) : (segsP L k).length = k := by simp [segsP]
def madeTo (L : List UInt64) (k : Nat) : Man := ⟨wnum (L.getD 0 0), wnum (L.getD 1 0), L.getD 2 0, zag (at64 L 3), segsP L k⟩
def made (L : List UInt64) : Man := madeTo L ((L.length - 5) / 4)
theorem ok_segP (L : List UInt64) (j : Nat) : SgOk (segP L j) := ⟨wnum_in _, wnum_in _, zag_in _ _, zag_in _ _⟩
theorem ok_made (L : List UInt64) : Ok (made L) := ⟨wnum_in _, wnum_in _, zag_in _ _, fun s hs => by
  obtain ⟨j, _, rfl⟩ := List.mem_map.1 (show s ∈ (List.range ((L.length - 5) / 4)).map (segP L) from hs)
  exact ok_segP L j⟩
theorem segsP_at {L : List UInt64} {k j : Nat} (h : j < k) : (segsP L k)[j]? = some (segP L j) := by
  unfold segsP
  rw [List.getElem?_map, List.getElem?_range h]
  rfl
theorem areOf_iff (L : List UInt64) : areOf L = true ↔ 5 ≤ L.length ∧ (L.length - 5) % 4 = 0 ∧ (L.getD 4 0).toNat = (L.length - 5) / 4 := by
  unfold areOf
  simp only [Bool.and_eq_true, decide_eq_true_eq]
theorem getD_of {L : List UInt64} {i : Nat} (h : i < L.length) : L[i]? = some (L.getD i 0) := by
  rw [List.getD_eq_getElem?_getD, List.getElem?_eq_getElem h]
  rfl
/-- The numbers of a manifest that may be are the ones that it was made of. -/
theorem nums_made {L : List UInt64} (hm : May (made L)) (ha : areOf L = true) : nums (made L) = L := by
  obtain ⟨h5, h4, hn⟩ := (areOf_iff L).1 ha
  have hlen : (made L).segs.length = (L.length - 5) / 4 := segsP_len _ _
  have hl : (nums (made L)).length = L.length := by rw [nums_len, hlen]; omega
  refine List.ext_getElem? fun i => ?_
  by_cases hi : i < L.length
  case neg => rw [List.getElem?_eq_none (by omega), List.getElem?_eq_none (by omega)]
  rw [getD_of hi]
  by_cases hi5 : i < 5
  · have g0 : (nums (made L))[0]? = some (u (wnum (L.getD 0 0))) := rfl
    have g1 : (nums (made L))[1]? = some (u (wnum (L.getD 1 0))) := rfl
    have g2 : (nums (made L))[2]? = some (L.getD 2 0) := rfl
    have g3 : (nums (made L))[3]? = some (u (zig (zag (at64 L 3)))) := rfl
    have g4 : (nums (made L))[4]? = some (u ((made L).segs.length : Int)) := rfl
    have w0 : 0 ≤ wnum (L.getD 0 0) := by have := hm.head.wal; have e : (made L).wal = wnum (L.getD 0 0) := rfl; omega
    have w1 : 0 ≤ wnum (L.getD 1 0) := by have := hm.head.next; have e : (made L).next = wnum (L.getD 1 0) := rfl; omega
    have e4 : u ((made L).segs.length : Int) = L.getD 4 0 := by
      rw [hlen, ← hn]
      unfold u
      rw [Int.toNat_natCast]
      exact UInt64.toNat_inj.1 (by rw [UInt64.toNat_ofNat']; have := (L.getD 4 0).toNat_lt; omega)
    rcases (by omega : i = 0 ∨ i = 1 ∨ i = 2 ∨ i = 3 ∨ i = 4) with rfl | rfl | rfl | rfl | rfl
    · rw [g0, u_wnum w0]
    · rw [g1, u_wnum w1]
    · rw [g2]
    · rw [g3, u_zig_zag]
    · rw [g4, e4]
  · obtain ⟨j, r, hr, rfl⟩ : ∃ j r, r < 4 ∧ i = 5 + 4 * j + r := ⟨(i - 5) / 4, (i - 5) % 4, by omega, by omega⟩
    have hj : j < (L.length - 5) / 4 := by omega
    have hs : (made L).segs[j]? = some (segP L j) := segsP_at hj
    obtain ⟨n0, n1, n2, n3⟩ := nums_at (made L) hs
    have hx := hm.segs _ (List.mem_iff_getElem?.2 ⟨j, hs⟩)
    have w0 : 0 ≤ wnum (L.getD (5 + 4 * j) 0) := by have := hx.id; have e : (segP L j).id = wnum (L.getD (5 + 4 * j) 0) := rfl; omega
    have w1 : 0 ≤ wnum (L.getD (5 + 4 * j + 1) 0) := by have := hx.count; have e : (segP L j).count = wnum (L.getD (5 + 4 * j + 1) 0) := rfl; omega
    rcases (by omega : r = 0 ∨ r = 1 ∨ r = 2 ∨ r = 3) with rfl | rfl | rfl | rfl
    · rw [Nat.add_zero, n0]
      exact congrArg some (u_wnum w0)
    · rw [n1]
      exact congrArg some (u_wnum w1)
    · rw [n2]
      exact congrArg some (u_zig_zag L _)
    · rw [n3]
      exact congrArg some (u_zig_zag L _)
theorem getD_some {L : List UInt64} {i : Nat} {x : UInt64} (h : L[i]? = some x) : L.getD i 0 = x := by rw [List.getD_eq_getElem?_getD, h]; rfl
/-- Of a manifest's own numbers it is made again. -/
theorem made_nums {m : Man} (h : May m) : made (nums m) = m := by
  have hl : ((nums m).length - 5) / 4 = m.segs.length := by rw [nums_len]; omega
  have hn := h.head.next
  have hw := h.head.wal
  have hsegs : segsP (nums m) m.segs.length = m.segs := by
    refine List.ext_getElem? fun j => ?_
    rcases Nat.lt_or_ge j m.segs.length with hj | hj
    · have hs : m.segs[j]? = some m.segs[j] := List.getElem?_eq_getElem hj
      rw [segsP_at hj, hs]
      obtain ⟨h0, h1, h2, h3⟩ := nums_at m hs
      have hm := h.segs _ (List.getElem_mem hj)
      have ho := h.ok.segs _ (List.getElem_mem hj)
      unfold segP
      rw [getD_some h0, getD_some h1, wnum_u (by have := hm.id; omega), wnum_u (by have := hm.count; omega), zag_of h2 ho.least, zag_of h3 ho.most]
    · rw [List.getElem?_eq_none hj, List.getElem?_eq_none (by rw [segsP_len]; exact hj)]
  unfold made madeTo
  rw [hl, hsegs]
  have g0 : (nums m)[0]? = some (u m.wal) := rfl
  have g1 : (nums m)[1]? = some (u m.next) := rfl
  have g2 : (nums m)[2]? = some m.seq := rfl
  have g3 : (nums m)[3]? = some (u (zig m.mark)) := rfl
  rw [getD_some g0, getD_some g1, getD_some g2, wnum_u (by omega), wnum_u (by omega), zag_of g3 h.ok.mark]
theorem areOf_nums {m : Man} (h : May m) : areOf (nums m) = true := by
  rw [areOf_iff, nums_len]
  have g4 : (nums m)[4]? = some (u (m.segs.length : Int)) := rfl
  have := h.head.few
  rw [getD_some g4, u_toNat (by omega)]
  omega
section
variable {b : List UInt8}
theorem none_tail (h : rdT b 0 ≠ (b.length : Int)) : read b = (30, zero) := read_none fun m hm => h (by
  have hl := encs_len (may_of hm.1 hm.2.1).head
  have := (rd_frm0 (encs (nums m)) (by omega)).2.2
  rw [← hm.2.2]
  exact this)
theorem none_are {L : List UInt64} (hL : encs L = rdP b 0) (h : areOf L = false) : read b = (30, zero) := read_none fun m hm => by
  have := encs_inj (hL.trans (is_payload hm).2)
  rw [this, areOf_nums (may_of hm.1 hm.2.1)] at h
  cases h
theorem none_made {L : List UInt64} (hL : encs L = rdP b 0) (h : may (made L) = false) : read b = (30, zero) := read_none fun m hm => by
  have := encs_inj (hL.trans (is_payload hm).2)
  rw [this, made_nums (may_of hm.1 hm.2.1), hm.2.1] at h
  cases h
theorem read_made {L : List UInt64} (hL : encs L = rdP b 0) (hE : rdE b 0 = 0) (hT : rdT b 0 = (b.length : Int)) (ha : areOf L = true) (hm : may (made L) = true) : read b = (0, made L) :=
  read_is ⟨ok_made L, hm, by unfold mbytes; rw [nums_made (may_of (ok_made L) hm) ha, hL, frm_back hE hT]⟩
end
end Go.Proofs.YtjninegpaoblfaaGreatDoor.MpPlain

