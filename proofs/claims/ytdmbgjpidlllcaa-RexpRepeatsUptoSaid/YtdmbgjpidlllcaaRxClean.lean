/- The contract of the document's Clean: the pairs of the runes that lie in a set, or don't, in a row of the call's own. Conditions: the set lies in memory, at most 100000 runes, each at most 1114111. -/
import Derived.Test.YtdmbgjpidlllcaaRxHass
import Derived.StillTailTactics
import Derived.Deep.RegionHeldLaw
import Derived.Deep.AppendLies
namespace Go.Proofs.Ytdmbgjpidlllcaa.RxClean
open Go Go.RowKit Words AppN Km Mo_ RxSpec RxEq RxMem RxPeek RxIn RxEsc RxCln RxHas

theorem own_ltA {w : World} {base n size : Nat} {e : TypeId} {v : Value} {xs : List Value} (h : w.ownsRow base e size v n xs) : ∀ k, v.ownBlock = some k → base ≤ k := fun k hk => (h.lt k hk).1
theorem own_monoA {w : World} {base base' n size : Nat} {e : TypeId} {v : Value} {xs : List Value} (h : w.ownsRow base e size v n xs) (hb : base' ≤ base) : w.ownsRow base' e size v n xs :=
  ⟨h.1, h.2.imp id fun ⟨g, cap, cur, h1, h2, h3⟩ => ⟨g, cap, cur, h1, Nat.le_trans hb h2, h3⟩⟩
theorem own_keepA {w w' : World} {base n size : Nat} {e : TypeId} {v : Value} {xs : List Value} (h : w.ownsRow base e size v n xs) (hb : Below w.heap.size w w') : w'.ownsRow base e size v n xs :=
  ⟨h.1, h.2.imp id fun ⟨g, cap, cur, h1, h2, h3, h4⟩ => ⟨g, cap, cur, h1, h2, (hb.block g (Array.getElem?_eq_some_iff.1 h3).1).trans h3, h4⟩⟩
theorem own_sl {w : World} {base n size : Nat} {e : TypeId} {v : Value} {xs : List Value} (h : w.ownsRow base e size v n xs) : ∃ A c, v = .slice A n c := by
  rcases h.2 with ⟨rfl, h2⟩ | ⟨g, cap, cur, rfl, hb, hg, h1, h2, h3, h4⟩
  · exact ⟨none, 0, by rw [h2]⟩
  · exact ⟨_, _, rfl⟩
theorem r32_ones (l : List Nat) : ∀ u ∈ l.map R32, u.oneCell' = true := fun u hu => by obtain ⟨c, _, rfl⟩ := List.mem_map.1 hu; rfl
set_option maxRecDepth 100000 in
theorem info_i32 : ∃ i, Try.prog.info? 21 = some i ∧ i.zero = some (.int .i32 0) ∧ i.size = 1 ∧ i.bytes = 4 := ⟨_, rfl, rfl, rfl, rfl⟩
theorem cutP_take : ∀ (l : List Nat) (j : Nat) (h : 2 * j + 1 < l.length), cutP (l.take (2 * j + 2)) = cutP (l.take (2 * j)) ++ [l[2 * j], l[2 * j + 1] + 1]
  | [], _, h => by simp at h
  | [_], _, h => by simp at h
  | a :: b :: l, 0, _ => by simp [cutP]
  | a :: b :: l, j + 1, h => by
    have ih := cutP_take l j (by simp at h; omega)
    have e1 : (a :: b :: l).take (2 * (j + 1) + 2) = a :: b :: l.take (2 * j + 2) := by rw [show 2 * (j + 1) + 2 = 2 * j + 2 + 1 + 1 by omega, List.take_succ_cons, List.take_succ_cons]
    have e2 : (a :: b :: l).take (2 * (j + 1)) = a :: b :: l.take (2 * j) := by rw [show 2 * (j + 1) = 2 * j + 1 + 1 by omega, List.take_succ_cons, List.take_succ_cons]
    rw [e1, e2, cutP, cutP, ih]
    have e3 : (a :: b :: l)[2 * (j + 1)] = l[2 * j]'(by simp at h; omega) := by simp [show 2 * (j + 1) = 2 * j + 1 + 1 by omega]
    have e4 : (a :: b :: l)[2 * (j + 1) + 1] = l[2 * j + 1]'(by simp at h; omega) := by simp [show 2 * (j + 1) + 1 = 2 * j + 1 + 1 + 1 by omega]
    rw [e3, e4]
    rfl
theorem cutP_end : ∀ (l : List Nat) (j : Nat), l.length ≤ 2 * j + 1 → cutP (l.take (2 * j)) = cutP l
  | [], _, _ => by simp
  | [_], 0, _ => by simp [cutP]
  | [_], j + 1, _ => by rw [List.take_of_length_le (by simp; omega)]
  | a :: b :: l, 0, h => by simp at h
  | a :: b :: l, j + 1, h => by
    rw [show 2 * (j + 1) = 2 * j + 1 + 1 by omega, List.take_succ_cons, List.take_succ_cons, cutP, cutP, cutP_end l j (by simp at h; omega)]
theorem cutP_len : ∀ l : List Nat, (cutP l).length ≤ l.length
  | [] => by simp [cutP]
  | [_] => by simp [cutP]
  | a :: b :: l => by rw [cutP]; have := cutP_len l; simp; omega
def cutTo (set : List Nat) (j : Nat) : List Nat := 0 :: 1114112 :: cutP (set.take (2 * j))
theorem cutTo_len (set : List Nat) (j : Nat) : (cutTo set j).length ≤ set.length + 2 := by
  unfold cutTo
  have h1 := cutP_len (set.take (2 * j))
  have h2 : (set.take (2 * j)).length ≤ set.length := by rw [List.length_take]; omega
  simp only [List.length_cons]; omega
theorem own_cells {w : World} {base b n c : Nat} {e : TypeId} {l : List Nat} (h : w.ownsRow base e 1 (.slice (some ⟨b, 0, none⟩) n c) n (l.map R32)) {k : Nat} (hk : k < l.length) : w.cell? ⟨b, k, none⟩ = some (.int .i32 ((g l k : Nat) : Int)) ∧ w.frozen? ⟨b, k, none⟩ = false := by
  have h1 := h.cells (g := b) rfl k (R32 (g l k)) (by rw [g_at hk]; simp [hk])
  rw [add_off, Nat.zero_add] at h1
  refine ⟨h1, ?_⟩
  rcases h.2 with ⟨h2, _⟩ | ⟨g', cap, cur, e1, h2, h3, _⟩
  · simp at h2
  · injection e1 with e1
    injection e1 with e1
    injection e1 with e1
    subst e1
    exact frozen_of_row _ _ _ _ _ h3
theorem own_swap {w : World} {base b n c : Nat} {e : TypeId} {l : List Nat} {m : Nat} (h : w.ownsRow base e 1 (.slice (some ⟨b, 0, none⟩) n c) n (l.map R32)) : ((w.setCell ⟨b, m + 1, none⟩ (.int .i32 ((g l m : Nat) : Int))).setCell ⟨b, m, none⟩ (.int .i32 ((g l (m + 1) : Nat) : Int))).ownsRow base e 1 (.slice (some ⟨b, 0, none⟩) n c) n ((swap l (m + 1)).map R32) := by
  have h1 := ((h.stored (m + 1) (R32 (g l m))).1.stored m (R32 (g l (m + 1)))).1
  rw [← List.map_set, ← List.map_set] at h1
  exact h1
theorem swap_below {w0 w : World} {B b : Nat} (h : Below B w0 w) (hb : B ≤ b) (j k : Nat) (u v : Value) : Below B w0 ((w.setCell ⟨b, j, none⟩ u).setCell ⟨b, k, none⟩ v) := (h.setCell (show B ≤ (⟨b, j, none⟩ : Addr).block from hb) u).setCell (show B ≤ (⟨b, k, none⟩ : Addr).block from hb) v
theorem cuts_le {set xs : List Nat} (h : Cuts set xs) (hs : ∀ x ∈ set, x ≤ 1114111) {i : Nat} (hi : i < xs.length) : g xs i ≤ 1114112 := by
  have hm := h.perm.mem_iff.1 (List.getElem_mem hi)
  rw [g_at hi]
  unfold cuts at hm
  rcases List.mem_cons.1 hm with e | hm
  · omega
  rcases List.mem_cons.1 hm with e | hm
  · omega
  · exact cutP_le hs _ hm
theorem set_last (l : List Nat) (u : Nat) (h : l ≠ []) : l.set (l.length - 1) u = l.dropLast ++ [u] := by
  obtain ⟨a, x, rfl⟩ : ∃ a x, l = a ++ [x] := ⟨l.dropLast, l.getLast h, (List.dropLast_concat_getLast h).symm⟩
  simp
theorem g_last (l : List Nat) : l.getLastD 0 = g l (l.length - 1) := by
  unfold g
  rw [List.getLastD_eq_getLast?, List.getLast?_eq_getElem?, List.getD_eq_getElem?_getD]
theorem ext_len (L : List Nat) (c e : Nat) : (ext L c e).length ≤ L.length + 2 := by
  unfold ext
  split
  · rw [List.length_append, List.length_dropLast]; simp; omega
  · simp
theorem outTo_len {set xs : List Nat} (not : Bool) (h : Cuts set xs) : ∀ i, i < xs.length → (outTo set not xs i).length ≤ 2 * i
  | 0, _ => by rw [outTo_start not h]; simp
  | i + 1, hi => by
    have ih := outTo_len not h i (by omega)
    rw [outTo_succ not h hi]
    split
    · omega
    · have := ext_len (outTo set not xs i) (g xs i) (g xs (i + 1) - 1)
      omega
/-- While the cuts are gathered. -/
def QRel (W : World) (set : List Nat) (v5 v6 : Value) (wr : World) : Prop :=
  ∃ j : Nat, 2 * j ≤ set.length + 1 ∧ v6 = .int .i64 (2 * (j : Int)) ∧ Hid (wr.ownsRow W.heap.size 21 1 v5 (cutTo set j).length ((cutTo set j).map R32)) ∧ Hid (Below W.heap.size W wr)
/-- While they are put in order. -/
def ORel (W : World) (set : List Nat) (v5 v7 : Value) (n : Nat) (wr : World) : Prop :=
  ∃ (xs : List Nat) (i : Nat), i ≤ n ∧ v7 = .int .i64 (i : Int) ∧ Hid (xs.length = n) ∧ Hid (xs.Perm (cuts set)) ∧ Hid (Sorted xs i) ∧ Hid (wr.ownsRow W.heap.size 21 1 v5 n (xs.map R32)) ∧ Hid (Below W.heap.size W wr)
def IRel (W : World) (set : List Nat) (v5 v8 : Value) (n i : Nat) (wr : World) : Prop :=
  ∃ (xs : List Nat) (k : Nat), k ≤ i ∧ v8 = .int .i64 (k : Int) ∧ Hid (xs.length = n) ∧ Hid (xs.Perm (cuts set)) ∧ Hid (Sink xs k i) ∧ Hid (wr.ownsRow W.heap.size 21 1 v5 n (xs.map R32)) ∧ Hid (Below W.heap.size W wr)
/-- While the pairs are made. -/
def SRel (W : World) (set : List Nat) (not : Bool) (xs : List Nat) (v10 v11 : Value) (wr : World) : Prop :=
  ∃ i : Nat, i + 1 ≤ xs.length ∧ v11 = .int .i64 (i : Int) ∧ Hid (wr.ownsRow W.heap.size 21 1 v10 (outTo set not xs i).length ((outTo set not xs i).map R32)) ∧ Hid (Below W.heap.size W wr)

set_option maxHeartbeats 12800000 in
set_option maxRecDepth 100000 in
theorem clean_any (w : World) (A : Option Addr) (c : Nat) (set : List Nat) (not : Bool) (hr : Rd w w.heap.size A (set.map R32)) (hc : set.length ≤ c) (hm : c ≤ maxLen) (hl : set.length ≤ 100000) (hs : ∀ x ∈ set, x ≤ 1114111) :
    Calls Try.prog 58 #[.slice A set.length c, .bool not] w fun e w' => ∃ v, e = .returned v ∧ w'.ownsRow w.heap.size 21 1 v (clean set not).length ((clean set not).map R32) ∧ Below w.heap.size w w' := by
  unfold maxLen at hm
  have HR := Lib.hid hr
  have HS := Lib.hid hs
  clear hr hs
  obtain ⟨i0, hi, hz0, hz1, hz2⟩ := info_i32
  have HLN := Lib.hid (cutTo_len set)
  go_enter Try.func58, Try.ntmps58
  go_wp2
  go_loopw [5, 6] (fun v5 v6 wr => QRel w set v5 v6 wr) (fun _ v _ => set.length + 2 - (intOf v).toNat)
  case atStart =>
    refine ⟨0, by omega, rfl, Lib.hid ?_, Lib.hid ((Below.refl _ w).alloc (Nat.le_refl _) _)⟩
    exact World.ownsRow_lit (base := w.heap.size) (e := 21) (size := 1) w #[.int .i32 0, .int .i32 1114112] 2 (Nat.le_refl _) (by unfold maxLen; omega) rfl
  case round =>
    obtain ⟨j, hj, rfl, HOW, HBr⟩ := hrel
    obtain ⟨A5, c5, rfl⟩ := own_sl HOW.out
    have hln := HLN.out j
    by_cases hlt : 2 * j + 1 < set.length
    · obtain ⟨g1, off, eA, hg, hcs⟩ := HR.out (by simp; omega)
      subst eA
      have k0 := cell_up HBr.out (p := ⟨g1, off + 2 * j, none⟩) hg (cellR hcs (show 2 * j < set.length by omega))
      have k1 := cell_up HBr.out (p := ⟨g1, off + (2 * j + 1), none⟩) hg (cellR hcs hlt)
      have d1 : decide (2 * (j : Int) + 1 < (set.length : Int)) = true := decide_eq_true (by omega)
      have hy := HS.out _ (List.getElem_mem hlt)
      have HX : Hid (cutTo set (j + 1) = cutTo set j ++ [set[2 * j], set[2 * j + 1] + 1]) := Lib.hid (by unfold cutTo; rw [show 2 * (j + 1) = 2 * j + 2 by omega, cutP_take set j hlt]; rfl)
      have HCW : Hid (w.cell? ⟨g1, off + 2 * j, none⟩ = some (.int .i32 ((set[2 * j] : Nat) : Int)) ∧ w.cell? ⟨g1, off + (2 * j + 1), none⟩ = some (.int .i32 ((set[2 * j + 1] : Nat) : Int))) := Lib.hid ⟨cellR hcs (show 2 * j < set.length by omega), cellR hcs hlt⟩
      clear hcs
      generalize set[2 * j] = x at *
      generalize set[2 * j + 1] = y at *
      have i1 : (0 : Int) ≤ 2 * (j : Int) := by omega
      have i2 : 2 * (j : Int) < (set.length : Int) := by omega
      have i3 : (0 : Int) ≤ 2 * (j : Int) + 1 := by omega
      have i4 : 2 * (j : Int) + 1 < (set.length : Int) := by omega
      have i5 : (2 * (j : Int)).toNat = 2 * j := by omega
      have i6 : (2 * (j : Int) + 1).toNat = 2 * j + 1 := by omega
      have i7 : IntKind.i64.wrap (2 * (j : Int) + 1) = 2 * (j : Int) + 1 := IntWalk.i64_in _ (by omega)
      have i8 : IntKind.i32.wrap ((y : Int) + 1) = (y : Int) + 1 := by rw [IntKind.wrap_i32]; omega
      have HO1 : Hid ((wr.alloc (.cells #[.int .i32 (x : Int), .int .i32 ((y : Int) + 1)] 21)).drew.ownsRow w.heap.size 21 1 (.slice A5 (cutTo set j).length c5) (cutTo set j).length ((cutTo set j).map R32)) := Lib.hid (HOW.out.alloc _).drew
      have HB1 : Hid (Below w.heap.size w (wr.alloc (.cells #[.int .i32 (x : Int), .int .i32 ((y : Int) + 1)] 21)).drew) := Lib.hid (below_drewN (HBr.out.trans (((Below.refl _ wr).alloc (Nat.le_refl _) _).mono HBr.out.size)) 1)
      have hM : Hid (Rd (wr.alloc (.cells #[.int .i32 (x : Int), .int .i32 ((y : Int) + 1)] 21)).drew (wr.heap.size + 1) (some ⟨wr.heap.size, 0, none⟩) [.int .i32 (x : Int), .int .i32 ((y : Int) + 1)]) := Lib.hid (Rd.made wr #[.int .i32 (x : Int), .int .i32 ((y : Int) + 1)] 21)
      have HP0 := Lib.hid (HCW.out.1)
      have HP1 := Lib.hid (HCW.out.2)
      have hsz := HBr.out.size
      have HONE : Hid (∀ u ∈ [Value.int .i32 (x : Int), .int .i32 ((y : Int) + 1)], u.oneCell' = true) := Lib.hid (by intro u hu; simp at hu; rcases hu with rfl | rfl <;> rfl)
      go_wp2
      go_region_held_law (fun w' => w'.cell? ⟨g1, off + 2 * j, none⟩ = some (.int .i32 (x : Int)) ∧ w'.cell? ⟨g1, off + (2 * j + 1), none⟩ = some (.int .i32 (y : Int)))
        (first
          | go_keep
          | exact ⟨cell_up (HB1.out.grown hg3 HB1.out.size (own_ltA HO1.out)) (p := ⟨g1, off + 2 * j, none⟩) hg HP0.out, cell_up (HB1.out.grown hg3 HB1.out.size (own_ltA HO1.out)) (p := ⟨g1, off + (2 * j + 1), none⟩) hg HP1.out⟩)
        ((refine step_append_lies _ (by rfl) _ _ _ (by rfl) w.heap.size 21 i0 _ 1 4 Try.underlying31 hi hz0 hz1 hz2 rfl (by omega) (.slice A5 (cutTo set j).length c5) (cutTo set j).length _ (by rfl) HO1.out ⟨wr.heap.size, 0, none⟩ 2 2 [.int .i32 (x : Int), .int .i32 ((y : Int) + 1)] (by first | rfl | simp only [i8]) rfl (Rd.add_ hM.out) HONE.out (by omega) (by unfold maxLen; omega) (by omega) (by simp; omega) (wr.heap.size + 1) (by simp) ?_; intro g2 cap w3 hown3 hg3 hat hlt3))
      have HO3 : Hid (w3.ownsRow w.heap.size 21 1 (.slice (some ⟨g2, 0, none⟩) ((cutTo set j).length + 2) cap) (cutTo set (j + 1)).length ((cutTo set (j + 1)).map R32)) := Lib.hid (by
        rw [HX.out, List.map_append, List.length_append]
        exact hown3)
      have HB3 : Hid (Below w.heap.size w w3) := Lib.hid (HB1.out.grown hg3 HB1.out.size (own_ltA HO1.out))
      clear hown3 hg3 HO1 HB1 hM HOW HBr k0 k1 HP0 HP1
      go_wp2
      exact ⟨⟨j + 1, by omega, by go_num, HO3, HB3⟩, by simp [intOf]; omega⟩
    · have d1 : decide (2 * (j : Int) + 1 < (set.length : Int)) = false := decide_eq_false (by omega)
      have hx0 : cutTo set j = cuts set := by unfold cutTo cuts; rw [cutP_end set j (by omega)]
      have hn2 : 2 ≤ (cutTo set j).length := by unfold cutTo; simp
      obtain ⟨b, cap, hv, hbb, hblt⟩ := HOW.out.form (show 0 < (cutTo set j).length by omega)
      injection hv with hv1 hv2 hv3
      subst hv1
      have HP : Hid ((cutTo set j).Perm (cuts set)) := Lib.hid (by rw [hx0])
      have HLX : Hid ((cuts set).length = (cutTo set j).length) := Lib.hid (by rw [hx0])
      clear hx0 hv3 hln
      generalize hxs : cutTo set j = x0 at *
      obtain ⟨n, hn⟩ : ∃ n, x0.length = n := ⟨_, rfl⟩
      rw [hn] at hn2 HLX ⊢
      have HO0 : Hid (wr.ownsRow w.heap.size 21 1 (.slice (some ⟨b, 0, none⟩) n c5) n (x0.map R32)) := Lib.hid (by rw [← hn]; exact HOW.out)
      have HN0 : Hid (x0.length = n) := Lib.hid hn
      have hnle : n ≤ 100002 := by rw [← hn, ← hxs]; have := cutTo_len set j; omega
      clear hxs hn HOW HLN hblt
      go_wp2
      go_loopw [7] (fun v7 wr2 => ORel w set (.slice (some ⟨b, 0, none⟩) n c5) v7 n wr2) (fun v _ => n - (intOf v).toNat)
      case atStart => exact ⟨x0, 1, by omega, rfl, HN0, HP, Lib.hid (fun a b h1 h2 => by omega), HO0, HBr⟩
      case round =>
        clear HO0 HN0 HP HBr
        obtain ⟨xs, i, hin, rfl, HN, HP, HSO, HOW, HBr⟩ := hrel
        by_cases hilt : i < n
        · have d2 : decide ((i : Int) < (n : Int)) = true := decide_eq_true (by omega)
          go_wp2
          go_loopw [8] (fun v8 wr3 => IRel w set (.slice (some ⟨b, 0, none⟩) n c5) v8 n i wr3) (fun v _ => (intOf v).toNat)
          case atStart => exact ⟨xs, i, Nat.le_refl _, rfl, HN, HP, Lib.hid (Sink.start HSO.out), HOW, HBr⟩
          case round =>
            clear HN HP HSO HOW HBr
            obtain ⟨ys, k, hki, rfl, HN, HP, HSI, HOW, HBr⟩ := hrel
            have HEND : k = 0 ∨ g ys (k - 1) ≤ g ys k → ∀ wz, Hid (wz.ownsRow w.heap.size 21 1 (.slice (some ⟨b, 0, none⟩) n c5) n (ys.map R32) → Below w.heap.size w wz →
                ORel w set (.slice (some ⟨b, 0, none⟩) n c5) (.int .i64 ((i : Int) + 1)) n wz ∧ n - (intOf (.int .i64 ((i : Int) + 1))).toNat < n - (intOf (.int .i64 (i : Int))).toNat) := fun h wz => Lib.hid fun ho hb =>
              ⟨⟨ys, i + 1, by omega, by go_num, HN, HP, Lib.hid (HSI.out.done h), Lib.hid ho, Lib.hid hb⟩, by simp [intOf]; omega⟩
            rcases k with _ | m
            · have hz : ((0 : Nat) : Int) = 0 := rfl
              have HE := HEND (.inl rfl)
              clear HEND
              rw [hz]
              go_wp2
              go_quiet (fail)
              go_wp2
              exact (HE _).out HOW.out (below_drewN HBr.out _)
            · have ec : ((m + 1 : Nat) : Int) = (m : Int) + 1 := by omega
              have hlen := HN.out
              have hcA := own_cells HOW.out (show m < ys.length by omega)
              have hcB := own_cells HOW.out (show m + 1 < ys.length by omega)
              obtain ⟨kA, fA⟩ := hcA
              obtain ⟨kB, fB⟩ := hcB
              rw [ec]
              by_cases hgt : g ys (m + 1) < g ys m
              · have HSW : Hid (Sink (swap ys (m + 1)) m i) := Lib.hid (HSI.out.swap (by omega) (by omega) hki hgt)
                have HPW : Hid ((swap ys (m + 1)).Perm (cuts set)) := Lib.hid ((swap_perm (by omega) (by omega)).trans HP.out)
                have HNW : Hid ((swap ys (m + 1)).length = n) := Lib.hid (by rw [swap_len]; exact HN.out)
                have HOS : ∀ nq, Hid ((((wr.drewN nq).setCell ⟨b, m + 1, none⟩ (.int .i32 ((g ys m : Nat) : Int))).setCell ⟨b, m, none⟩ (.int .i32 ((g ys (m + 1) : Nat) : Int))).ownsRow w.heap.size 21 1 (.slice (some ⟨b, 0, none⟩) n c5) n ((swap ys (m + 1)).map R32)) := fun nq => Lib.hid (own_swap (show (wr.drewN nq).ownsRow w.heap.size 21 1 (.slice (some ⟨b, 0, none⟩) n c5) n (ys.map R32) from HOW.out))
                have HBS : ∀ nq, Hid (Below w.heap.size w (((wr.drewN nq).setCell ⟨b, m + 1, none⟩ (.int .i32 ((g ys m : Nat) : Int))).setCell ⟨b, m, none⟩ (.int .i32 ((g ys (m + 1) : Nat) : Int)))) := fun nq => Lib.hid (swap_below (below_drewN HBr.out nq) hbb _ _ _ _)
                have HKA : ∀ nq u, Hid (((wr.drewN nq).setCell ⟨b, m + 1, none⟩ u).frozen? ⟨b, m, none⟩ = false) := fun nq u => Lib.hid (by
                  have h := ((show (wr.drewN nq).ownsRow w.heap.size 21 1 (.slice (some ⟨b, 0, none⟩) n c5) n (ys.map R32) from HOW.out).stored (m + 1) u).1
                  have h2 := h.1
                  rcases h.2 with ⟨h3, _⟩ | ⟨g', cap', cur, e1, h3, h4, _⟩
                  · simp at h3
                  · injection e1 with e1
                    injection e1 with e1
                    injection e1 with e1
                    subst e1
                    exact frozen_of_row _ _ _ _ _ h4)
                have d3 : decide (((g ys (m + 1) : Nat) : Int) < ((g ys m : Nat) : Int)) = true := decide_eq_true (by omega)
                have d3n : decide (g ys (m + 1) < g ys m) = true := decide_eq_true hgt
                clear HEND HSI HP HN HOW HBr hgt ec
                generalize g ys (m + 1) = y at *
                generalize g ys m = x at *
                go_wp2
                go_quiet (fail)
                rename_i nq
                have HOS := HOS nq
                have HBS := HBS nq
                have fC := (HKA nq (.int .i32 (x : Int))).out
                have kA' : (wr.drewN nq).cell? ⟨b, m, none⟩ = some (.int .i32 (x : Int)) := kA
                have kB' : (wr.drewN nq).cell? ⟨b, m + 1, none⟩ = some (.int .i32 (y : Int)) := kB
                have fA' : (wr.drewN nq).frozen? ⟨b, m, none⟩ = false := fA
                have fB' : (wr.drewN nq).frozen? ⟨b, m + 1, none⟩ = false := fB
                clear kA kB fA fB HKA
                generalize wr.drewN nq = wq at *
                go_wp2
                exact ⟨⟨swap ys (m + 1), m, by omega, by go_num, HNW, HPW, HSW, HOS, HBS⟩, by simp [intOf]⟩
              · have HE := HEND (.inr (by simp only [Nat.add_sub_cancel]; omega))
                have d3 : decide (((g ys (m + 1) : Nat) : Int) < ((g ys m : Nat) : Int)) = false := decide_eq_false (by omega)
                have d3n : decide (g ys (m + 1) < g ys m) = false := decide_eq_false hgt
                clear HEND HSI HP HN hgt ec
                generalize g ys (m + 1) = y at *
                generalize g ys m = x at *
                go_wp2
                go_quiet (fail)
                go_wp2
                exact (HE _).out HOW.out (below_drewN HBr.out _)
        · have d2 : decide ((i : Int) < (n : Int)) = false := decide_eq_false (by omega)
          have HCT : Hid (Cuts set xs) := Lib.hid ⟨HP.out, fun a b h1 h2 => HSO.out a b h1 (by have := HN.out; omega)⟩
          have hblt : b < wr.heap.size := (HOW.out.lt b rfl).2
          have HO0 : Hid (∀ m, m < n → wr.cell? ⟨b, m, none⟩ = some (.int .i32 ((g xs m : Nat) : Int))) := Lib.hid fun m hm => (own_cells HOW.out (by have := HN.out; omega)).1
          have HR4 := Lib.hid ((HR.out.below HBr.out).more HBr.out.size)
          have HB4 := HBr
          have HSTART := Lib.hid (outTo_start not HCT.out)
          have HFIN := Lib.hid (outTo_end not HCT.out HS.out)
          clear HP HSO HOW HBr HR
          generalize wr = W4 at *
          go_wp2
          go_loopw [10, 11] (fun v10 v11 wr2 => SRel W4 set not xs v10 v11 wr2) (fun _ v _ => n - (intOf v).toNat)
          case atStart => exact ⟨0, by have := HN.out; omega, rfl, Lib.hid (by rw [HSTART.out]; exact World.ownsRow_nil _ _ _ _), Lib.hid (Below.refl _ _)⟩
          case round =>
            obtain ⟨i, hin, rfl, HOT, HB5⟩ := hrel
            rw [HN.out] at hin
            obtain ⟨A9, c9, rfl⟩ := own_sl HOT.out
            by_cases hilt : i + 1 < n
            · have d5 : decide ((i : Int) + 1 < (n : Int)) = true := decide_eq_true (by omega)
              have hxl := HN.out
              have q0 := cell_up HB5.out (p := ⟨b, i, none⟩) hblt (HO0.out i (by omega))
              have q1 := cell_up HB5.out (p := ⟨b, i + 1, none⟩) hblt (HO0.out (i + 1) hilt)
              have HPW : Hid (W4.cell? ⟨b, i, none⟩ = some (.int .i32 ((g xs i : Nat) : Int)) ∧ W4.cell? ⟨b, i + 1, none⟩ = some (.int .i32 ((g xs (i + 1) : Nat) : Int))) := Lib.hid ⟨HO0.out i (by omega), HO0.out (i + 1) hilt⟩
              have hd := cuts_le HCT.out HS.out (i := i + 1) (by omega)
              have hcd := HCT.out.sorted i (i + 1) (by omega) (by omega)
              have HSU := Lib.hid (outTo_succ not HCT.out (i := i) (by omega))
              have HLB := Lib.hid (outTo_len (set := set) not HCT.out i (by omega))
              have ND : ∀ nq, Hid (Calls Try.prog 13 #[.slice A set.length c, .int .i32 ((g xs i : Nat) : Int)] (wr.drewN nq) fun e w' => e = .returned (.bool (has set (g xs i))) ∧ w' = wr.drewN nq) := fun nq => Lib.hid (by
                have h := has_any (wr.drewN nq) A c set ((g xs i : Nat) : Int) (((HR4.out.below HB5.out).more HB5.out.size).below (below_drewN (Below.refl _ _) nq)) hc (by unfold maxLen; omega) (by omega)
                rw [← has_hasZ] at h
                exact h)
              have HSK : Hid (outTo set not xs (i + 1) = outTo set not xs i → ∀ nq, SRel W4 set not xs (.slice A9 (outTo set not xs i).length c9) (.int .i64 ((i : Int) + 1)) (wr.drewN nq) ∧ n - (intOf (.int .i64 ((i : Int) + 1))).toNat < n - (intOf (.int .i64 (i : Int))).toNat) := Lib.hid fun h nq =>
                ⟨⟨i + 1, by omega, by go_num, by rw [h]; exact HOT, Lib.hid (below_drewN HB5.out nq)⟩, by simp [intOf]; omega⟩
              generalize hL : outTo set not xs i = L at *
              generalize g xs (i + 1) = d at *
              generalize hx : g xs i = x at *
              generalize has set x = hb at *
              clear hx hL
              by_cases e1 : x = d
              · have j1 : ((x : Int) == (d : Int)) = true := by simp; omega
                have HE := Lib.hid (HSK.out (by rw [HSU.out, if_pos (.inl e1)]))
                clear HSK HSU HOT e1
                go_wp2
                go_quiet (fail)
                go_wp2
                exact HE.out _
              have j1 : ((x : Int) == (d : Int)) = false := by simp; omega
              by_cases e2 : hb = not
              · subst e2
                have HE := Lib.hid (HSK.out (by rw [HSU.out, if_pos (.inr rfl)]))
                have j2 : (hb == hb) = true := by simp
                clear HSK HSU HOT e1
                go_wp2
                go_quiet (first | (go_at_call 13; refine Calls.quiet_of_same (ND _).out))
                go_wp2
                exact HE.out _
              · have j2 : (hb == not) = false := by simpa using e2
                have HE : Hid (outTo set not xs (i + 1) = ext L x (d - 1)) := Lib.hid (by rw [HSU.out, if_neg (by rintro (h | h) <;> contradiction)])
                clear HSK HSU
                go_wp2
                go_quiet (first | (go_at_call 13; refine Calls.quiet_of_same (ND _).out))
                rename_i nq
                have HO9 : Hid ((wr.drewN nq).ownsRow W4.heap.size 21 1 (.slice A9 L.length c9) L.length (L.map R32)) := HOT
                have HB9 := Lib.hid (below_drewN HB5.out nq)
                have q0' : (wr.drewN nq).cell? ⟨b, i, none⟩ = some (.int .i32 (x : Int)) := q0
                have q1' : (wr.drewN nq).cell? ⟨b, i + 1, none⟩ = some (.int .i32 (d : Int)) := q1
                clear q0 q1 HOT HB5 ND HR4 HSTART HFIN HO0
                generalize wr.drewN nq = wq at *
                have hdx : IntKind.i32.wrap ((d : Int) - 1) = (d : Int) - 1 := by rw [IntKind.wrap_i32]; omega
                have hxx : IntKind.i32.wrap ((x : Int) - 1) = (x : Int) - 1 := by rw [IntKind.wrap_i32]; omega
                have hd1 : ((d - 1 : Nat) : Int) = (d : Int) - 1 := by omega
                have HEND : Hid (∀ v' L' wz, outTo set not xs (i + 1) = L' → wz.ownsRow W4.heap.size 21 1 v' L'.length (L'.map R32) → Below W4.heap.size W4 wz →
                    SRel W4 set not xs v' (.int .i64 ((i : Int) + 1)) wz ∧ n - (intOf (.int .i64 ((i : Int) + 1))).toNat < n - (intOf (.int .i64 (i : Int))).toNat) := Lib.hid fun v' L' wz h ho hb =>
                  ⟨⟨i + 1, by omega, by go_num, by rw [h]; exact Lib.hid ho, Lib.hid hb⟩, by simp [intOf]; omega⟩
                by_cases hl0 : 0 < L.length
                · obtain ⟨m, hm⟩ : ∃ m, L.length = m + 1 := ⟨L.length - 1, by omega⟩
                  obtain ⟨g5, cap5, hv5, hb5, _⟩ := HO9.out.form hl0
                  injection hv5 with hv5 _ hv6
                  subst hv5
                  subst hv6
                  obtain ⟨r0, f0⟩ := own_cells HO9.out (show m < L.length by omega)
                  have hlast : L.getLastD 0 = g L m := by rw [g_last, hm]; rfl
                  have HLN0 : Hid (L ≠ []) := Lib.hid (fun e => by rw [e] at hm; cases hm)
                  have HO9 : Hid (wq.ownsRow W4.heap.size 21 1 (Value.slice (some ⟨g5, 0, none⟩) (m + 1) c9) (m + 1) (L.map R32)) := Lib.hid (by have h := HO9.out; rw [hm] at h; exact h)
                  have HLM : Hid (L.length = m + 1) := Lib.hid hm
                  have hLn : m + 1 ≤ 1000000 := by have := HLB.out; omega
                  rw [hm]
                  by_cases e3 : g L m + 1 = x
                  · have HX : Hid (outTo set not xs (i + 1) = L.set m (d - 1)) := Lib.hid (by
                      rw [HE.out]; unfold ext
                      rw [if_pos ⟨HLN0.out, by rw [hlast]; exact e3⟩, ← set_last L (d - 1) HLN0.out, HLM.out]; rfl)
                    have j3 : (((g L m : Nat) : Int) == (x : Int) - 1) = true := by simp; omega
                    have HST : ∀ nq, Hid (((wq.drewN nq).setCell ⟨g5, m, none⟩ (.int .i32 ((d : Int) - 1))).ownsRow W4.heap.size 21 1 (Value.slice (some ⟨g5, 0, none⟩) (m + 1) c9) (L.set m (d - 1)).length ((L.set m (d - 1)).map R32)) := fun nq => Lib.hid (by
                      have h := ((show (wq.drewN nq).ownsRow W4.heap.size 21 1 (Value.slice (some ⟨g5, 0, none⟩) (m + 1) c9) (m + 1) (L.map R32) from HO9.out).stored m (.int .i32 ((d : Int) - 1))).1
                      rw [List.map_set, List.length_set, HLM.out]
                      simp only [R32, hd1]
                      exact h)
                    have HSB : ∀ nq, Hid (Below W4.heap.size W4 ((wq.drewN nq).setCell ⟨g5, m, none⟩ (.int .i32 ((d : Int) - 1)))) := fun nq => Lib.hid ((below_drewN HB9.out nq).setCell (show W4.heap.size ≤ (⟨g5, m, none⟩ : Addr).block from hb5) _)
                    clear hm hlast e3 HE hl0
                    generalize g L m = z at *
                    go_wp2
                    go_quiet (fail)
                    skip
                    have HST := HST nq
                    have HSB := HSB nq
                    have p1 : (wq.drewN nq).cell? ⟨b, i + 1, none⟩ = some (.int .i32 (d : Int)) := q1'
                    have r0' : (wq.drewN nq).cell? ⟨g5, m, none⟩ = some (.int .i32 (z : Int)) := r0
                    have f0' : (wq.drewN nq).frozen? ⟨g5, m, none⟩ = false := f0
                    clear HO9 HB9 q0' q1' r0 f0
                    generalize wq.drewN nq = wp at *
                    go_wp2
                    exact HEND.out _ _ _ HX.out HST.out HSB.out
                  · have HX : Hid (outTo set not xs (i + 1) = L ++ [x, d - 1]) := Lib.hid (by
                      rw [HE.out]; unfold ext
                      rw [if_neg (fun h => e3 (by rw [← hlast]; exact h.2))])
                    have j3 : (((g L m : Nat) : Int) == (x : Int) - 1) = false := by simp; omega
                    clear hm hlast e3 HE hl0
                    generalize g L m = z at *
                    go_wp2
                    go_quiet (fail)
                    skip
                    have HOP : Hid ((wq.drewN nq).ownsRow W4.heap.size 21 1 (Value.slice (some ⟨g5, 0, none⟩) (m + 1) c9) (m + 1) (L.map R32)) := HO9
                    have HBP := Lib.hid (below_drewN HB9.out nq)
                    have p0 : (wq.drewN nq).cell? ⟨b, i, none⟩ = some (.int .i32 (x : Int)) := q0'
                    have p1 : (wq.drewN nq).cell? ⟨b, i + 1, none⟩ = some (.int .i32 (d : Int)) := q1'
                    clear HO9 HB9 q0' q1' r0 f0
                    generalize wq.drewN nq = wp at *
                    have b1 : (0 : Int) ≤ (i : Int) + 1 := by omega
                    have b2 : (i : Int) + 1 < (n : Int) := by omega
                    have b3 : i < n := by omega
                    have i8 : IntKind.i64.wrap ((i : Int) + 1) = (i : Int) + 1 := IntWalk.i64_in _ (by omega)
                    have HONE : Hid (∀ u ∈ [Value.int .i32 (x : Int), .int .i32 ((d : Int) - 1)], u.oneCell' = true) := Lib.hid (by intro u hu; simp at hu; rcases hu with rfl | rfl <;> rfl)
                    have HO1 : Hid ((wp.alloc (.cells #[.int .i32 (x : Int), .int .i32 ((d : Int) - 1)] 21)).drew.ownsRow W4.heap.size 21 1 (Value.slice (some ⟨g5, 0, none⟩) (m + 1) c9) (m + 1) (L.map R32)) := Lib.hid (HOP.out.alloc _).drew
                    have HB1 : Hid (Below W4.heap.size W4 (wp.alloc (.cells #[.int .i32 (x : Int), .int .i32 ((d : Int) - 1)] 21)).drew) := Lib.hid (below_drewN (HBP.out.trans (((Below.refl _ wp).alloc (Nat.le_refl _) _).mono HBP.out.size)) 1)
                    have hM : Hid (Rd (wp.alloc (.cells #[.int .i32 (x : Int), .int .i32 ((d : Int) - 1)] 21)).drew (wp.heap.size + 1) (some ⟨wp.heap.size, 0, none⟩) [.int .i32 (x : Int), .int .i32 ((d : Int) - 1)]) := Lib.hid (Rd.made wp #[.int .i32 (x : Int), .int .i32 ((d : Int) - 1)] 21)
                    have hsz := HBP.out.size
                    go_wp2
                    go_region_held_law (fun w' => w'.cell? ⟨b, i, none⟩ = some (.int .i32 (x : Int)) ∧ w'.cell? ⟨b, i + 1, none⟩ = some (.int .i32 (d : Int)))
                      (first
                        | go_keep
                        | exact ⟨cell_up (HB1.out.grown hg3 HB1.out.size (own_ltA HO1.out)) (p := ⟨b, i, none⟩) hblt HPW.out.1, cell_up (HB1.out.grown hg3 HB1.out.size (own_ltA HO1.out)) (p := ⟨b, i + 1, none⟩) hblt HPW.out.2⟩)
                      ((refine step_append_lies _ (by rfl) _ _ _ (by rfl) W4.heap.size 21 i0 _ 1 4 Try.underlying31 hi hz0 hz1 hz2 rfl (by omega) (Value.slice (some ⟨g5, 0, none⟩) (m + 1) c9) (m + 1) _ (by rfl) HO1.out ⟨wp.heap.size, 0, none⟩ 2 2 [.int .i32 (x : Int), .int .i32 ((d : Int) - 1)] (by first | rfl | simp only [hdx]) rfl (Rd.add_ hM.out) HONE.out (by omega) (by unfold maxLen; omega) (by omega) (by simp; omega) (wp.heap.size + 1) (by simp) ?_; intro g2 cap w3 hown3 hg3 hat hlt3))
                    have HO3 : Hid (w3.ownsRow W4.heap.size 21 1 (.slice (some ⟨g2, 0, none⟩) (m + 1 + 2) cap) (L ++ [x, d - 1]).length ((L ++ [x, d - 1]).map R32)) := Lib.hid (by
                      have h := hown3
                      rw [List.map_append, List.length_append]
                      simp only [List.map_cons, List.map_nil, R32, hd1, List.length_cons, List.length_nil]
                      rw [HLM.out]
                      exact h)
                    have HB3 : Hid (Below W4.heap.size W4 w3) := Lib.hid (HB1.out.grown hg3 HB1.out.size (own_ltA HO1.out))
                    clear hown3 hg3 HO1 HB1 hM HOP HBP
                    go_wp2
                    exact HEND.out _ _ _ HX.out HO3.out HB3.out
                · have hL0 : L = [] := List.eq_nil_of_length_eq_zero (by omega)
                  subst hL0
                  have HX : Hid (outTo set not xs (i + 1) = [] ++ [x, d - 1]) := Lib.hid (by rw [HE.out]; rfl)
                  have HO9 : Hid (wq.ownsRow W4.heap.size 21 1 (Value.slice A9 0 c9) 0 (([] : List Nat).map R32)) := HO9
                  rw [show ([] : List Nat).length = 0 from rfl]
                  clear HE hl0
                  go_wp2
                  go_quiet (fail)
                  skip
                  have HOP : Hid ((wq.drewN nq).ownsRow W4.heap.size 21 1 (Value.slice A9 0 c9) (0) (([] : List Nat).map R32)) := HO9
                  have HBP := Lib.hid (below_drewN HB9.out nq)
                  have p0 : (wq.drewN nq).cell? ⟨b, i, none⟩ = some (.int .i32 (x : Int)) := q0'
                  have p1 : (wq.drewN nq).cell? ⟨b, i + 1, none⟩ = some (.int .i32 (d : Int)) := q1'
                  clear HO9 HB9 q0' q1'
                  generalize wq.drewN nq = wp at *
                  have b1 : (0 : Int) ≤ (i : Int) + 1 := by omega
                  have b2 : (i : Int) + 1 < (n : Int) := by omega
                  have b3 : i < n := by omega
                  have i8 : IntKind.i64.wrap ((i : Int) + 1) = (i : Int) + 1 := IntWalk.i64_in _ (by omega)
                  have HONE : Hid (∀ u ∈ [Value.int .i32 (x : Int), .int .i32 ((d : Int) - 1)], u.oneCell' = true) := Lib.hid (by intro u hu; simp at hu; rcases hu with rfl | rfl <;> rfl)
                  have HO1 : Hid ((wp.alloc (.cells #[.int .i32 (x : Int), .int .i32 ((d : Int) - 1)] 21)).drew.ownsRow W4.heap.size 21 1 (Value.slice A9 0 c9) (0) (([] : List Nat).map R32)) := Lib.hid (HOP.out.alloc _).drew
                  have HB1 : Hid (Below W4.heap.size W4 (wp.alloc (.cells #[.int .i32 (x : Int), .int .i32 ((d : Int) - 1)] 21)).drew) := Lib.hid (below_drewN (HBP.out.trans (((Below.refl _ wp).alloc (Nat.le_refl _) _).mono HBP.out.size)) 1)
                  have hM : Hid (Rd (wp.alloc (.cells #[.int .i32 (x : Int), .int .i32 ((d : Int) - 1)] 21)).drew (wp.heap.size + 1) (some ⟨wp.heap.size, 0, none⟩) [.int .i32 (x : Int), .int .i32 ((d : Int) - 1)]) := Lib.hid (Rd.made wp #[.int .i32 (x : Int), .int .i32 ((d : Int) - 1)] 21)
                  have hsz := HBP.out.size
                  go_wp2
                  go_region_held_law (fun w' => w'.cell? ⟨b, i, none⟩ = some (.int .i32 (x : Int)) ∧ w'.cell? ⟨b, i + 1, none⟩ = some (.int .i32 (d : Int)))
                    (first
                      | go_keep
                      | exact ⟨cell_up (HB1.out.grown hg3 HB1.out.size (own_ltA HO1.out)) (p := ⟨b, i, none⟩) hblt HPW.out.1, cell_up (HB1.out.grown hg3 HB1.out.size (own_ltA HO1.out)) (p := ⟨b, i + 1, none⟩) hblt HPW.out.2⟩)
                    ((refine step_append_lies _ (by rfl) _ _ _ (by rfl) W4.heap.size 21 i0 _ 1 4 Try.underlying31 hi hz0 hz1 hz2 rfl (by omega) (Value.slice A9 0 c9) (0) _ (by rfl) HO1.out ⟨wp.heap.size, 0, none⟩ 2 2 [.int .i32 (x : Int), .int .i32 ((d : Int) - 1)] (by first | rfl | simp only [hdx]) rfl (Rd.add_ hM.out) HONE.out (by omega) (by unfold maxLen; omega) (by omega) (by simp; omega) (wp.heap.size + 1) (by simp) ?_; intro g2 cap w3 hown3 hg3 hat hlt3))
                  have HO3 : Hid (w3.ownsRow W4.heap.size 21 1 (.slice (some ⟨g2, 0, none⟩) (0 + 2) cap) (([] : List Nat) ++ [x, d - 1]).length ((([] : List Nat) ++ [x, d - 1]).map R32)) := Lib.hid (by
                    have h := hown3
                    rw [List.map_append, List.length_append]
                    simp only [List.map_cons, List.map_nil, R32, hd1, List.length_cons, List.length_nil]
                    skip
                    exact h)
                  have HB3 : Hid (Below W4.heap.size W4 w3) := Lib.hid (HB1.out.grown hg3 HB1.out.size (own_ltA HO1.out))
                  clear hown3 hg3 HO1 HB1 hM HOP HBP
                  go_wp2
                  exact HEND.out _ _ _ HX.out HO3.out HB3.out
            · have d5 : decide ((i : Int) + 1 < (n : Int)) = false := decide_eq_false (by omega)
              have HE : Hid (outTo set not xs i = clean set not) := Lib.hid (by rw [← HFIN.out, HN.out, show i = n - 1 by omega])
              rw [HE.out] at HOT ⊢
              go_wp2
              go_ret
              have HF1 := own_monoA HOT.out HB4.out.size
              have HF2 := HB4.out.trans (HB5.out.mono HB4.out.size)
              exact ⟨.slice A9 (clean set not).length c9, rfl, HF1, HF2⟩
end Go.Proofs.Ytdmbgjpidlllcaa.RxClean
