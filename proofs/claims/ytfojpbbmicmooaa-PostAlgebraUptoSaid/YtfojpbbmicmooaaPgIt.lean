/- post.Open of a list's bytes, Len, Next, Seek of its iterator. Conditions: those of the statements. -/
import Derived.Test.YtfojpbbmicmooaaPgRb
import Derived.Test.YtfojpbbmicmooaaPgBs
import Derived.Test.YtfojpbbmicmooaaPsLaw
namespace Go.Proofs.Ytfojpbbmicmooaa.PgIt
open Go Go.RowKit Words PkSpec PsSpec PgPlain PsAwake PgRe PgRb PgBs Km PsLaw

/-- An iterator in block p, of number o with its numbers: it stands at place a of the list l. -/
structure IterR (w : World) (K : Nat → Nat) (o p : Nat) (l : List UInt64) (a : Nat) : Prop where
  le : a ≤ l.length
  small : l.length ≤ 65536
  rises : Rises l
  kind : K p = o
  box : ∃ A c, w.heap[p]? = some (.cells #[.int .i64 (l.length : Int), .slice A (l.length - a) c] 47 (0, 0)) ∧ l.length - a ≤ c ∧ c ≤ maxLen ∧
    (0 < l.length - a → ∃ b off, A = some ⟨b, off, none⟩ ∧ b < w.heap.size ∧ K b = o ∧ b ≠ p ∧ ∀ j u, ((l.drop a).map B64)[j]? = some u → w.cell? ⟨b, off + j, none⟩ = some u)
theorem IterR.keep {w w' : World} {K K' : Nat → Nat} {o p : Nat} {l : List UInt64} {a : Nat} (h : IterR w K o p l a) (hs : w.heap.size ≤ w'.heap.size) (hk : ∀ i, i < w.heap.size → K i = o → w'.heap[i]? = w.heap[i]?) (hK : ∀ i, i < w.heap.size → K' i = K i) : IterR w' K' o p l a := by
  obtain ⟨A, c, hb, h1, h2, h3⟩ := h.box
  have hp : p < w.heap.size := (Array.getElem?_eq_some_iff.1 hb).1
  refine ⟨h.le, h.small, h.rises, (hK p hp).trans h.kind, A, c, (hk p hp h.kind).trans hb, h1, h2, fun h0 => ?_⟩
  obtain ⟨b, off, e, hbl, hkb, hne, hc⟩ := h3 h0
  exact ⟨b, off, e, by omega, (hK b hbl).trans hkb, hne, fun j u hu => by rw [World.cell?_of_block (a := ⟨b, off + j, none⟩) (hk b hbl hkb)]; exact hc j u hu⟩

theorem opens_any (w : World) (K : Nat → Nat) (o : Nat) (l : List UInt64) (A : Option Addr) (c : Nat) (hl : l.length ≤ 65536) (hri : Rising l) (hr : Rd w w.heap.size A ((pb l).map B8)) (hc : (pb l).length ≤ c) (hm : c ≤ maxLen) :
    Calls Try.prog 8 #[.slice A (pb l).length c] w (OPost IterR w K o l) := by
  have hpb : pb l = (Lib.uvarint (nb l) ++ heads l (nb l)) ++ packs l (nb l) := pb_eq l
  have hlen : (pb l).length ≤ 700100 + 50000 := by
    have h1 := heads_le l (nb l)
    have h2 := packs_le l (nb l)
    have h3 : (Lib.uvarint (nb l)).length ≤ 10 := Lib.uvarint_length64 (by unfold nb; omega)
    have h4 : nb l ≤ 2048 := by unfold nb; omega
    rw [hpb, List.length_append, List.length_append]
    omega
  have c1 := Lib.hid (ents_any l (packs l (nb l)) A c w (pb l) hpb hl hr hc hm)
  have c2 : Hid (∀ (g : Nat) (w' : World), Below w.heap.size w w' → g < w'.heap.size → Ents w' g l (nb l) (nb l) → Calls Try.prog 19 #[.slice A (pb l).length c, .int .i64 (((Lib.uvarint (nb l) ++ heads l (nb l)).length : Nat) : Int), .slice (some ⟨g, 0, none⟩) (nb l) (nb l)] w' fun e w2 =>
      ∃ v, e = .returned (.tuple #[v, .int .i64 ((pb l).length : Int), .bool true]) ∧ w2.ownsRow w'.heap.size 31 1 v l.length (l.map B64) ∧ Below w'.heap.size w' w2) := fun g w' hB hg hE =>
    blocks_any l (Lib.uvarint (nb l) ++ heads l (nb l)) A c g w' (pb l) hpb hl hri ((hr.below hB).more hB.size) hc hm (by omega) hg hE
  have HRI : Hid (Rises l) := rises_of hri
  clear hr hri hpb
  generalize (Lib.uvarint (nb l) ++ heads l (nb l)).length = q at *
  generalize (pb l).length = n at *
  generalize nb l = M at *
  go_enter Try.func8, Try.ntmps8
  go_wp2_with fail
  refine c1.out.mono ?_
  rintro e w1 ⟨g, rfl, _, hg, hE, hb1⟩
  have HC := Lib.hid (c2.out g w1 hb1 hg hE)
  have HB1 : Hid (Below w.heap.size w w1) := hb1
  clear c1 c2 hE hb1
  go_wp2_with fail
  refine HC.out.mono ?_
  rintro e w2 ⟨v, rfl, ho, hb2⟩
  have HO : Hid (w2.ownsRow w1.heap.size 31 1 v l.length (l.map B64)) := ho
  have HB2 : Hid (Below w.heap.size w w2) := HB1.out.trans (hb2.mono HB1.out.size)
  have hs12 := hb2.size
  have hs01 := HB1.out.size
  clear HC ho hb2
  obtain ⟨A3, c3, rfl, hc3, hm3, hrd3, hA3⟩ := own_rd HO.out
  go_wp2_with fail
  go_ret2
  refine ⟨w2.heap.size, kmark K w.heap.size o, rfl, ⟨Nat.zero_le _, hl, HRI.out, kmark_new (by omega), A3, c3, ?_, by simpa using hc3, hm3, fun h0 => ?_⟩, HB2.out.alloc HB2.out.size _, fun i hi => kmark_old hi⟩
  · show (w2.heap.push _)[w2.heap.size]? = some _
    rw [Array.getElem?_push_size]
    simp
  · obtain ⟨b, off, e, hbl, hce⟩ := hrd3 (by rw [List.length_map]; omega)
    have h5 := (hA3 b off e).1
    refine ⟨b, off, e, by simp; omega, kmark_new (by omega), by omega, fun j u hu => ?_⟩
    rw [List.drop_zero] at hu
    rw [World.cell?_alloc_lt w2 _ ⟨b, off + j, none⟩ hbl]
    exact hce j u hu

/-! ### Steps -/
theorem IterR.drew {w : World} {K : Nat → Nat} {o p : Nat} {l : List UInt64} {a : Nat} (h : IterR w K o p l a) (q : Nat) : IterR (w.drewN q) K o p l a := ⟨h.le, h.small, h.rises, h.kind, h.box⟩
/-- The iterator's numbers cut. -/
theorem IterR.move {w : World} {K : Nat → Nat} {o p : Nat} {l : List UInt64} {a : Nat} (h : IterR w K o p l a) {A : Option Addr} {c : Nat} (hb : w.heap[p]? = some (.cells #[.int .i64 (l.length : Int), .slice A (l.length - a) c] 47 (0, 0))) (hc : l.length - a ≤ c) (hm : c ≤ maxLen)
    (hA : 0 < l.length - a → ∃ b off, A = some ⟨b, off, none⟩ ∧ b < w.heap.size ∧ K b = o ∧ b ≠ p ∧ ∀ j u, ((l.drop a).map B64)[j]? = some u → w.cell? ⟨b, off + j, none⟩ = some u)
    {s k : Nat} (hs : s = a + k) (hsl : s ≤ l.length) {A' : Option Addr} (hA' : 0 < l.length - s → A' = A.map (·.add k)) {n' : Nat} (hn' : n' = l.length - s) :
    IterR (w.setCell ⟨p, 1, none⟩ (.slice A' n' (c - k))) K o p l s ∧ Mv K K (fun x => x = o) w (w.setCell ⟨p, 1, none⟩ (.slice A' n' (c - k))) := by
  subst hn'
  have hp : p < w.heap.size := (Array.getElem?_eq_some_iff.1 hb).1
  have g1 : l.length - s ≤ c - k := by clear hA hA'; omega
  have g2 : c - k ≤ maxLen := by clear hA hA'; omega
  refine ⟨⟨hsl, h.small, h.rises, h.kind, A', c - k, ?_, g1, g2, fun h0 => ?_⟩, Mv.poke (a := ⟨p, 1, none⟩) _ h.kind⟩
  · rw [Go.Sort.setCell_eq]
    simp [Go.Sort.mapBlock, Array.getElem?_modify, hb, Go.Sort.onCells]
  · have h00 : 0 < l.length - a := by clear hA hA'; omega
    obtain ⟨b, off, e, hbl, hkb, hne, hce⟩ := hA h00
    clear hA
    subst e
    refine ⟨b, off + k, by rw [hA' h0]; simp [add_off], by simpa using hbl, hkb, hne, fun j u hu => ?_⟩
    rw [World.cell?_setCell_other w ⟨p, 1, none⟩ ⟨b, off + k + j, none⟩ _ (fun e => hne (by injection e with e1 _ _; exact e1.symm)), Nat.add_assoc]
    refine hce (k + j) u ?_
    rw [List.getElem?_map, List.getElem?_drop] at hu ⊢
    rw [show a + (k + j) = s + j by omega]
    exact hu

set_option maxHeartbeats 4000000 in
theorem len_any (w : World) (K : Nat → Nat) (o p : Nat) (l : List UInt64) (a : Nat) (h : IterR w K o p l a) : Calls Try.prog 14 #[.pointer (some ⟨p, 0, none⟩)] w fun e w' => e = .returned (.int .i64 (l.length : Int)) ∧ ∃ n, w' = w.drewN n := by
  obtain ⟨A, c, hb, _, _, _⟩ := h.box
  have c0 : w.cell? ⟨p, 0, none⟩ = some (.int .i64 (l.length : Int)) := by simp [World.cell?, hb]
  clear hb h
  go_enter Try.func14, Try.ntmps14
  go_wp2
  go_ret
  exact ⟨rfl, 0, rfl⟩
theorem len_nil (w : World) : Calls Try.prog 14 #[.pointer none] w fun e w' => e = .returned (.int .i64 0) ∧ ∃ n, w' = w.drewN n := by
  go_enter Try.func14, Try.ntmps14
  go_wp2
  go_ret
  exact ⟨rfl, 0, rfl⟩
theorem seek_nil (w : World) (n : Int) : Calls Try.prog 9 #[.pointer none, .int .u64 n] w fun e w' => e = .returned (.tuple #[.int .u64 0, .bool false]) ∧ w = w' := by
  go_enter Try.func9, Try.ntmps9
  go_wp2
  go_ret2
  exact ⟨rfl, rfl⟩
set_option maxHeartbeats 4000000 in
theorem next_any (w : World) (K : Nat → Nat) (o p : Nat) (l : List UInt64) (a : Nat) (h : IterR w K o p l a) (_ : a ≤ l.length) : Calls Try.prog 10 #[.pointer (some ⟨p, 0, none⟩)] w (SPost IterR w K o p l a) := by
  obtain ⟨A, c, hb, h1, h2, h3⟩ := h.box
  have HI : Hid (IterR w K o p l a) := h
  have HB : Hid (w.heap[p]? = some (.cells #[.int .i64 (l.length : Int), .slice A (l.length - a) c] 47 (0, 0))) := hb
  have HA : Hid _ := h3
  have c1 : w.cell? ⟨p, 1, none⟩ = some (.slice A (l.length - a) c) := by simp [World.cell?, hb]
  have f1 : w.frozen? ⟨p, 1, none⟩ = false := by simp [World.frozen?, hb]
  have hsm := h.small
  clear h
  by_cases ha : a < l.length
  · obtain ⟨b, off, rfl, hbl, hkb, hne, hce⟩ := h3 (Nat.sub_pos_of_lt ha)
    have c2 : w.cell? ⟨b, off, none⟩ = some (.int .u64 (numAt l a : Int)) := by
      have := hce 0 _ (by rw [List.getElem?_map, List.getElem?_drop, List.getElem?_eq_getElem (show a + 0 < l.length from ha), Option.map_some])
      rw [Nat.add_zero] at this
      rw [this, num_at ha]
      rfl
    have HMV : Hid (∀ (A' : Option Addr), (0 < l.length - (a + 1) → A' = some ⟨b, off + 1, none⟩) → ∀ n', n' = l.length - (a + 1) → IterR (w.setCell ⟨p, 1, none⟩ (.slice A' n' (c - 1))) K o p l (a + 1) ∧ Mv K K (fun x => x = o) w (w.setCell ⟨p, 1, none⟩ (.slice A' n' (c - 1)))) := fun A' hA' n' hn' =>
      HI.out.move HB.out h1 h2 HA.out rfl ha (fun h0 => by rw [hA' h0]; simp [add_off]) hn'
    have HEND : Hid (∀ w', IterR w' K o p l (a + 1) ∧ Mv K K (fun x => x = o) w w' → SPost IterR w K o p l a (.returned (.tuple #[.int .u64 (numAt l a : Int), .bool true])) w') := fun w' hw => by
      refine ⟨by rw [decide_eq_true ha], K, ?_, hw.2⟩
      rw [Nat.min_eq_left ha]; exact hw.1
    clear h3 hce
    obtain ⟨m, hm⟩ : ∃ m, m = l.length - a := ⟨_, rfl⟩
    have hm0 : 0 < m := by omega
    have hm64 : m ≤ 65536 := by omega
    have HM : Hid (m - 1 = l.length - (a + 1)) := by show _ = _; omega
    have HM1 : Hid (c = 1 → l.length - (a + 1) = 0) := fun e => by omega
    rw [← hm] at c1 h1
    clear hb hm ha HI HB HA
    by_cases hc1 : c = 1
    all_goals
      go_enter Try.func10, Try.ntmps10
      go_wp2
      go_ret2
    · have hh := HMV.out (some ⟨b, off, none⟩) (fun h0 => by have := HM1.out hc1; omega) _ HM.out
      rw [hc1] at hh
      exact HEND.out _ hh
    · exact HEND.out _ (HMV.out (some ⟨b, off + 1, none⟩) (fun _ => rfl) _ HM.out)
  · clear h3
    have hl0 : l.length - a = 0 := by omega
    have hle := HI.out.le
    have HE : Hid (SPost IterR w K o p l a (.returned (.tuple #[.int .u64 0, .bool false])) w) := by
      refine ⟨by rw [num_end (by omega), decide_eq_false ha]; rfl, K, ?_, Mv.refl _ _ _⟩
      rw [show min (a + 1) l.length = a by omega]
      exact HI.out
    rw [hl0] at c1
    clear hb h1 hl0 HB HA HI hle ha hsm
    go_enter Try.func10, Try.ntmps10
    go_wp2
    go_ret2
    exact HE.out

/-! ### Seek -/
theorem seek_bs {l : List UInt64} {a n s k : Nat} (h : SeekTo l a n s) (hb : Bs (l.drop a) n k) : s = a + k := by
  have h1 := h.ge
  have h2 := h.le
  have h3 := hb.le
  rw [List.length_drop] at h3
  rcases Nat.lt_trichotomy s (a + k) with g | g | g
  · have h4 := hb.low (s - a) (by rw [List.length_drop]; omega) (by omega)
    have h5 := h.at_ (by omega)
    rw [List.getElem_drop] at h4
    simp only [show a + (s - a) = s by omega] at h4
    omega
  · exact g
  · have h4 := hb.high k (by rw [List.length_drop]; omega) (Nat.le_refl _)
    have h5 := h.less (a + k) (by omega) (by omega) (by omega)
    rw [List.getElem_drop] at h4
    omega
set_option maxHeartbeats 8000000 in
theorem seek_any (w : World) (K : Nat → Nat) (o p : Nat) (l : List UInt64) (a n s : Nat) (h : IterR w K o p l a) (hn : n < 18446744073709551616) (hs : SeekTo l a n s) :
    Calls Try.prog 9 #[.pointer (some ⟨p, 0, none⟩), .int .u64 (n : Int)] w (SPost IterR w K o p l s) := by
  obtain ⟨A, c, hb, h1, h2, h3⟩ := h.box
  have HI : Hid (IterR w K o p l a) := h
  have HB : Hid (w.heap[p]? = some (.cells #[.int .i64 (l.length : Int), .slice A (l.length - a) c] 47 (0, 0))) := hb
  have HA : Hid _ := h3
  have HS : Hid (SeekTo l a n s) := hs
  have c1 : w.cell? ⟨p, 1, none⟩ = some (.slice A (l.length - a) c) := by simp [World.cell?, hb]
  have f1 : w.frozen? ⟨p, 1, none⟩ = false := by simp [World.frozen?, hb]
  have hld : (l.drop a).length = l.length - a := List.length_drop
  have hsm := h.small
  have hrd : Rd w w.heap.size A ((l.drop a).map B64) := fun h0 => by
    obtain ⟨b, off, e, hbl, _, _, hce⟩ := h3 (by rw [List.length_map, hld] at h0; exact h0)
    exact ⟨b, off, e, hbl, hce⟩
  have hsort : (l.drop a).Pairwise fun x y => x.toNat ≤ y.toNat := (List.Pairwise.imp (fun h => Nat.le_of_lt h) h.rises).drop
  clear h3
  have HBS := Lib.hid (bs_any (l.drop a) A c n w hrd hsort (by rw [hld]; exact h1) h2 hn (by rw [hld]; omega))
  obtain ⟨m, hm⟩ : ∃ m, m = l.length - a := ⟨_, rfl⟩
  have hm64 : m ≤ 65536 := by omega
  have HM : Hid (m = l.length - a) := hm
  rw [hld] at HBS
  rw [← hm] at HBS c1 h1
  clear hb h hs hrd hsort hld hm hsm
  go_enter Try.func9, Try.ntmps9
  go_wp2_with fail
  refine HBS.out.mono ?_
  clear HBS
  rintro e w1 ⟨k, q, rfl, hbs, rfl⟩
  have HBS : Hid (Bs (l.drop a) n k) := hbs
  have HSE : Hid (s = a + k) := seek_bs HS.out hbs
  have hkm : k ≤ m := by have := hbs.le; rw [List.length_drop] at this; have := HM.out; omega
  have hsl := HS.out.le
  have hw0 : Mv K K (fun x => x = o) w (w.drewN q) := ⟨rfl, rfl, rfl, Nat.le_refl _, fun _ _ _ => rfl, fun _ _ => rfl⟩
  have HMV : Hid (∀ (A' : Option Addr), (0 < l.length - s → A' = A.map (·.add k)) → ∀ n', n' = l.length - s → Calls Try.prog 10 #[.pointer (some ⟨p, 0, none⟩)] ((w.drewN q).setCell ⟨p, 1, none⟩ (.slice A' n' (c - k))) (SPost IterR w K o p l s)) := fun A' hA' n' hn' => by
    obtain ⟨g1, g2⟩ := (HI.out.drew q).move (w := w.drewN q) HB.out (by rw [← HM.out]; exact h1) h2 HA.out HSE.out hsl hA' hn'
    exact (next_any _ K o p l s g1 hsl).mono fun e w' ⟨he, K', hI, hM⟩ => ⟨he, K', hI, (hw0.trans g2).trans hM⟩
  have HN : Hid (m - k = l.length - s) := by show _ = _; have := HM.out; have := HSE.out; omega
  have HV : Hid (c = k → l.length - s = 0) := fun e => by have := HM.out; have := HSE.out; omega
  have f2 : (w.drewN q).frozen? ⟨p, 1, none⟩ = false := f1
  have c2 : (w.drewN q).cell? ⟨p, 1, none⟩ = some (.slice A m c) := c1
  clear hbs HI HB HA HS HM HSE HBS hw0 f1 c1
  generalize w.drewN q = w2 at *
  have HVX : Hid (∀ v0 : Value, True) := fun _ => trivial
  by_cases hck : c = k
  · have hh := Lib.hid (HMV.out A (fun h0 => by have := HV.out hck; omega) _ HN.out)
    rw [hck] at hh
    rw [Nat.sub_self] at hh
    clear HMV
    go_wp2_with fail
    refine Calls.mono hh.out ?_
    rintro e w' hp
    obtain ⟨rfl, hp2⟩ := hp
    have HP2 : Hid _ := hp2
    clear hh hp2
    go_wp2
    go_ret2
    exact ⟨rfl, HP2.out⟩
  · have hh := Lib.hid (HMV.out (A.map (·.add k)) (fun _ => rfl) _ HN.out)
    clear HMV
    go_wp2_with fail
    refine Calls.mono hh.out ?_
    rintro e w' hp
    obtain ⟨rfl, hp2⟩ := hp
    have HP2 : Hid _ := hp2
    clear hh hp2
    go_wp2
    go_ret2
    exact ⟨rfl, HP2.out⟩
end Go.Proofs.Ytfojpbbmicmooaa.PgIt
