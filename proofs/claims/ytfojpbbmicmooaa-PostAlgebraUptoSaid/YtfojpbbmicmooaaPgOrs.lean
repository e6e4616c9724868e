/- post.Or: what stands in one of the lists, each once, rising, in new memory. Conditions: those of the statement. · post.And: what stands in each of the lists, each once, rising, in new memory. Conditions: those of the statement. -/
import Derived.Test.YtfojpbbmicmooaaPgCat
import Derived.Test.YtfojpbbmicmooaaPgRows
import Derived.Test.YtfojpbbmicmooaaPgBs
namespace Go.Proofs.Ytfojpbbmicmooaa.PgOr
open Go Go.RowKit Words PsSpec PsLaw PsAwake SoKit SoSort PgRow PgCat PgBs

theorem or_eq {ls : List (List UInt64)} {l : List UInt64} (hp : l.Perm ls.flatten) (hs : l.Pairwise fun a b => a.toNat ≤ b.toNat) : comp l = orL ls :=
  rises_ext (rises_comp hs) (rises_or ls) fun x => by rw [mem_comp, mem_or, hp.mem_iff, List.mem_flatten]
theorem below_own {w0 w w' : World} {n : Nat} {e : TypeId} {v : Value} {xs : List Value} (h : w.ownsRow w0.heap.size e 1 v n xs) (hb : Below w0.heap.size w0 w) (hg : w.grownBy w' v.ownBlock) : Below w0.heap.size w0 w' := App.below_app h hb hg
set_option maxHeartbeats 4000000 in
theorem or_any (w : World) (ps : List P64) (A : Option Addr) (n c : Nat) (hN : Ns w A n c ps) (hl : (nums ps).flatten.length ≤ 16777216) (hn : n ≤ 1048576) :
    Calls Try.prog 12 #[.slice A n c] w (LPost w (orL (nums ps))) := by
  have HC := Lib.hid (cat_any w ps A n c hN hl hn)
  have HL : Hid ((nums ps).flatten.length ≤ 16777216) := hl
  clear hN hl
  go_enter Try.func12, Try.ntmps12
  go_wp2_with fail
  refine HC.out.mono ?_
  rintro e w1 ⟨v, rfl, ho, hb⟩
  have HO : Hid (w1.ownsRow w.heap.size 31 1 v (nums ps).flatten.length ((nums ps).flatten.map B64)) := ho
  have HB : Hid (Below w.heap.size w w1) := hb
  clear ho hb
  go_wp2_with fail
  refine (sort_own HO.out (by have := HL.out; omega)).mono ?_
  rintro e w2 ⟨rfl, l', hp, hs, ho2, hg2⟩
  have HP : Hid (l'.Perm (nums ps).flatten) := hp
  have HS : Hid (l'.Pairwise fun a b => a.toNat ≤ b.toNat) := hs
  have HO2 : Hid (w2.ownsRow w.heap.size 31 1 v l'.length (l'.map B64)) := ho2
  have HB2 : Hid (Below w.heap.size w w2) := below_own HO.out HB.out hg2
  have hll : l'.length ≤ 16777216 := by rw [hp.length_eq]; exact HL.out
  clear hp hs ho2 hg2
  go_wp2_with fail
  refine (comp_own HO2.out (by omega)).mono ?_
  rintro e w3 ⟨v3, rfl, ho3, hg3, _⟩
  have HO3 : Hid (w3.ownsRow w.heap.size 31 1 v3 (comp l').length ((comp l').map B64)) := ho3
  have HB3 : Hid (Below w.heap.size w w3) := below_own HO2.out HB2.out hg3
  clear ho3 hg3
  go_wp2_with fail
  go_ret
  have h := HO3.out
  rw [or_eq HP.out HS.out] at h
  exact ⟨v3, rfl, h, HB3.out⟩

/-! ### And's closure -/
set_option maxHeartbeats 4000000 in
theorem clo_any (o : List UInt64) (A : Option Addr) (c B : Nat) (x : UInt64) (W : World) (hc : W.cell? ⟨B, 0, none⟩ = some (.slice A o.length c)) (hr : Rd W W.heap.size A (o.map B64)) (ho : Rises o) (hlc : o.length ≤ c) (hcm : c ≤ maxLen) (hl : o.length ≤ 1099511627776) :
    FnGives Try.prog 22 #[.pointer (some ⟨B, 0, none⟩)] #[B64 x] (.bool (!decide (x ∈ o))) W := by
  have hs : o.Pairwise fun a b => a.toNat ≤ b.toNat := List.Pairwise.imp (fun h => Nat.le_of_lt h) ho
  have hB := bs_any o A c x.toNat W hr hs hlc hcm x.toNat_lt hl
  unfold BPost at hB
  rw [show UInt64.ofNat x.toNat = x by simp] at hB
  obtain ⟨q0, hq0⟩ : ∃ q, decide (x ∈ o) = q := ⟨_, rfl⟩
  rw [hq0] at hB
  have HQ : Hid _ := hq0
  clear hq0 hr ho hs
  show Calls Try.prog 22 #[.int .u64 (x.toNat : Int), .pointer (some ⟨B, 0, none⟩)] W _
  rw [HQ.out]
  go_enter Try.func22, Try.ntmps22
  go_wp2_with fail
  refine hB.mono ?_
  clear hB
  rintro e w' ⟨k, q, rfl, _, rfl⟩
  go_wp2
  go_ret
  exact ⟨rfl, q, rfl⟩
end Go.Proofs.Ytfojpbbmicmooaa.PgOr

namespace Go.Proofs.Ytfojpbbmicmooaa.PgAnd
open Go Go.RowKit Go.Sort Words PsSpec PsLaw PsAwake SoKit SoSort PgRow PgCat PgBs PgOr UtOwn

theorem ns_one (w : World) (p : P64) (hp : Good64 w p) : Ns (w.alloc (.cells #[SV64 p] 22)) (some ⟨w.heap.size, 0, none⟩) 1 1 [p] := by
  have hb := (Below.refl w.heap.size w).alloc (Nat.le_refl _) (.cells #[SV64 p] 22)
  refine ⟨rfl, Nat.le_refl _, by unfold maxLen; omega, Rd.made' w #[SV64 p] 22, fun z hz => ?_⟩
  rw [List.mem_singleton.1 hz]
  exact hp.below hb
/-- Or of one list that lies in memory: a list of it is laid, and the answer is a new row. -/
theorem or_one (w : World) (p : P64) (hp : Good64 w p) (hl : p.l.length ≤ 16777216) :
    Calls Try.prog 12 #[.slice (some ⟨w.heap.size, 0, none⟩) 1 1] (w.alloc (.cells #[.slice p.A p.l.length p.c] 22)) (LPost w (orL [p.l])) :=
  (or_any _ _ _ _ _ (ns_one w p hp) (by simpa [nums] using hl) (by omega)).mono fun e w' ⟨v, he, ho, hb⟩ => ⟨v, he, own_mono ho (by simp), ((Below.refl w.heap.size w).alloc (Nat.le_refl _) _).trans (hb.mono (by simp))⟩

/-- What is left of the first list behind k lists. -/
structure Left (ls : List (List UInt64)) (k : Nat) (r : List UInt64) : Prop where
  rises : Rises r
  mem : ∀ x, x ∈ r ↔ ∀ l ∈ ls.take k, x ∈ l
theorem Left.first {ls : List (List UInt64)} (h : 0 < ls.length) : Left ls 1 (orL [ls[0]]) := by
  refine ⟨rises_or _, fun x => ?_⟩
  rw [mem_or1]
  cases ls with
  | nil => simp at h
  | cons a r => simp
theorem Left.next {ls : List (List UInt64)} {k : Nat} {r : List UInt64} (h : Left ls k r) (hk : k < ls.length) : Left ls (k + 1) (r.filter fun u => decide (u ∈ orL [ls[k]])) := by
  refine ⟨h.rises.filter _, fun x => ?_⟩
  rw [List.mem_filter, h.mem, decide_eq_true_eq, mem_or1, List.take_succ_eq_append_getElem hk]
  constructor
  · rintro ⟨h1, h2⟩ l hl
    rcases List.mem_append.1 hl with hl | hl
    · exact h1 l hl
    · rw [List.mem_singleton.1 hl]; exact h2
  · intro h1
    exact ⟨fun l hl => h1 l (List.mem_append_left _ hl), h1 _ (List.mem_append_right _ (List.mem_singleton.2 rfl))⟩
theorem Left.all {ls : List (List UInt64)} {r : List UInt64} (h : Left ls ls.length r) (hn : ls ≠ []) : r = andL ls :=
  rises_ext h.rises (rises_and ls) fun x => by rw [h.mem, mem_and, List.take_length]; exact ⟨fun h => ⟨hn, h⟩, fun h => h.2⟩
theorem Left.le {ls : List (List UInt64)} {k : Nat} {r : List UInt64} (h : Left ls k r) (hk : 0 < k) (hl : 0 < ls.length) : r.length ≤ ls.flatten.length :=
  len_le (rises_nodup h.rises) fun x hx => List.mem_flatten.2 ⟨ls[0], List.getElem_mem hl, (h.mem x).1 hx _ (by
    cases ls with
    | nil => simp at hl
    | cons a r => cases k with
      | zero => omega
      | succ k => simp)⟩
theorem len_at {ls : List (List UInt64)} {k : Nat} (h : k < ls.length) : ls[k].length ≤ ls.flatten.length := by
  have h1 : ls[k].Sublist ls.flatten := List.sublist_flatten_of_mem (List.getElem_mem h)
  exact h1.length_le

theorem eg : ∀ args w, (callFunc 22 args).run Try.prog w = .ok (.enter 22 args) w := enters_of Try.func22 (by kernel_rfl) rfl
/-- One list more: the numbers that it lacks go. -/
theorem del_any {w wr w2 : World} {v : Value} {r o : List UInt64} {A2 : Option Addr} {c2 : Nat} (hO : wr.ownsRow w.heap.size 31 1 v r.length (r.map B64)) (hB : Below w.heap.size w wr) (hB2 : Below wr.heap.size wr w2)
    (hR : Rd w2 w2.heap.size A2 (o.map B64)) (hA : ∀ b off, A2 = some ⟨b, off, none⟩ → wr.heap.size ≤ b ∧ b < w2.heap.size) (ho : Rises o) (hle : o.length ≤ c2) (hm : c2 ≤ maxLen) (hol : o.length ≤ 16777216) (hrl : r.length ≤ 16777216) :
    Calls Try.prog 21 #[v, .func (.func 22) #[] #[.pointer (some ⟨w2.heap.size, 0, none⟩)]] (w2.alloc (.cells #[.slice A2 o.length c2] 22)) fun e w' =>
      ∃ v', e = .returned v' ∧ w'.ownsRow w.heap.size 31 1 v' (r.filter fun u => decide (u ∈ o)).length ((r.filter fun u => decide (u ∈ o)).map B64) ∧ Below w.heap.size w w' := by
  have hba := hB2.alloc hB2.size (.cells #[.slice A2 o.length c2] 22)
  have hO3 := own_keep hO hba
  have hB3 : Below w.heap.size w (w2.alloc (.cells #[.slice A2 o.length c2] 22)) := below_step hB hba
  have hR3 : Rd (w2.alloc (.cells #[.slice A2 o.length c2] 22)) w2.heap.size A2 (o.map B64) := hR.alloc (Nat.le_refl _) _
  have hcell : (w2.alloc (.cells #[.slice A2 o.length c2] 22)).cell? ⟨w2.heap.size, 0, none⟩ = some (.slice A2 o.length c2) := by simp
  have hsz : (w2.alloc (.cells #[.slice A2 o.length c2] 22)).heap.size = w2.heap.size + 1 := by simp
  generalize w2.alloc (.cells #[.slice A2 o.length c2] 22) = w3 at *
  have hd := del_own hO3 (by omega) 22 #[.pointer (some ⟨w2.heap.size, 0, none⟩)] eg (fun u => !decide (u ∈ o))
    (fun W x hb => clo_any o A2 c2 w2.heap.size x W ((hb.cell (p := ⟨w2.heap.size, 0, none⟩) (by show w2.heap.size < w3.heap.size; omega)).trans hcell) (((hR3.more (B' := w3.heap.size) (by omega)).below hb).more hb.size) ho hle hm (by omega))
    (fun b hvb n os dk x hdk => by
      have hbl : b < wr.heap.size := (hO.lt b hvb).2
      have h2 := hB2.size
      refine clo_any o A2 c2 w2.heap.size x _ ?_ ?_ ho hle hm (by omega)
      · unfold sortWorld
        rw [cell?_grow _ _ _ (by show w2.heap.size < (putRow _ _ _ _ _).heap.size; rw [size_putRow]; show w2.heap.size < w3.heap.size; omega), cell?_putRow_other _ _ b _ _ _ (Or.inl (by show w2.heap.size ≠ b; omega))]
        exact hcell
      · intro hn
        obtain ⟨bb, off, e, hbb, hc⟩ := hR3 hn
        have hbb2 := hA bb off e
        refine ⟨bb, off, e, ?_, fun j u hu => ?_⟩
        · unfold sortWorld
          rw [size_grow, size_putRow]
          show bb < w3.heap.size + _
          omega
        · unfold sortWorld
          rw [cell?_grow _ _ _ (by show bb < (putRow _ _ _ _ _).heap.size; rw [size_putRow]; show bb < w3.heap.size; omega), cell?_putRow_other _ _ b _ _ _ (Or.inl (by show bb ≠ b; omega))]
          exact hc j u hu)
  refine hd.mono fun e w' ⟨v', he, ho', hg, _⟩ => ⟨v', he, ?_, below_own hO3 hB3 hg⟩
  simpa using ho'

set_option maxHeartbeats 16000000 in
set_option maxRecDepth 100000 in
theorem and_any (w : World) (ps : List P64) (A : Option Addr) (n c : Nat) (hN : Ns w A n c ps) (hl : (nums ps).flatten.length ≤ 16777216) (hn : n ≤ 1048576) :
    Calls Try.prog 11 #[.slice A n c] w (LPost w (andL (nums ps))) := by
  rcases Nat.eq_zero_or_pos n with h0 | h0
  · subst h0
    have hps : ps = [] := List.eq_nil_of_length_eq_zero hN.len.symm
    subst hps
    have HNil := Lib.hid (World.ownsRow_nil w w.heap.size 31 1)
    clear hN hl
    go_enter Try.func11, Try.ntmps11
    go_wp2
    go_ret
    exact ⟨_, rfl, HNil.out, Below.refl _ _⟩
  · have hlen : (nums ps).length = n := by unfold nums; rw [List.length_map]; exact hN.len.symm
    obtain ⟨b, off, rfl, hb, hcell⟩ := hN.rd (by rw [List.length_map, ← hN.len]; exact h0)
    obtain ⟨PF, hPF⟩ : ∃ PF : Nat → P64, ∀ (k : Nat) (h : k < ps.length), PF k = ps[k] := ⟨fun k => ps.getD k ⟨none, 0, []⟩, fun k h => by simp [List.getD, h]⟩
    have hc : ∀ k, k < n → w.cell? ⟨b, off + k, none⟩ = some (.slice (PF k).A (PF k).l.length (PF k).c) := fun k hk => hcell k _ (by
      have hk' : k < ps.length := by rw [← hN.len]; exact hk
      rw [List.getElem?_map, List.getElem?_eq_getElem hk', Option.map_some, hPF k hk']; rfl)
    have HG : Hid (∀ k, k < n → Good64 w (PF k)) := fun k hk => by
      have hk' : k < ps.length := by rw [← hN.len]; exact hk
      rw [hPF k hk']; exact hN.each _ (List.getElem_mem hk')
    have HLS : Hid (∀ (k : Nat) (h : k < (nums ps).length), (PF k).l = (nums ps)[k]) := fun k hk => by
      have hk' : k < ps.length := by rw [← hN.len, ← hlen]; exact hk
      rw [hPF k hk']; simp [nums]
    have hcle := hN.le
    have hccap := hN.cap
    obtain ⟨ls, hls⟩ : ∃ ls, ls = nums ps := ⟨_, rfl⟩
    rw [← hls] at HLS hl hlen ⊢
    have HLEN : Hid (ls.length = n) := hlen
    have HTOT : Hid (ls.flatten.length ≤ 16777216) := hl
    clear hN hcell hPF hls hlen hl
    have c0 := hc 0 h0
    rw [Nat.add_zero] at c0
    have HO0 := Lib.hid (or_one w (PF 0) (HG.out 0 h0) (by have := len_at (ls := ls) (k := 0) (by rw [HLEN.out]; exact h0); rw [HLS.out 0 (by rw [HLEN.out]; exact h0)]; have := HTOT.out; omega))
    go_enter Try.func11, Try.ntmps11
    by_cases hc1 : c = 1
    case' pos =>
      have hn1 : n = 1 := by omega
      subst hc1
      subst hn1
    all_goals
      go_wp2_with fail
      refine HO0.out.mono ?_
      rintro e w1 ⟨v, rfl, ho, hb1⟩
      have HO : Hid (w1.ownsRow w.heap.size 31 1 v (orL [(PF 0).l]).length ((orL [(PF 0).l]).map B64)) := ho
      have HB : Hid (Below w.heap.size w w1) := hb1
      have HF : Hid (Left ls 1 (orL [(PF 0).l])) := by
        show Left _ _ _
        rw [HLS.out 0 (by rw [HLEN.out]; exact h0)]
        exact Left.first (by rw [HLEN.out]; exact h0)
      clear ho hb1
      go_wp2_with fail
    · go_loopw [3, 18] (fun vs vi wr => vs = v ∧ vi = .int .i64 0 ∧ wr = w1) (fun _ _ _ => 0)
      case atStart => exact ⟨rfl, rfl, rfl⟩
      case round =>
        obtain ⟨rfl, rfl, rfl⟩ := hrel
        go_wp2
        go_ret
        have h := HF.out
        rw [← HLEN.out] at h
        have h2 := HO.out
        rw [h.all (fun e => by have := HLEN.out; rw [e] at this; simp at this)] at h2
        exact ⟨_, rfl, h2, HB.out⟩
    · go_loopw [3, 18] (fun vs vi wr => ∃ (k : Nat) (r : List UInt64), vi = .int .i64 (k : Int) ∧ k + 1 ≤ n ∧ Hid (wr.ownsRow w.heap.size 31 1 vs r.length (r.map B64)) ∧ Hid (Below w.heap.size w wr) ∧ Hid (Left ls (k + 1) r)) (fun _ vi _ => n - natOf vi)
      case atStart => exact ⟨0, _, rfl, h0, HO, HB, HF⟩
      case round =>
        clear HO HB HF
        obtain ⟨k, r, rfl, hk, HO, HB, HF⟩ := hrel
        by_cases hlt : k + 1 < n
        · have hc2 : wr.cell? ⟨b, off + 1 + k, none⟩ = some (.slice (PF (k + 1)).A (PF (k + 1)).l.length (PF (k + 1)).c) := by
            rw [HB.out.cell (p := ⟨b, off + 1 + k, none⟩) hb, show off + 1 + k = off + (k + 1) by omega]; exact hc (k + 1) hlt
          have hlk : (PF (k + 1)).l.length ≤ 16777216 := by
            have h1 : k + 1 < ls.length := by rw [HLEN.out]; exact hlt
            rw [HLS.out (k + 1) h1]
            have := len_at h1; have := HTOT.out; omega
          have HOR := Lib.hid (or_one wr (PF (k + 1)) ((HG.out (k + 1) hlt).below HB.out) hlk)
          go_wp2_with fail
          refine HOR.out.mono ?_
          clear HOR
          rintro e w2 ⟨v2, rfl, ho2, hb2⟩
          have HNX : Hid (Left ls (k + 1 + 1) (r.filter fun u => decide (u ∈ orL [(PF (k + 1)).l]))) := by
            have h1 : k + 1 < ls.length := by rw [HLEN.out]; exact hlt
            show Left _ _ _
            rw [HLS.out (k + 1) h1]; exact HF.out.next h1
          have HOL : Hid ((orL [(PF (k + 1)).l]).length ≤ 16777216) := by
            have h1 := or_len [(PF (k + 1)).l]
            show _ ≤ _
            simp only [List.flatten_cons, List.flatten_nil, List.append_nil] at h1
            omega
          have HRO : Hid (Rises (orL [(PF (k + 1)).l])) := rises_or _
          generalize orL [(PF (k + 1)).l] = o at *
          obtain ⟨A2, c2, rfl, hle2, hm2, hrd2, hA2⟩ := own_rd ho2
          have HB2 : Below wr.heap.size wr w2 := hb2
          clear ho2 hb2
          have HDEL := Lib.hid (del_any HO.out HB.out HB2 hrd2 hA2 HRO.out hle2 hm2 HOL.out (by have := HF.out.le (by omega) (by rw [HLEN.out]; exact h0); have := HTOT.out; omega))
          clear hrd2 hA2 hc2
          go_wp2_with fail
          refine HDEL.out.mono ?_
          clear HDEL
          rintro e w4 ⟨v4, rfl, ho4, hb4⟩
          have HO4 : Hid (w4.ownsRow w.heap.size 31 1 v4 (r.filter fun u => decide (u ∈ o)).length ((r.filter fun u => decide (u ∈ o)).map B64)) := ho4
          have HB4 : Hid (Below w.heap.size w w4) := hb4
          clear ho4 hb4
          generalize r.filter (fun u => decide (u ∈ o)) = r2 at *
          go_wp2_with fail
          go_roundw
          case rel => exact ⟨k + 1, r2, by go_num, by omega, HO4, HB4, HNX⟩
          case measure => simp [SoKit.natOf]; omega
        · have hkn : k + 1 = n := by omega
          go_wp2
          go_ret
          have h := HF.out
          rw [hkn, ← HLEN.out] at h
          have h2 := HO.out
          rw [h.all (fun e => by have := HLEN.out; rw [e] at this; simp at this; omega)] at h2
          exact ⟨_, rfl, h2, HB.out⟩
end Go.Proofs.Ytfojpbbmicmooaa.PgAnd

