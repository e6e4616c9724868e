/- The laying of the library's contract of slices.SortFunc at this program: the numbers of its functions and types. No conditions. · The library's sort of a row of labels by their names, and what the sorted row is. Condition: fewer than 2^62 labels. · label.Canon. Conditions: none but that the list lies in memory. -/
import Derived.Shelf.SlSortCmp.NoneTotal
import Derived.Test.YtkgmcabamhpjhaaGreatProg
import Derived.Test.YtkgmcabamhpjhaaGreatLpCopy
import Derived.Test.YtkgmcabamhpjhaaGreatLbCanon
namespace Go.Proofs
open Go.Shelf
def Tryz.sortL_ren : Go.Shelf.Ren := ⟨fun | 6 => 70 | 15 => 54 | 14 => 113 | 28 => 86 | 29 => 87 | 20 => 134 | 21 => 135 | 22 => 136 | 23 => 137 | 24 => 138 | 25 => 139 | 26 => 140 | 27 => 141 | 46 => 148 | 47 => 117 | 48 => 118 | 49 => 149 | 50 => 150 | 57 => 154 | n => n, fun | 22 => 45 | 24 => 70 | 25 => 82 | 3 => 3 | 39 => 53 | 0 => 0 | 53 => 122 | 55 => 44 | 4 => 4 | 46 => 116 | 45 => 115 | 50 => 71 | 5 => 5 | 9 => 9 | 66 => 141 | 70 => 145 | 76 => 167 | 77 => 168 | n => n, fun | n => n⟩
theorem Tryz.sortL : Go.Proofs.SlLaysF0.n6 Tryz.prog Tryz.sortL_ren := {
  mixed := by kernel_rfl
  f6 := ⟨Tryz.f70.name, by decide, Tryz.func70.trans (congrArg some (by kernel_rfl))⟩
  f14 := ⟨Tryz.f113.name, by decide, Tryz.func113.trans (congrArg some (by kernel_rfl))⟩
  f15 := Tryz.func54.trans (congrArg some (by kernel_rfl))
  f20 := ⟨Tryz.f134.name, by decide, Tryz.func134.trans (congrArg some (by kernel_rfl))⟩
  f21 := ⟨Tryz.f135.name, by decide, Tryz.func135.trans (congrArg some (by kernel_rfl))⟩
  f22 := ⟨Tryz.f136.name, by decide, Tryz.func136.trans (congrArg some (by kernel_rfl))⟩
  f23 := ⟨Tryz.f137.name, by decide, Tryz.func137.trans (congrArg some (by kernel_rfl))⟩
  f24 := ⟨Tryz.f138.name, by decide, Tryz.func138.trans (congrArg some (by kernel_rfl))⟩
  f25 := ⟨Tryz.f139.name, by decide, Tryz.func139.trans (congrArg some (by kernel_rfl))⟩
  f26 := ⟨Tryz.f140.name, by decide, Tryz.func140.trans (congrArg some (by kernel_rfl))⟩
  f27 := ⟨Tryz.f141.name, by decide, Tryz.func141.trans (congrArg some (by kernel_rfl))⟩
  f28 := Tryz.func86.trans (congrArg some (by kernel_rfl))
  f29 := Tryz.func87.trans (congrArg some (by kernel_rfl))
  f46 := ⟨Tryz.f148.name, by decide, Tryz.func148.trans (congrArg some (by kernel_rfl))⟩
  f47 := Tryz.func117.trans (congrArg some (by kernel_rfl))
  f48 := Tryz.func118.trans (congrArg some (by kernel_rfl))
  f49 := ⟨Tryz.f149.name, by decide, Tryz.func149.trans (congrArg some (by kernel_rfl))⟩
  f50 := ⟨Tryz.f150.name, by decide, Tryz.func150.trans (congrArg some (by kernel_rfl))⟩
  f57 := ⟨Tryz.f154.name, by decide, Tryz.func154.trans (congrArg some (by kernel_rfl))⟩
  t0 := Tryz.underlying0
  a0 := Tryz.isAgg0
  z0 := Tryz.sizeOf0
  v0 := Tryz.zeroValue0
  t3 := Tryz.underlying3
  a3 := Tryz.isAgg3
  z3 := Tryz.sizeOf3
  v3 := Tryz.zeroValue3
  t4 := Tryz.underlying4
  a4 := Tryz.isAgg4
  z4 := Tryz.sizeOf4
  v4 := Tryz.zeroValue4
  t5 := Tryz.underlying5
  a5 := Tryz.isAgg5
  z5 := Tryz.sizeOf5
  v5 := Tryz.zeroValue5
  t9 := Tryz.underlying9
  a9 := Tryz.isAgg9
  z9 := Tryz.sizeOf9
  v9 := Tryz.zeroValue9
  t22 := Tryz.underlying45
  a22 := Tryz.isAgg45
  z22 := Tryz.sizeOf45
  v22 := Tryz.zeroValue45
  t25 := Tryz.underlying82
  a25 := Tryz.isAgg82
  z25 := Tryz.sizeOf82
  v25 := Tryz.zeroValue82
  t39 := Tryz.underlying53
  a39 := Tryz.isAgg53
  z39 := Tryz.sizeOf53
  v39 := Tryz.zeroValue53
  t45 := Tryz.underlying115
  a45 := Tryz.isAgg115
  z45 := Tryz.sizeOf115
  v45 := Tryz.zeroValue115
  t46 := Tryz.underlying116
  a46 := Tryz.isAgg116
  z46 := Tryz.sizeOf116
  v46 := Tryz.zeroValue116
  t50 := Tryz.underlying71
  a50 := Tryz.isAgg71
  z50 := Tryz.sizeOf71
  v50 := Tryz.zeroValue71
  t53 := Tryz.underlying122
  a53 := Tryz.isAgg122
  z53 := Tryz.sizeOf122
  v53 := Tryz.zeroValue122
  t55 := Tryz.underlying44
  a55 := Tryz.isAgg44
  z55 := Tryz.sizeOf44
  v55 := Tryz.zeroValue44
  t66 := Tryz.underlying141
  a66 := Tryz.isAgg141
  z66 := Tryz.sizeOf141
  v66 := Tryz.zeroValue141
  t70 := Tryz.underlying145
  a70 := Tryz.isAgg145
  z70 := Tryz.sizeOf145
  v70 := Tryz.zeroValue145
  t76 := Tryz.underlying167
  a76 := Tryz.isAgg167
  z76 := Tryz.sizeOf167
  v76 := Tryz.zeroValue167
  t77 := Tryz.underlying168
  a77 := Tryz.isAgg168
  z77 := Tryz.sizeOf168
  v77 := Tryz.zeroValue168 }
end Go.Proofs

namespace Go.Proofs.YtkgmcabamhpjhaaGreat.LpSort
open Go Go.RowKit Words AppN Less LbSpec LbText LbMem LbRef LbCmp UtOwn LpOrd LpBoth LpCmp LpCopy
open Go.Sort (flatK size_flatK get_flatK HoldsK putRowK)

def encL (x : Lab) : List Value := [S8 x.1, S8 x.2]
theorem flatK_flat (d : Array Lab) : flatK encL 2 d = (flat d.toList).toArray := by
  apply Array.ext
  · simp [flat_len]
  · intro t h1 h2
    have hd : t / 2 < d.toList.length := by simp [size_flatK] at h1; simp; omega
    obtain ⟨f0, f1⟩ := flat_at hd
    have hg := get_flatK encL 2 d t (by simpa [size_flatK] using h1)
    rw [getElem!_pos _ t h1] at hg
    rw [hg]
    have hx : d[t / 2]! = d.toList[t / 2] := by rw [getElem!_pos d (t / 2) (by simpa using hd)]; simp
    rw [hx]
    have key : (flat d.toList).toArray[t] = (flat d.toList)[t]'(by simpa using h2) := by simp
    rw [key]
    rcases Nat.mod_two_eq_zero_or_one t with h | h
    · have ht : t / 2 * 2 = t := by omega
      rw [ht] at f0
      rw [h]
      exact (List.getElem?_eq_some_iff.1 f0).2.symm
    · have ht : t / 2 * 2 + 1 = t := by omega
      rw [ht] at f1
      rw [h]
      exact (List.getElem?_eq_some_iff.1 f1).2.symm
theorem holds_row {w : World} {M : Nat} {l : List Lab} (h : Row w M l) : HoldsK encL 2 w M 0 l.toArray := by
  intro j hj
  rw [flatK_flat] at hj ⊢
  simp only [List.size_toArray] at hj
  rw [Nat.zero_add]
  refine ⟨cell_of h ?_, frozen_of h⟩
  rw [getElem!_pos _ j (by simpa using hj)]
  simp only [List.getElem?_toArray]
  simp
theorem row_sorted {w : World} {M n : Nat} {os : Array Obj} {l L : List Lab} (h : Row w M l) (hl : L.length = l.length) : Row (sortWorldK encL 2 w M 0 n L.toArray os) M L := by
  unfold Row at *
  have hg : M < w.heap.size := (Array.getElem?_eq_some_iff.1 h).1
  unfold sortWorldK putRowK
  rw [flatK_flat, Go.Sort.heap_grow_old _ _ (by simpa using hg)]
  simp only [Go.Sort.putRow, Go.Sort.mapBlock, Go.Sort.ahead, Array.getElem?_modify, h, if_true, Option.map_some, Go.Sort.onCells]
  congr 2
  apply Array.ext
  · simp [Go.Sort.putCells, flat_len, hl]
  · intro j h1 h2
    simp [Go.Sort.putCells] at h1 h2 ⊢
    rw [if_pos h2]
    rw [List.getElem?_eq_getElem h2]
    rfl
theorem below_sorted {w : World} {M n : Nat} {os : Array Obj} {d : Array Lab} (hM : M < w.heap.size) : Below M w (sortWorldK encL 2 w M 0 n d os) := by
  unfold sortWorldK putRowK
  refine ⟨rfl, rfl, rfl, by simp, fun k hk => ?_⟩
  rw [Go.Sort.heap_grow_old _ _ (by simp; omega)]
  have : M ≠ k := by omega
  simp [Go.Sort.putRow, Go.Sort.mapBlock, Go.Sort.ahead, Array.getElem?_modify, this]

theorem lt_less (x y : Lab) : ltOf (fun x y : Lab => cmpS x.1 y.1) x y = less x.1 y.1 := by
  unfold ltOf cmpS
  cases h1 : less x.1 y.1 with
  | true => simp [h1]
  | false => cases h2 : less y.1 x.1 <;> simp [h1, h2]
theorem swo : Go.Sort.SWO (ltOf (fun x y : Lab => cmpS x.1 y.1)) where
  irrefl x := by rw [lt_less]; exact less_irrefl _
  trans x y z h1 h2 := by rw [lt_less] at *; exact less_trans h1 h2
  ntrans x y z h1 h2 := by
    rw [lt_less] at *
    cases h : less x.1 z.1 with
    | false => rfl
    | true =>
      by_cases e : x.1 = y.1
      · rw [e, h2] at h; cases h
      · rcases less_total e with h3 | h3
        · rw [h1] at h3; cases h3
        · have := less_trans h3 h
          rw [h2] at this; cases this
theorem cmpLays (M size : Nat) (w : World) : CmpLays Tryz.prog 71 #[] encL 2 (fun x y : Lab => cmpS x.1 y.1) M 0 size w := fun m os dk _ x y =>
  (byName_any x y _).mono fun e w' ⟨he, hw⟩ => ⟨he, 0, #[.cells #[S8 x.1, S8 x.2] 70, .cells #[S8 y.1, S8 y.2] 70], by subst hw; unfold boxed; rw [Go.Sort.alloc_eq_grow, Go.Sort.alloc_eq_grow, Go.Sort.grow_grow]; rfl⟩

def Srt (L : List Lab) : Prop := L.Pairwise fun a b => less b.1 a.1 = false

/-- slices.SortFunc of labels, by their names. -/
theorem sort_any (w : World) (M : Nat) (l : List Lab) (hrow : Row w M l) (hn : l.length < 4611686018427387904) :
    Calls Tryz.prog 70 #[.slice (some ⟨M, 0, none⟩) l.length l.length, .func (.func 71) #[] #[]] w fun e w' => e = .returned (.tuple #[]) ∧ ∃ L, L.Perm l ∧ Srt L ∧ Row w' M L ∧ Below M w w' := by
  have eg : ∀ args w, (callFunc 71 args).run Tryz.prog w = .ok (.enter 71 args) w := enters_of Tryz.func71 (by kernel_rfl) rfl
  have hcon := AnyQ.slices_SortFunc Tryz.sortL 2 Tryz.isAgg70 Tryz.sizeOf70 encL (fun _ => rfl) (fun x v hv => by simp [encL] at hv; rcases hv with rfl | rfl <;> rfl) (fun x y : Lab => cmpS x.1 y.1) swo 71 #[] M 0 l.length l.toArray w eg (cmpLays M _ w) (holds_row hrow) hrow.lt (by simpa using hn)
  refine Calls.mono hcon ?_
  rintro e w' ⟨he, d', n, os, ⟨hps, _, hp⟩, hs, rfl⟩
  refine ⟨he, d'.toList, ?_, ?_, ?_, below_sorted hrow.lt⟩
  · have : (d'.extract 0 l.toArray.size).toList = d'.toList := by rw [← hps]; simp
    rw [this] at hp
    simpa using hp
  · unfold Srt
    rw [List.pairwise_iff_getElem]
    intro i j hi hj hij
    have h := hs i j (Nat.zero_le _) hij (by rw [← hps]; simpa using hj)
    rw [lt_less] at h
    rw [getElem!_pos d' j (by simpa using hj), getElem!_pos d' i (by simpa using hi)] at h
    simpa using h
  · have h := row_sorted (n := n) (os := os) (L := d'.toList) hrow (by simpa using hps)
    simpa using h

theorem srt_asc : ∀ {L : List Lab}, Srt L → twins L = false → Asc L
  | [], _, _ => List.Pairwise.nil
  | [x], _, _ => by unfold Asc; simp
  | x :: y :: t, h, ht => by
    rw [twins, Bool.or_eq_false_iff] at ht
    unfold Srt at h
    rw [List.pairwise_cons] at h
    have ih := srt_asc h.2 ht.2
    have hxy : less x.1 y.1 = true := by
      rcases less_total (by simpa using ht.1 : x.1 ≠ y.1) with h3 | h3
      · exact h3
      · have := h.1 y (by simp)
        rw [h3] at this
        cases this
    unfold Asc at ih ⊢
    rw [List.pairwise_cons]
    refine ⟨fun z hz => ?_, ih⟩
    rcases List.mem_cons.1 hz with rfl | hz
    · exact hxy
    · rw [List.pairwise_cons] at ih
      exact less_trans hxy (ih.1 z hz)
theorem twins_dup : ∀ {L : List Lab}, twins L = true → ¬ (L.map Prod.fst).Nodup
  | [], h => by simp [twins] at h
  | [x], h => by simp [twins] at h
  | x :: y :: t, h => by
    rw [twins, Bool.or_eq_true] at h
    rcases h with h | h
    · intro hd
      rw [List.map_cons, List.nodup_cons] at hd
      exact hd.1 (by simp at h; rw [h]; simp)
    · intro hd
      rw [List.map_cons, List.nodup_cons] at hd
      exact twins_dup h hd.2
/-- What Canon answers of a list that has no fault. -/
theorem canon_sorted {l L : List Lab} (hp : L.Perm l) (hs : Srt L) (h16 : l.length ≤ 16) (he : firstErr l = 0) : canon l = if twins L = true then (6, []) else (0, L) := by
  unfold canon
  rw [if_neg (by omega), if_neg (by simpa using he)]
  by_cases ht : twins L = true
  · rw [if_pos ht, if_pos]
    unfold dup
    rw [decide_eq_true_eq]
    exact fun hd => twins_dup ht ((hp.map _).nodup_iff.2 hd)
  · have ht' : twins L = false := by simpa using ht
    have ha := srt_asc hs ht'
    have hd := (hp.map Prod.fst).nodup_iff.1 (asc_nodup ha)
    rw [if_neg ht, if_neg (by unfold dup; simpa using hd)]
    rw [asc_ext (sort_asc hd) ha ((sort_perm l).trans hp.symm)]
end Go.Proofs.YtkgmcabamhpjhaaGreat.LpSort

namespace Go.Proofs.YtkgmcabamhpjhaaGreat.LpCanon
open Go Go.RowKit Words AppN Less LbSpec LbText LbMem LbRef LbCmp LbCanon UtOwn LpOrd LpBoth LpCmp LpCan1 LpCopy LpSort

theorem lerr_len {x : Lab} (h : lerr x = 0) : x.1.length ≤ 32 ∧ x.2.length ≤ 256 := by
  have hn := lerr_name h
  refine ⟨((name_iff x.1).1 hn).2.1, ?_⟩
  unfold lerr at h
  rw [if_pos hn] at h
  split at h
  · cases h
  · omega
theorem firstErr_cons (x : Lab) (l : List Lab) : firstErr (x :: l) = if lerr x = 0 then firstErr l else lerr x := rfl
theorem own_row {w : World} {base M n : Nat} {l : List Lab} (h : Row w M l) (hb : base ≤ M) (hn : n = l.length) (hm : n ≤ 65536) : w.ownsRow base 70 2 (.slice (some ⟨M, 0, none⟩) n n) n (flat l) := by
  subst hn
  refine ⟨flat_len l, .inr ⟨M, l.length, _, rfl, hb, h, Nat.le_refl _, by unfold maxLen; omega, by simp [flat_len], ?_⟩⟩
  rw [← flat_len]
  simp
def CRl (w : World) (l : List Lab) (v : Value) (wr : World) : Prop := ∃ k : Nat, k ≤ l.length ∧ v = .int .i64 (k : Int) ∧ Hid (firstErr l = firstErr (l.drop k)) ∧ Hid (Below w.heap.size w wr)

set_option maxHeartbeats 6400000 in
set_option maxRecDepth 100000 in
theorem pcanon_any (w : World) (l : List Lab) (A : Option Addr) (c m : Nat) (h : Lb w A m c l) :
    Calls Tryz.prog 45 #[.slice A m c] w (CPost (canon l) w) := by
  have hLB := h
  obtain ⟨rfl, hc, hm, hr⟩ := h
  unfold maxLen at hm
  have HR := Lib.hid hr
  have HLB := Lib.hid hLB
  clear hr hLB
  by_cases hbig : 16 < l.length
  · have HE : Hid (canon l = (3, [])) := Lib.hid (by unfold canon; rw [if_pos hbig])
    have j : (16 : Int) < (l.length : Int) := by omega
    clear hbig
    go_enter Tryz.func45, Tryz.ntmps45
    go_wp2
    go_ret2
    exact cpost_err HE.out rfl (Below.refl _ _)
  · have j : ¬ (16 : Int) < (l.length : Int) := by omega
    have h16 : l.length ≤ 16 := by omega
    clear hbig
    go_enter Tryz.func45, Tryz.ntmps45
    go_wp2
    go_loopw [13] (fun v wr => CRl w l v wr) (fun v _ => l.length - (intOf v).toNat)
    case atStart => exact ⟨0, Nat.zero_le _, rfl, Lib.hid (by simp), Lib.hid (Below.refl _ _)⟩
    case round =>
      obtain ⟨k, hk, rfl, HC, HB⟩ := hrel
      by_cases hlt : k < l.length
      · obtain ⟨g1, o1, rfl, hg1, hc1⟩ := HR.out (by rw [flat_len]; omega)
        obtain ⟨p0, p1⟩ := cellsL hc1 hlt
        have hz1 : g1 < wr.heap.size := Nat.lt_of_lt_of_le hg1 HB.out.size
        have k0 := cell_up HB.out (p := ⟨g1, o1 + k * 2, none⟩) hg1 p0
        have k1 := cell_up HB.out (p := ⟨g1, o1 + k * 2 + 1, none⟩) hg1 p1
        obtain ⟨x, hx⟩ : ∃ x, l[k] = x := ⟨_, rfl⟩
        rw [hx] at k0 k1
        have HD : Hid (firstErr l = if lerr x = 0 then firstErr (l.drop (k + 1)) else lerr x) := Lib.hid (by rw [HC.out, List.drop_eq_getElem_cons hlt, hx, firstErr_cons])
        have HCK := fun w => Lib.hid (check_any x w)
        obtain ⟨q, hq⟩ : ∃ q, lerr x = q := ⟨_, rfl⟩
        rw [hq] at HD
        simp only [hq] at HCK
        clear hc1 p0 p1 hx HC hq
        unfold aggL S8 at HCK
        obtain ⟨x1, x2⟩ := x
        simp only at k0 k1 HCK
        have HBX : ∀ o, Hid (Below w.heap.size w (wr.alloc o)) := fun o => Lib.hid (HB.out.alloc HB.out.size o)
        by_cases hq0 : q = 0
        · rw [if_pos hq0] at HD
          have hj : ((q : Int) != 0) = false := by simp [hq0]
          clear hq0
          go_wp2_with fail
          refine (HCK _).out.mono ?_
          rintro e w1 ⟨rfl, hb1⟩
          have HB1 : Hid (Below w.heap.size w w1) := Lib.hid ((HBX _).out.trans (hb1.mono (HBX _).out.size))
          clear hb1 HCK
          go_wp2
          go_roundw
          case rel => exact ⟨k + 1, by omega, by go_num, Lib.hid HD.out, HB1⟩
          case measure => simp [intOf]; omega
        · rw [if_neg hq0] at HD
          have hj : ((q : Int) != 0) = true := by simp [hq0]
          have HE : Hid (canon l = (q, [])) := Lib.hid (by unfold canon; rw [if_neg (by omega), if_pos (by rw [HD.out]; exact hq0), HD.out])
          clear hq0
          go_wp2_with fail
          refine (HCK _).out.mono ?_
          rintro e w1 ⟨rfl, hb1⟩
          have HB1 : Hid (Below w.heap.size w w1) := Lib.hid ((HBX _).out.trans (hb1.mono (HBX _).out.size))
          clear hb1 HCK
          go_wp2
          go_ret2
          exact cpost_err HE.out rfl HB1.out
      · have hkl : k = l.length := by omega
        have HZ : Hid (firstErr l = 0) := Lib.hid (by rw [HC.out, hkl, List.drop_length]; rfl)
        have HLB2 : Hid (Lb wr A l.length c l) := Lib.hid ⟨rfl, hc, HLB.out.2.2.1, (HR.out.below HB.out).more HB.out.size⟩
        have HCP := Lib.hid (copies_any wr l A l.length c HLB2.out (by omega) (fun x hx => by have := lerr_len (firstErr_zero.1 HZ.out x hx); omega))
        clear HC hlt
        subst hkl
        go_wp2_with fail
        refine HCP.out.mono ?_
        rintro e w1 ⟨rfl, hrow, hb1⟩
        have HB1 : Hid (Below w.heap.size w w1) := Lib.hid (HB.out.trans (hb1.mono HB.out.size))
        have HS := Lib.hid (sort_any w1 wr.heap.size l hrow (by omega))
        have hge : w.heap.size ≤ wr.heap.size := HB.out.size
        clear hrow hb1 HCP HB
        go_wp2_with fail
        refine HS.out.mono ?_
        rintro e w2 ⟨rfl, L, hp, hs, hrow, hb2⟩
        have hlen : L.length = l.length := hp.length_eq
        have HB2 : Hid (Below w.heap.size w w2) := Lib.hid (HB1.out.trans (hb2.mono hge))
        have HT := Lib.hid (twins_any w2 L (some ⟨wr.heap.size, 0, none⟩) l.length l.length (hrow.lb hlen.symm (Nat.le_refl _) (by unfold maxLen; omega)))
        have HROW := Lib.hid hrow
        have HCS := Lib.hid (canon_sorted hp hs h16 HZ.out)
        have HLEN := Lib.hid hlen
        obtain ⟨b, hb⟩ : ∃ b, twins L = b := ⟨_, rfl⟩
        rw [hb] at HT HCS
        clear hp hs hrow hb2 hlen hb HS HB1
        cases b with
        | true =>
          go_wp2_with fail
          refine HT.out.mono ?_
          rintro e w3 ⟨rfl, hb3⟩
          have HB3 : Hid (Below w.heap.size w w3) := Lib.hid (HB2.out.trans (hb3.mono HB2.out.size))
          clear hb3 HT
          go_wp2
          go_ret2
          exact cpost_err (by rw [HCS.out]; rfl) rfl HB3.out
        | false =>
          go_wp2_with fail
          refine HT.out.mono ?_
          rintro e w3 ⟨rfl, hb3⟩
          have HB3 : Hid (Below w.heap.size w w3) := Lib.hid (HB2.out.trans (hb3.mono HB2.out.size))
          have HR3 := Lib.hid (HROW.out.below hb3 HROW.out.lt)
          clear hb3 HT HROW
          go_wp2
          go_ret2
          have hcs : canon l = (0, L) := by rw [HCS.out]; rfl
          rw [hcs]
          refine ⟨_, rfl, ?_, HB3.out⟩
          show World.ownsRow _ _ _ _ _ L.length (flat L)
          rw [HLEN.out]
          exact own_row HR3.out hge HLEN.out.symm (by omega)
end Go.Proofs.YtkgmcabamhpjhaaGreat.LpCanon

