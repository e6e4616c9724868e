/- slices.Sort at uint64, of a row of the call's own: it becomes the same numbers, rising. Condition: fewer than 2^62 numbers. -/
import Derived.Test.YtkgmcabamhpjhaaGreatSoPdq
import Derived.Test.YtkgmcabamhpjhaaGreatBase
import Derived.Test.YtkgmcabamhpjhaaGreatSoKits
namespace Go.Proofs.YtkgmcabamhpjhaaGreat.SoSort
open Go Go.RowKit Go.Sort SoKit SoSt SoPdq Words PkPlain

/-! ### Numbers of 64 bits as whole numbers -/
def num (u : UInt64) : Int := (u.toNat : Int)
def un (x : Int) : UInt64 := UInt64.ofNat x.toNat
theorem un_num (u : UInt64) : un (num u) = u := by unfold un num; simp
theorem num_inj {u v : UInt64} (h : num u = num v) : u = v := by rw [← un_num u, h, un_num]
def arr (l : List UInt64) : Array Int := (l.map num).toArray
theorem arr_size (l : List UInt64) : (arr l).size = l.length := by simp [arr]
theorem arr_list (l : List UInt64) : (arr l).toList = l.map num := by simp [arr]
theorem arr_at {l : List UInt64} {j : Nat} (h : j < l.length) : (arr l)[j]! = num l[j] := by simp [arr, h]
theorem e64_num (u : UInt64) : E64 (num u) = B64 u := rfl
/-- Whole numbers that all are numbers of 64 bits. -/
theorem of_all {z : List Int} {l : List UInt64} (h : ∀ x ∈ z, x ∈ l.map num) : z = (z.map un).map num := by
  rw [List.map_map]
  symm
  conv => rhs; rw [← List.map_id z]
  refine List.map_congr_left fun x hx => ?_
  obtain ⟨u, _, rfl⟩ := List.mem_map.1 (h x hx)
  simp [Function.comp, un_num]

/-! ### A row of the call's own -/
theorem holds_own {w : World} {g : Nat} {cur : Array Value} {e : TypeId} {l : List UInt64} (hb : w.heap[g]? = some (.cells cur e (0, 0))) (ht : cur.toList.take l.length = l.map B64) : Holds E64 w g 0 (arr l) := by
  intro j hj
  have hj' : j < l.length := by rwa [arr_size] at hj
  refine ⟨?_, by simp [World.frozen?, hb]⟩
  have h1 : (cur.toList.take l.length)[j]? = (l.map B64)[j]? := by rw [ht]
  rw [List.getElem?_take_of_lt hj', List.getElem?_map, List.getElem?_eq_getElem hj', Option.map_some] at h1
  simp only [World.cell?, hb, Nat.zero_add]
  rw [arr_at hj', e64_num]
  simpa using h1
theorem heap_at {w wr : World} {g : Nat} {cur : Array Value} {e : TypeId} {fr : Nat × Nat} {d : Array Int} (hb : w.heap[g]? = some (.cells cur e fr)) (h : At w g 0 d wr) : wr.heap[g]? = some (.cells (putCells E64 0 d cur) e fr) := by
  obtain ⟨n, os, rfl⟩ := h
  have hg : g < w.heap.size := (Array.getElem?_eq_some_iff.1 hb).1
  rw [heap_grow_old _ _ (by rw [rw_size]; exact hg)]
  simp [RW, putRow, mapBlock, Sort.ahead, Array.getElem?_modify, hb, onCells]
theorem grown_at {w wr : World} {g : Nat} {d : Array Int} (h : At w g 0 d wr) : w.grownBy wr (some g) := by
  obtain ⟨n, os, rfl⟩ := h
  refine ⟨rfl, rfl, rfl, by simp [rw_size], fun k hk hne => ?_⟩
  rw [heap_grow_old _ _ (by rw [rw_size]; exact hk)]
  have : g ≠ k := fun e => hne (by rw [e])
  simp [RW, putRow, mapBlock, Sort.ahead, Array.getElem?_modify, this]
theorem take_put (cur : Array Value) (l : List UInt64) (z : List Int) (h : l.length + z.length ≤ cur.size) : (putCells E64 0 (arr l ++ z.toArray) cur).toList.take l.length = l.map B64 := by
  apply List.ext_getElem?
  intro j
  by_cases hj : j < l.length
  · rw [List.getElem?_take_of_lt hj, Array.getElem?_toList]
    have hs : j < (arr l ++ z.toArray).size := by rw [Array.size_append, arr_size]; omega
    have hv : (arr l ++ z.toArray)[j]! = num l[j] := by
      rw [getElem!_pos _ j hs, Array.getElem_append_left (by rw [arr_size]; exact hj), ← getElem!_pos (arr l) j (by rw [arr_size]; exact hj), arr_at hj]
    simp only [putCells, Array.getElem?_mapIdx]
    rw [Array.getElem?_eq_getElem (show j < cur.size by omega), Option.map_some, if_pos ⟨Nat.zero_le _, by omega⟩, Nat.sub_zero, hv, e64_num, List.getElem?_map, List.getElem?_eq_getElem hj, Option.map_some]
  · rw [List.getElem?_eq_none (by rw [List.length_take]; omega), List.getElem?_eq_none (by simp; omega)]
/-- The row, put anew: its beginning is a row. -/
theorem own_at {w wr : World} {base g cap : Nat} {e : TypeId} {cur : Array Value} {l : List UInt64} {z : List Int} (hbase : base ≤ g) (hb : w.heap[g]? = some (.cells cur e (0, 0))) (h1 : l.length + z.length ≤ cap) (h2 : cap ≤ maxLen) (h3 : cur.size = cap * 1)
    (h : At w g 0 (arr l ++ z.toArray) wr) : wr.ownsRow base e 1 (.slice (some ⟨g, 0, none⟩) l.length cap) l.length (l.map B64) :=
  ⟨by simp, .inr ⟨g, cap, _, rfl, hbase, heap_at hb h, by omega, h2, by simp [putCells, h3], by rw [Nat.mul_one]; exact take_put cur l z (by omega)⟩⟩

/-! ### Sort -/
theorem ins_none (A : Option Addr) (c : Nat) (w : World) : Calls Tryz.prog 92 #[.slice A 0 c, .int .i64 0, .int .i64 0] w fun e w' => e = .returned (.tuple #[]) ∧ ∃ q, w' = w.drewN q := by
  go_enter Tryz.func92, Tryz.ntmps92
  go_wp2
  go_loopw [6] (fun vi wr => vi = .int .i64 1 ∧ wr = w) (fun _ _ => 0)
  case atStart => exact ⟨rfl, rfl⟩
  case round =>
    obtain ⟨rfl, rfl⟩ := hrel
    go_wp2
    go_end0
    exact ⟨rfl, 0, rfl⟩
theorem pdq_none (A : Option Addr) (c : Nat) (l : Int) (w : World) : Calls Tryz.prog 60 #[.slice A 0 c, .int .i64 0, .int .i64 0, .int .i64 l] w fun e w' => e = .returned (.tuple #[]) ∧ ∃ q, w' = w.drewN q := by
  go_enter Tryz.func60, Tryz.ntmps60
  go_wp2
  go_loopw [1, 2, 3, 8, 9] (fun va vb vl v8 v9 wr => va = .int .i64 0 ∧ vb = .int .i64 0 ∧ vl = .int .i64 l ∧ v8 = .bool true ∧ v9 = .bool true ∧ wr = w) (fun _ _ _ _ _ _ => 0)
  case atStart => exact ⟨rfl, rfl, rfl, rfl, rfl, rfl⟩
  case round =>
    obtain ⟨rfl, rfl, rfl, rfl, rfl, rfl⟩ := hrel
    go_wp2_with fail
    refine (ins_none A c wr).mono ?_
    rintro e w' ⟨rfl, q, rfl⟩
    go_wp2_with fail
    refine bodyPost_ret (results_none rfl _ _ _) rfl ?_
    exact ⟨rfl, q, rfl⟩
theorem sort_none (A : Option Addr) (c : Nat) (w : World) : Calls Tryz.prog 38 #[.slice A 0 c] w fun e w' => e = .returned (.tuple #[]) ∧ ∃ q, w' = w.drewN q := by
  have hL := SoBrk.len2 0 w (by decide)
  have hP := fun w => pdq_none A c ((need 0 : Nat) : Int) w
  rw [need_zero] at hL hP
  go_enter Tryz.func38, Tryz.ntmps38
  go_wp2_with fail
  refine hL.mono ?_
  rintro e w' ⟨rfl, rfl⟩
  go_wp2_with fail
  refine (hP _).mono ?_
  rintro e w' ⟨rfl, q, rfl⟩
  go_wp2_with fail
  go_end0
  exact ⟨rfl, q, rfl⟩
theorem sort_at (blk off cap N : Nat) (d : Array Int) (w : World) (hC : Ctx w blk off N d) :
    Calls Tryz.prog 38 #[.slice (some ⟨blk, off, none⟩) N cap] w fun e w' => e = .returned (.tuple #[]) ∧ ∃ dn, At w blk off dn w' ∧ PermIn 0 N d dn ∧ SortedIn ltInt 0 N dn := by
  have hN := hC.top
  have hk : need N ≤ 62 := (need_le N 62).2 (by omega)
  have hL := SoBrk.len2 N w (by omega)
  have hP := pdq_any w blk off cap N d hC (N + 1) 0 N (need N) d w (by omega) rfl (at_self hC.row) (Nat.zero_le _) (Nat.le_refl _) (by omega) (Or.inl rfl)
  generalize need N = k at *
  have HP : Hid _ := hP
  clear hP hC
  go_enter Tryz.func38, Tryz.ntmps38
  go_wp2_with fail
  refine hL.mono ?_
  rintro e w' ⟨rfl, rfl⟩
  go_wp2_with fail
  refine Calls.mono HP.out ?_
  rintro e w' ⟨rfl, hpost⟩
  have HQ : Hid _ := hpost
  clear hpost
  go_wp2_with fail
  go_end0
  exact ⟨rfl, HQ.out⟩
/-- A row of the call's own, sorted. -/
theorem sort_own {w : World} {base : Nat} {v : Value} {l : List UInt64} (h : w.ownsRow base 44 1 v l.length (l.map B64)) (hl : l.length < 4611686018427387904) :
    Calls Tryz.prog 38 #[v] w fun e w' => e = .returned (.tuple #[]) ∧ ∃ l' : List UInt64, l'.Perm l ∧ l'.Pairwise (fun a b => a.toNat ≤ b.toNat) ∧ w'.ownsRow base 44 1 v l'.length (l'.map B64) ∧ w.grownBy w' v.ownBlock := by
  rcases h.2 with ⟨rfl, hnil⟩ | ⟨g, cap, cur, rfl, hg, hb, h1, h2, h3, h4⟩
  · have hl0 : l = [] := List.eq_nil_of_length_eq_zero hnil
    subst hl0
    exact (sort_none none 0 w).mono fun e w' ⟨he, q, hw⟩ => ⟨he, [], List.Perm.refl _, List.Pairwise.nil, by subst hw; exact h, by subst hw; exact ⟨rfl, rfl, rfl, Nat.le_refl _, fun _ _ _ => rfl⟩⟩
  · rw [Nat.mul_one] at h4
    have hH := holds_own hb h4
    have hC : Ctx w g 0 l.length (arr l) := ⟨hH, arr_size l, (Array.getElem?_eq_some_iff.1 hb).1, hl⟩
    refine (sort_at g 0 cap l.length (arr l) w hC).mono fun e w' ⟨he, dn, hA, hp, hs⟩ => ⟨he, dn.toList.map un, ?_⟩
    have hsz : dn.size = l.length := hp.1.trans (arr_size l)
    have hperm : dn.toList.Perm (l.map num) := by
      have h5 := hp.2.2
      rw [← hsz, Array.extract_size] at h5
      rw [hsz, ← arr_size l, Array.extract_size, arr_list] at h5
      exact h5
    have hz : dn.toList = (dn.toList.map un).map num := of_all (l := l) fun x hx => hperm.mem_iff.1 hx
    have hd : dn = arr (dn.toList.map un) := by
      apply Array.toList_inj.1
      rw [arr_list]; exact hz
    have hlen : (dn.toList.map un).length = l.length := by simp [hsz]
    generalize dn.toList.map un = l' at *
    subst hd
    refine ⟨?_, ?_, ?_, grown_at hA⟩
    · have h5 := hperm.map un
      rw [arr_list, List.map_map, List.map_map] at h5
      have e1 : un ∘ num = id := funext fun u => un_num u
      rwa [e1, List.map_id, List.map_id] at h5
    · rw [List.pairwise_iff_getElem]
      intro i j hi hj hij
      have h5 := hs i j (Nat.zero_le _) hij (by omega)
      rw [lt_f, arr_at hi, arr_at hj] at h5
      unfold num at h5
      omega
    · have h5 := own_at (l := l') (z := []) (cap := cap) hg hb (by simp; omega) h2 h3 (by simpa using hA)
      rwa [show l.length = l'.length from hlen.symm]
end Go.Proofs.YtkgmcabamhpjhaaGreat.SoSort
