/- The layings of the library's contracts of generic functions at this program: the numbers of its functions and types. No conditions. · slices.Compact and slices.DeleteFunc at uint64, of a row of the call's own. Conditions: those of the statements. -/
import Derived.Shelf.SlicesE.Compact
import Derived.Shelf.SlicesE.DeleteFunc
import Derived.Test.YtfojpbbmicmooaaProg
import Derived.Test.YtfojpbbmicmooaaSoSort
namespace Go.Proofs
open Go.Shelf
def Try.compL_ren : Go.Shelf.Ren := ⟨fun | 43 => 25 | n => n, fun | 22 => 22 | 23 => 31 | 3 => 3 | 4 => 4 | 0 => 0 | n => n, fun | n => n⟩
theorem Try.compL : Go.Proofs.SlLaysE.n43 Try.prog Try.compL_ren := {
  mixed := by kernel_rfl
  f43 := ⟨Try.f25.name, by decide, Try.func25.trans (congrArg some (by kernel_rfl))⟩
  t0 := Try.underlying0
  a0 := Try.isAgg0
  z0 := Try.sizeOf0
  v0 := Try.zeroValue0
  t3 := Try.underlying3
  a3 := Try.isAgg3
  z3 := Try.sizeOf3
  v3 := Try.zeroValue3
  t4 := Try.underlying4
  a4 := Try.isAgg4
  z4 := Try.sizeOf4
  v4 := Try.zeroValue4
  t22 := Try.underlying22
  a22 := Try.isAgg22
  z22 := Try.sizeOf22
  v22 := Try.zeroValue22
  a23 := Try.isAgg31
  z23 := Try.sizeOf31 }
def Try.delL_ren : Go.Shelf.Ren := ⟨fun | 10 => 21 | 6 => 34 | n => n, fun | 22 => 22 | 23 => 31 | 25 => 52 | 3 => 3 | 4 => 4 | 0 => 0 | n => n, fun | n => n⟩
theorem Try.delL : Go.Proofs.SlLaysH.n10 Try.prog Try.delL_ren := {
  mixed := by kernel_rfl
  f6 := ⟨Try.f34.name, by decide, Try.func34.trans (congrArg some (by kernel_rfl))⟩
  f10 := ⟨Try.f21.name, by decide, Try.func21.trans (congrArg some (by kernel_rfl))⟩
  t0 := Try.underlying0
  a0 := Try.isAgg0
  z0 := Try.sizeOf0
  v0 := Try.zeroValue0
  t3 := Try.underlying3
  a3 := Try.isAgg3
  z3 := Try.sizeOf3
  v3 := Try.zeroValue3
  t4 := Try.underlying4
  a4 := Try.isAgg4
  z4 := Try.sizeOf4
  v4 := Try.zeroValue4
  t22 := Try.underlying22
  a22 := Try.isAgg22
  z22 := Try.sizeOf22
  v22 := Try.zeroValue22
  a23 := Try.isAgg31
  z23 := Try.sizeOf31
  t25 := Try.underlying52
  a25 := Try.isAgg52
  z25 := Try.sizeOf52
  v25 := Try.zeroValue52 }
end Go.Proofs

namespace Go.Proofs.Ytfojpbbmicmooaa.PgRow
open Go Go.RowKit Go.Sort SoKit SoSt SoSort Words

/-! ### Plain: neighbours that are the same, once -/
theorem keeps_iff {l : List UInt64} {j : Nat} (hj : j < l.length) : Lib.keeps (arr l) j = true ↔ j = 0 ∨ l[j]? ≠ l[j - 1]? := by
  unfold Lib.keeps
  rw [decide_eq_true_eq, arr_at hj, arr_at (show j - 1 < l.length by omega), List.getElem?_eq_getElem hj, List.getElem?_eq_getElem (show j - 1 < l.length by omega)]
  refine or_congr Iff.rfl ⟨fun h e => h ?_, fun h e => h ?_⟩
  · rw [Option.some.inj e]
  · rw [num_inj e]
/-- What Compact leaves. -/
def comp (l : List UInt64) : List UInt64 := (Lib.compactUpTo (arr l) (arr l).size).map un
theorem comp_num (l : List UInt64) : Lib.compactUpTo (arr l) (arr l).size = (comp l).map num := of_all (l := l) fun x hx => by
  unfold Lib.compactUpTo at hx
  obtain ⟨j, hj, rfl⟩ := List.mem_map.1 hx
  have hj' : j < l.length := by rw [← arr_size l]; exact List.mem_range.1 (List.mem_filter.1 hj).1
  rw [arr_at hj']
  exact List.mem_map.2 ⟨_, List.getElem_mem hj', rfl⟩
theorem comp_eq (l : List UInt64) : comp l = ((List.range l.length).filter (Lib.keeps (arr l))).map fun j => un (arr l)[j]! := by
  unfold comp Lib.compactUpTo
  rw [List.map_map, arr_size]
  rfl
theorem comp_le (l : List UInt64) : (comp l).length ≤ l.length := by
  rw [comp_eq, List.length_map]
  have := List.length_filter_le (Lib.keeps (arr l)) (List.range l.length)
  rwa [List.length_range] at this
theorem mem_comp {l : List UInt64} {z : UInt64} : z ∈ comp l ↔ z ∈ l := by
  rw [comp_eq, List.mem_map]
  constructor
  · rintro ⟨j, hj, rfl⟩
    have hj' : j < l.length := List.mem_range.1 (List.mem_filter.1 hj).1
    rw [arr_at hj', un_num]
    exact List.getElem_mem hj'
  · intro hz
    obtain ⟨k, hk, rfl⟩ := List.mem_iff_getElem.1 hz
    have key : ∀ k : Nat, ∀ hk : k < l.length, ∃ j : Nat, ∃ hj : j < l.length, Lib.keeps (arr l) j = true ∧ l[j] = l[k] := by
      intro k
      induction k with
      | zero => intro hk; exact ⟨0, hk, (keeps_iff hk).2 (.inl rfl), rfl⟩
      | succ k ih =>
        intro hk
        by_cases e : l[k + 1] = l[k]
        · obtain ⟨j, hj, h1, h2⟩ := ih (by omega)
          exact ⟨j, hj, h1, by rw [h2, e]⟩
        · refine ⟨k + 1, hk, (keeps_iff hk).2 (.inr ?_), rfl⟩
          rw [List.getElem?_eq_getElem hk, Nat.add_sub_cancel, List.getElem?_eq_getElem (by omega)]
          simpa using e
    obtain ⟨j, hj, h1, h2⟩ := key k hk
    exact ⟨j, List.mem_filter.2 ⟨List.mem_range.2 hj, h1⟩, by rw [arr_at hj, un_num]; exact h2⟩
theorem rises_comp {l : List UInt64} (h : l.Pairwise fun a b => a.toNat ≤ b.toNat) : (comp l).Pairwise fun a b => a.toNat < b.toNat := by
  rw [comp_eq, List.pairwise_map]
  refine List.Pairwise.imp_of_mem ?_ ((List.pairwise_lt_range (n := l.length)).filter (Lib.keeps (arr l)))
  intro i j hi hj hij
  have hi' : i < l.length := List.mem_range.1 (List.mem_filter.1 hi).1
  have hj' : j < l.length := List.mem_range.1 (List.mem_filter.1 hj).1
  have hk := (keeps_iff hj').1 (List.mem_filter.1 hj).2
  rw [arr_at hi', arr_at hj', un_num, un_num]
  have hP := List.pairwise_iff_getElem.1 h
  rcases hk with hk | hk
  · omega
  rw [List.getElem?_eq_getElem hj', List.getElem?_eq_getElem (show j - 1 < l.length by omega)] at hk
  have hne : l[j].toNat ≠ l[j - 1].toNat := fun e => hk (by rw [UInt64.toNat_inj.1 e])
  have h1 := hP (j - 1) j (by omega) hj' (by omega)
  by_cases e : i = j - 1
  · subst e; omega
  · have h2 := hP i (j - 1) hi' (by omega) (by omega)
    omega

/-! ### The calls -/
theorem grown_refl (w : World) (r : Option Nat) : w.grownBy w r := ⟨rfl, rfl, rfl, Nat.le_refl _, fun _ _ _ => rfl⟩
theorem grown_drewN (w : World) (r : Option Nat) (q : Nat) : w.grownBy (w.drewN q) r := ⟨rfl, rfl, rfl, Nat.le_refl _, fun _ _ _ => rfl⟩
theorem comp_none (A : Option Addr) (c : Nat) (w : World) : Calls Try.prog 25 #[.slice A 0 c] w fun e w' => e = .returned (.slice A 0 c) ∧ w = w' := by
  go_enter Try.func25, Try.ntmps25
  go_wp2
  go_ret
  exact ⟨rfl, rfl⟩
theorem comp_own {w : World} {base : Nat} {v : Value} {l : List UInt64} (h : w.ownsRow base 31 1 v l.length (l.map B64)) (hl : l.length < 4611686018427387904) :
    Calls Try.prog 25 #[v] w fun e w' => ∃ v', e = .returned v' ∧ w'.ownsRow base 31 1 v' (comp l).length ((comp l).map B64) ∧ w.grownBy w' v.ownBlock ∧ v'.ownBlock = v.ownBlock := by
  rcases h.2 with ⟨rfl, hnil⟩ | ⟨g, cap, cur, rfl, hg, hb, h1, h2, h3, h4⟩
  · have hl0 : l = [] := List.eq_nil_of_length_eq_zero hnil
    subst hl0
    exact (comp_none none 0 w).mono fun e w' ⟨he, hw⟩ => ⟨_, he, by subst hw; exact h, by subst hw; exact grown_refl _ _, rfl⟩
  · rw [Nat.mul_one] at h4
    have hH := holds_own hb h4
    have hc := AnyE.slices_Compact Try.compL E64 (fun _ => rfl) (EqlAt.intD _ _ .u64) (NeqAt.intD _ _ .u64) 0 Try.zeroValue31 g 0 cap (arr l) w hH (by rw [arr_size]; omega) (by rw [arr_size]; exact h1)
    change Calls Try.prog 25 _ _ _ at hc
    rw [arr_size] at hc
    have e1 := comp_num l
    rw [arr_size] at e1
    rw [e1, List.length_map] at hc
    refine hc.mono fun e w' ⟨he, q, hw⟩ => ?_
    have hle := comp_le l
    have hA : At w g 0 (arr (comp l) ++ (List.replicate (l.length - (comp l).length) (0 : Int)).toArray) w' := by
      refine ⟨q, #[], ?_⟩
      rw [grow_empty, hw]
      unfold RW arr
      rw [List.append_toArray]
    exact ⟨_, he, own_at hg hb (by simp; omega) h2 h3 hA, grown_at hA, rfl⟩

/-- What DeleteFunc leaves, its predicate told on the numbers. -/
theorem del_none (A : Option Addr) (c g : Nat) (lb : Array Value) (w : World) : Calls Try.prog 21 #[.slice A 0 c, .func (.func g) #[] lb] w fun e w' => e = .returned (.slice A 0 c) ∧ ∃ q, w' = w.drewN q := by
  have hI : ∀ w, Calls Try.prog 34 #[.slice A 0 c, .func (.func g) #[] lb] w fun e w' => e = .returned (.int .i64 (-1)) ∧ ∃ q, w' = w.drewN q := fun w => by
    go_enter Try.func34, Try.ntmps34
    go_wp2
    go_loopw [8] (fun vi wr => vi = .int .i64 0 ∧ wr = w) (fun _ _ => 0)
    case atStart => exact ⟨rfl, rfl⟩
    case round =>
      obtain ⟨rfl, rfl⟩ := hrel
      go_wp2
      go_ret
      exact ⟨rfl, 0, rfl⟩
  go_enter Try.func21, Try.ntmps21
  go_wp2_with fail
  refine (hI _).mono ?_
  rintro e w' ⟨rfl, q, rfl⟩
  go_wp2_with fail
  go_ret
  exact ⟨rfl, q, rfl⟩
theorem holds_b {w : World} {b off : Nat} {l : List UInt64} (h : Holds E64 w b off (arr l)) : Holds B64 w b off l.toArray := fun j hj => by
  have hj' : j < l.length := by simpa using hj
  obtain ⟨h1, h2⟩ := h j (by rw [arr_size]; exact hj')
  rw [arr_at hj', e64_num] at h1
  exact ⟨by simpa [hj'] using h1, h2⟩
theorem put_b (w : World) (b off : Nat) (l : List UInt64) : putRow B64 w b off l.toArray = putRow E64 w b off (arr l) := by
  unfold putRow
  refine mapBlock_congr _ _ _ _ fun c _ _ _ => ?_
  unfold putCells
  rw [arr_size]
  apply Array.ext_getElem?
  intro k
  simp only [Array.getElem?_mapIdx, List.size_toArray]
  cases c[k]? with
  | none => rfl
  | some y =>
    simp only [Option.map_some]
    by_cases hk : off ≤ k ∧ k < off + l.length
    · rw [if_pos hk, if_pos hk, arr_at (show k - off < l.length by omega), e64_num]
      simp [show k - off < l.length by omega]
    · rw [if_neg hk, if_neg hk]
theorem del_own {w : World} {base : Nat} {v : Value} {l : List UInt64} (h : w.ownsRow base 31 1 v l.length (l.map B64)) (hl : l.length < 4611686018427387904) (g : Nat) (lb : Array Value)
    (eg : ∀ args w, (callFunc g args).run Try.prog w = .ok (.enter g args) w) (p : UInt64 → Bool) (hp : PredAt Try.prog g lb B64 p w) (hpo : ∀ b, v.ownBlock = some b → PredOver Try.prog g lb B64 p b 0 l.length w) :
    Calls Try.prog 21 #[v, .func (.func g) #[] lb] w fun e w' => ∃ v', e = .returned v' ∧ w'.ownsRow base 31 1 v' (l.filter fun u => !p u).length ((l.filter fun u => !p u).map B64) ∧ w.grownBy w' v.ownBlock ∧ v'.ownBlock = v.ownBlock := by
  rcases h.2 with ⟨rfl, hnil⟩ | ⟨b, cap, cur, rfl, hg, hb, h1, h2, h3, h4⟩
  · have hl0 : l = [] := List.eq_nil_of_length_eq_zero hnil
    subst hl0
    exact (del_none none 0 g lb w).mono fun e w' ⟨he, q, hw⟩ => ⟨_, he, by subst hw; exact h, by subst hw; exact grown_drewN _ _ _, rfl⟩
  · rw [Nat.mul_one] at h4
    have hH := holds_b (holds_own hb h4)
    have hc := AnyE.slices_DeleteFunc Try.delL B64 (fun _ => rfl) p g lb eg 0 Try.zeroValue31 b 0 cap l.toArray w hp (by simpa using hpo b rfl) hH (by simp; omega) (by simpa using h1)
    change Calls Try.prog 21 _ _ _ at hc
    rw [List.size_toArray] at hc
    refine hc.mono fun e w' ⟨he, q, hw⟩ => ?_
    have hle : (l.filter fun u => !p u).length ≤ l.length := List.length_filter_le _ _
    have hA : At w b 0 (arr (l.filter fun u => !p u) ++ (List.replicate (l.length - (l.filter fun u => !p u).length) (0 : Int)).toArray) w' := by
      refine ⟨q, #[], ?_⟩
      rw [grow_empty, hw, put_b]
      unfold RW arr
      rw [List.append_toArray, List.map_append, List.map_replicate]
      rfl
    exact ⟨_, he, own_at hg hb (by simp; omega) h2 h3 hA, grown_at hA, rfl⟩
end Go.Proofs.Ytfojpbbmicmooaa.PgRow

