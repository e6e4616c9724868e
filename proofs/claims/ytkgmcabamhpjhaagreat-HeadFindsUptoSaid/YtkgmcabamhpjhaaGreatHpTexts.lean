/- What the library tells of slices_Sort_string, slices_Sort_string_none, slices_Compact_string, slices_Compact_string_empty, at this program: each an application of a contract that is proved over any program. Conditions: those of each contract. · The contract of the program's once: a row of the call's own is sorted, and each text stands once. Condition: the row is below 2^40 texts. · What the statements of layer 7 ask of the program ('Txt': contracts of text's four calls), and the document's answers in the same form. · The program's Words, and the library's sort and compaction of texts in a row of the call's own. Conditions: a text of at most 2^30 bytes, at most 2^43 texts. -/
import Derived.Shelf.Slices.CompactS
import Derived.Shelf.Slices.In.SortNone
import Derived.Shelf.Sort.Plain
import Derived.Test.YtkgmcabamhpjhaaGreatProg
import Derived.Test.YtkgmcabamhpjhaaGreatTxOnce
import Derived.Sort.OwnSorted
import Derived.Sort.KeysCollected
import Derived.Sort.Grow
import Derived.Lib.OwnBridge
import Derived.Lib.SlicesCompact
import Derived.Test.YtkgmcabamhpjhaaGreatTxAll
import Derived.Test.YtkgmcabamhpjhaaGreatTxSames
import Derived.Test.YtkgmcabamhpjhaaGreatTxPs
namespace Go.Proofs
open Go.Shelf
def Tryz.lays190_ren : Go.Shelf.Ren := ⟨fun | 190 => 41 | 125 => 54 | 258 => 64 | 128 => 86 | 129 => 87 | 302 => 103 | 303 => 104 | 304 => 105 | 305 => 106 | 306 => 107 | 307 => 108 | 308 => 109 | 309 => 110 | 310 => 111 | 333 => 130 | 329 => 117 | 330 => 118 | 334 => 131 | 335 => 132 | 336 => 114 | 344 => 147 | n => n, fun | 31 => 49 | 9 => 9 | 3 => 3 | 46 => 53 | 0 => 0 | 51 => 122 | 53 => 44 | 4 => 4 | 183 => 116 | 182 => 115 | 131 => 71 | 5 => 5 | 218 => 141 | 222 => 145 | 228 => 167 | 229 => 168 | n => n, fun | n => n⟩
theorem Tryz.lays190 : Go.Proofs.Lays.n190 Tryz.prog Tryz.lays190_ren := {
  mixed := by kernel_rfl
  f125 := Tryz.func54.trans (congrArg some (by kernel_rfl))
  f128 := Tryz.func86.trans (congrArg some (by kernel_rfl))
  f129 := Tryz.func87.trans (congrArg some (by kernel_rfl))
  f190 := Tryz.func41.trans (congrArg some (by kernel_rfl))
  f258 := Tryz.func64.trans (congrArg some (by kernel_rfl))
  f302 := Tryz.func103.trans (congrArg some (by kernel_rfl))
  f303 := Tryz.func104.trans (congrArg some (by kernel_rfl))
  f304 := Tryz.func105.trans (congrArg some (by kernel_rfl))
  f305 := Tryz.func106.trans (congrArg some (by kernel_rfl))
  f306 := Tryz.func107.trans (congrArg some (by kernel_rfl))
  f307 := Tryz.func108.trans (congrArg some (by kernel_rfl))
  f308 := Tryz.func109.trans (congrArg some (by kernel_rfl))
  f309 := Tryz.func110.trans (congrArg some (by kernel_rfl))
  f310 := Tryz.func111.trans (congrArg some (by kernel_rfl))
  f329 := Tryz.func117.trans (congrArg some (by kernel_rfl))
  f330 := Tryz.func118.trans (congrArg some (by kernel_rfl))
  f333 := Tryz.func130.trans (congrArg some (by kernel_rfl))
  f334 := Tryz.func131.trans (congrArg some (by kernel_rfl))
  f335 := Tryz.func132.trans (congrArg some (by kernel_rfl))
  f336 := Tryz.func114.trans (congrArg some (by kernel_rfl))
  f344 := Tryz.func147.trans (congrArg some (by kernel_rfl))
  t0 := Tryz.underlying0
  a0 := Tryz.isAgg0
  z0 := Tryz.sizeOf0
  v0 := Tryz.zeroValue0
  t3 := Tryz.underlying3
  a3 := Tryz.isAgg3
  z3 := Tryz.sizeOf3
  v3 := Tryz.zeroValue3
  t4 := Tryz.underlying4
  a4 := Tryz.isAgg4
  z4 := Tryz.sizeOf4
  v4 := Tryz.zeroValue4
  t5 := Tryz.underlying5
  a5 := Tryz.isAgg5
  z5 := Tryz.sizeOf5
  v5 := Tryz.zeroValue5
  t9 := Tryz.underlying9
  a9 := Tryz.isAgg9
  z9 := Tryz.sizeOf9
  v9 := Tryz.zeroValue9
  t31 := Tryz.underlying49
  a31 := Tryz.isAgg49
  z31 := Tryz.sizeOf49
  v31 := Tryz.zeroValue49
  t46 := Tryz.underlying53
  a46 := Tryz.isAgg53
  z46 := Tryz.sizeOf53
  v46 := Tryz.zeroValue53
  t51 := Tryz.underlying122
  a51 := Tryz.isAgg122
  z51 := Tryz.sizeOf122
  v51 := Tryz.zeroValue122
  t53 := Tryz.underlying44
  a53 := Tryz.isAgg44
  z53 := Tryz.sizeOf44
  v53 := Tryz.zeroValue44
  t131 := Tryz.underlying71
  a131 := Tryz.isAgg71
  z131 := Tryz.sizeOf71
  v131 := Tryz.zeroValue71
  t182 := Tryz.underlying115
  a182 := Tryz.isAgg115
  z182 := Tryz.sizeOf115
  v182 := Tryz.zeroValue115
  t183 := Tryz.underlying116
  a183 := Tryz.isAgg116
  z183 := Tryz.sizeOf116
  v183 := Tryz.zeroValue116
  t218 := Tryz.underlying141
  a218 := Tryz.isAgg141
  z218 := Tryz.sizeOf141
  v218 := Tryz.zeroValue141
  t222 := Tryz.underlying145
  a222 := Tryz.isAgg145
  z222 := Tryz.sizeOf145
  v222 := Tryz.zeroValue145
  t228 := Tryz.underlying167
  a228 := Tryz.isAgg167
  z228 := Tryz.sizeOf167
  v228 := Tryz.zeroValue167
  t229 := Tryz.underlying168
  a229 := Tryz.isAgg168
  z229 := Tryz.sizeOf168
  v229 := Tryz.zeroValue168 }
open Go.Sort Go.RowKit in
theorem Tryz.slices_Sort_string (blk off cap : Nat) (ss : List (List UInt8)) (w : World) (hH : Holds encStr w blk off ss.toArray) (hblk : blk < w.heap.size) (hsz : ss.length < 4611686018427387904) :
    Calls Tryz.prog 41 #[.slice (some ⟨blk, off, none⟩) ss.length cap] w fun e w' =>
      e = .returned (.tuple #[]) ∧ ∃ n os, w' = grow (putRow encStr (Sort.ahead w n) blk off (ss.mergeSort fun x y => decide (x ≤ y)).toArray) os := Any.slices_Sort_string Tryz.lays190 blk off cap ss w hH hblk hsz
def Tryz.lays194_ren : Go.Shelf.Ren := ⟨fun | 194 => 42 | n => n, fun | 31 => 49 | 9 => 9 | 3 => 3 | 4 => 4 | 0 => 0 | n => n, fun | n => n⟩
theorem Tryz.lays194 : Go.Proofs.Lays.n194 Tryz.prog Tryz.lays194_ren := {
  mixed := by kernel_rfl
  f194 := Tryz.func42.trans (congrArg some (by kernel_rfl))
  t0 := Tryz.underlying0
  a0 := Tryz.isAgg0
  z0 := Tryz.sizeOf0
  v0 := Tryz.zeroValue0
  t3 := Tryz.underlying3
  a3 := Tryz.isAgg3
  z3 := Tryz.sizeOf3
  v3 := Tryz.zeroValue3
  t4 := Tryz.underlying4
  a4 := Tryz.isAgg4
  z4 := Tryz.sizeOf4
  v4 := Tryz.zeroValue4
  t9 := Tryz.underlying9
  a9 := Tryz.isAgg9
  z9 := Tryz.sizeOf9
  v9 := Tryz.zeroValue9
  t31 := Tryz.underlying49
  a31 := Tryz.isAgg49
  z31 := Tryz.sizeOf49
  v31 := Tryz.zeroValue49 }
open Go.RowKit Go.Lib Go.Sort in
theorem Tryz.slices_Compact_string (blk off cap : Nat) (zs : List (List UInt8)) (w : World) (hH : Holds encStr w blk off zs.toArray) (hsz : zs.length ≤ 9223372036854775807) (hcap : zs.length ≤ cap) :
    Calls Tryz.prog 42 #[.slice (some ⟨blk, off, none⟩) zs.length cap] w fun e w' => e = .returned (.slice (some ⟨blk, off, none⟩) (Lib.compact zs).length cap) ∧ ∃ q, w' = putRow encStr (Sort.ahead w q) blk off (Lib.compact zs ++ List.replicate (zs.length - (Lib.compact zs).length) []).toArray := Any.slices_Compact_string Tryz.lays194 blk off cap zs w hH hsz hcap
open Go.RowKit Go.Lib Go.Sort in
theorem Tryz.slices_Compact_string_empty (a : Option Addr) (cap : Nat) (w : World) :
    Calls Tryz.prog 42 #[.slice a 0 cap] w fun e w' => e = .returned (.slice a 0 cap) ∧ w' = w := Any.slices_Compact_string_empty Tryz.lays194 a cap w
open Go.RowKit Go.Sort in
theorem Tryz.slices_Sort_string_none (p : Option Addr) (cap : Nat) (w : World) :
    Calls Tryz.prog 41 #[.slice p 0 cap] w fun e w' => e = .returned (.tuple #[]) ∧ w' = w := Any.slices_Sort_string_none Tryz.lays190 p cap w
end Go.Proofs

namespace Go.Proofs.YtkgmcabamhpjhaaGreat.TxOnceP
open Go Go.RowKit Go.Sort Words App Less UtOwn TxOnce

theorem keeps_iff {l : List (List UInt8)} {j : Nat} (hj : j < l.length) : Lib.keeps l.toArray j = true ↔ j = 0 ∨ l[j]? ≠ l[j - 1]? := by
  unfold Lib.keeps
  rw [decide_eq_true_eq]
  have h1 : l.toArray[j]! = l[j] := by simp [hj]
  have h2 : l.toArray[j - 1]! = l[j - 1] := by simp [show j - 1 < l.length by omega]
  rw [h1, h2, List.getElem?_eq_getElem hj, List.getElem?_eq_getElem (show j - 1 < l.length by omega)]
  simp
theorem mem_compact {l : List (List UInt8)} {z : List UInt8} : z ∈ Lib.compact l ↔ z ∈ l := by
  unfold Lib.compact Lib.compactUpTo
  rw [List.mem_map]
  constructor
  · rintro ⟨j, hj, rfl⟩
    have hj' : j < l.length := List.mem_range.1 (List.mem_filter.1 hj).1
    rw [show l.toArray[j]! = l[j] by simp [hj']]
    exact List.getElem_mem hj'
  · intro hz
    obtain ⟨k, hk, rfl⟩ := List.mem_iff_getElem.1 hz
    -- the first place of it
    have key : ∀ k : Nat, ∀ hk : k < l.length, ∃ j : Nat, ∃ hj : j < l.length, Lib.keeps l.toArray j = true ∧ l[j] = l[k] := by
      intro k
      induction k with
      | zero => intro hk; exact ⟨0, hk, (keeps_iff hk).2 (.inl rfl), rfl⟩
      | succ k ih =>
        intro hk
        by_cases e : l[k + 1] = l[k]
        · obtain ⟨j, hj, h1, h2⟩ := ih (by omega)
          exact ⟨j, hj, h1, by rw [h2, e]⟩
        · refine ⟨k + 1, hk, (keeps_iff hk).2 (.inr ?_), rfl⟩
          rw [List.getElem?_eq_getElem hk, Nat.add_sub_cancel, List.getElem?_eq_getElem (by omega)]
          simpa using e
    obtain ⟨j, hj, h1, h2⟩ := key k hk
    exact ⟨j, List.mem_filter.2 ⟨List.mem_range.2 hj, h1⟩, by rw [show l.toArray[j]! = l[j] by simp [hj]]; exact h2⟩
theorem rises_compact {l : List (List UInt8)} (h : l.Pairwise fun a b => a ≤ b) : Rises (Lib.compact l) := by
  unfold Rises Lib.compact Lib.compactUpTo
  rw [List.pairwise_map]
  refine List.Pairwise.imp_of_mem ?_ ((List.pairwise_lt_range (n := l.length)).filter (Lib.keeps l.toArray))
  intro i j hi hj hij
  have hi' : i < l.length := List.mem_range.1 (List.mem_filter.1 hi).1
  have hj' : j < l.length := List.mem_range.1 (List.mem_filter.1 hj).1
  have hk := (keeps_iff hj').1 (List.mem_filter.1 hj).2
  rw [show l.toArray[i]! = l[i] by simp [hi'], show l.toArray[j]! = l[j] by simp [hj']]
  have hP := List.pairwise_iff_getElem.1 h
  rcases hk with hk | hk
  · omega
  rw [List.getElem?_eq_getElem hj', List.getElem?_eq_getElem (show j - 1 < l.length by omega)] at hk
  have hne : l[j] ≠ l[j - 1] := by simpa using hk
  have h1 : l[j - 1] ≤ l[j] := hP (j - 1) j (by omega) hj' (by omega)
  have h2 : less l[j - 1] l[j] = true := by
    rcases less_total (fun e : l[j - 1] = l[j] => hne e.symm) with h | h
    · exact h
    · rw [less_lt] at h
      exact absurd h (List.not_lt.2 h1)
  by_cases e : i = j - 1
  · subst e
    exact h2
  · have h3 : l[i] ≤ l[j - 1] := hP i (j - 1) hi' (by omega) (by omega)
    by_cases e2 : l[i] = l[j - 1]
    · rw [e2]; exact h2
    · rcases less_total e2 with h | h
      · exact less_trans h h2
      · rw [less_lt] at h
        exact absurd h (List.not_lt.2 h3)
theorem compact_once (ws : List (List UInt8)) : Lib.compact (ws.mergeSort fun x y => decide (x ≤ y)) = once ws := by
  have hs : (ws.mergeSort fun x y => decide (x ≤ y)).Pairwise fun a b => a ≤ b := by
    have h := List.pairwise_mergeSort (le := fun x y : List UInt8 => decide (x ≤ y)) (fun a b c h1 h2 => by simp only [decide_eq_true_eq] at *; exact List.le_trans h1 h2) (fun a b => by simp only [Bool.or_eq_true, decide_eq_true_eq]; exact List.le_total a b) ws
    exact h.imp fun h => by simpa using h
  exact rises_ext (rises_compact hs) (rises_once ws) fun z => by rw [mem_compact, mem_once, List.mem_mergeSort]

def PPost (ws : List (List UInt8)) (base : Nat) (w : World) (e : Ending) (w' : World) : Prop :=
  ∃ v, e = .returned v ∧ w'.ownsRow base 9 1 v (once ws).length ((once ws).map S8) ∧ ∀ B w0, B ≤ base → Below B w0 w → Below B w0 w'

end Go.Proofs.YtkgmcabamhpjhaaGreat.TxOnceP

namespace Go.Proofs.YtkgmcabamhpjhaaGreat.TxLaw
open Go Go.RowKit Words App UtSpec UtOwn TxSpec Less TxSame TxOnce TxHas TxAll

/-- A list of texts is answered, in memory that lies as it did but for what is new. -/
def LPost (ws : List (List UInt8)) (w : World) (e : Ending) (w' : World) : Prop :=
  ∃ A c, e = .returned (.slice A ws.length c) ∧ ws.length ≤ c ∧ c ≤ maxLen ∧ Rd w' w'.heap.size A (ws.map S8) ∧ Below w.heap.size w w'
/-- The library's variable that its search reads holds some number (each row's first world has that). -/
def ML (w : World) : Prop := ∃ m, w.cell? ⟨0, 0, none⟩ = some (.int .i64 m)
theorem ML.below {w w' : World} (h : ML w) (hb : Below w.heap.size w w') : ML w' := by
  obtain ⟨m, hm⟩ := h
  refine ⟨m, (hb.cell (p := ⟨0, 0, none⟩) ?_).trans hm⟩
  show 0 < w.heap.size
  unfold World.cell? at hm
  cases h : w.heap[0]? with
  | none => simp [h] at hm
  | some o => exact (Array.getElem?_eq_some_iff.1 h).1
theorem lpost_own {ws : List (List UInt8)} {w w' : World} {v : Value} (h : w'.ownsRow w.heap.size 9 1 v ws.length (ws.map S8)) (hb : Below w.heap.size w w') : LPost ws w (.returned v) w' := by
  obtain ⟨A, c, rfl, h1, h2, _⟩ := own_slice h
  exact ⟨A, c, rfl, h1, h2, Rd.of_own h, hb⟩
theorem all_words (s : ByteArray) (w : World) (hs : s.size ≤ 1099511627776) : Calls Tryz.prog 43 #[.string s, .bool false] w (LPost (words s.data.toList) w) :=
  (all_any s false w hs).mono fun e w' ⟨v, he, ho, hb⟩ => by
    rw [sel_words] at ho
    subst he
    exact lpost_own ho hb
theorem all_inners (s : ByteArray) (w : World) (hs : s.size ≤ 1099511627776) : Calls Tryz.prog 43 #[.string s, .bool true] w (LPost (inners s.data.toList) w) :=
  (all_any s true w hs).mono fun e w' ⟨v, he, ho, hb⟩ => by
    rw [sel_inners] at ho
    subst he
    exact lpost_own ho hb
theorem once_l (ws : List (List UInt8)) (w : World) (A : Option Addr) (n c : Nat) (hn : n = ws.length) (h1 : Rd w w.heap.size A (ws.map S8)) (hm : ws.length ≤ c) (hc1 : c ≤ maxLen) (hl : ws.length ≤ 1099511627776) :
    Calls Tryz.prog 44 #[.slice A n c] w (LPost (once ws) w) := by
  subst hn
  exact (once_any w ws A c h1 hm hc1 (by omega)).mono fun e w' ⟨v, he, ho, hb⟩ => by
    subst he
    exact lpost_own ho hb
theorem same_eq (ws : List (List UInt8)) (w : World) (A1 A2 : Option Addr) (c1 c2 n1 n2 B1 B2 : Nat) (e1 : n1 = ws.length) (e2 : n2 = ws.length) (h1 : Rd w B1 A1 (ws.map S8)) (h2 : Rd w B2 A2 (ws.map S8)) (hm1 : ws.length ≤ c1) (hm2 : ws.length ≤ c2) (hc1 : c1 ≤ maxLen) (hc2 : c2 ≤ maxLen) :
    Calls Tryz.prog 23 #[.slice A1 n1 c1, .slice A2 n2 c2] w fun e w' => e = .returned (.bool true) ∧ Below w.heap.size w w' := by
  subst e1
  subst e2
  have h := same_any w ws ws A1 A2 c1 c2 B1 B2 h1 h2 hm1 hm2 hc1 hc2
  rw [show (ws == ws) = true by simp] at h
  exact h
theorem rd_keep {w w' : World} {A : Option Addr} {vs : List Value} (h : Rd w w.heap.size A vs) (hb : Below w.heap.size w w') : Rd w' w'.heap.size A vs := (h.below hb).more hb.size
theorem runsA_len (R : List Nat) : ∀ (cur : List Nat) (st : Bool), (runsA cur st R).length ≤ R.length + 1 := by
  induction R with
  | nil => intro cur st; rw [runsA]; split <;> simp
  | cons r R ih =>
    intro cur st
    rw [runsA]
    split
    · have := ih (cur ++ [r]) st; simp only [List.length_cons]; omega
    · have := ih [] true
      split <;> simp only [List.length_cons] <;> omega
theorem words_len (s : List UInt8) : (words s).length ≤ s.length + 1 := by
  unfold words
  rw [List.length_map, ← runsA_fst (rs s) [] false, List.length_map]
  have h1 := runsA_len (rs s) [] false
  have h2 := runes_len s
  have h3 : (rs s).length = (runes s).length := by unfold rs; rw [List.length_map]
  omega
theorem inners_len (s : List UInt8) : (inners s).length ≤ s.length + 1 := by
  unfold inners
  rw [List.length_map]
  have h0 := List.length_filter_le Prod.snd (runsA [] false (rs s))
  have h1 := runsA_len (rs s) [] false
  have h2 := runes_len s
  have h3 : (rs s).length = (runes s).length := by unfold rs; rw [List.length_map]
  omega

def cGet : ByteArray := { data := #[71, 69, 84, 32, 47, 97, 112, 105, 47, 118, 49, 32, 71, 69, 84] }
theorem aw1 : words cGet.data.toList = [[103, 101, 116], [97, 112, 105], [118, 49], [103, 101, 116]] := by decide +kernel
theorem aw2 : once (words [98, 32, 97, 32, 98]) = [[97], [98]] := by decide +kernel
theorem aw3 : once (inners [120, 61, 70, 111, 111, 32, 98, 97, 114]) = [[102, 111, 111]] := by decide +kernel
theorem aw4 : stands [97, 98, 99] [98, 99] = true := by decide +kernel
theorem aw5 : stands [97, 98, 99] [99, 98] = false := by decide +kernel

theorem same_made (ws : List (List UInt8)) (w0 : World) (A1 : Option Addr) (c1 n1 g k : Nat) (cs : Array Value) (hcs : cs.toList = ws.map S8) (hg : g = w0.heap.size) (hk : k = ws.length) (e1 : n1 = ws.length) (h1 : Rd w0 w0.heap.size A1 (ws.map S8)) (hm1 : ws.length ≤ c1) (hc1 : c1 ≤ maxLen) (hw : ws.length ≤ 100) :
    Calls Tryz.prog 23 #[.slice A1 n1 c1, .slice (some ⟨g, 0, none⟩) k k] (w0.alloc (.cells cs 9)) fun e w' => e = .returned (.bool true) ∧ Below w0.heap.size w0 w' := by
  subst hg
  subst hk
  have h2 := Rd.made w0 cs 9
  rw [hcs] at h2
  exact (same_eq ws (w0.alloc (.cells cs 9)) A1 (some ⟨w0.heap.size, 0, none⟩) c1 ws.length n1 ws.length _ _ e1 rfl (h1.alloc (Nat.le_refl _) _) h2 hm1 (Nat.le_refl _) hc1 (by unfold maxLen; omega)).mono
    fun e w' ⟨he, hb⟩ => ⟨he, ((Below.refl _ _).alloc (Nat.le_refl _) _).trans (hb.mono (by simp))⟩

end Go.Proofs.YtkgmcabamhpjhaaGreat.TxLaw

namespace Go.Proofs.YtkgmcabamhpjhaaGreat.HpText
open Go Go.RowKit Words App UtSpec UtOwn UtSmall UtRange TxSpec TxAll Less TxOnce TxWord TxStep TxClo TxEach TxOnceP TxLaw
open Go.Sort (putRow Holds)

/-- What a call answers: a row of the call's own. -/
def RPost (ws : List (List UInt8)) (w : World) (e : Ending) (w' : World) : Prop :=
  ∃ v, e = .returned v ∧ w'.ownsRow w.heap.size 9 1 v ws.length (ws.map S8) ∧ Below w.heap.size w w'
theorem made_of {s : ByteArray} {w w1 : World} (h1 : w1.heap = ((w.alloc (.cells #[.string s] 9)).alloc (.cells #[.slice none 0 0] 49)).heap) (h2 : w1.os = w.os) (h3 : w1.tape = w.tape) (h4 : w1.output = w.output) : Made s w w1 := by
  have hb : Below w.heap.size w ((w.alloc (.cells #[.string s] 9)).alloc (.cells #[.slice none 0 0] 49)) := ((Below.refl _ w).alloc (Nat.le_refl _) _).alloc (by simp) _
  refine ⟨by rw [h1]; simp, ⟨h2, h3, h4, by rw [h1]; exact hb.size, fun k hk => by rw [h1]; exact hb.block k hk⟩, ?_, ?_⟩
  · rw [h1]
    exact (Below.heap_alloc _ _ _ (by simp)).trans (heap_alloc_new w _)
  · rw [h1]
    have h := heap_alloc_new (w.alloc (.cells #[.string s] 9)) (.cells #[.slice none 0 0] 49)
    rw [show (w.alloc (.cells #[.string s] 9)).heap.size = w.heap.size + 1 by simp] at h
    exact h

set_option maxHeartbeats 1600000 in
set_option maxRecDepth 100000 in
/-- text.Words. -/
theorem words_any (s : ByteArray) (w : World) (hs : s.size ≤ 1073741824) : Calls Tryz.prog 40 #[.string s] w (RPost (words s.data.toList) w) := by
  have HE := fun w1 hm => Lib.hid (eachW s w w1 hm hs)
  rw [sel_words] at HE
  generalize words s.data.toList = T at *
  have k0 : ((w.alloc (.cells #[.string s] 9)).alloc (.cells #[.slice none 0 0] 49)).cell? ⟨w.heap.size, 0, none⟩ = some (.string s) := cell_of_heap (made_of (s := s) (w := w) rfl rfl rfl rfl).text rfl
  go_enter Tryz.func40, Tryz.ntmps40
  go_wp2_with fail
  refine (HE _ (made_of rfl rfl rfl rfl)).out.mono ?_
  rintro e w2 ⟨rfl, hb⟩
  obtain ⟨A, c, hl, hown⟩ := hb.list
  have HB := Lib.hid hb
  have HO := Lib.hid hown
  have k1 : w2.cell? ⟨w.heap.size + 1, 0, none⟩ = some (.slice A T.length c) := cell_of_heap hl rfl
  clear hb hl hown HE k0
  go_wp2
  go_ret
  exact ⟨_, rfl, own_mono HO.out (by omega), HB.out.below⟩

/-- A row of the call's own, from the block 'base' on. -/
def CPost (l : List (List UInt8)) (base : Nat) (w : World) (e : Ending) (w' : World) : Prop :=
  ∃ v, e = .returned v ∧ w'.ownsRow base 9 1 v l.length (l.map S8) ∧ ∀ B w0, B ≤ base → Below B w0 w → Below B w0 w'
def SPost (l : List (List UInt8)) (base : Nat) (v : Value) (w : World) (e : Ending) (w' : World) : Prop :=
  e = .returned (.tuple #[]) ∧ w'.ownsRow base 9 1 v l.length (l.map S8) ∧ ∀ B w0, B ≤ base → Below B w0 w → Below B w0 w'


theorem sort_any (ws : List (List UInt8)) (base : Nat) (v : Value) (w : World) (hown : w.ownsRow base 9 1 v ws.length (ws.map S8)) (hl : ws.length ≤ 8796093022208) :
    Calls Tryz.prog 41 #[v] w (SPost (ws.mergeSort fun x y => decide (x ≤ y)) base v w) := by
  by_cases hv : v = .slice none 0 0
  · subst hv
    have hn : ws = [] := by
      rcases hown.2 with ⟨_, h⟩ | ⟨g, cap, cur, h, _⟩
      · exact List.eq_nil_of_length_eq_zero h
      · cases h
    subst hn
    refine (Tryz.slices_Sort_string_none none 0 w).mono fun e w' ⟨he, hw⟩ => ?_
    subst hw
    exact ⟨he, by simpa using World.ownsRow_nil w' base 9 1, fun B w0 _ h => h⟩
  · obtain ⟨g, cap, rfl, hbg, hgl, hncap, hcm, _, hH⟩ := Lib.holds_of_ownsRow (enc := encStr) hown hv
    have hl2 : (ws.mergeSort fun x y => decide (x ≤ y)).length = ws.length := List.length_mergeSort ws
    refine (Tryz.slices_Sort_string g 0 cap ws w hH hgl (by omega)).mono fun e w' ⟨he, n, os, hw⟩ => ?_
    subst hw
    rcases hown.2 with ⟨h0, _⟩ | ⟨g', cap', cur, hv', hbase, hb, h1, h2, h3, h4⟩
    · cases h0
    cases hv'
    have hs := ownsRow_sorted (n := n) (os := os) (ts := ws.mergeSort fun x y => decide (x ≤ y)) (ss := ws) hl2 hbase hb h1 h2 h3
    refine ⟨he, ?_, fun B w0 hB hbel => hbel.grown (grownBy_sorted _) (by omega) (fun j hj => by cases hj; omega)⟩
    rw [hl2]
    exact hs

theorem compact_any (ws : List (List UInt8)) (base : Nat) (v : Value) (w : World) (hown : w.ownsRow base 9 1 v (ws.mergeSort fun x y => decide (x ≤ y)).length ((ws.mergeSort fun x y => decide (x ≤ y)).map S8)) (hl : ws.length ≤ 8796093022208) :
    Calls Tryz.prog 42 #[v] w (CPost (once ws) base w) := by
  have hl2 : (ws.mergeSort fun x y => decide (x ≤ y)).length = ws.length := List.length_mergeSort ws
  have hco := compact_once ws
  obtain ⟨ss, hss⟩ : ∃ ss, (ws.mergeSort fun x y => decide (x ≤ y)) = ss := ⟨_, rfl⟩
  rw [hss] at hown hl2 hco
  by_cases hv : v = .slice none 0 0
  · subst hv
    have hn : ss = [] := by
      rcases hown.2 with ⟨_, h⟩ | ⟨g, cap, cur, h, _⟩
      · exact List.eq_nil_of_length_eq_zero h
      · cases h
    subst hn
    have ho : once ws = [] := by rw [← hco]; rfl
    refine (Tryz.slices_Compact_string_empty none 0 w).mono fun e w' ⟨he, hw⟩ => ?_
    subst hw
    rw [ho]
    exact ⟨_, he, World.ownsRow_nil _ _ 9 1, fun B w0 _ h => h⟩
  · obtain ⟨g, cap, rfl, hbg, hgl, hncap, hcm, _, hH⟩ := Lib.holds_of_ownsRow (enc := encStr) hown hv
    have hle := Lib.compact_length_le ss
    refine (Tryz.slices_Compact_string g 0 cap ss w hH (by omega) (by omega)).mono fun e w' ⟨he, q, hw⟩ => ?_
    rw [hco] at he hw hle
    subst hw
    have hc := Lib.ownsRow_putRow (q := q) (k := (once ws).length) (ys := once ws ++ List.replicate (ss.length - (once ws).length) []) hown (by simp; omega) (by omega)
    rw [List.take_left] at hc
    exact ⟨_, he, hc, fun B w0 hB hbel => Lib.below_putRow hbel (by omega)⟩
end Go.Proofs.YtkgmcabamhpjhaaGreat.HpText

