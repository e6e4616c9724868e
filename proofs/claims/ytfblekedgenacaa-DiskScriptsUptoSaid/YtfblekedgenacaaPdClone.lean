/- The contract of Clone. Conditions: the disk lies in memory as 'PDisk' says; a file's bytes are at most 2^47; at most 10^9 files. -/
import Derived.Test.YtfblekedgenacaaPdSt
import Derived.Maps.RangeWalk
namespace Go.Proofs.Ytfblekedgenacaa.PdClone
open Go Go.RowKit Go.Maps Words DkSpec PdLook RefDisk PdDisk PdChange PdOps PdSync PdRen PdRead PdList PdApp PdRes PdSt

theorem run_makeMapN (w : World) (n : Int) : (Instr.makeMap 56 (some (.int .i64 n))).run Try.prog w = .ok (.map (some w.heap.size)) (w.alloc (.map #[] 0)) := by
  simp [Instr.makeMap, run_underlying Try.underlying56, asInt, asIntOf, Result.andThen]

theorem clone_nil (w : World) : Calls Try.prog 10 #[.pointer none] w fun e w' => e = .returned (.pointer none) ∧ w = w' := by
  have hne := nil_nil
  go_enter Try.func10, Try.ntmps10
  go_wp2
  go_ret
  exact ⟨rfl, rfl⟩

/-- The files that are done. -/
def doneF (left : Lit → Bool) (l : List DFile) : List DFile := l.filter fun f => !left (.string f.name)
theorem look_done (left : Lit → Bool) (s : List UInt8) : ∀ l : List DFile, fileOf s (doneF left l) = if left (.string s) then none else fileOf s l
  | [] => by simp [doneF, fileOf]
  | g :: r => by
    have ih := look_done left s r
    unfold doneF at ih ⊢
    rw [List.filter_cons]
    by_cases hg : left (.string g.name) = true
    · rw [hg]
      simp only [Bool.not_true, Bool.false_eq_true, if_false]
      rw [ih, fileOf]
      by_cases e : g.name = s
      · rw [← e, hg]; simp
      · rw [if_neg e]
    · have hg' : left (.string g.name) = false := by simpa using hg
      rw [hg']
      simp only [Bool.not_false, if_true]
      rw [fileOf, fileOf, ih]
      by_cases e : g.name = s
      · rw [if_pos e, if_pos e, ← e, hg']; simp
      · rw [if_neg e, if_neg e]
theorem good_done (left : Lit → Bool) {d : DSt} (h : DkSpec.Good d) : DkSpec.Good { d with files := doneF left d.files } := ⟨h.1.sublist List.filter_sublist, fun f hf => h.2 f (List.mem_filter.1 hf).1⟩
theorem done_all {left : Lit → Bool} (h : ∀ kl, left kl = false) (l : List DFile) : doneF left l = l := by
  unfold doneF
  exact List.filter_eq_self.2 fun f _ => by simp [h]
theorem done_none {D : DataW Unit} {l : List DFile} (h : ∀ s, Maps.has D (.string s) = (fileOf s l).isSome) (hr : Rises l) : doneF (Maps.has D) l = [] := by
  unfold doneF
  exact List.filter_eq_nil_iff.2 fun f hf => by simp [h, look_mem hr hf]

def mkV : Option Nat → Value
  | none => .pointer none
  | some g => ptr g
theorem invK (key : Value) (kl : Lit) (h : keyOf Try.prog 9 key = some kl) : ∃ x : List UInt8, key = S8 x := by
  obtain ⟨x, hx, _, _⟩ := Maps.keyOf_str Try.underlying9 h
  exact ⟨x, hx⟩
theorem invV (v : Value) (y : DataW Unit × List MemPlace) (h : ptrR v = some y) : ∃ c : Option Nat, v = mkV c := by
  unfold ptrR at h
  split at h
  · exact ⟨none, rfl⟩
  · rename_i a
    split at h
    · rename_i ha
      exact ⟨some a.block, congrArg (fun z => Value.pointer (some z)) ha⟩
    · cases h
  · cases h
/-- New blocks are the new disk's, but for the iterator. -/
def ext2 (K : Nat → Nat) (n o r : Nat) : Nat → Nat := fun b => if b < n then K b else if b = r then o + 1 else o
theorem ext2_old {K : Nat → Nat} {n o r i : Nat} (h : i < n) : ext2 K n o r i = K i := by unfold ext2; rw [if_pos h]
theorem ext2_new {K : Nat → Nat} {n o r i : Nat} (h : n ≤ i) (h2 : i ≠ r) : ext2 K n o r i = o := by unfold ext2; rw [if_neg (by omega), if_neg h2]
theorem ext2_ne {K : Nat → Nat} {n o r i : Nat} (h : ext2 K n o r i = o) (hr : n ≤ r) : i ≠ r := fun e => by
  unfold ext2 at h
  rw [if_neg (by omega), if_pos e] at h
  omega
theorem same_str (a b : List UInt8) : (Lit.string a).sameKey (.string b) = decide (a = b) := by
  rw [Bool.eq_iff_iff]
  simp [Lit.sameKey]
theorem look_step (left : Lit → Bool) (x : List UInt8) (f : DFile) (l : List DFile) (hf : fileOf x l = some f) (s : List UInt8) : fileOf s (doneF (fun z => left z && !z.sameKey (.string x)) l) = if s = x then some f else fileOf s (doneF left l) := by
  rw [look_done, look_done]
  simp only [same_str]
  by_cases e : s = x
  · subst e
    simp [hf]
  · simp [e]
/-- The loop. -/
def RelC (w : World) (K : Nat → Nat) (o2 bc M M2 r n : Nat) (D : DataW Unit) (L : Int) (d : DSt) (wr : World) : Prop := ∃ (left : Lit → Bool) (cnt : Nat), wr.ranges Try.prog 9 ptrR M r n D left cnt ∧ Hid (Below w.heap.size w wr) ∧
  Hid (∃ D2 G2 Q2, PAt wr (ext2 K w.heap.size o2 r) o2 bc M2 D2 L G2 Q2 { d with files := doneF left d.files })

/-- What a round reads. -/
def Cs (w w' : World) (G : List UInt8 → Nat) (x : List UInt8) (f : DFile) (A : Option Addr) (c : Nat) : Prop :=
  w'.cell? ⟨w.heap.size, 0, none⟩ = some (.map (some (w.heap.size + 1))) ∧ w'.cell? ⟨G x, 0, none⟩ = some (.slice A f.data.length c) ∧ w'.cell? ⟨G x, 1, none⟩ = some (.int .i64 (f.synced : Int))
theorem cs_of {w w' : World} {K K2 : Nat → Nat} {o o2 p M : Nat} {D D2 : DataW Unit} {L L2 : Int} {G G2 : List UInt8 → Nat} {Q Q2 : List UInt8 → Value} {d d2 : DSt} {x : List UInt8} {f : DFile} {A : Option Addr} {c : Nat}
    (h : PAt w' K o p M D L G Q d) (hf : fileOf x d.files = some f) (hv : Q x = .slice A f.data.length c) (h2 : PAt w' K2 o2 w.heap.size (w.heap.size + 1) D2 L2 G2 Q2 d2) : Cs w w' G x f A c := by
  obtain ⟨_, hfile⟩ := h.at_ x f hf
  obtain ⟨k0, k1, _⟩ := FileAt.cells hfile
  rw [hv] at k0
  exact ⟨(PAt.cells h2).1, k0, k1⟩
set_option maxHeartbeats 3200000 in
set_option maxRecDepth 100000 in
theorem clone_any (w : World) (K : Nat → Nat) (o o2 p : Nat) (d : DSt) (hd : PDisk w K o p d) (hn : d.files.length ≤ 1000000000) (hz : ∀ f ∈ d.files, f.data.length ≤ 140737488355328) :
    Calls Try.prog 10 #[.pointer (some ⟨p, 0, none⟩)] w (NPost w K o2 d) := by
  obtain ⟨M, D, L, G, Q, h⟩ := hd
  have hne := eq_nil p
  have hmm := run_makeMapN
  obtain ⟨c0, c1, c2⟩ := PAt.cells h
  have HH := Lib.hid h
  have HN := Lib.hid hn
  have HZ := Lib.hid hz
  have H1 := Lib.hid (PAt.alloc h (.cells #[.map (some M), .bool d.full, .int .i64 L] 58))
  have k1 := (PAt.cells H1.out).1
  have H2 := Lib.hid (PAt.alloc H1.out (.map #[] 0))
  have hpl := lt_of h.struct
  have H3 : Hid (PAt ((w.alloc (.cells #[.map (some (w.heap.size + 1)), .bool d.full, .int .i64 L] 58)).alloc (.map #[] 0)) K o p M D L G Q d) := Lib.hid (PAt.alloc (PAt.alloc h _) _)
  have k3 := (PAt.cells H3.out).1
  clear h hn hz
  go_enter Try.func10, Try.ntmps10
  go_wp2_with (first
    | (at_len; refine wpList_len_own _ rfl _ 56 rfl 9 62 Try.underlying56 ptrR M _ D rfl H1.out.map ?_)
    | (at_range; refine wpList_range_own _ rfl _ 56 rfl 9 62 keyed Try.underlying56 ptrR M _ D rfl H3.out.map ?_; intro w0 hrg0 hg0 hs0)
    | go_in)
  try go_frame
  have e3 : ((w.alloc (.cells #[.map (some (w.heap.size + 1)), .bool d.full, .int .i64 L] 58)).alloc (.map #[] 0)).heap.size = w.heap.size + 2 := by simp
  rw [e3] at hrg0 hs0 ⊢
  go_loopw [4] (fun _ wr => RelC w K o2 w.heap.size M (w.heap.size + 1) (w.heap.size + 2) (Maps.size D) D L d wr) (fun _ wr => wr.rangeLeft M (w.heap.size + 2))
  case atStart =>
    have hW : Below w.heap.size w w0 := (((Below.refl _ w).alloc (Nat.le_refl _) (.cells #[.map (some (w.heap.size + 1)), .bool d.full, .int .i64 L] 58)).alloc (by simp) (.map #[] 0)).grown hg0 (by simp; omega) (fun k hk => by cases hk)
    have hst0 : w0.heap[w.heap.size]? = some (.cells #[.map (some (w.heap.size + 1)), .bool d.full, .int .i64 L] 58 (0, 0)) := by
      rw [hg0.block _ (by rw [e3]; omega) (by simp), Below.heap_alloc _ _ _ (by simp)]
      exact Go.heap_alloc_new w _
    have hm0 := (World.ownsMap_made (w.alloc (.cells #[.map (some (w.heap.size + 1)), .bool d.full, .int .i64 L] 58)) Try.prog 9 ptrR).kept hg0 (by simp)
    have hds := done_none HH.out.tells HH.out.good.1
    refine ⟨_, _, hrg0, Lib.hid hW, Lib.hid ⟨.map [], fun _ => 0, fun _ => .slice none 0 0, ?_⟩⟩
    rw [hds]
    exact {
      struct := hst0
      kp := ext2_new (Nat.le_refl _) (by omega)
      kM := ext2_new (by omega) (by omega)
      map := PdDisk.tight (by simpa using hm0)
      low := HH.out.low
      high := HH.out.high
      off := HH.out.off
      left := HH.out.left
      un := HH.out.un
      good := ⟨List.Pairwise.nil, fun f hf => by cases hf⟩
      tells := fun s => rfl
      at_ := fun s f h => by cases h
      apart := fun s s' f f' h => by cases h }
  case round =>
    obtain ⟨left, cnt, hrg, hbl, hnew⟩ := hrel
    go_wp2_with (at_next; refine wpList_next_ranges _ rfl _ rfl 9 keyed ptrR S8 mkV invK invV M (w.heap.size + 2) _ D left cnt rfl hrg ?_ ?_)
    · intro hc0 hl0
      obtain ⟨D2, G2, Q2, hp2⟩ := hnew.out
      have HP2 := Lib.hid hp2
      clear hp2
      go_wp2
      go_ret
      refine ⟨w.heap.size, ext2 K w.heap.size o2 (w.heap.size + 2), rfl, Nat.le_refl _, ⟨w.heap.size + 1, D2, L, G2, Q2, ?_⟩, fun o' => ⟨hbl.out.os, hbl.out.tape, hbl.out.output, hbl.out.size, fun j hj _ => hbl.out.block j hj, fun j hj => ext2_old hj⟩⟩
      have h2 := HP2.out
      rw [done_all hl0] at h2
      exact h2
    · intro x g kl y1 y2 w1 cnt1 hkx hlx hgy hat hrg1 hlt hg1 hs1 hen
      obtain ⟨x', hxe, rfl, _⟩ := Maps.keyOf_str Try.underlying9 hkx
      obtain rfl : x = x' := encStr_inj hxe
      have hhas := has_true_of_atKey hat
      obtain ⟨f, hf⟩ : ∃ f, fileOf x d.files = some f := Option.isSome_iff_exists.1 (by rw [← HH.out.tells]; exact hhas)
      have hmk : mkV g = ptr (G x) := by
        have h1 := (HH.out.at_ x f hf).1
        rw [hat] at h1
        subst h1
        exact ptrR_inv hgy
      rw [hmk] at hen ⊢
      have hW1 : Below w.heap.size w w1 := hbl.out.grown hg1 hbl.out.size (fun k hk => by injection hk with hk; omega)
      obtain ⟨D2, G2, Q2, hp2⟩ := hnew.out
      have hnew1 : PAt w1 (ext2 K w.heap.size o2 (w.heap.size + 2)) o2 w.heap.size (w.heap.size + 1) D2 L G2 Q2 { d with files := doneF left d.files } :=
        hp2.keep (fun i hi hk => hg1.block i hi (fun e => by injection e with e; exact ext2_ne hk (by omega) e)) (fun _ _ => rfl)
      have HN1 := Lib.hid hnew1
      have hold1 := PAt.below HH.out hW1
      obtain ⟨_, hfile⟩ := hold1.at_ x f hf
      obtain ⟨k0, k1', _⟩ := FileAt.cells hfile
      obtain ⟨A, c, hv, _, _, hrd⟩ := FileAt.open_ hfile
      rw [hv] at k0
      obtain ⟨b0, _, _⟩ := PAt.cells hnew1
      have hnl : x.length ≤ maxLen := by have := name_len HH.out.good hf; unfold maxLen; omega
      have HCL := Lib.hid (PdRead.clone_any f.data A f.data.length c w1.drew _ rfl hrd.drew (Nat.le_refl _) (HZ.out f (look_name hf).2))
      have HST : Hid (∀ w3 v', w3.ownsRow w1.drew.heap.size 5 1 v' f.data.length (f.data.map B8) → Below w1.drew.heap.size w1.drew w3 → ∃ w5, (Instr.mapUpdate 56 (.map (some (w.heap.size + 1))) (.string ⟨x.toArray⟩) (.pointer (some ⟨w3.heap.size, 0, none⟩))).run Try.prog (w3.alloc (.cells #[v', .int .i64 (f.synced : Int)] 65)) = .ok () w5 ∧
          Hid (RelC w K o2 w.heap.size M (w.heap.size + 1) (w.heap.size + 2) (Maps.size D) D L d w5 ∧ w5.rangeLeft M (w.heap.size + 2) < wr.rangeLeft M (w.heap.size + 2)) ∧ Cs w w3 G x f A c ∧ Cs w (w3.alloc (.cells #[v', .int .i64 (f.synced : Int)] 65)) G x f A c ∧ Cs w w5 G x f A c) := Lib.hid (fun w3 v' hown hb3 => by
        have hb1 : Below w1.heap.size w1 w3 := ⟨hb3.os, hb3.tape, hb3.output, hb3.size, hb3.block⟩
        have hlt1 := hrg1.lt
        have hs3 := hb1.size
        obtain ⟨w4, hw4⟩ : ∃ w4, w4 = w3.alloc (.cells #[v', .int .i64 (f.synced : Int)] 65) := ⟨_, rfl⟩
        have hb4 : Below w1.heap.size w1 w4 := by rw [hw4]; exact hb1.alloc hs3 _
        have hnew4 := HN1.out.keep (w' := w4) (K' := ext2 K w.heap.size o2 (w.heap.size + 2)) (fun i hi _ => hb4.block i hi) (fun _ _ => rfl)
        have hold4 : w4.ownsRow 0 5 1 v' f.data.length (f.data.map B8) := by rw [hw4]; exact PdRead.own_mono (hown.alloc _) (Nat.zero_le _)
        have hw1s := hW1.size
        have hfa : FileAt w4 (ext2 K w.heap.size o2 (w.heap.size + 2)) o2 w3.heap.size v' f := by
          refine ⟨by rw [hw4]; exact Go.heap_alloc_new _ _, hold4, ext2_new (by omega) (by omega), fun q hq => ?_⟩
          have hq1 : w1.heap.size ≤ q := (hown.lt q hq).1
          exact ext2_new (by omega) (by omega)
        have hfew : (doneF left d.files).length ≤ 1000000000 := Nat.le_trans (List.length_filter_le _ _) HN.out
        obtain ⟨w5, hrun, hown5, hturn5⟩ := named_run hnew4 x hnl hfew w3.heap.size
        have hnew5 := hnew4.named (d' := { d with files := doneF (fun z => left z && !z.sameKey (.string x)) d.files }) hown5 (map_other hturn5) hfa (fun s' f' hf' _ => ?_) (good_done _ HH.out.good) (fun s' => look_step left x f d.files hf s') rfl rfl rfl
        · rw [← hw4]
          have hg4 : w1.grownBy w4 none := ⟨hb4.os, hb4.tape, hb4.output, hb4.size, fun i hi _ => hb4.block i hi⟩
          have hMM : M ≠ w.heap.size + 1 := fun e => by have := HH.out.map.lt; omega
          have hrg5 := (hrg1.kept hg4 (by simp) (by simp)).kept hturn5.grown (fun e => hMM (by injection e)) (fun e => by injection e with e; omega)
          have hb5 : Below w.heap.size w w5 := ((hW1.trans (hb4.mono hw1s))).grown hturn5.grown (by have := hb4.size; omega) (fun k hk => by injection hk with hk; omega)
          have hnew3 := HN1.out.keep (w' := w3) (K' := ext2 K w.heap.size o2 (w.heap.size + 2)) (fun i hi _ => hb1.block i hi) (fun _ _ => rfl)
          refine ⟨w5, hrun, Lib.hid ⟨⟨_, cnt1, hrg5, Lib.hid hb5, Lib.hid ⟨_, _, _, hnew5⟩⟩, ?_⟩, cs_of (PAt.below hold1 hb1) hf hv hnew3, cs_of (PAt.below hold1 hb4) hf hv hnew4, cs_of (PAt.below HH.out hb5) hf hv hnew5⟩
          rw [hrg5.left_eq, hrg.left_eq]
          exact hlt
        · obtain ⟨_, hf2⟩ := HN1.out.at_ s' f' hf'
          refine ⟨fun e => by have := lt_of hf2.box; omega, fun q hq e => ?_⟩
          have h1 := (hf2.row.lt q hq).2
          have h2 : w1.heap.size ≤ q := (hown.lt q e).1
          omega)
      clear hp2 hnew1 hold1 hfile hrd hv hgy hat hhas hkx hxe hmk hrg1 hg1 hs1 hW1 hrg
      unfold S8 ptr at hen ⊢
      go_wp2
      go_region_held3 (fun w' => w'.cell? ⟨w.heap.size, 0, none⟩ = some (.map (some (w.heap.size + 1))) ∧ w'.cell? ⟨G x, 0, none⟩ = some (.slice A f.data.length c) ∧ w'.cell? ⟨G x, 1, none⟩ = some (.int .i64 (f.synced : Int))) (first | go_keep | assumption) ((go_at_call 25; refine HCL.out.mono ?_; rintro e w3 ⟨v', rfl, hown, hb3⟩; obtain ⟨A3, c3, rfl, _⟩ := RefTake.own_rd hown; obtain ⟨w5, hrun5, hpost5, ⟨q1, q2, q3⟩, ⟨q4, q5, q6⟩, ⟨q7, q8, q9⟩⟩ := HST.out w3 _ hown hb3))
      all_goals
        try go_wp2
        go_roundw
        case rel => exact hpost5.out.1
        case measure => exact hpost5.out.2
end Go.Proofs.Ytfblekedgenacaa.PdClone
