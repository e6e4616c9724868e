/- Opening a statement's arguments (slices of bytes, slices of uint64, int64 and uint64, strings, bools) and shutting the row of a statement: it answered true and all that was there is as it was. Of no program. No conditions. · What the bound on the arguments' bulk gives: lengths. No conditions. -/
import Derived.Test.YtdmbgjpidlllcaaPlains
import Derived.Test.YtdmbgjpidlllcaaBase
import Derived.ProofKit
import Derived.OpenShut
import Derived.Carry
import Derived.Test.YtdmbgjpidlllcaaRows
namespace Go.Proofs.Ytdmbgjpidlllcaa.Ope
open Go Go.RowKit Go.WideShapes Go.ChangeShapes Words Post

section
variable {H : Type} {enc : TypeId × Value → H} {P : Program}

/-- All arguments read behind the call as before it. -/
theorem trodAll_stays (hl : laidOutB P = true) {W W' : World} {sp : Nat → Bool} : ∀ {ts : List TypeId} {vs : List Value} {ds : List (DataW H)} {ps : List MemPlace},
    (∀ t ∈ ts, P.readableRec t = true ∧ t < P.types.size) → DataW.TrodAll enc P W 0 (fun _ => true) true ts vs ds ps → (∀ x ∈ ps, W.sameAt W' x) → (∀ x ∈ ps, sp x.block = true) → DataW.TrodAll enc P W' 0 sp true ts vs ds ps
  | [], [], [], _, _, h, _, _ => h
  | t :: ts, v :: vs, d :: ds, _, ht, ⟨p, q, h1, h2, e⟩, hsame, hsp => by
    subst e
    exact ⟨p, q, WideElems.Trod_stays hl (ht t (by simp)).1 (ht t (by simp)).2 h1 (fun x hx => hsame x (by simp [hx])) (fun x hx => hsp x (by simp [hx])),
      trodAll_stays hl (fun t ht' => ht t (by simp [ht'])) h2 (fun x hx => hsame x (by simp [hx])) (fun x hx => hsp x (by simp [hx])), rfl⟩

/-- The row of a statement: true, and the arguments as they were. -/
theorem law_post {f : Func} {s : ChangeSpec} {tb : TypeId} {W W' : World} {args : Array Value} {ds : List (DataW H)} {before : List MemPlace} (hl : laidOutB P = true)
    (hts : ∀ t ∈ f.params.toList, P.readableRec t = true ∧ t < P.types.size) (hvars : s.vars = []) (hrt : f.resultTypes = #[tb]) (htb : P.underlying tb = some .bool)
    (hfn : s.fn H (ds ++ []) = { results := [.lit (.bool true)], args := ds })
    (hW : DataW.Whole enc P f.params.toList s.vars false W args.toList ds [] before) (hb : Below W.heap.size W W') :
    s.post enc P f false true false false W args (.bool true) W' := by
  obtain ⟨p, q, hA, hV, rfl, hfz, hnd⟩ := id hW
  rw [hvars] at hV
  obtain ⟨_, rfl⟩ := trodVars_none hV
  rw [List.append_nil] at hW
  have hlt : ∀ x ∈ p, x.block < W.heap.size := fun x hx => hW.lt x hx
  refine post_of_below (gs := []) (pa := p) (pv := []) hW ?_ ?_ ?_ (by simp) hb (ok_one hrt rfl (okWide_bool_mk htb _))
  · intro b sp hd
    rw [hfn, hrt]
    exact trodAll_cons_mk (shut_bool htb _) trodAll_mk0
  · intro sp hsp
    rw [hfn]
    exact trodAll_stays hl hts hA (fun x hx => hb.same (hlt x hx)) hsp
  · intro sp hsp
    rw [hfn, hvars]
    rfl

theorem u8_of_wf {x : Int} (h : (Lit.int .u8 x).wf = true) : (((UInt8.ofNat x.toNat).toNat : Nat) : Int) = x := by
  have := bounds_u8 h
  simp; omega
theorem u64_of_wf {x : Int} (h : (Lit.int .u64 x).wf = true) : (((UInt64.ofNat x.toNat).toNat : Nat) : Int) = x := by
  have := bounds_u64 h
  simp; omega
theorem u64_of {x : Int} (h : (Lit.int .u64 x).wf = true) : ∃ n : UInt64, x = (n.toNat : Int) := ⟨_, (u64_of_wf h).symm⟩

/-- What a slice of integers reads as, for the bound on the arguments' bulk. -/
def Lits (k : IntKind) (d : DataW H) (zs : List Int) : Prop := (d = .nil ∧ zs = []) ∨ ∃ sp, d = .slice (lits k zs) sp

theorem open_slice_ints {t e : TypeId} {k : IntKind} (ht : P.underlying t = some (.slice e)) (he : P.underlying e = some (.int k)) (hc : P.cellsOf e = 1) {W : World} {base : Nat} {v : Value} {d : DataW H} {p : List MemPlace}
    (hval : Value.okWide P W .any base t v) (h : DataW.Trod enc P W 0 (fun _ => true) true t v d p) (hlt : ∀ x ∈ p, x.block < W.heap.size) :
    ∃ (A : Option Addr) (zs : List Int) (c : Nat), v = .slice A zs.length c ∧ zs.length ≤ c ∧ c ≤ maxLen ∧ Rd W W.heap.size A (zs.map (Value.int k)) ∧ (∀ x ∈ zs, (Lit.int k x).wf = true) ∧ Lits k d zs := by
  obtain ⟨A, len, cap, rfl⟩ := okWide_slice ht hval
  obtain ⟨fuel, hf⟩ := h
  rcases open_ints ht he hc hf with ⟨hcs, hx⟩ | ⟨a, len', cap', zs, hcs, _, hl, hm, hz, hx, hcell, hwz⟩
  · simp [Value.cells] at hcs
    obtain ⟨rfl, rfl, rfl⟩ := hcs
    simp only [Prod.mk.injEq] at hx
    obtain ⟨rfl, rfl⟩ := hx
    exact ⟨none, [], 0, rfl, by simp, by unfold maxLen; omega, Rd.nil_, (fun _ h => by cases h), .inl ⟨rfl, rfl⟩⟩
  · simp [Value.cells] at hcs
    obtain ⟨rfl, rfl, rfl⟩ := hcs
    simp only [Prod.mk.injEq] at hx
    obtain ⟨rfl, rfl⟩ := hx
    simp only [if_true] at hz
    have hlen : (zs.take len).length = len := by simp; omega
    refine ⟨some a, zs.take len, cap, by rw [hlen], by omega, hm, ?_, fun x hx' => hwz x (List.mem_of_mem_take hx'), .inr ⟨_, rfl⟩⟩
    intro hn
    rw [List.length_map, hlen] at hn
    obtain ⟨b, off, rfl, hc'⟩ := ints_at hcell (by omega)
    refine ⟨b, off, rfl, ?_, fun j u hu => ?_⟩
    · have := World.block_lt_of_cell? W _ (hc' 0 (by omega))
      exact this
    · rw [List.getElem?_map, List.getElem?_take] at hu
      split at hu
      · have hj : j < zs.length := by omega
        rw [hc' j hj]
        simp [List.getElem?_eq_getElem hj] at hu
        subst hu
        simp [List.getD, hj]
      · simp at hu

theorem open_u8s {t e : TypeId} (ht : P.underlying t = some (.slice e)) (he : P.underlying e = some (.int .u8)) (hc : P.cellsOf e = 1) {W : World} {base : Nat} {v : Value} {d : DataW H} {p : List MemPlace}
    (hval : Value.okWide P W .any base t v) (h : DataW.Trod enc P W 0 (fun _ => true) true t v d p) (hlt : ∀ x ∈ p, x.block < W.heap.size) :
    ∃ (A : Option Addr) (l : List UInt8) (c : Nat), v = .slice A l.length c ∧ l.length ≤ c ∧ c ≤ maxLen ∧ Rd W W.heap.size A (l.map B8) ∧ Lits .u8 d (l.map fun x => (x.toNat : Int)) := by
  obtain ⟨A, zs, c, rfl, h1, h2, h3, h4, h5⟩ := open_slice_ints ht he hc hval h hlt
  have e1 : (zs.map fun x => UInt8.ofNat x.toNat).map (fun x => (x.toNat : Int)) = zs := by
    rw [List.map_map]
    conv => rhs; rw [← List.map_id zs]
    exact List.map_congr_left fun x hx => u8_of_wf (h4 x hx)
  have e2 : (zs.map fun x => UInt8.ofNat x.toNat).map B8 = zs.map (Value.int .u8) := by
    rw [List.map_map]
    exact List.map_congr_left fun x hx => by show Value.int .u8 _ = _; rw [u8_of_wf (h4 x hx)]
  exact ⟨A, zs.map fun x => UInt8.ofNat x.toNat, c, by simp, by simpa using h1, h2, by rw [e2]; exact h3, by rw [e1]; exact h5⟩

theorem open_u64s {t e : TypeId} (ht : P.underlying t = some (.slice e)) (he : P.underlying e = some (.int .u64)) (hc : P.cellsOf e = 1) {W : World} {base : Nat} {v : Value} {d : DataW H} {p : List MemPlace}
    (hval : Value.okWide P W .any base t v) (h : DataW.Trod enc P W 0 (fun _ => true) true t v d p) (hlt : ∀ x ∈ p, x.block < W.heap.size) :
    ∃ (A : Option Addr) (l : List UInt64) (c : Nat), v = .slice A l.length c ∧ l.length ≤ c ∧ c ≤ maxLen ∧ Rd W W.heap.size A (l.map B64) ∧ Lits .u64 d (l.map fun x => (x.toNat : Int)) := by
  obtain ⟨A, zs, c, rfl, h1, h2, h3, h4, h5⟩ := open_slice_ints ht he hc hval h hlt
  have e1 : (zs.map fun x => UInt64.ofNat x.toNat).map (fun x => (x.toNat : Int)) = zs := by
    rw [List.map_map]
    conv => rhs; rw [← List.map_id zs]
    exact List.map_congr_left fun x hx => u64_of_wf (h4 x hx)
  have e2 : (zs.map fun x => UInt64.ofNat x.toNat).map B64 = zs.map (Value.int .u64) := by
    rw [List.map_map]
    exact List.map_congr_left fun x hx => by show Value.int .u64 _ = _; rw [u64_of_wf (h4 x hx)]
  exact ⟨A, zs.map fun x => UInt64.ofNat x.toNat, c, by simp, by simpa using h1, h2, by rw [e2]; exact h3, by rw [e1]; exact h5⟩
end

end Go.Proofs.Ytdmbgjpidlllcaa.Ope

namespace Go.Proofs.Ytdmbgjpidlllcaa.Bulk
open Go Go.ChangeShapes Ope

theorem one_le {H : Type} (d : DataW H) : 1 ≤ Rows.uptoBulk d := by
  cases d with
  | lit l => cases l <;> simp [Rows.uptoBulk]
  | nil => simp [Rows.uptoBulk]
  | ptr d => simp [Rows.uptoBulk]
  | slice elems spare => simp [Rows.uptoBulk]
  | agg parts => simp [Rows.uptoBulk]
  | iface t d => simp [Rows.uptoBulk]
  | map entries => simp [Rows.uptoBulk]
  | held h => simp [Rows.uptoBulk]
theorem length_le {H : Type} (l : List (DataW H)) : l.length ≤ Rows.uptoBulkAll l := by
  induction l with
  | nil => simp
  | cons x r ih => have := one_le x; simp only [Rows.uptoBulkAll, List.length_cons]; omega
/-- A slice of integers is no longer than its bulk. -/
theorem bulk_len {H : Type} {k : IntKind} {d : DataW H} {zs : List Int} (h : Lits k d zs) : zs.length ≤ Rows.uptoBulk d := by
  rcases h with ⟨rfl, rfl⟩ | ⟨sp, rfl⟩
  · simp
  · have := length_le (H := H) (lits k zs)
    simp only [lits, List.length_map] at this
    simp only [Rows.uptoBulk, lits]
    omega

/-- What the model's own bound on each argument's bytes gives. -/
theorem weigh_cons {H : Type} {P : Program} {t : TypeId} {ts : List TypeId} {d : DataW H} {ds : List (DataW H)} (h : (DataW.weightsEach P (t :: ts) (d :: ds)).all (· ≤ reachBytes) = true) :
    (d.weights P t).all (· ≤ reachBytes) = true ∧ (DataW.weightsEach P ts ds).all (· ≤ reachBytes) = true := by
  rwa [DataW.weightsEach, List.all_append, Bool.and_eq_true] at h
theorem weigh_len {H : Type} {P : Program} {k : IntKind} {d : DataW H} {zs : List Int} {t e : TypeId} (ht : P.underlying t = some (.slice e)) (hb : 0 < P.bytesOf e) (h : Lits k d zs) (hw : (d.weights P t).all (· ≤ reachBytes) = true) : zs.length ≤ 140737488355327 := by
  rcases h with ⟨rfl, rfl⟩ | ⟨sp, rfl⟩
  · simp
  · rw [DataW.weights, ht] at hw
    simp only [List.all_cons, Bool.and_eq_true, decide_eq_true_eq] at hw
    have h1 := hw.1
    simp only [lits, List.length_map, reachBytes] at h1
    have : zs.length * 1 ≤ (zs.length + sp.length) * P.bytesOf e := Nat.mul_le_mul (by omega) hb
    omega
end Go.Proofs.Ytdmbgjpidlllcaa.Bulk

