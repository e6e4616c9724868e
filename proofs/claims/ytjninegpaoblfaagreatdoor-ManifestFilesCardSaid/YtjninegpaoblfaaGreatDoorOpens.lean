/- The row's last step where of the world behind the call it is known that all that was there is as it was ('Below'). No conditions. · Opening a statement's arguments (slices of bytes, slices of uint64, int64 and uint64, strings, bools) and shutting the row of a statement: it answered true and all that was there is as it was. Of no program. No conditions. · What the bound on the arguments' bulk gives: lengths. No conditions. · A slice of structs as an argument, opened (for any struct of a set number of cells). Of no program. No conditions. · A manifest, a list of manifests, as an argument, opened; what the bound on weight gives of its segments. No conditions. -/
import Derived.Below
import Derived.ChangeSame
import Derived.Test.YtjninegpaoblfaaGreatDoorWords
import Derived.ProofKit
import Derived.OpenShut
import Derived.Carry
import Derived.Test.YtjninegpaoblfaaGreatDoorRows
import Derived.Deep.Slices
import Derived.ChangeMaps5
import Derived.Test.YtjninegpaoblfaaGreatDoorMfMem
namespace Go.Proofs.YtjninegpaoblfaaGreatDoor.Post
open Go Go.RowKit Go.WideShapes Go.ChangeShapes
section
variable {H : Type} {enc : TypeId × Value → H} {P : Program}
theorem post_of_below {f : Func} {s : ChangeSpec} {apart fresh handsOn again : Bool} {W W' : World} {args : Array Value} {v : Value} {ds gs : List (DataW H)} {before pa pv : List MemPlace}
    (hW : DataW.Whole enc P f.params.toList s.vars apart W args.toList ds gs before)
    (hres : ∀ (b : Nat) (sp : Nat → Bool) (hd : Bool), DataW.TrodAll enc P W' b sp hd f.resultTypes.toList (v.resultList f.resultTypes.size) (s.fn H (ds ++ gs)).results [])
    (hargs : ∀ sp : Nat → Bool, (∀ p ∈ before, sp p.block = true) → DataW.TrodAll enc P W' 0 sp true f.params.toList args.toList (s.fn H (ds ++ gs)).args pa)
    (hvars : ∀ sp : Nat → Bool, (∀ p ∈ before, sp p.block = true) → DataW.TrodVars enc P W' sp s.vars (s.fn H (ds ++ gs)).vars pv)
    (hps : before = pa ++ pv) (hb : Below W.heap.size W W')
    (hok : ∀ (j : Nat) (t : TypeId) (r : Value), f.resultTypes[j]? = some t → (v.resultList f.resultTypes.size)[j]? = some r → Value.okWide P W' .any 0 t r) :
    s.post enc P f apart fresh handsOn again W args v W' := by
  have hlt : ∀ p ∈ before, p.block < W.heap.size := fun p hp => hW.lt p hp
  have hold : ∀ p ∈ before, (fun b => decide (b < W.heap.size)) p.block = true := fun p hp => by simpa using hlt p hp
  refine ⟨ds, gs, before, [], pa, pv, hW, hres _ _ _, hargs _ hold, hvars _ hold, World.keptBut_mono (fun p hp => ⟨hp, ?_⟩) (hb.frame (· ∈ before)), fun _ => ?_⟩
  · rw [hps, List.mem_append] at hp
    exact Or.inr hp
  · obtain ⟨_, _, _, _, _, hz, hn⟩ := hW
    refine ⟨hok, _, _, ([] ++ pa) ++ pv, ⟨[] ++ pa, pv, trodAll_append (hargs _ (fun _ _ => rfl)) (hres _ _ _), hvars _ (fun _ _ => rfl), rfl, ?_, ?_⟩, ?_⟩
    · intro b off hp
      have hin : MemPlace.cell b off ∈ before := by rw [hps]; simpa using hp
      rw [hb.frozen (hlt _ hin)]
      exact hz b off hin
    · intro ha
      have := hn ha
      rw [hps] at this
      simpa using this
    · intro p hp _
      rw [hps]
      simpa using hp
end
end Go.Proofs.YtjninegpaoblfaaGreatDoor.Post

namespace Go.Proofs.YtjninegpaoblfaaGreatDoor.Ope
open Go Go.RowKit Go.WideShapes Go.ChangeShapes Words Post

section
variable {H : Type} {enc : TypeId × Value → H} {P : Program}

/-- All arguments read behind the call as before it. -/
theorem trodAll_stays (hl : laidOutB P = true) {W W' : World} {sp : Nat → Bool} : ∀ {ts : List TypeId} {vs : List Value} {ds : List (DataW H)} {ps : List MemPlace},
    (∀ t ∈ ts, P.readableRec t = true ∧ t < P.types.size) → DataW.TrodAll enc P W 0 (fun _ => true) true ts vs ds ps → (∀ x ∈ ps, W.sameAt W' x) → (∀ x ∈ ps, sp x.block = true) → DataW.TrodAll enc P W' 0 sp true ts vs ds ps
  | [], [], [], _, _, h, _, _ => h
  | t :: ts, v :: vs, d :: ds, _, ht, ⟨p, q, h1, h2, e⟩, hsame, hsp => by
    subst e
    exact ⟨p, q, WideElems.Trod_stays hl (ht t (by simp)).1 (ht t (by simp)).2 h1 (fun x hx => hsame x (by simp [hx])) (fun x hx => hsp x (by simp [hx])),
      trodAll_stays hl (fun t ht' => ht t (by simp [ht'])) h2 (fun x hx => hsame x (by simp [hx])) (fun x hx => hsp x (by simp [hx])), rfl⟩

/-- The row of a statement: true, and the arguments as they were. -/
theorem law_post {f : Func} {s : ChangeSpec} {tb : TypeId} {W W' : World} {args : Array Value} {ds : List (DataW H)} {before : List MemPlace} (hl : laidOutB P = true)
    (hts : ∀ t ∈ f.params.toList, P.readableRec t = true ∧ t < P.types.size) (hvars : s.vars = []) (hrt : f.resultTypes = #[tb]) (htb : P.underlying tb = some .bool)
    (hfn : s.fn H (ds ++ []) = { results := [.lit (.bool true)], args := ds })
    (hW : DataW.Whole enc P f.params.toList s.vars false W args.toList ds [] before) (hb : Below W.heap.size W W') :
    s.post enc P f false true false false W args (.bool true) W' := by
  obtain ⟨p, q, hA, hV, rfl, hfz, hnd⟩ := id hW
  rw [hvars] at hV
  obtain ⟨_, rfl⟩ := trodVars_none hV
  rw [List.append_nil] at hW
  have hlt : ∀ x ∈ p, x.block < W.heap.size := fun x hx => hW.lt x hx
  refine post_of_below (gs := []) (pa := p) (pv := []) hW ?_ ?_ ?_ (by simp) hb (ok_one hrt rfl (okWide_bool_mk htb _))
  · intro b sp hd
    rw [hfn, hrt]
    exact trodAll_cons_mk (shut_bool htb _) trodAll_mk0
  · intro sp hsp
    rw [hfn]
    exact trodAll_stays hl hts hA (fun x hx => hb.same (hlt x hx)) hsp
  · intro sp hsp
    rw [hfn, hvars]
    rfl

theorem u8_of_wf {x : Int} (h : (Lit.int .u8 x).wf = true) : (((UInt8.ofNat x.toNat).toNat : Nat) : Int) = x := by
  have := bounds_u8 h
  simp; omega
theorem u64_of_wf {x : Int} (h : (Lit.int .u64 x).wf = true) : (((UInt64.ofNat x.toNat).toNat : Nat) : Int) = x := by
  have := bounds_u64 h
  simp; omega
theorem u64_of {x : Int} (h : (Lit.int .u64 x).wf = true) : ∃ n : UInt64, x = (n.toNat : Int) := ⟨_, (u64_of_wf h).symm⟩

/-- What a slice of integers reads as, for the bound on the arguments' bulk. -/
def Lits (k : IntKind) (d : DataW H) (zs : List Int) : Prop := (d = .nil ∧ zs = []) ∨ ∃ sp, d = .slice (lits k zs) sp

theorem open_slice_ints {t e : TypeId} {k : IntKind} (ht : P.underlying t = some (.slice e)) (he : P.underlying e = some (.int k)) (hc : P.cellsOf e = 1) {W : World} {base : Nat} {v : Value} {d : DataW H} {p : List MemPlace}
    (hval : Value.okWide P W .any base t v) (h : DataW.Trod enc P W 0 (fun _ => true) true t v d p) (hlt : ∀ x ∈ p, x.block < W.heap.size) :
    ∃ (A : Option Addr) (zs : List Int) (c : Nat), v = .slice A zs.length c ∧ zs.length ≤ c ∧ c ≤ maxLen ∧ Rd W W.heap.size A (zs.map (Value.int k)) ∧ (∀ x ∈ zs, (Lit.int k x).wf = true) ∧ Lits k d zs := by
  obtain ⟨A, len, cap, rfl⟩ := okWide_slice ht hval
  obtain ⟨fuel, hf⟩ := h
  rcases open_ints ht he hc hf with ⟨hcs, hx⟩ | ⟨a, len', cap', zs, hcs, _, hl, hm, hz, hx, hcell, hwz⟩
  · simp [Value.cells] at hcs
    obtain ⟨rfl, rfl, rfl⟩ := hcs
    simp only [Prod.mk.injEq] at hx
    obtain ⟨rfl, rfl⟩ := hx
    exact ⟨none, [], 0, rfl, by simp, by unfold maxLen; omega, Rd.nil_, (fun _ h => by cases h), .inl ⟨rfl, rfl⟩⟩
  · simp [Value.cells] at hcs
    obtain ⟨rfl, rfl, rfl⟩ := hcs
    simp only [Prod.mk.injEq] at hx
    obtain ⟨rfl, rfl⟩ := hx
    simp only [if_true] at hz
    have hlen : (zs.take len).length = len := by simp; omega
    refine ⟨some a, zs.take len, cap, by rw [hlen], by omega, hm, ?_, fun x hx' => hwz x (List.mem_of_mem_take hx'), .inr ⟨_, rfl⟩⟩
    intro hn
    rw [List.length_map, hlen] at hn
    obtain ⟨b, off, rfl, hc'⟩ := ints_at hcell (by omega)
    refine ⟨b, off, rfl, ?_, fun j u hu => ?_⟩
    · have := World.block_lt_of_cell? W _ (hc' 0 (by omega))
      exact this
    · rw [List.getElem?_map, List.getElem?_take] at hu
      split at hu
      · have hj : j < zs.length := by omega
        rw [hc' j hj]
        simp [List.getElem?_eq_getElem hj] at hu
        subst hu
        simp [List.getD, hj]
      · simp at hu

theorem open_u8s {t e : TypeId} (ht : P.underlying t = some (.slice e)) (he : P.underlying e = some (.int .u8)) (hc : P.cellsOf e = 1) {W : World} {base : Nat} {v : Value} {d : DataW H} {p : List MemPlace}
    (hval : Value.okWide P W .any base t v) (h : DataW.Trod enc P W 0 (fun _ => true) true t v d p) (hlt : ∀ x ∈ p, x.block < W.heap.size) :
    ∃ (A : Option Addr) (l : List UInt8) (c : Nat), v = .slice A l.length c ∧ l.length ≤ c ∧ c ≤ maxLen ∧ Rd W W.heap.size A (l.map B8) ∧ Lits .u8 d (l.map fun x => (x.toNat : Int)) := by
  obtain ⟨A, zs, c, rfl, h1, h2, h3, h4, h5⟩ := open_slice_ints ht he hc hval h hlt
  have e1 : (zs.map fun x => UInt8.ofNat x.toNat).map (fun x => (x.toNat : Int)) = zs := by
    rw [List.map_map]
    conv => rhs; rw [← List.map_id zs]
    exact List.map_congr_left fun x hx => u8_of_wf (h4 x hx)
  have e2 : (zs.map fun x => UInt8.ofNat x.toNat).map B8 = zs.map (Value.int .u8) := by
    rw [List.map_map]
    exact List.map_congr_left fun x hx => by show Value.int .u8 _ = _; rw [u8_of_wf (h4 x hx)]
  exact ⟨A, zs.map fun x => UInt8.ofNat x.toNat, c, by simp, by simpa using h1, h2, by rw [e2]; exact h3, by rw [e1]; exact h5⟩

theorem open_u64s {t e : TypeId} (ht : P.underlying t = some (.slice e)) (he : P.underlying e = some (.int .u64)) (hc : P.cellsOf e = 1) {W : World} {base : Nat} {v : Value} {d : DataW H} {p : List MemPlace}
    (hval : Value.okWide P W .any base t v) (h : DataW.Trod enc P W 0 (fun _ => true) true t v d p) (hlt : ∀ x ∈ p, x.block < W.heap.size) :
    ∃ (A : Option Addr) (l : List UInt64) (c : Nat), v = .slice A l.length c ∧ l.length ≤ c ∧ c ≤ maxLen ∧ Rd W W.heap.size A (l.map B64) ∧ Lits .u64 d (l.map fun x => (x.toNat : Int)) := by
  obtain ⟨A, zs, c, rfl, h1, h2, h3, h4, h5⟩ := open_slice_ints ht he hc hval h hlt
  have e1 : (zs.map fun x => UInt64.ofNat x.toNat).map (fun x => (x.toNat : Int)) = zs := by
    rw [List.map_map]
    conv => rhs; rw [← List.map_id zs]
    exact List.map_congr_left fun x hx => u64_of_wf (h4 x hx)
  have e2 : (zs.map fun x => UInt64.ofNat x.toNat).map B64 = zs.map (Value.int .u64) := by
    rw [List.map_map]
    exact List.map_congr_left fun x hx => by show Value.int .u64 _ = _; rw [u64_of_wf (h4 x hx)]
  exact ⟨A, zs.map fun x => UInt64.ofNat x.toNat, c, by simp, by simpa using h1, h2, by rw [e2]; exact h3, by rw [e1]; exact h5⟩
end

end Go.Proofs.YtjninegpaoblfaaGreatDoor.Ope

namespace Go.Proofs.YtjninegpaoblfaaGreatDoor.Bulk
open Go Go.ChangeShapes Ope

theorem one_le {H : Type} (d : DataW H) : 1 ≤ Rows.uptoBulk d := by
  cases d with
  | lit l => cases l <;> simp [Rows.uptoBulk]
  | nil => simp [Rows.uptoBulk]
  | ptr d => simp [Rows.uptoBulk]
  | slice elems spare => simp [Rows.uptoBulk]
  | agg parts => simp [Rows.uptoBulk]
  | iface t d => simp [Rows.uptoBulk]
  | map entries => simp [Rows.uptoBulk]
  | held h => simp [Rows.uptoBulk]
theorem length_le {H : Type} (l : List (DataW H)) : l.length ≤ Rows.uptoBulkAll l := by
  induction l with
  | nil => simp
  | cons x r ih => have := one_le x; simp only [Rows.uptoBulkAll, List.length_cons]; omega
/-- A slice of integers is no longer than its bulk. -/
theorem bulk_len {H : Type} {k : IntKind} {d : DataW H} {zs : List Int} (h : Lits k d zs) : zs.length ≤ Rows.uptoBulk d := by
  rcases h with ⟨rfl, rfl⟩ | ⟨sp, rfl⟩
  · simp
  · have := length_le (H := H) (lits k zs)
    simp only [lits, List.length_map] at this
    simp only [Rows.uptoBulk, lits]
    omega

/-- What the model's own bound on each argument's bytes gives. -/
theorem weigh_cons {H : Type} {P : Program} {t : TypeId} {ts : List TypeId} {d : DataW H} {ds : List (DataW H)} (h : (DataW.weightsEach P (t :: ts) (d :: ds)).all (· ≤ reachBytes) = true) :
    (d.weights P t).all (· ≤ reachBytes) = true ∧ (DataW.weightsEach P ts ds).all (· ≤ reachBytes) = true := by
  rwa [DataW.weightsEach, List.all_append, Bool.and_eq_true] at h
theorem weigh_len {H : Type} {P : Program} {k : IntKind} {d : DataW H} {zs : List Int} {t e : TypeId} (ht : P.underlying t = some (.slice e)) (hb : 0 < P.bytesOf e) (h : Lits k d zs) (hw : (d.weights P t).all (· ≤ reachBytes) = true) : zs.length ≤ 140737488355327 := by
  rcases h with ⟨rfl, rfl⟩ | ⟨sp, rfl⟩
  · simp
  · rw [DataW.weights, ht] at hw
    simp only [List.all_cons, Bool.and_eq_true, decide_eq_true_eq] at hw
    have h1 := hw.1
    simp only [lits, List.length_map, reachBytes] at h1
    have : zs.length * 1 ≤ (zs.length + sp.length) * P.bytesOf e := Nat.mul_le_mul (by omega) hb
    omega
end Go.Proofs.YtjninegpaoblfaaGreatDoor.Bulk

namespace Go.Proofs.YtjninegpaoblfaaGreatDoor.Rows_
open Go Go.RowKit Go.WideShapes Go.ChangeShapes Words Ope Bulk

section
variable {α : Type} {cells : α → List Value} {k : Nat}
theorem rows_len (hk : ∀ x, (cells x).length = k) : ∀ l : List α, (l.flatMap cells).length = l.length * k
  | [] => by simp
  | x :: l => by rw [List.flatMap_cons, List.length_append, hk, rows_len hk l, List.length_cons, Nat.succ_mul]; omega
theorem rows_at (hk : ∀ x, (cells x).length = k) : ∀ (l : List α) (i : Nat) (hi : i < l.length) (j : Nat), j < k → (l.flatMap cells)[i * k + j]? = (cells l[i])[j]?
  | x :: l, 0, _, j, hj => by
    rw [List.flatMap_cons, Nat.zero_mul, Nat.zero_add, List.getElem?_append_left (by rw [hk]; exact hj)]
    rfl
  | x :: l, i + 1, hi, j, hj => by
    rw [List.flatMap_cons, List.getElem?_append_right (by rw [hk, Nat.succ_mul]; omega), hk, show (i + 1) * k + j - k = i * k + j by rw [Nat.succ_mul]; omega, rows_at hk l i (by simpa using hi) j hj]
    rfl
end
section
variable {H : Type} {enc : TypeId × Value → H}
set_option maxRecDepth 100000 in
theorem open_rows {α : Type} [Inhabited α] {cells : α → List Value} {k : Nat} {W : World} {t e : TypeId} {fuel : Nat} {cs : List Value} {d : DataW H} {p : List MemPlace} {Φ : α → DataW H → Prop}
    (hk : ∀ x, (cells x).length = k) (hpos : 0 < k) (ht : Tryz.prog.underlying t = some (.slice e)) (hc : Tryz.prog.cellsOf e = k)
    (helem : ∀ n cs d pl, DataW.trod enc Tryz.prog W 0 (fun _ => true) true n e cs = some (d, pl) → ∃ x : α, cs = cells x ∧ Φ x d)
    (h : DataW.trod enc Tryz.prog W 0 (fun _ => true) true fuel t cs = some (d, p)) :
    ∃ (A : Option Addr) (l : List α) (c : Nat), cs = [.slice A l.length c] ∧ l.length ≤ c ∧ c ≤ maxLen ∧ Rd W W.heap.size A (l.flatMap cells) ∧
      ((d = .nil ∧ l = []) ∨ ∃ es sp, d = .slice es sp ∧ es.length = l.length ∧ ∀ (i : Nat) (hi : i < l.length) (hd : i < es.length), Φ l[i] es[i]) ∧ ∀ x ∈ l, ∃ d, Φ x d := by
  rcases Deep.open_slice ht h with ⟨hcs, hx⟩ | ⟨a, len, cap, m, n, D, Pl, hcs, _, hl, hm, hz, hx, hel⟩
  · simp only [Prod.mk.injEq] at hx
    obtain ⟨rfl, rfl⟩ := hx
    exact ⟨.none, [], 0, hcs, Nat.le_refl _, by unfold maxLen; omega, Rd.nil_, .inl ⟨rfl, rfl⟩, fun x hx => by cases hx⟩
  · simp only [Prod.mk.injEq] at hx
    obtain ⟨rfl, rfl⟩ := hx
    simp only [if_true] at hz
    subst hz
    have key : ∀ i, i < len → ∃ x : α, (∀ j, j < k → W.cell? ((a.add (i * k)).add j) = (cells x)[j]?) ∧ Φ x (D i) := fun i hi => by
      obtain ⟨cs', h1, h2⟩ := hel i (by omega)
      rw [hc] at h1
      obtain ⟨_, hlen, hcell⟩ := World.cells?_some h1
      obtain ⟨x, hx, hr⟩ := helem _ _ _ _ h2
      refine ⟨x, fun j hj => ?_, hr⟩
      rw [hcell j hj, hx]
    obtain ⟨g, hg⟩ := Deep.choose_lt key
    refine ⟨some a, (List.range len).map g, m, by simpa using hcs, by simpa using hl, hm, fun hn => ?_, .inr ⟨_, _, rfl, by simp, fun i hi hd => ?_⟩, fun x hx => ?_⟩
    · rw [rows_len hk] at hn
      simp only [List.length_map, List.length_range] at hn
      have hlen : 0 < len := by
        rcases Nat.eq_zero_or_pos len with h0 | h0
        · rw [h0, Nat.zero_mul] at hn; omega
        · exact h0
      have h00 := (hg 0 hlen).1 0 hpos
      obtain ⟨u0, hu0⟩ : ∃ u, (cells (g 0))[0]? = some u := ⟨_, List.getElem?_eq_getElem (by rw [hk]; exact hpos)⟩
      have hspot : ∃ b off, a = ⟨b, off, .none⟩ := by
        obtain ⟨b, off, spot⟩ := a
        have h1 : W.cell? ⟨b, off, spot⟩ = some u0 := by
          rw [hu0] at h00
          simp only [Nat.zero_mul] at h00
          have h2 := h00
          unfold Addr.add at h2
          simpa using h2
        have : spot = .none := World.cell?_spot h1
        subst this
        exact ⟨b, off, rfl⟩
      obtain ⟨b, off, rfl⟩ := hspot
      have hcc : ∀ i, i < len → ∀ j, j < k → W.cell? ⟨b, off + i * k + j, .none⟩ = (cells (g i))[j]? := fun i hi j hj => by
        rw [← (hg i hi).1 j hj, add_off, add_off]
      refine ⟨b, off, rfl, ?_, fun j u hu => ?_⟩
      · have h2 : W.cell? ⟨b, off + 0 * k + 0, .none⟩ = some u0 := (hcc 0 hlen 0 hpos).trans hu0
        exact World.block_lt_of_cell? W _ h2
      · have hjl : j < ((List.range len).map g).length * k := by rw [← rows_len hk]; exact (List.getElem?_eq_some_iff.1 hu).1
        simp only [List.length_map, List.length_range] at hjl
        have hi : j / k < len := (Nat.div_lt_iff_lt_mul hpos).2 hjl
        have hjm : j % k < k := Nat.mod_lt _ hpos
        have e0 : j / k * k + j % k = j := by rw [Nat.mul_comm]; exact Nat.div_add_mod j k
        have h3 := hcc (j / k) hi (j % k) hjm
        have h4 := rows_at hk ((List.range len).map g) (j / k) (by simpa using hi) (j % k) hjm
        rw [e0, hu] at h4
        rw [show off + j / k * k + j % k = off + j by omega] at h3
        rw [h3, h4]
        simp
    · simp only [List.length_map, List.length_range] at hi
      simpa using (hg i hi).2
    · obtain ⟨i, hi, rfl⟩ := List.mem_map.1 hx
      exact ⟨_, (hg i (List.mem_range.1 hi)).2⟩

end
end Go.Proofs.YtjninegpaoblfaaGreatDoor.Rows_

namespace Go.Proofs.YtjninegpaoblfaaGreatDoor.MfOpen
open Go Go.RowKit Go.WideShapes Go.ChangeShapes Words Ope Bulk MfSpec MfMem Rows_

section
variable {H : Type} {enc : TypeId × Value → H}
theorem list4 {α : Type} {l : List α} (h : l.length = 4) : ∃ a b c d, l = [a, b, c, d] := by
  match l, h with
  | [a, b, c, d], _ => exact ⟨a, b, c, d, rfl⟩
theorem list5 {α : Type} {l : List α} (h : l.length = 5) : ∃ a b c d e, l = [a, b, c, d, e] := by
  match l, h with
  | [a, b, c, d, e], _ => exact ⟨a, b, c, d, e, rfl⟩
theorem in64 {t : Int} (w0 : (Lit.int .i64 t).wf = true) : In64 t := by
  have a1 : IntKind.i64.min = -9223372036854775808 := by decide
  have a2 : IntKind.i64.max = 9223372036854775807 := by decide
  simp only [Lit.wf, Bool.and_eq_true, decide_eq_true_eq] at w0
  rw [a1, a2] at w0
  exact w0
set_option maxRecDepth 100000 in
theorem open_seg {W : World} {n : Nat} {cs : List Value} {d : DataW H} {pl : List MemPlace} (h : DataW.trod enc Tryz.prog W 0 (fun _ => true) true n 65 cs = some (d, pl)) :
    ∃ s : Sg, cs = scells s ∧ SgOk s := by
  have ci : Tryz.prog.cellsOf 2 = 1 := by kernel_rfl
  have cn : Tryz.prog.cellsOf 3 = 1 := by kernel_rfl
  have c4 : Tryz.prog.cellsOf 65 = 4 := by kernel_rfl
  obtain ⟨xs, m, _, hx, hl, hlen, hf⟩ := DataW.trod_struct Tryz.underlying65 h
  rw [c4] at hl
  obtain ⟨v0, v1, v2, v3, rfl⟩ := list4 hl
  obtain ⟨y0, y1, y2, y3, rfl⟩ := list4 (show xs.length = 4 from hlen)
  have h0 := hf 0 _ rfl
  have h1 := hf 1 _ rfl
  have h2 := hf 2 _ rfl
  have h3 := hf 3 _ rfl
  simp only [List.getElem?_cons_zero, List.getElem?_cons_succ] at h0 h1 h2 h3
  obtain ⟨a, e0, x0, w0⟩ := DataW.trod_int Tryz.underlying3 h0
  obtain ⟨b, e1, x1, w1⟩ := DataW.trod_int Tryz.underlying3 h1
  obtain ⟨c, e2, x2, w2⟩ := DataW.trod_int Tryz.underlying2 h2
  obtain ⟨e, e3, x3, w3⟩ := DataW.trod_int Tryz.underlying2 h3
  have inj : ∀ {a b : Value}, [a] = [b] → a = b := fun h => by injection h
  replace e0 := inj e0
  replace e1 := inj e1
  replace e2 := inj e2
  replace e3 := inj e3
  subst e0 e1 e2 e3
  exact ⟨⟨a, b, c, e⟩, rfl, in64 w0, in64 w1, in64 w2, in64 w3⟩
instance : Inhabited Sg := ⟨⟨0, 0, 0, 0⟩⟩
instance : Inhabited MM := ⟨(zero, none, 0, 0)⟩
/-- What a slice of segments reads as, for the bound on weight. -/
def SegsD (d : DataW H) (n : Nat) : Prop := (d = .nil ∧ n = 0) ∨ ∃ es sp, d = .slice es sp ∧ es.length = n
def ManD (d : DataW H) (n : Nat) : Prop := ∃ a b s e d4, d = .agg [.lit (.int .i64 a), .lit (.int .i64 b), .lit (.int .u64 s), .lit (.int .i64 e), d4] ∧ SegsD d4 n
set_option maxRecDepth 100000 in
theorem open_man {W : World} {n : Nat} {cs : List Value} {d : DataW H} {pl : List MemPlace} (h : DataW.trod enc Tryz.prog W 0 (fun _ => true) true n 37 cs = some (d, pl)) :
    ∃ m : MM, cs = mcells m ∧ OkM W m ∧ ManD d m.1.segs.length := by
  have ci : Tryz.prog.cellsOf 2 = 1 := by kernel_rfl
  have cn : Tryz.prog.cellsOf 3 = 1 := by kernel_rfl
  have cu : Tryz.prog.cellsOf 34 = 1 := by kernel_rfl
  have cl : Tryz.prog.cellsOf 35 = 1 := by kernel_rfl
  have c5 : Tryz.prog.cellsOf 37 = 5 := by kernel_rfl
  obtain ⟨xs, m, _, hx, hl, hlen, hf⟩ := DataW.trod_struct Tryz.underlying37 h
  rw [c5] at hl
  obtain ⟨v0, v1, v2, v3, v4, rfl⟩ := list5 hl
  obtain ⟨y0, y1, y2, y3, y4, rfl⟩ := list5 (show xs.length = 5 from hlen)
  have h0 := hf 0 _ rfl
  have h1 := hf 1 _ rfl
  have h2 := hf 2 _ rfl
  have h3 := hf 3 _ rfl
  have h4 := hf 4 _ rfl
  simp only [List.getElem?_cons_zero, List.getElem?_cons_succ] at h0 h1 h2 h3 h4
  obtain ⟨a, e0, x0, w0⟩ := DataW.trod_int Tryz.underlying3 h0
  obtain ⟨b, e1, x1, w1⟩ := DataW.trod_int Tryz.underlying3 h1
  obtain ⟨s, e2, x2, w2⟩ := DataW.trod_int Tryz.underlying34 h2
  obtain ⟨e, e3, x3, w3⟩ := DataW.trod_int Tryz.underlying2 h3
  obtain ⟨d4, p4⟩ := y4
  obtain ⟨A, l, c, e4, hl1, hl2, hrd, hd, hall⟩ := open_rows (cells := scells) (k := 4) (Φ := fun s _ => SgOk s) (fun _ => rfl) (by omega) Tryz.underlying35 (by kernel_rfl) (fun n cs d pl h => open_seg h) h4
  obtain ⟨s64, rfl⟩ := u64_of w2
  have inj : ∀ {a b : Value}, [a] = [b] → a = b := fun h => by injection h
  replace e0 := inj e0
  replace e1 := inj e1
  replace e2 := inj e2
  replace e3 := inj e3
  replace e4 := inj e4
  subst e0 e1 e2 e3 e4 x0 x1 x2 x3
  injection hx with hx _
  subst hx
  refine ⟨(⟨a, b, s64, e, l⟩, A, l.length, c), rfl, ⟨⟨rfl, hl1, hl2, hrd⟩, ⟨in64 w0, in64 w1, in64 w3, fun x hx => (hall x hx).elim fun _ h => h⟩⟩, _, _, _, _, _, rfl, ?_⟩
  rcases hd with ⟨rfl, rfl⟩ | ⟨es, sp, rfl, he, _⟩
  · exact .inl ⟨rfl, rfl⟩
  · exact .inr ⟨es, sp, rfl, he⟩
set_option maxRecDepth 100000 in
/-- A manifest by itself. -/
theorem open_manifest {W : World} {base : Nat} {v : Value} {d : DataW H} {p : List MemPlace}
    (hval : Value.okWide Tryz.prog W .any base 37 v) (h : DataW.Trod enc Tryz.prog W 0 (fun _ => true) true 37 v d p) :
    ∃ m : MM, v = aggM m ∧ OkM W m ∧ ManD d m.1.segs.length := by
  obtain ⟨cs, rfl, _⟩ := okWide_struct Tryz.underlying37 hval
  obtain ⟨fuel, hf⟩ := h
  obtain ⟨m, hx, ho, hb⟩ := open_man (show DataW.trod enc Tryz.prog W 0 (fun _ => true) true fuel 37 cs.toList = some (d, p) from hf)
  refine ⟨m, ?_, ho, hb⟩
  unfold aggM
  congr 1
  exact Array.ext' (by rw [hx]; rfl)
def flatM (l : List MM) : List Value := l.flatMap mcells
set_option maxRecDepth 100000 in
/-- A list of manifests. -/
theorem open_manifests {W : World} {base : Nat} {v : Value} {d : DataW H} {p : List MemPlace}
    (hval : Value.okWide Tryz.prog W .any base 22 v) (h : DataW.Trod enc Tryz.prog W 0 (fun _ => true) true 22 v d p) :
    ∃ (A : Option Addr) (ms : List MM) (c : Nat), v = .slice A ms.length c ∧ ms.length ≤ c ∧ c ≤ maxLen ∧ Rd W W.heap.size A (flatM ms) ∧ ∀ m ∈ ms, OkM W m := by
  obtain ⟨A0, len, cap, rfl⟩ := okWide_slice Tryz.underlying22 hval
  obtain ⟨fuel, hf⟩ := h
  obtain ⟨A, ms, c, hcs, h1, h2, h3, h4, h5⟩ := open_rows (cells := mcells) (k := 5) (Φ := fun m d => OkM W m) (fun _ => rfl) (by omega) Tryz.underlying22 (by kernel_rfl) (fun n cs d pl h => by
    obtain ⟨m, e, a, _⟩ := open_man h
    exact ⟨m, e, a⟩) hf
  simp [Value.cells] at hcs
  obtain ⟨rfl, rfl, rfl⟩ := hcs
  exact ⟨_, ms, _, rfl, h1, h2, h3, fun m hm => (h5 m hm).elim fun _ h => h⟩
set_option maxRecDepth 100000 in
theorem man_weigh {d : DataW H} {n : Nat} (h : ManD d n) (hw : (d.weights Tryz.prog 37).all (· ≤ reachBytes) = true) : n * 32 ≤ 140737488351232 := by
  obtain ⟨a, b, s, e, d4, rfl, h4⟩ := h
  rcases h4 with ⟨rfl, rfl⟩ | ⟨es, sp, rfl, he⟩
  · omega
  · rw [DataW.weights, Tryz.underlying37] at hw
    simp only [List.map_cons, List.map_nil, DataW.weightsEach, DataW.weights, Tryz.underlying35, List.nil_append, List.append_nil, List.all_cons, Bool.and_eq_true, decide_eq_true_eq] at hw
    have h1 := hw.1
    simp only [reachBytes] at h1
    have hb : Tryz.prog.bytesOf 65 = 32 := by kernel_rfl
    rw [hb] at h1
    have : n * 32 ≤ (es.length + sp.length) * 32 := Nat.mul_le_mul (by omega) (Nat.le_refl _)
    omega
end
end Go.Proofs.YtjninegpaoblfaaGreatDoor.MfOpen

