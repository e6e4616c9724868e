/- What changes while a call works on some of the disks ('Mv'), what stays; and what each call of a script does to a disk's size. No conditions but those that the theorems name. -/
import Derived.Test.YtfblekedgenacaaPairs
namespace Go.Proofs.Ytfblekedgenacaa.Mv
open Go Go.RowKit Words DkSpec PdLook RefDisk PdDisk PdRes Pairs

/-- Only blocks whose number is in S have changed, and new ones have come. -/
structure Mv (K K' : Nat → Nat) (S : Nat → Prop) (w w' : World) : Prop where
  os : w'.os = w.os
  tape : w'.tape = w.tape
  output : w'.output = w.output
  size : w.heap.size ≤ w'.heap.size
  block : ∀ i, i < w.heap.size → ¬ S (K i) → w'.heap[i]? = w.heap[i]?
  kind : ∀ i, i < w.heap.size → K' i = K i
section
variable {K K' K'' : Nat → Nat} {S S' : Nat → Prop} {w w' w'' : World}
theorem Mv.refl (K : Nat → Nat) (S : Nat → Prop) (w : World) : Mv K K S w w := ⟨rfl, rfl, rfl, Nat.le_refl _, fun _ _ _ => rfl, fun _ _ => rfl⟩
theorem Mv.trans (h : Mv K K' S w w') (h' : Mv K' K'' S w' w'') : Mv K K'' S w w'' :=
  ⟨h'.os.trans h.os, h'.tape.trans h.tape, h'.output.trans h.output, Nat.le_trans h.size h'.size,
    fun i hi hk => (h'.block i (by have := h.size; omega) (by rw [h.kind i hi]; exact hk)).trans (h.block i hi hk),
    fun i hi => (h'.kind i (by have := h.size; omega)).trans (h.kind i hi)⟩
theorem Mv.of {o : Nat} (h : Turned K K' o w w') (hS : S o) : Mv K K' S w w' := ⟨h.os, h.tape, h.output, h.size, fun i hi hk => h.block i hi (fun e => hk (by rw [e]; exact hS)), h.kind⟩
theorem Mv.widen (h : Mv K K' S w w') (hS : ∀ o, S o → S' o) : Mv K K' S' w w' := ⟨h.os, h.tape, h.output, h.size, fun i hi hk => h.block i hi (fun e => hk (hS _ e)), h.kind⟩
theorem Mv.new (hb : Below w.heap.size w w') (m : Nat) : Mv K (PdSt.mark K w.heap.size m) S w w' := ⟨hb.os, hb.tape, hb.output, hb.size, fun i hi _ => hb.block i hi, fun i hi => if_pos hi⟩
theorem Mv.same (hb : Below w.heap.size w w') : Mv K K S w w' := ⟨hb.os, hb.tape, hb.output, hb.size, fun i hi _ => hb.block i hi, fun _ _ => rfl⟩
theorem Mv.below (h : Mv K K' S w w') (hS : ∀ i, i < w.heap.size → ¬ S (K i)) : Below w.heap.size w w' := ⟨h.os, h.tape, h.output, h.size, fun i hi => h.block i hi (hS i hi)⟩
/-- A store into a block of S. -/
theorem Mv.poke {a : Addr} (u : Value) (h : S (K a.block)) : Mv K K S w (w.setCell a u) := ⟨rfl, rfl, rfl, by simp, fun i hi hk => heap_setCell_other w a i u (fun e => hk (by rw [e]; exact h)), fun _ _ => rfl⟩
theorem PDisk.mv {o2 p : Nat} {d : DSt} (hd : PDisk w K o2 p d) (h : Mv K K' S w w') (h2 : ¬ S o2) : PDisk w' K' o2 p d := by
  obtain ⟨M, D, L, G, Q, hp⟩ := hd
  exact ⟨M, D, L, G, Q, hp.keep (fun i hi hk => h.block i hi (by rw [hk]; exact h2)) h.kind⟩
theorem rd_mv {A : Option Addr} {vs : List Value} {m : Nat} (h : Mv K K' S w w') (hm : ¬ S m) (hr : Rd w w.heap.size A vs) (hk : ∀ b off, A = some ⟨b, off, none⟩ → 0 < vs.length → K b = m) : Rd w' w'.heap.size A vs ∧ ∀ b off, A = some ⟨b, off, none⟩ → 0 < vs.length → K' b = m := by
  refine ⟨fun hn => ?_, fun b off e hn => ?_⟩
  · obtain ⟨b, off, e, hb, hc⟩ := hr hn
    refine ⟨b, off, e, Nat.lt_of_lt_of_le hb h.size, fun j u hu => ?_⟩
    rw [cell_of (h.block b hb (by rw [hk b off e hn]; exact hm))]
    exact hc j u hu
  · obtain ⟨b', off', e', hb', _⟩ := hr hn
    rw [e] at e'
    injection e' with e'
    injection e' with e'
    subst e'
    exact (h.kind b hb').trans (hk b off e hn)
theorem RefD.mv {o2 p : Nat} {d : DSt} (hd : RefD w K o2 p d) (h : Mv K K' S w w') (h0 : ¬ S 0) (h2 : ¬ S o2) : RefD w' K' o2 p d := by
  obtain ⟨A, c, hc, hm, hp, hk, c0, c1, c2, c3, f0, f1, f2, f3, hA, hf⟩ := hd
  have hb := h.block p hp (by rw [hk]; exact h2)
  have hfz : ∀ j, w'.frozen? ⟨p, j, none⟩ = w.frozen? ⟨p, j, none⟩ := fun j => by unfold World.frozen?; rw [hb]
  refine ⟨A, c, hc, hm, Nat.lt_of_lt_of_le hp h.size, (h.kind p hp).trans hk, (cell_of hb).trans c0, (cell_of hb).trans c1, (cell_of hb).trans c2, (cell_of hb).trans c3, (hfz 0).trans f0, (hfz 1).trans f1, (hfz 2).trans f2, (hfz 3).trans f3, hA, fun hn => ?_⟩
  obtain ⟨g, off, e, hg, hkg, hgz, hcell⟩ := hf hn
  have hbg := h.block g hg (by rw [hkg]; exact h2)
  refine ⟨g, off, e, Nat.lt_of_lt_of_le hg h.size, (h.kind g hg).trans hkg, fun j => by rw [← hgz j]; unfold World.frozen?; rw [hbg], fun i f hi => ?_⟩
  obtain ⟨k0, ⟨A', c', k1, k1a, k1b, k1c, k1d⟩, k2⟩ := hcell i f hi
  obtain ⟨m1, m2⟩ := rd_mv h h0 k1c (by simpa using k1d)
  exact ⟨(cell_of hbg).trans k0, ⟨A', c', (cell_of hbg).trans k1, k1a, k1b, m1, by simpa using m2⟩, (cell_of hbg).trans k2⟩
theorem HalfH.mv {o2 : Nat} {v : Value} {s : Option DSt} (hd : HalfH w K o2 v s) (h : Mv K K' S w w') (h2 : ¬ S o2) : HalfH w' K' o2 v s := by
  cases s with
  | none => exact hd
  | some d => obtain ⟨p, hv, hp⟩ := hd; exact ⟨p, hv, PDisk.mv hp h h2⟩
theorem HalfW.mv {o2 : Nat} {v : Value} {s : Option DSt} (hd : HalfW w K o2 v s) (h : Mv K K' S w w') (h0 : ¬ S 0) (h2 : ¬ S o2) : HalfW w' K' o2 v s := by
  cases s with
  | none => exact hd
  | some d => obtain ⟨p, hv, hp⟩ := hd; exact ⟨p, hv, RefD.mv hp h h0 h2⟩
/-- A row of one's own, of number m, stays. -/
theorem own_mv {base n size m : Nat} {e : TypeId} {v : Value} {xs : List Value} (h : w.ownsRow base e size v n xs) (hk : ∀ q, v.ownBlock = some q → K q = m) (ht : Mv K K' S w w') (hm : ¬ S m) : w'.ownsRow base e size v n xs ∧ ∀ q, v.ownBlock = some q → K' q = m := by
  obtain ⟨h1, h2⟩ := h
  rcases h2 with ⟨rfl, h2⟩ | ⟨g, cap, cur, rfl, h3, h4, h5⟩
  · exact ⟨⟨h1, .inl ⟨rfl, h2⟩⟩, fun q e => by cases e⟩
  · have hg := (Array.getElem?_eq_some_iff.1 h4).1
    have hk1 := hk g rfl
    refine ⟨⟨h1, .inr ⟨g, cap, cur, rfl, h3, (ht.block g hg (by rw [hk1]; exact hm)).trans h4, h5⟩⟩, fun q e => ?_⟩
    injection e with e
    subst e
    exact (ht.kind g hg).trans hk1
end

/-- One call of a script, in plain lists. -/
structure POp where
  kind : Int
  on : Int
  n : Int
  a : List UInt8
  b : List UInt8
  data : List UInt8
  keep : List Int
def stepD (q : POp) (d : DSt) : DSt :=
  if q.kind = 1 then (append q.a q.data d).2 else if q.kind = 2 then (sync q.a d).2 else if q.kind = 3 then (rename q.a q.b d).2 else if q.kind = 4 then (delete q.a d).2
  else if q.kind = 7 then { d with full := Int.tmod q.n 2 != 0 } else if q.kind = 8 then arm q.n d else if q.kind = 9 then restart q.keep d else d

theorem left_stepped {d : DSt} (h1 : -1 ≤ d.left) (h2 : d.left ≤ 9223372036854775807) : -1 ≤ (stepped d).left ∧ (stepped d).left ≤ 9223372036854775807 := by
  unfold stepped
  split
  · simp only; omega
  · exact ⟨h1, h2⟩
theorem put_len (f : DFile) : ∀ l : List DFile, (put f l).length ≤ l.length + 1
  | [] => by simp [put, place]
  | g :: r => by
    rw [put_cons]
    have := put_len f r
    split
    · simp
    · split
      · simp
      · simp only [List.length_cons]; omega
theorem del_len (i : Nat) (l : List DFile) : (del i l).length ≤ l.length := by
  unfold del
  simp only [List.length_append, List.length_take, List.length_drop]
  omega
section
variable {n T : Nat} {d : DSt}
theorem Fine1.files {d' : DSt} {n' T' : Nat} (h : Fine1 n T d) (hg : DkSpec.Good d') (hl : d'.left = d.left ∨ d'.left = (stepped d).left) (hn : d'.files.length ≤ n') (hT : ∀ f ∈ d'.files, f.data.length ≤ T') : Fine1 n' T' d' := by
  have hs := left_stepped h.low h.high
  rcases hl with e | e
  · exact ⟨hg, by rw [e]; exact h.low, by rw [e]; exact h.high, hn, hT⟩
  · exact ⟨hg, by rw [e]; exact hs.1, by rw [e]; exact hs.2, hn, hT⟩
theorem fine_append (h : Fine1 n T d) (a data : List UInt8) : Fine1 (n + 1) (T + data.length) (append a data d).2 := by
  have hg := good_append (name := a) (data := data) h.good
  have hold := h.old a
  unfold append at hg ⊢
  split
  · exact Fine1.files h h.good (.inl rfl) (Nat.le_succ_of_le h.few) (fun f hf => Nat.le_trans (h.small f hf) (by omega))
  · rename_i hr
    rw [if_neg hr] at hg
    split
    · rename_i hf
      rw [if_pos hf] at hg
      exact Fine1.files h hg (.inr rfl) (by rw [stepped_files]; exact Nat.le_succ_of_le h.few) (fun f hf => Nat.le_trans (h.small f (by rwa [stepped_files] at hf)) (by omega))
    · rename_i hf
      rw [if_neg hf] at hg
      refine Fine1.files h hg (.inr rfl) (Nat.le_trans (put_len _ _) (by have := h.few; omega)) (fun f hf => ?_)
      rcases mem_put hf with rfl | hf
      · simp only [List.length_append]; omega
      · exact Nat.le_trans (h.small f hf) (by omega)
theorem fine_sync (h : Fine1 n T d) (a : List UInt8) : Fine1 n T (sync a d).2 := by
  have hg := good_sync (name := a) h.good
  unfold sync at hg ⊢
  split
  · exact h
  · rename_i hr
    rw [if_neg hr] at hg
    split
    · rename_i hf
      rw [if_pos hf] at hg
      exact Fine1.files h hg (.inr rfl) (by rw [stepped_files]; exact h.few) (fun f hf => h.small f (by rwa [stepped_files] at hf))
    · rename_i hf
      rw [if_neg hf] at hg
      refine Fine1.files h hg (.inr rfl) (by simp only [List.length_modify]; exact h.few) (fun f hf => ?_)
      obtain ⟨i, hi⟩ := List.mem_iff_getElem?.1 hf
      rw [List.getElem?_modify] at hi
      simp only [Option.map_eq_map, Option.map_eq_some_iff] at hi
      obtain ⟨x, hx, rfl⟩ := hi
      have := h.small x (List.mem_of_getElem? hx)
      split
      · exact this
      · exact this
theorem fine_rename (h : Fine1 n T d) (a b : List UInt8) : Fine1 (n + 1) T (rename a b d).2 := by
  have hg := good_rename (a := a) (b := b) h.good
  have hold := h.old a
  unfold rename at hg ⊢
  split
  · exact Fine1.files h h.good (.inl rfl) (Nat.le_succ_of_le h.few) h.small
  · rename_i hr
    rw [if_neg hr] at hg
    split
    · rename_i hf
      rw [if_pos hf] at hg
      exact Fine1.files h hg (.inr rfl) (by rw [stepped_files]; exact Nat.le_succ_of_le h.few) (fun f hf => h.small f (by rwa [stepped_files] at hf))
    · rename_i hf
      rw [if_neg hf] at hg
      refine Fine1.files h hg (.inr rfl) (Nat.le_trans (put_len _ _) (by have := h.few; have := del_len (place a d.files).1 d.files; omega)) (fun f hf => ?_)
      rcases mem_put hf with rfl | hf
      · exact hold
      · exact h.small f (mem_del hf)
theorem fine_delete (h : Fine1 n T d) (a : List UInt8) : Fine1 n T (delete a d).2 := by
  have hg := good_delete (name := a) h.good
  unfold delete at hg ⊢
  split
  · exact h
  · rename_i hr
    rw [if_neg hr] at hg
    split
    · rename_i hf
      rw [if_pos hf] at hg
      exact Fine1.files h hg (.inr rfl) (by rw [stepped_files]; exact h.few) (fun f hf => h.small f (by rwa [stepped_files] at hf))
    · rename_i hf
      rw [if_neg hf] at hg
      exact Fine1.files h hg (.inr rfl) (Nat.le_trans (del_len _ _) h.few) (fun f hf => h.small f (mem_del hf))
theorem kept_small {m : Nat} : ∀ (l : List DFile) (ks : List Int), (∀ g ∈ l, g.data.length ≤ m) → ∀ g ∈ kept l ks, g.data.length ≤ m
  | [], _, _ => fun g hg => by cases hg
  | f :: r, ks, h => fun g hg => by
    rw [kept] at hg
    rcases List.mem_cons.1 hg with rfl | hg
    · have := h f (by simp)
      simp only [List.length_take]
      omega
    · exact kept_small r ks.tail (fun g hg => h g (by simp [hg])) g hg
theorem kept_count : ∀ (l : List DFile) (ks : List Int), (kept l ks).length = l.length
  | [], _ => rfl
  | f :: r, ks => by rw [kept, List.length_cons, List.length_cons, kept_count r]
theorem fine_restart (h : Fine1 n T d) (ks : List Int) : Fine1 n T (restart ks d) :=
  ⟨good_restart h.good, by show (-1 : Int) ≤ -1; omega, by show (-1 : Int) ≤ _; omega, by show (kept d.files ks).length ≤ n; rw [kept_count]; exact h.few, kept_small _ _ h.small⟩
theorem fine_arm (h : Fine1 n T d) (x : Int) (hx : x ≤ 9223372036854775807) : Fine1 n T (arm x d) := by
  unfold arm
  split
  · exact h
  · refine ⟨h.good, ?_, ?_, h.few, h.small⟩
    · simp only; split <;> omega
    · simp only; split <;> omega
theorem fine_mono (h : Fine1 n T d) {n' T' : Nat} (hn : n ≤ n') (hT : T ≤ T') : Fine1 n' T' d := ⟨h.good, h.low, h.high, Nat.le_trans h.few hn, fun f hf => Nat.le_trans (h.small f hf) hT⟩
theorem fine_step (h : Fine1 n T d) (q : POp) (hq : q.n ≤ 9223372036854775807) : Fine1 (n + 1) (T + q.data.length) (stepD q d) := by
  unfold stepD
  split
  · exact fine_append h _ _
  split
  · exact fine_mono (fine_sync h _) (by omega) (by omega)
  split
  · exact fine_mono (fine_rename h _ _) (by omega) (by omega)
  split
  · exact fine_mono (fine_delete h _) (by omega) (by omega)
  split
  · exact ⟨h.good, h.low, h.high, Nat.le_succ_of_le h.few, fun f hf => Nat.le_trans (h.small f hf) (Nat.le_add_right _ _)⟩
  split
  · exact fine_mono (fine_arm h _ hq) (by omega) (by omega)
  split
  · exact fine_mono (fine_restart h _) (by omega) (by omega)
  · exact fine_mono h (by omega) (by omega)
theorem fineS_step {s : Option DSt} (h : Fine n T s) (q : POp) (hq : q.n ≤ 9223372036854775807) : Fine (n + 1) (T + q.data.length) (s.map (stepD q)) := fun d hd => by
  cases s with
  | none => cases hd
  | some d0 =>
    injection hd with hd
    subst hd
    exact fine_step (h d0 rfl) q hq
theorem fineS_mono {s : Option DSt} (h : Fine n T s) {n' T' : Nat} (hn : n ≤ n') (hT : T ≤ T') : Fine n' T' s := fun d hd => fine_mono (h d hd) hn hT
theorem fine_fresh : Fine1 n T fresh := ⟨⟨List.Pairwise.nil, fun f hf => by cases hf⟩, by show (-1 : Int) ≤ -1; omega, by show (-1 : Int) ≤ _; omega, Nat.zero_le _, fun f hf => by cases hf⟩
end
end Go.Proofs.Ytfblekedgenacaa.Mv
