/- What is known on the way through a script: three disks of each side, in the same states ('Inv'). No conditions but those that the theorems name. -/
import Derived.Test.YtfblekedgenacaaOps5
import Derived.Test.YtfblekedgenacaaAll5
namespace Go.Proofs.Ytfblekedgenacaa.Scripts0
open Go Go.RowKit Words DkSpec PdLook RefDisk PdDisk PdRes Pairs Mv Right Ops5

def upd {α : Type} (f : Nat → α) (k : Nat) (x : α) : Nat → α := fun j => if j = k then x else f j
theorem upd_same {α : Type} (f : Nat → α) (k : Nat) (x : α) : upd f k x k = x := if_pos rfl
theorem upd_other {α : Type} (f : Nat → α) {k j : Nat} (x : α) (h : j ≠ k) : upd f k x j = f j := if_neg h
theorem upd_self {α : Type} (f : Nat → α) (k : Nat) : upd f k (f k) = f := by
  funext j
  unfold upd
  split
  · rename_i h; rw [h]
  · rfl
def arr (v : Nat → Value) : Array Value := #[v 0, v 1, v 2]
theorem arr_at (v : Nat → Value) {k : Nat} (h : k < 3) : (arr v)[k]? = some (v k) := by
  have : k = 0 ∨ k = 1 ∨ k = 2 := by omega
  rcases this with rfl | rfl | rfl <;> rfl
theorem arr_set (v : Nat → Value) {k : Nat} (h : k < 3) (x : Value) : (arr v).setIfInBounds k x = arr (upd v k x) := by
  have : k = 0 ∨ k = 1 ∨ k = 2 := by omega
  rcases this with rfl | rfl | rfl <;> rfl

structure Inv (w0 wr : World) (K : Nat → Nat) (bh bw : Nat) (vh vw : Nat → Value) (sh sw : Nat → Option DSt) (n T : Nat) : Prop where
  seats : ∀ j, j < 3 → HalfH wr K (2 * j + 1) (vh j) (sh j) ∧ HalfW wr K (2 * j + 2) (vw j) (sw j)
  fh : ∀ j, j < 3 → Fine n T (sh j)
  fw : ∀ j, j < 3 → Fine n T (sw j)
  ah : wr.heap[bh]? = some (.cells (arr vh) 26 (0, 0))
  aw : wr.heap[bw]? = some (.cells (arr vw) 29 (0, 0))
  kh : K bh = 8
  kw : K bw = 8
  ne : bh ≠ bw
  lh : w0.heap.size ≤ bh
  lw : w0.heap.size ≤ bw
  mv : Mv (fun _ => 0) K (fun x => x ≠ 0) w0 wr
section
variable {w0 wr w' : World} {K K' : Nat → Nat} {bh bw : Nat} {vh vw : Nat → Value} {sh sw : Nat → Option DSt} {n T : Nat}
theorem Inv.below (h : Inv w0 wr K bh bw vh vw sh sw n T) : Below w0.heap.size w0 wr := h.mv.below (fun i _ hn => hn rfl)
theorem Inv.cells (h : Inv w0 wr K bh bw vh vw sh sw n T) {k : Nat} (hk : k < 3) : wr.cell? ⟨bh, k, none⟩ = some (vh k) ∧ wr.cell? ⟨bw, k, none⟩ = some (vw k) ∧ wr.frozen? ⟨bh, k, none⟩ = false ∧ wr.frozen? ⟨bw, k, none⟩ = false := by
  have h1 := h.ah
  have h2 := h.aw
  refine ⟨?_, ?_, ?_, ?_⟩
  · unfold World.cell?; rw [h1]; exact arr_at vh hk
  · unfold World.cell?; rw [h2]; exact arr_at vw hk
  · unfold World.frozen?; rw [h1]; simp
  · unfold World.frozen?; rw [h2]; simp
/-- Something new. -/
theorem Inv.new (h : Inv w0 wr K bh bw vh vw sh sw n T) (hb : Below wr.heap.size wr w') : Inv w0 w' (PdSt.mark K wr.heap.size 8) bh bw vh vw sh sw n T := by
  have hm : ∀ S : Nat → Prop, Mv K (PdSt.mark K wr.heap.size 8) S wr w' := fun S => Mv.new hb 8
  have l1 := lt_of h.ah
  have l2 := lt_of h.aw
  exact ⟨fun j hj => ⟨HalfH.mv (h.seats j hj).1 (hm fun _ => False) (fun h => h), HalfW.mv (h.seats j hj).2 (hm fun _ => False) (fun h => h) (fun h => h)⟩, h.fh, h.fw, (hb.block _ l1).trans h.ah, (hb.block _ l2).trans h.aw, (PdSt.mark_old l1).trans h.kh, (PdSt.mark_old l2).trans h.kw, h.ne, h.lh, h.lw, h.mv.trans (hm _)⟩
theorem Inv.same (h : Inv w0 wr K bh bw vh vw sh sw n T) (hb : Below wr.heap.size wr w') : Inv w0 w' K bh bw vh vw sh sw n T := by
  have hm : ∀ S : Nat → Prop, Mv K K S wr w' := fun S => Mv.same hb
  exact ⟨fun j hj => ⟨HalfH.mv (h.seats j hj).1 (hm fun _ => False) (fun h => h), HalfW.mv (h.seats j hj).2 (hm fun _ => False) (fun h => h) (fun h => h)⟩, h.fh, h.fw, (hb.block _ (lt_of h.ah)).trans h.ah, (hb.block _ (lt_of h.aw)).trans h.aw, h.kh, h.kw, h.ne, h.lh, h.lw, h.mv.trans (hm _)⟩
theorem Inv.more (h : Inv w0 wr K bh bw vh vw sh sw n T) {n' T' : Nat} (hn : n ≤ n') (hT : T ≤ T') : Inv w0 wr K bh bw vh vw sh sw n' T' :=
  { h with fh := fun j hj => fineS_mono (h.fh j hj) hn hT, fw := fun j hj => fineS_mono (h.fw j hj) hn hT }
/-- A call on one pair. -/
theorem Inv.pair (h : Inv w0 wr K bh bw vh vw sh sw n T) {k : Nat} (hk : k < 3) {s1 s2 : Option DSt} (hm : Mv K K' (Two (2 * k + 1) (2 * k + 2)) wr w') (h1 : HalfH w' K' (2 * k + 1) (vh k) s1) (h2 : HalfW w' K' (2 * k + 2) (vw k) s2) {n' T' : Nat} (hn : n ≤ n') (hT : T ≤ T') (f1 : Fine n' T' s1) (f2 : Fine n' T' s2) :
    Inv w0 w' K' bh bw vh vw (upd sh k s1) (upd sw k s2) n' T' := by
  have n8 : ¬ Two (2 * k + 1) (2 * k + 2) 8 := fun e => by rcases e with e | e <;> omega
  have l1 := lt_of h.ah
  have l2 := lt_of h.aw
  refine ⟨fun j hj => ?_, fun j hj => ?_, fun j hj => ?_, (hm.block _ l1 (by rw [h.kh]; exact n8)).trans h.ah, (hm.block _ l2 (by rw [h.kw]; exact n8)).trans h.aw, (hm.kind _ l1).trans h.kh, (hm.kind _ l2).trans h.kw, h.ne, h.lh, h.lw, h.mv.trans (hm.widen (fun o e => by rcases e with e | e <;> omega))⟩
  · by_cases e : j = k
    · subst e
      rw [upd_same, upd_same]
      exact ⟨h1, h2⟩
    · rw [upd_other _ _ e, upd_other _ _ e]
      exact ⟨HalfH.mv (h.seats j hj).1 hm (fun x => by rcases x with x | x <;> omega), HalfW.mv (h.seats j hj).2 hm (fun x => by rcases x with x | x <;> omega) (fun x => by rcases x with x | x <;> omega)⟩
  · by_cases e : j = k
    · subst e; rw [upd_same]; exact f1
    · rw [upd_other _ _ e]; exact fineS_mono (h.fh j hj) hn hT
  · by_cases e : j = k
    · subst e; rw [upd_same]; exact f2
    · rw [upd_other _ _ e]; exact fineS_mono (h.fw j hj) hn hT
theorem all_turned (ht : ∀ o', Turned K K' o' wr w') : ∀ S : Nat → Prop, Mv K K' S wr w' := fun S => ⟨(ht 0).os, (ht 0).tape, (ht 0).output, (ht 0).size, fun i hi _ => (ht (K i + 1)).block i hi (by omega), (ht 0).kind⟩
/-- A clone is laid in the program's list. -/
theorem Inv.storeH (h : Inv w0 wr K bh bw vh vw sh sw n T) {k : Nat} (hk : k < 3) {v' : Value} {s' : Option DSt} (hh : HalfH w' K' (2 * k + 1) v' s') (ht : ∀ o', Turned K K' o' wr w') (hf : Fine n T s') :
    Inv w0 (w'.setCell ⟨bh, k, none⟩ v') K' bh bw (upd vh k v') vw (upd sh k s') sw n T := by
  have hm := all_turned ht
  have l1 := lt_of h.ah
  have l2 := lt_of h.aw
  have a1 := ((hm fun _ => False).block _ l1 (fun h => h)).trans h.ah
  have a2 := ((hm fun _ => False).block _ l2 (fun h => h)).trans h.aw
  have k1 := ((hm fun _ => False).kind _ l1).trans h.kh
  have hp : Mv K' K' (fun x => x = 8) w' (w'.setCell ⟨bh, k, none⟩ v') := Mv.poke v' k1
  refine ⟨fun j hj => ⟨?_, ?_⟩, fun j hj => ?_, h.fw, ?_, (heap_setCell_other w' _ bw v' h.ne.symm).trans a2, k1, ((hm fun _ => False).kind _ l2).trans h.kw, h.ne, h.lh, h.lw, ((h.mv.trans (hm _)).trans (hp.widen (fun o e => by omega)))⟩
  · by_cases e : j = k
    · subst e
      rw [upd_same, upd_same]
      exact HalfH.mv hh hp (by omega)
    · rw [upd_other _ _ e, upd_other _ _ e]
      exact HalfH.mv (HalfH.mv (h.seats j hj).1 (hm fun _ => False) (fun h => h)) hp (by omega)
  · exact HalfW.mv (HalfW.mv (h.seats j hj).2 (hm fun _ => False) (fun h => h) (fun h => h)) hp (by decide) (by omega)
  · by_cases e : j = k
    · subst e; rw [upd_same]; exact hf
    · rw [upd_other _ _ e]; exact h.fh j hj
  · have := heap_setCell_same w' bh k _ _ v' a1
    rwa [arr_set vh hk] at this
theorem Inv.storeW (h : Inv w0 wr K bh bw vh vw sh sw n T) {k : Nat} (hk : k < 3) {v' : Value} {s' : Option DSt} (hh : HalfW w' K' (2 * k + 2) v' s') (ht : ∀ o', Turned K K' o' wr w') (hf : Fine n T s') :
    Inv w0 (w'.setCell ⟨bw, k, none⟩ v') K' bh bw vh (upd vw k v') sh (upd sw k s') n T := by
  have hm := all_turned ht
  have l1 := lt_of h.ah
  have l2 := lt_of h.aw
  have a1 := ((hm fun _ => False).block _ l1 (fun h => h)).trans h.ah
  have a2 := ((hm fun _ => False).block _ l2 (fun h => h)).trans h.aw
  have k2 := ((hm fun _ => False).kind _ l2).trans h.kw
  have hp : Mv K' K' (fun x => x = 8) w' (w'.setCell ⟨bw, k, none⟩ v') := Mv.poke v' k2
  refine ⟨fun j hj => ⟨?_, ?_⟩, h.fh, fun j hj => ?_, (heap_setCell_other w' _ bh v' h.ne).trans a1, ?_, ((hm fun _ => False).kind _ l1).trans h.kh, k2, h.ne, h.lh, h.lw, ((h.mv.trans (hm _)).trans (hp.widen (fun o e => by omega)))⟩
  · exact HalfH.mv (HalfH.mv (h.seats j hj).1 (hm fun _ => False) (fun h => h)) hp (by omega)
  · by_cases e : j = k
    · subst e
      rw [upd_same, upd_same]
      exact HalfW.mv hh hp (by decide) (by omega)
    · rw [upd_other _ _ e, upd_other _ _ e]
      exact HalfW.mv (HalfW.mv (h.seats j hj).2 (hm fun _ => False) (fun h => h) (fun h => h)) hp (by decide) (by omega)
  · by_cases e : j = k
    · subst e; rw [upd_same]; exact hf
    · rw [upd_other _ _ e]; exact h.fw j hj
  · have := heap_setCell_same w' bw k _ _ v' a2
    rwa [arr_set vw hk] at this
/-- A call's arguments. -/
theorem Inv.args (h : Inv w0 wr K bh bw vh vw sh sw n T) {o : PO} (hr : Raw w0 o) (ha : o.q.a.length ≤ 281474976710656) (hb : o.q.b.length ≤ 281474976710656) (ht : o.q.data.length ≤ 1048576) : Args wr K o.q o.Ad o.cd o.Ak o.ck := by
  obtain ⟨d1, d2⟩ := rd_mv h.mv (by omega) hr.d (fun b off _ _ => rfl)
  obtain ⟨k1, k2⟩ := rd_mv h.mv (by omega) hr.k (fun b off _ _ => rfl)
  exact ⟨d1, by simpa using d2, hr.dc, hr.dm, k1, by simpa using k2, hr.kc, hr.km, hr.ks, hr.n1, hr.n2, ha, hb, ht⟩
end
/-- 'right', whatever the call is. -/
def RightAny : Prop := ∀ (w : World) (K : Nat → Nat) (oh ow : Nat) (vh vw : Value) (q : POp) (s : Option DSt) (n T : Nat) (Ad : Option Addr) (cd : Nat) (Ak : Option Addr) (ck : Nat), HalfH w K oh vh s → HalfW w K ow vw s → Fine n T s → n ≤ 1000000000 → T ≤ 1000000000 → Args w K q Ad cd Ak ck →
  oh ≠ 7 → ow ≠ 0 → ow ≠ 7 → oh ≠ ow → oh ≠ 0 → Calls Try.prog 12 #[vh, vw, .agg (opC q Ad cd Ak ck)] w (RPost w K oh ow vh vw q s)
end Go.Proofs.Ytfblekedgenacaa.Scripts0
