/- DiskScripts' walk: for all scripts whose bulk is at most 1048576 the statement's function answers true and leaves its argument as it was. Conditions: that bound; 'RightAny' for the program. -/
import Derived.Test.YtfblekedgenacaaScripts0
import Derived.Test.YtfblekedgenacaaAwake5
import Derived.Deep.RegionHeld3
namespace Go.Proofs.Ytfblekedgenacaa.Scripts
open Go Go.RowKit Words DkSpec PdLook RefDisk PdDisk PdRes Pairs Mv Right Ops5 Scripts0

def v0 (a b : Nat) : Nat → Value := fun j => if j = 0 then .pointer (some ⟨a, 0, none⟩) else if j = 1 then .pointer (some ⟨b, 0, none⟩) else .pointer none
def s0 : Nat → Option DSt := fun j => if j < 2 then some fresh else none
theorem fine0 (j : Nat) : Fine 0 0 (s0 j) := fun d hd => by
  unfold s0 at hd
  split at hd
  · cases hd; exact fine_fresh
  · cases hd
theorem inv0 {w1 w2 w3 w5 w6 : World} {K2 K3 K5 K6 : Nat → Nat} {p1 p3 p2 p4 : Nat} (P2 : PDisk w2 K2 1 p1 fresh) (T2 : ∀ o', Turned (fun _ => 0) K2 o' w1 w2) (P3 : PDisk w3 K3 3 p3 fresh) (T3 : ∀ o', Turned K2 K3 o' w2 w3)
    (P5 : RefD w5 K5 2 p2 fresh) (T5 : ∀ o', Turned (PdSt.mark K3 w3.heap.size 8) K5 o' (w3.alloc (.cells (arr (v0 p1 p3)) 26)) w5) (P6 : RefD w6 K6 4 p4 fresh) (T6 : ∀ o', Turned K5 K6 o' w5 w6) :
    Inv w1 (w6.alloc (.cells (arr (v0 p2 p4)) 29)) (PdSt.mark K6 w6.heap.size 8) w3.heap.size w6.heap.size (v0 p1 p3) (v0 p2 p4) s0 s0 0 0 := by
  have m2 := all_turned T2
  have m3 := all_turned T3
  have m5 := all_turned T5
  have m6 := all_turned T6
  have b4 : Below w3.heap.size w3 (w3.alloc (.cells (arr (v0 p1 p3)) 26)) := (Below.refl _ w3).alloc (Nat.le_refl _) _
  have b7 : Below w6.heap.size w6 (w6.alloc (.cells (arr (v0 p2 p4)) 29)) := (Below.refl _ w6).alloc (Nat.le_refl _) _
  have m4 : ∀ S : Nat → Prop, Mv K3 (PdSt.mark K3 w3.heap.size 8) S w3 (w3.alloc (.cells (arr (v0 p1 p3)) 26)) := fun S => Mv.new b4 8
  have m7 : ∀ S : Nat → Prop, Mv K6 (PdSt.mark K6 w6.heap.size 8) S w6 (w6.alloc (.cells (arr (v0 p2 p4)) 29)) := fun S => Mv.new b7 8
  have h46 : ∀ S : Nat → Prop, Mv (PdSt.mark K3 w3.heap.size 8) (PdSt.mark K6 w6.heap.size 8) S (w3.alloc (.cells (arr (v0 p1 p3)) 26)) (w6.alloc (.cells (arr (v0 p2 p4)) 29)) := fun S => ((m5 S).trans (m6 S)).trans (m7 S)
  have q1 := PDisk.mv (PDisk.mv (PDisk.mv P2 (m3 fun _ => False) (fun h => h)) (m4 fun _ => False) (fun h => h)) (h46 fun _ => False) (fun h => h)
  have q3 := PDisk.mv (PDisk.mv P3 (m4 fun _ => False) (fun h => h)) (h46 fun _ => False) (fun h => h)
  have q2 := RefD.mv (RefD.mv P5 (m6 fun _ => False) (fun h => h) (fun h => h)) (m7 fun _ => False) (fun h => h) (fun h => h)
  have q4 := RefD.mv P6 (m7 fun _ => False) (fun h => h) (fun h => h)
  have hbh : (w3.alloc (.cells (arr (v0 p1 p3)) 26)).heap[w3.heap.size]? = some (.cells (arr (v0 p1 p3)) 26 (0, 0)) := Go.heap_alloc_new _ _
  have hl := lt_of hbh
  have z1 := (m2 fun _ => False).size
  have z3 := (m3 fun _ => False).size
  have z5 := (m5 fun _ => False).size
  have z6 := (m6 fun _ => False).size
  have z4 := b4.size
  refine ⟨fun j hj => ?_, fun j _ => fine0 j, fun j _ => fine0 j, ((h46 fun _ => False).block _ hl (fun h => h)).trans hbh, Go.heap_alloc_new _ _, ((h46 fun _ => False).kind _ hl).trans (PdSt.mark_new (Nat.le_refl _)), PdSt.mark_new (Nat.le_refl _), by omega, by omega, by omega, ((((m2 _).trans (m3 _)).trans (m4 _)).trans (h46 _))⟩
  have hj3 : j = 0 ∨ j = 1 ∨ j = 2 := by omega
  rcases hj3 with rfl | rfl | rfl
  · exact ⟨⟨p1, rfl, q1⟩, ⟨p2, rfl, q2⟩⟩
  · exact ⟨⟨p3, rfl, q3⟩, ⟨p4, rfl, q4⟩⟩
  · exact ⟨rfl, rfl⟩
theorem half_ptrH {w : World} {K : Nat → Nat} {o : Nat} {v : Value} {s : Option DSt} (h : HalfH w K o v s) : ∃ ad, v = .pointer ad := by
  cases s with
  | none => exact ⟨none, h⟩
  | some d => obtain ⟨p, hv, _⟩ := h; exact ⟨_, hv⟩
theorem half_ptrW {w : World} {K : Nat → Nat} {o : Nat} {v : Value} {s : Option DSt} (h : HalfW w K o v s) : ∃ ad, v = .pointer ad := by
  cases s with
  | none => exact ⟨none, h⟩
  | some d => obtain ⟨p, hv, _⟩ := h; exact ⟨_, hv⟩
theorem total_take (l : List PO) {k : Nat} (h : k < l.length) : total (l.take (k + 1)) = total (l.take k) + l[k].q.data.length := by
  unfold total
  rw [List.take_succ_eq_append_getElem h, List.map_append, List.sum_append]
  simp
theorem total_le (l : List PO) (k : Nat) : total (l.take k) ≤ total l := by
  unfold total
  conv => rhs; rw [← List.take_append_drop k l, List.map_append, List.sum_append]
  exact Nat.le_add_right _ _
section
variable {w0 wr : World} {K : Nat → Nat} {bh bw : Nat} {vh vw : Nat → Value} {s : Nat → Option DSt} {n T : Nat}
theorem restart1 (h : Inv w0 wr K bh bw vh vw s s n T) {k : Nat} (hk : k < 3) (hn : n ≤ 1000000000) (hT : T ≤ 1000000000) :
    wr.cell? ⟨bh, k, none⟩ = some (vh k) ∧ Calls Try.prog 14 #[vh k, .slice none 0 0] wr (APostH wr K (2 * k + 1) (vh k) ((s k).map (restart []))) ∧
    ∀ w5 K5, HalfH w5 K5 (2 * k + 1) (vh k) ((s k).map (restart [])) → Turned K K5 (2 * k + 1) wr w5 → w5.cell? ⟨bw, k, none⟩ = some (vw k) ∧
      Calls Try.prog 15 #[vw k, .slice none 0 0] w5 (APostW w5 K5 (2 * k + 2) (vw k) ((s k).map (restart []))) ∧
      ∀ w6 K6, HalfW w6 K6 (2 * k + 2) (vw k) ((s k).map (restart [])) → Turned K5 K6 (2 * k + 2) w5 w6 → Inv w0 w6 K6 bh bw vh vw (upd s k ((s k).map (restart []))) (upd s k ((s k).map (restart []))) n T := by
  obtain ⟨hs1, hs2⟩ := h.seats k hk
  have hf := h.fh k hk
  have hff : Fine n T ((s k).map (restart [])) := fun d hd => by
    cases hsk : s k with
    | none => rw [hsk] at hd; cases hd
    | some d0 =>
      rw [hsk] at hd hf
      injection hd with hd
      subst hd
      exact fine_restart (hf d0 rfl) []
  refine ⟨(h.cells hk).1, h_restart hs1 hf hn [] none 0 Rd.nil_ (fun b off e => by cases e) (fun x hx => by cases hx) (Nat.le_refl _) (by unfold maxLen; omega), fun w5 K5 h5 t5 => ?_⟩
  have m5 := Mv.of (S := fun x => x = 2 * k + 1) t5 rfl
  have a5 : w5.heap[bw]? = some (.cells (arr vw) 29 (0, 0)) := (m5.block bw (lt_of h.aw) (by rw [h.kw]; omega)).trans h.aw
  refine ⟨by unfold World.cell?; rw [a5]; exact arr_at vw hk, w_restart (by omega) (HalfW.mv hs2 m5 (by omega) (by omega)) hf hn (by omega) [] none 0 Rd.nil_ (fun b off e => by cases e) (fun x hx => by cases hx) (Nat.le_refl _) (by unfold maxLen; omega), fun w6 K6 h6 t6 => ?_⟩
  have m6 := Mv.of (S := fun x => x = 2 * k + 2) t6 rfl
  exact h.pair hk ((m5.widen (fun o e => .inl e)).trans (m6.widen (fun o e => .inr e))) (HalfH.mv h5 m6 (by omega)) h6 (Nat.le_refl _) (Nat.le_refl _) hff hff
theorem clone1 (h : Inv w0 wr K bh bw vh vw s s n T) {k j : Nat} (hk : k < 3) (hj : j < 3) (hn : n ≤ 1000000000) (hT : T ≤ 1000000000) :
    wr.cell? ⟨bh, j, none⟩ = some (vh j) ∧ Calls Try.prog 10 #[vh j] wr (CPostH wr K (2 * k + 1) (s j)) ∧
    ∀ w5 v5 K5, HalfH w5 K5 (2 * k + 1) v5 (s j) → (∀ o', Turned K K5 o' wr w5) → (∃ ad, v5 = .pointer ad) ∧ w5.cell? ⟨bh, k, none⟩ = some (vh k) ∧ w5.frozen? ⟨bh, k, none⟩ = false ∧ (w5.setCell ⟨bh, k, none⟩ v5).cell? ⟨bw, j, none⟩ = some (vw j) ∧
      Calls Try.prog 11 #[vw j] (w5.setCell ⟨bh, k, none⟩ v5) (CPostW (w5.setCell ⟨bh, k, none⟩ v5) K5 (2 * k + 2) (s j)) ∧
      ∀ w6 v6 K6, HalfW w6 K6 (2 * k + 2) v6 (s j) → (∀ o', Turned K5 K6 o' (w5.setCell ⟨bh, k, none⟩ v5) w6) → (∃ ad, v6 = .pointer ad) ∧ w6.cell? ⟨bw, k, none⟩ = some (vw k) ∧ w6.frozen? ⟨bw, k, none⟩ = false ∧
        Inv w0 (w6.setCell ⟨bw, k, none⟩ v6) K6 bh bw (upd vh k v5) (upd vw k v6) (upd s k (s j)) (upd s k (s j)) n T := by
  obtain ⟨hs1, hs2⟩ := h.seats j hj
  have hf := h.fh j hj
  refine ⟨(h.cells hj).1, h_clone hs1 hf hn (by omega) (2 * k + 1), fun w5 v5 K5 h5 t5 => ?_⟩
  have m5 := all_turned t5 fun _ => False
  have a5 : w5.heap[bh]? = some (.cells (arr vh) 26 (0, 0)) := (m5.block bh (lt_of h.ah) (fun h => h)).trans h.ah
  have i5 := h.storeH hk h5 t5 hf
  refine ⟨half_ptrH h5, by unfold World.cell?; rw [a5]; exact arr_at vh hk, by unfold World.frozen?; rw [a5]; simp, (i5.cells hj).2.1, w_clone (i5.seats j hj).2 hf hn (2 * k + 2), fun w6 v6 K6 h6 t6 => ?_⟩
  have m6 := all_turned t6 fun _ => False
  have a6 : w6.heap[bw]? = some (.cells (arr vw) 29 (0, 0)) := (m6.block bw (lt_of i5.aw) (fun h => h)).trans i5.aw
  exact ⟨half_ptrW h6, by unfold World.cell?; rw [a6]; exact arr_at vw hk, by unfold World.frozen?; rw [a6]; simp, i5.storeW hk h6 t6 hf⟩
theorem right_1 (HRA : RightAny) (h : Inv w0 wr K bh bw vh vw s s n T) {k : Nat} (hk : k < 3) (hn : n ≤ 1000000000) (hT : T ≤ 1000000000) {o : PO} (hr : Raw w0 o) (ha : o.q.a.length ≤ 1048576) (hb : o.q.b.length ≤ 1048576) (ht : o.q.data.length ≤ 1048576) :
    Calls Try.prog 12 #[vh k, vw k, .agg (opC o.q o.Ad o.cd o.Ak o.ck)] wr fun e w' => e = .returned (.bool true) ∧ (∀ b x, K b = 8 → wr.heap[b]? = some x → w'.heap[b]? = some x) ∧ ∃ K', Inv w0 w' K' bh bw vh vw (upd s k ((s k).map (stepD o.q))) (upd s k ((s k).map (stepD o.q))) (n + 1) (T + o.q.data.length) := by
  obtain ⟨hs1, hs2⟩ := h.seats k hk
  have hf := h.fh k hk
  refine (HRA wr K (2 * k + 1) (2 * k + 2) (vh k) (vw k) o.q (s k) n T o.Ad o.cd o.Ak o.ck hs1 hs2 hf hn hT (h.args hr (by omega) (by omega) ht) (by omega) (by omega) (by omega) (by omega) (by omega)).mono fun e w' hp => ?_
  obtain ⟨he, K', h1, h2, hm⟩ := hp
  have hf2 := fineS_step hf o.q hr.n2
  exact ⟨he, fun b x h8 hx => (hm.block b (lt_of hx) (fun e => by rw [h8] at e; rcases e with e | e <;> omega)).trans hx, K', h.pair hk hm h1 h2 (Nat.le_succ _) (Nat.le_add_right _ _) hf2 hf2⟩
end
theorem raw_below {w w' : World} {o : PO} (h : Raw w o) (hb : Below w.heap.size w w') : Raw w' o :=
  { h with d := (h.d.below hb).more hb.size, k := (h.k.below hb).more hb.size }
theorem on_wrap (n : Int) : ∃ u : Nat, IntKind.u64.wrap n = (u : Int) ∧ u < 18446744073709551616 := ⟨(n % 18446744073709551616).toNat, by rw [IntKind.wrap_u64]; omega, by omega⟩
theorem op_at {w wr : World} {A : Option Addr} {l : List PO} (h : OpsAt w A l) (hb : Below w.heap.size w wr) {k : Nat} (hk : k < l.length) :
    ∃ b off, A = some ⟨b, off, none⟩ ∧ wr.cell? ⟨b, off + k * 7, none⟩ = some (.int .i64 l[k].q.kind) ∧ wr.cell? ⟨b, off + k * 7 + 1, none⟩ = some (.int .i64 l[k].q.on) ∧ wr.cell? ⟨b, off + k * 7 + 2, none⟩ = some (.int .i64 l[k].q.n) ∧ wr.cell? ⟨b, off + k * 7 + 3, none⟩ = some (.string ⟨l[k].q.a.toArray⟩) ∧ wr.cell? ⟨b, off + k * 7 + 4, none⟩ = some (.string ⟨l[k].q.b.toArray⟩) ∧ wr.cell? ⟨b, off + k * 7 + 5, none⟩ = some (.slice l[k].Ad l[k].q.data.length l[k].cd) ∧ wr.cell? ⟨b, off + k * 7 + 6, none⟩ = some (.slice l[k].Ak l[k].q.keep.length l[k].ck) := by
  obtain ⟨b, off, rfl, hlt, hc⟩ := h (by omega)
  have hg := hc k l[k] (List.getElem?_eq_getElem hk)
  exact ⟨b, off, rfl, (hb.cell (p := ⟨b, off + k * 7, none⟩) hlt).trans (hg 0 _ rfl), (hb.cell (p := ⟨b, off + k * 7 + 1, none⟩) hlt).trans (hg 1 _ rfl), (hb.cell (p := ⟨b, off + k * 7 + 2, none⟩) hlt).trans (hg 2 _ rfl), (hb.cell (p := ⟨b, off + k * 7 + 3, none⟩) hlt).trans (hg 3 _ rfl), (hb.cell (p := ⟨b, off + k * 7 + 4, none⟩) hlt).trans (hg 4 _ rfl), (hb.cell (p := ⟨b, off + k * 7 + 5, none⟩) hlt).trans (hg 5 _ rfl), (hb.cell (p := ⟨b, off + k * 7 + 6, none⟩) hlt).trans (hg 6 _ rfl)⟩
theorem box7 {w : World} {b : Nat} {q : POp} {Ad Ak : Option Addr} {cd ck : Nat} (h : w.heap[b]? = some (.cells (opC q Ad cd Ak ck) 33 (0, 0))) : w.cell? ⟨b, 0, none⟩ = some (.int .i64 q.kind) ∧ w.cell? ⟨b, 1, none⟩ = some (.int .i64 q.on) ∧ w.cell? ⟨b, 2, none⟩ = some (.int .i64 q.n) ∧ w.cell? ⟨b, 3, none⟩ = some (.string ⟨q.a.toArray⟩) ∧ w.cell? ⟨b, 4, none⟩ = some (.string ⟨q.b.toArray⟩) ∧ w.cell? ⟨b, 5, none⟩ = some (.slice Ad q.data.length cd) ∧ w.cell? ⟨b, 6, none⟩ = some (.slice Ak q.keep.length ck) := by
  refine ⟨?_, ?_, ?_, ?_, ?_, ?_, ?_⟩ <;> (unfold World.cell?; rw [h]; rfl)
def RelS (l : List PO) (w1 : World) (bh bw : Nat) (i : Value) (wr : World) : Prop := ∃ k : Nat, k ≤ l.length ∧ i = .int .i64 (k : Int) ∧ Hid (∃ K vh vw s, Inv w1 wr K bh bw vh vw s s k (total (l.take k)))
def RelF (w1 : World) (bh bw n T : Nat) (i : Value) (wr : World) : Prop := ∃ k : Nat, k ≤ 3 ∧ i = .int .i64 (k : Int) ∧ Hid (∃ K vh vw s, Inv w1 wr K bh bw vh vw s s n T)

set_option maxHeartbeats 3200000 in
set_option maxRecDepth 100000 in
theorem walk0 (HRA : RightAny) (w : World) (l : List PO) (A : Option Addr) (c : Nat) (hc : l.length ≤ c) (hm : c ≤ maxLen) (hr : OpsAt w A l) (hraw : ∀ o ∈ l, Raw w o) (hb : total l + l.length ≤ 1048576) (hab : ∀ o ∈ l, o.q.a.length ≤ 1048576 ∧ o.q.b.length ≤ 1048576) :
    Calls Try.prog 3 #[.slice A l.length c] w fun e w' => e = .returned (.bool true) ∧ Below w.heap.size w w' := by
  have HR := Lib.hid hr
  have HRW := Lib.hid hraw
  have HB := Lib.hid hb
  have HAB := Lib.hid hab
  have HA := Lib.hid HRA
  have H0 := Lib.hid (Awake5.awake_any w)
  unfold maxLen at hm
  clear hr hraw hb hab HRA
  go_enter Try.func3, Try.ntmps3
  go_wp2_with fail
  refine H0.out.mono ?_
  rintro e w1 ⟨rfl, hb1⟩
  have HB1 := Lib.hid hb1
  have H1 := Lib.hid (PdOps.new_any w1 (fun _ => 0) 1)
  clear hb1 H0
  go_wp2_with fail
  refine H1.out.mono ?_
  rintro e w2 ⟨p1, K2, rfl, _, hd2, ht2⟩
  have H2 := Lib.hid (PdOps.new_any w2 K2 3)
  have P2 := Lib.hid hd2
  have T2 := Lib.hid ht2
  clear hd2 ht2 H1
  go_wp2_with fail
  refine H2.out.mono ?_
  rintro e w3 ⟨p3, K3, rfl, _, hd3, ht3⟩
  have P3 := Lib.hid hd3
  have T3 := Lib.hid ht3
  clear hd3 ht3 H2
  have H3 := Lib.hid (RefNew5.new_any (w3.alloc (.cells (arr (v0 p1 p3)) 26)) (PdSt.mark K3 w3.heap.size 8) 2)
  go_wp2_with fail
  refine H3.out.mono ?_
  rintro e w5 ⟨p2, K5, rfl, _, hd5, ht5⟩
  have H4 := Lib.hid (RefNew5.new_any w5 K5 4)
  have P5 := Lib.hid hd5
  have T5 := Lib.hid ht5
  clear hd5 ht5 H3
  go_wp2_with fail
  refine H4.out.mono ?_
  rintro e w6 ⟨p4, K6, rfl, _, hd6, ht6⟩
  have I0 := Lib.hid (inv0 P2.out T2.out P3.out T3.out P5.out T5.out hd6 ht6)
  obtain ⟨bh, hbh⟩ : ∃ bh, w3.heap.size = bh := ⟨_, rfl⟩
  obtain ⟨bw, hbw⟩ : ∃ bw, w6.heap.size = bw := ⟨_, rfl⟩
  rw [hbh, hbw] at I0
  clear hd6 ht6 H4 P2 T2 P3 T3 P5 T5
  go_wp2
  go_loopw [5] (fun i wr => RelS l w1 bh bw i wr) (fun i _ => l.length - (intOf i).toNat)
  case atStart => exact ⟨0, Nat.zero_le _, rfl, Lib.hid ⟨_, _, _, _, I0.out⟩⟩
  case round =>
    obtain ⟨k, hk, rfl, hst⟩ := hrel
    obtain ⟨K, vh, vw, s, hinv⟩ := hst.out
    have HI := Lib.hid hinv
    clear hst hinv I0
    by_cases hlt : k < l.length
    · have HCS := Lib.hid (op_at HR.out (HB1.out.trans (HI.out.below.mono HB1.out.size)) hlt)
      obtain ⟨b, off, rfl, e0, e1, e2, e3, e4, e5, e6⟩ := HCS.out
      have HRK := Lib.hid (raw_below (HRW.out l[k] (List.getElem_mem hlt)) HB1.out)
      have HAK := Lib.hid (HAB.out l[k] (List.getElem_mem hlt))
      have HTL := Lib.hid (total_take l hlt)
      have HTB : Hid (total (l.take (k + 1)) ≤ 1048576 ∧ l.length ≤ 1048576) := Lib.hid (by have := HB.out; have := total_le l (k + 1); omega)
      generalize l[k] = o at *
      obtain ⟨hkb, hlb⟩ := HTB.out
      have hkn : k ≤ 1048576 := by omega
      have hlen : l.length ≤ 1048576 := hlb
      clear HCS hlb hkb
      obtain ⟨u, hu, hu2⟩ := on_wrap o.q.on
      obtain ⟨kk, hkk, hkk3⟩ : ∃ kk : Nat, Int.tmod (u : Int) 3 = (kk : Int) ∧ kk < 3 := ⟨u % 3, by rw [Int.tmod_eq_emod_of_nonneg (by omega)]; omega, by omega⟩
      have hT1 : total (l.take k) + o.q.data.length ≤ 1048576 := by have := HTL.out; have := HTB.out; omega
      obtain ⟨T, hT⟩ : ∃ T, total (l.take k) = T := ⟨_, rfl⟩
      rw [hT] at HI hT1 HTL
      clear hT
      by_cases h10 : o.q.kind = 10
      · have hkt : (o.q.kind == 10) = true := by rw [h10]; rfl
        have I1 := HI.out.new (w' := wr.alloc (.cells (opC o.q o.Ad o.cd o.Ak o.ck) 33)) ((Below.refl _ wr).alloc (Nat.le_refl _) _)
        obtain ⟨r1, hc1, hnx⟩ := clone1 I1 hkk3 (Nat.mod_lt (kk + 1) (by decide : 0 < 3)) (by omega) (by omega)
        have HC1 := Lib.hid hc1
        have HNX := Lib.hid hnx
        unfold CPostH at HC1
        unfold opC at *
        clear I1 hc1 hnx h10 hT1
        go_wp2_with fail
        refine HC1.out.mono ?_
        rintro e w5 ⟨v5, K5, rfl, h5, t5⟩
        obtain ⟨⟨a5, rfl⟩, s5, z5, r2, hc2, hnx2⟩ := HNX.out w5 v5 K5 h5 t5
        have HC2 := Lib.hid hc2
        have HNX2 := Lib.hid hnx2
        unfold CPostW at HC2
        clear HC1 HNX hc2 hnx2 h5 t5 r1 e0 e1 e2 e3 e4 e5 e6
        go_wp2_with fail
        refine HC2.out.mono ?_
        rintro e w6 ⟨v6, K6, rfl, h6, t6⟩
        obtain ⟨⟨a6, rfl⟩, s6, z6, hi6⟩ := HNX2.out w6 v6 K6 h6 t6
        have HI6 : Hid (∃ K vh vw s, Inv w1 (w6.setCell ⟨bw, kk, none⟩ (.pointer a6)) K bh bw vh vw s s (k + 1) (total (l.take (k + 1)))) := Lib.hid ⟨_, _, _, _, hi6.more (Nat.le_succ _) (by rw [HTL.out]; exact Nat.le_add_right _ _)⟩
        clear HC2 HNX2 h6 t6 hi6 r2 s5 z5
        go_wp2
        go_roundw
        case rel => exact ⟨k + 1, by omega, by go_num, HI6⟩
        case measure => simp [intOf]; omega
      · have hkf : (o.q.kind == 10) = false := by simp [h10]
        have I1 := (HI.out.new (w' := wr.alloc (.cells (opC o.q o.Ad o.cd o.Ak o.ck) 33)) ((Below.refl _ wr).alloc (Nat.le_refl _) _)).same (w' := (wr.alloc (.cells (opC o.q o.Ad o.cd o.Ak o.ck) 33)).drew) (Below.refl _ _).drew
        obtain ⟨x1, x2, _, _⟩ := I1.cells hkk3
        have HBX := Lib.hid (Go.heap_alloc_new wr (.cells (opC o.q o.Ad o.cd o.Ak o.ck) 33))
        obtain ⟨c0, c1, c2, c3, c4, c5, c6⟩ := box7 (w := (wr.alloc (.cells (opC o.q o.Ad o.cd o.Ak o.ck) 33)).drew) HBX.out
        have HC1 := Lib.hid (right_1 HA.out I1 hkk3 (by omega) (by omega) HRK.out HAK.out.1 HAK.out.2 (by omega))
        have HM := Lib.hid (show PdSt.mark K wr.heap.size 8 wr.heap.size = 8 from PdSt.mark_new (Nat.le_refl _))
        have hkk0 : (0 : Int) ≤ (kk : Int) := by omega
        have hkk1 : (kk : Int) < 3 := by omega
        unfold opC at *
        clear I1 h10 hT1
        go_wp2
        go_region_held3 (fun w' => w'.cell? ⟨bh, kk, none⟩ = some (vh kk) ∧ w'.cell? ⟨bw, kk, none⟩ = some (vw kk) ∧ w'.cell? ⟨wr.heap.size, 0, none⟩ = some (.int .i64 o.q.kind) ∧ w'.cell? ⟨wr.heap.size, 1, none⟩ = some (.int .i64 o.q.on) ∧ w'.cell? ⟨wr.heap.size, 2, none⟩ = some (.int .i64 o.q.n) ∧ w'.cell? ⟨wr.heap.size, 3, none⟩ = some (.string ⟨o.q.a.toArray⟩) ∧ w'.cell? ⟨wr.heap.size, 4, none⟩ = some (.string ⟨o.q.b.toArray⟩) ∧ w'.cell? ⟨wr.heap.size, 5, none⟩ = some (.slice o.Ad o.q.data.length o.cd) ∧ w'.cell? ⟨wr.heap.size, 6, none⟩ = some (.slice o.Ak o.q.keep.length o.ck)) (first | go_keep | assumption) ((go_at_call 12; refine HC1.out.mono ?_; rintro e w5 ⟨rfl, hbx, K5, hi5⟩; obtain ⟨y1, y2, _, _⟩ := hi5.cells hkk3; obtain ⟨d0, d1, d2, d3, d4, d5, d6⟩ := box7 (hbx _ _ HM.out HBX.out)))
        all_goals
          have HI5 : Hid (∃ K vh vw s, Inv w1 w5 K bh bw vh vw s s (k + 1) (total (l.take (k + 1)))) := Lib.hid ⟨_, _, _, _, by rw [HTL.out]; exact hi5⟩
          clear hi5 hbx HC1 y1 y2 d0 d1 d2 d3 d4 d5 d6 c0 c1 c2 c3 c4 c5 c6 x1 x2
          go_wp2
          go_roundw
          case rel => exact ⟨k + 1, by omega, by go_num, HI5⟩
          case measure => simp [intOf]; omega
    · have hkl : k = l.length := by omega
      have HT : Hid (total (l.take l.length) ≤ 1000000 + 48576 ∧ l.length ≤ 1048576) := Lib.hid (by have := HB.out; rw [List.take_length]; omega)
      subst hkl
      obtain ⟨n, hn⟩ : ∃ n, l.length = n := ⟨_, rfl⟩
      obtain ⟨T, hT⟩ : ∃ T, total (l.take l.length) = T := ⟨_, rfl⟩
      rw [hT] at HI HT
      rw [hn] at HI HT
      obtain ⟨hT1, hn1⟩ := HT.out
      clear hT HT hn
      go_wp2
      go_loopw [8] (fun i wr => RelF w1 bh bw n T i wr) (fun i _ => 3 - (intOf i).toNat)
      case atStart => exact ⟨0, by omega, rfl, Lib.hid ⟨_, _, _, _, HI.out⟩⟩
      case round =>
        obtain ⟨j, hj, rfl, hst⟩ := hrel
        obtain ⟨K2, vh2, vw2, s2, hinv⟩ := hst.out
        have HJ := Lib.hid hinv
        clear hst hinv HI
        by_cases hj3 : j < 3
        · have I1 := HJ.out.same (w' := wr.drew) (Below.refl _ wr).drew
          obtain ⟨x1, x2, _, _⟩ := I1.cells hj3
          have H1 := Lib.hid (All5.all_any wr.drew K2 _ _ (vh2 j) (vw2 j) (s2 j) n T (I1.seats j hj3).1 (I1.seats j hj3).2 (I1.fh j hj3) (by omega) (by omega))
          have HI1 := Lib.hid I1
          have hjj : (0 : Int) ≤ (j : Int) := by omega
          have hjj2 : (j : Int) < 3 := by omega
          clear I1 HJ
          go_wp2
          go_region_held3 (fun w' => w'.cell? ⟨bh, j, none⟩ = some (vh2 j) ∧ w'.cell? ⟨bw, j, none⟩ = some (vw2 j)) (first | go_keep | assumption) ((go_at_call 13; refine H1.out.mono ?_; rintro e w5 ⟨rfl, hb5⟩; obtain ⟨y1, y2, _, _⟩ := (HI1.out.same hb5).cells hj3))
          all_goals
            have I5 := HI1.out.same hb5
            obtain ⟨r1, hc1, hnext⟩ := restart1 I5 hj3 (by omega) (by omega)
            have HC1 := Lib.hid hc1
            have HNX := Lib.hid hnext
            unfold APostH at HC1
            clear I5 hc1 hnext hb5 H1 x1 x2
            go_wp2_with fail
            refine HC1.out.mono ?_
            rintro e w6 ⟨rfl, K6, h6, t6⟩
            obtain ⟨r2, hc2, hnext⟩ := HNX.out w6 K6 h6 t6
            have HC2 := Lib.hid hc2
            have HNX2 := Lib.hid hnext
            unfold APostW at HC2
            clear hc2 hnext HC1 h6 t6 r1 HNX
            go_wp2_with fail
            refine HC2.out.mono ?_
            rintro e w7 ⟨rfl, K7, h7, t7⟩
            have HI7 := Lib.hid (HNX2.out w7 K7 h7 t7)
            have I8 := HI7.out.same (w' := w7.drew) (Below.refl _ w7).drew
            obtain ⟨z1, z2, _, _⟩ := I8.cells hj3
            have H8 := Lib.hid (All5.all_any w7.drew K7 _ _ (vh2 j) (vw2 j) _ n T (I8.seats j hj3).1 (I8.seats j hj3).2 (I8.fh j hj3) (by omega) (by omega))
            have HI8 := Lib.hid I8
            clear I8 HC2 h7 t7 r2 HNX2
            go_wp2
            go_region_held3 (fun w' => w'.cell? ⟨bh, j, none⟩ = some (vh2 j) ∧ w'.cell? ⟨bw, j, none⟩ = some (vw2 j)) (first | go_keep | assumption) ((go_at_call 13; refine H8.out.mono ?_; rintro e w9 ⟨rfl, hb9⟩; obtain ⟨u1, u2, _, _⟩ := (HI8.out.same hb9).cells hj3))
            all_goals
              have HI9 := Lib.hid (HI8.out.same hb9)
              clear hb9
              go_wp2
              go_roundw
              case rel => exact ⟨j + 1, by omega, by go_num, Lib.hid ⟨_, _, _, _, HI9.out⟩⟩
              case measure => simp [intOf]; omega
        · have hje : j = 3 := by omega
          subst hje
          go_wp2
          go_ret
          exact ⟨rfl, HB1.out.trans (HJ.out.below.mono HB1.out.size)⟩
end Go.Proofs.Ytfblekedgenacaa.Scripts
