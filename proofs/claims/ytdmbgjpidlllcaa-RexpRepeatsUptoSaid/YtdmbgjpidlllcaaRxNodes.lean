/- The contract of the document's node: a node more behind the parser's. Conditions: the parser lies in memory, the node's kids and set in blocks of other numbers; fewer than 100000 nodes. · What the document's parser leaves: a tree behind the nodes that were there, or a fault; lists of kids in rows of a frame's own. No conditions. · A row and an alternative while they are parsed, in plain words. No conditions but those that the theorems name. -/
import Derived.Test.YtdmbgjpidlllcaaRxClean
namespace Go.Proofs.Ytdmbgjpidlllcaa.RxNode
open Go Go.RowKit Words AppN Km Mo_ RxSpec RxEq RxMem RxPeek RxIn RxEsc RxCln RxHas RxClean

theorem node_cells (w : World) (m : NM) : ∀ j u, (ncells m)[j]? = some u → (w.alloc (.cells #[.int .i64 (m.nd.kind : Int), slV m.ks, .int .i64 m.nd.lo, .int .i64 m.nd.hi, slV m.ss] 33)).cell? ((⟨w.heap.size, 0, none⟩ : Addr).add j) = some u := by
  intro j u h
  rw [add_off, Nat.zero_add]
  exact RxMem.cell_of_row (heap_alloc_new w _) (by simpa [ncells] using h)
theorem frozen_up {w w' : World} {g j : Nat} (h : w'.heap[g]? = w.heap[g]?) : w'.frozen? ⟨g, j, none⟩ = w.frozen? ⟨g, j, none⟩ := by simp [World.frozen?, h]
/-- A node more. -/
theorem RP.more {w w' : World} {K : Nat → Nat} {o p : Nat} {S : Sl} {rs : List Nat} {q : PSt} {ms : List NM} {v v' : Value} {m : NM} (h : RP w K o p S rs q ms v) (hm : Okn w K o m) (hos : w'.os = w.os) (htp : w'.tape = w.tape) (hou : w'.output = w.output) (hsz : w.heap.size ≤ w'.heap.size)
    (hkeep : ∀ i, i < w.heap.size → i ≠ p → some i ≠ v.ownBlock → w'.heap[i]? = w.heap[i]?) (hbox : w'.heap[p]? = some (.cells (pcells S q v') 53 (0, 0)))
    (hown : w'.ownsRow 0 33 5 v' (ms.length + 1) (flatN ms ++ ncells m)) (hat : v'.ownBlock = v.ownBlock ∨ ∀ b, v'.ownBlock = some b → w.heap.size ≤ b) :
    RP w' (kmark K w.heap.size o) o p S rs q (ms ++ [m]) v' ∧ Mo K (kmark K w.heap.size o) (fun x => x = o) w w' := by
  have hmo : Mo K (kmark K w.heap.size o) (fun x => x = o) w w' := ⟨hos, htp, hou, hsz, fun i hi hk => ⟨hkeep i hi (fun e => hk (by rw [e]; exact h.pk)) (fun e => hk (h.vk i e.symm).1), kmark_old hi⟩⟩
  refine ⟨⟨by rw [kmark_old h.lt]; exact h.pk, hbox, h.runes.mo hmo, by rw [flatN_append, flatN_one, List.length_append]; exact hown, fun b hb => ?_, fun x hx => ?_⟩, hmo⟩
  · rcases hat with e | e
    · rw [e] at hb
      have := h.vk b hb
      have hlt := (h.own.lt b hb).2
      exact ⟨by rw [kmark_old hlt]; exact this.1, this.2⟩
    · have := e b hb
      exact ⟨kmark_new this, fun e2 => by have := h.lt; omega⟩
  · rcases List.mem_append.1 hx with hx | hx
    · exact (h.each x hx).mo hmo
    · simp at hx; subst hx; exact hm.mo hmo

set_option maxHeartbeats 6400000 in
set_option maxRecDepth 100000 in
theorem node_any {w : World} {K : Nat → Nat} {o p : Nat} {S : Sl} {rs : List Nat} {q : PSt} {ms : List NM} {v : Value} {m : NM} (h : RP w K o p S rs q ms v) (hm : Okn w K o m) (hl : ms.length < 100000) :
    Calls Try.prog 31 #[.pointer (some ⟨p, 0, none⟩), aggN m] w fun e w' => e = .returned (.int .i64 (ms.length : Int)) ∧ ∃ v' K', RP w' K' o p S rs q (ms ++ [m]) v' ∧ Mo K K' (fun x => x = o) w w' := by
  have H := Lib.hid h
  have HM := Lib.hid hm
  obtain ⟨A, c, hv⟩ := own_sl h.own
  subst hv
  obtain ⟨c0, c1, c2, c3, c4, c5⟩ := h.cells
  have f2 := h.frozen 2
  have hp := h.lt
  obtain ⟨i0, hi, hz0, hz1, hz2⟩ := info_parts info_node
  have HMRG : Hid (∀ (w' : World) (v' : Value), w'.os = w.os → w'.tape = w.tape → w'.output = w.output → w.heap.size ≤ w'.heap.size → (∀ i, i < w.heap.size → i ≠ p → some i ≠ (Value.slice A ms.length c).ownBlock → w'.heap[i]? = w.heap[i]?) → w'.heap[p]? = some (.cells (pcells S q v') 53 (0, 0)) →
    w'.ownsRow 0 33 5 v' (ms.length + 1) (flatN ms ++ ncells m) → (v'.ownBlock = (Value.slice A ms.length c).ownBlock ∨ ∀ b, v'.ownBlock = some b → w.heap.size ≤ b) → RP w' (kmark K w.heap.size o) o p S rs q (ms ++ [m]) v' ∧ Mo K (kmark K w.heap.size o) (fun x => x = o) w w') :=
    Lib.hid fun w' v' h1 h2 h3 h4 h5 h6 h7 h8 => RP.more H.out HM.out h1 h2 h3 h4 h5 h6 h7 h8
  have HVB : Hid (∀ b, (Value.slice A ms.length c).ownBlock = some b → b < w.heap.size ∧ b ≠ p) := Lib.hid fun b hb => ⟨(h.own.lt b hb).2, (h.vk b hb).2⟩
  have HBX := Lib.hid h.box
  have HOW := Lib.hid h.own
  obtain ⟨⟨kind, kids, lo, hi', set⟩, ⟨kA, kn, kc⟩, ⟨sA, sn, sc⟩⟩ := m
  obtain ⟨W1, hW1'⟩ : ∃ W1, w.alloc (.cells #[.int .i64 (kind : Int), .slice kA kn kc, .int .i64 lo, .int .i64 hi', .slice sA sn sc] 33) = W1 := ⟨_, rfl⟩
  have HN1 : Hid (W1.heap[w.heap.size]? = some (.cells #[.int .i64 (kind : Int), .slice kA kn kc, .int .i64 lo, .int .i64 hi', .slice sA sn sc] 33 (0, 0))) := Lib.hid (by rw [← hW1']; exact heap_alloc_new w _)
  have hs1 : W1.heap.size = w.heap.size + 1 := by rw [← hW1']; simp
  have HO1 : Hid (W1.ownsRow 0 33 5 (.slice A ms.length c) ms.length (flatN ms)) := Lib.hid (by rw [← hW1']; exact HOW.out.alloc _)
  have HB1 : Hid (Below w.heap.size w W1) := Lib.hid (by rw [← hW1']; exact (Below.refl _ w).alloc (Nat.le_refl _) _)
  have b0 : W1.cell? ⟨w.heap.size, 0, none⟩ = some (.int .i64 (kind : Int)) := RxMem.cell_of_row (j := 0) HN1.out rfl
  have b1 : W1.cell? ⟨w.heap.size, 1, none⟩ = some (.slice kA kn kc) := RxMem.cell_of_row (j := 1) HN1.out rfl
  have b2 : W1.cell? ⟨w.heap.size, 2, none⟩ = some (.int .i64 lo) := RxMem.cell_of_row (j := 2) HN1.out rfl
  have b3 : W1.cell? ⟨w.heap.size, 3, none⟩ = some (.int .i64 hi') := RxMem.cell_of_row (j := 3) HN1.out rfl
  have b4 : W1.cell? ⟨w.heap.size, 4, none⟩ = some (.slice sA sn sc) := RxMem.cell_of_row (j := 4) HN1.out rfl
  have p2 := cell_up HB1.out (p := ⟨p, 2, none⟩) hp c2
  have fp2 : W1.frozen? ⟨p, 2, none⟩ = false := (frozen_up (HB1.out.block p hp)).trans f2
  have HS1 := Lib.hid hs1
  have HOX : Hid ((W1.alloc (.cells #[.int .i64 (kind : Int), .slice kA kn kc, .int .i64 lo, .int .i64 hi', .slice sA sn sc] 33)).drew.ownsRow 0 33 5 (.slice A ms.length c) ms.length (flatN ms)) := Lib.hid (HO1.out.alloc _).drew
  have HM2 : Hid (Rd (W1.alloc (.cells #[.int .i64 (kind : Int), .slice kA kn kc, .int .i64 lo, .int .i64 hi', .slice sA sn sc] 33)).drew (W1.heap.size + 1) (some ⟨W1.heap.size, 0, none⟩) (ncells ⟨⟨kind, kids, lo, hi', set⟩, (kA, kn, kc), (sA, sn, sc)⟩)) := Lib.hid (Rd.made W1 #[.int .i64 (kind : Int), .slice kA kn kc, .int .i64 lo, .int .i64 hi', .slice sA sn sc] 33)
  have HPB : Hid (∀ w3, (W1.alloc (.cells #[.int .i64 (kind : Int), .slice kA kn kc, .int .i64 lo, .int .i64 hi', .slice sA sn sc] 33)).drew.grownBy w3 (Value.slice A ms.length c).ownBlock → (∀ i, i < w.heap.size → some i ≠ (Value.slice A ms.length c).ownBlock → w3.heap[i]? = w.heap[i]?) ∧ w3.heap[w.heap.size]? = W1.heap[w.heap.size]? ∧ w.heap.size ≤ w3.heap.size ∧ w3.os = w.os ∧ w3.tape = w.tape ∧ w3.output = w.output) := Lib.hid fun w3 hg => by
    have e : (W1.alloc (.cells #[.int .i64 (kind : Int), .slice kA kn kc, .int .i64 lo, .int .i64 hi', .slice sA sn sc] 33)).drew.heap.size = w.heap.size + 2 := by
      show (W1.alloc (.cells #[.int .i64 (kind : Int), .slice kA kn kc, .int .i64 lo, .int .i64 hi', .slice sA sn sc] 33)).heap.size = _
      simp [HS1.out]
    refine ⟨fun i h1 h2 => (hg.block i (by omega) h2).trans ((heap_alloc_old W1 _ (by have := HS1.out; omega)).trans (HB1.out.block i h1)), (hg.block _ (by omega) (fun e2 => by have := (HVB.out _ e2.symm).1; omega)).trans (heap_alloc_old W1 _ (by have := HS1.out; omega)), by have := hg.size; omega, ?_, ?_, ?_⟩
    · rw [hg.os]; exact HB1.out.os
    · rw [hg.tape]; exact HB1.out.tape
    · rw [hg.output]; exact HB1.out.output
  have HPX : Hid (∀ w3, (W1.alloc (.cells #[.int .i64 (kind : Int), .slice kA kn kc, .int .i64 lo, .int .i64 hi', .slice sA sn sc] 33)).drew.grownBy w3 (Value.slice A ms.length c).ownBlock → w3.cell? ⟨p, 2, none⟩ = some (.slice A ms.length c) ∧ w3.frozen? ⟨p, 2, none⟩ = false) := Lib.hid fun w3 hg => by
    have e := (HPB.out w3 hg).1 p hp (fun e2 => (HVB.out p e2.symm).2 rfl)
    exact ⟨(World.cell?_of_block (a := ⟨p, 2, none⟩) e).trans c2, (frozen_up e).trans f2⟩
  have HPA : Hid ((W1.alloc (.cells #[.int .i64 (kind : Int), .slice kA kn kc, .int .i64 lo, .int .i64 hi', .slice sA sn sc] 33)).drew.cell? ⟨p, 2, none⟩ = some (.slice A ms.length c) ∧ (W1.alloc (.cells #[.int .i64 (kind : Int), .slice kA kn kc, .int .i64 lo, .int .i64 hi', .slice sA sn sc] 33)).drew.frozen? ⟨p, 2, none⟩ = false ∧ (W1.alloc (.cells #[.int .i64 (kind : Int), .slice kA kn kc, .int .i64 lo, .int .i64 hi', .slice sA sn sc] 33)).drew.heap[w.heap.size]? = W1.heap[w.heap.size]?) := Lib.hid (by
    have e : (W1.alloc (.cells #[.int .i64 (kind : Int), .slice kA kn kc, .int .i64 lo, .int .i64 hi', .slice sA sn sc] 33)).drew.heap[p]? = W1.heap[p]? := heap_alloc_old W1 _ (by have := HS1.out; omega)
    exact ⟨(World.cell?_of_block (a := ⟨p, 2, none⟩) e).trans p2, (frozen_up e).trans fp2, heap_alloc_old W1 _ (by have := HS1.out; omega)⟩)
  have pa2 : (W1.alloc (.cells #[.int .i64 (kind : Int), .slice kA kn kc, .int .i64 lo, .int .i64 hi', .slice sA sn sc] 33)).cell? ⟨p, 2, none⟩ = some (.slice A ms.length c) := HPA.out.1
  clear h hm c0 c1 c2 c3 c4 c5 f2 HOW hs1
  unfold aggN slV
  have HW1 : Hid (w.alloc (.cells #[.int .i64 (kind : Int), .slice kA kn kc, .int .i64 lo, .int .i64 hi', .slice sA sn sc] 33) = W1) := Lib.hid hW1'
  clear hW1'
  go_enter Try.func31, Try.ntmps31
  go_wp2
  rw [HW1.out]
  go_region_law
    ((refine step_append_lies _ (by rfl) _ _ _ (by rfl) 0 33 i0 _ 5 72 Try.underlying23 hi hz0 hz1 hz2 rfl (by omega) (.slice A ms.length c) ms.length _ (by rfl) HOX.out ⟨W1.heap.size, 0, none⟩ 1 1 (ncells ⟨⟨kind, kids, lo, hi', set⟩, (kA, kn, kc), (sA, sn, sc)⟩) (by rfl) rfl (Rd.add_ HM2.out) (ncells_ones _) (by omega) (by unfold maxLen; omega) (by omega) (by omega) (W1.heap.size + 1) (by simp) ?_; intro g2 cap w3 hown3 hg3 hat hlt3; obtain ⟨x2, x3⟩ := HPX.out _ hg3))
  all_goals
    obtain ⟨y1, y2, y3, y4, y5, y6⟩ := HPB.out _ hg3
    have hpb := y1 p hp (fun e2 => (HVB.out p e2.symm).2 rfl)
    have hb3 : w3.heap[p]? = some (.cells (pcells S q (.slice A ms.length c)) 53 (0, 0)) := hpb.trans HBX.out
    have hgp : g2 ≠ p := by
      rcases hat with e | e
      · exact (HVB.out _ e).2
      · rw [e]; have := HS1.out; omega
    have hbox : (w3.setCell ⟨p, 2, none⟩ (.slice (some ⟨g2, 0, none⟩) (ms.length + 1) cap)).heap[p]? = some (.cells (pcells S q (.slice (some ⟨g2, 0, none⟩) (ms.length + 1) cap)) 53 (0, 0)) := by
      rw [heap_setCell_same _ _ _ _ _ _ hb3]
      rfl
    have hown4 : (w3.setCell ⟨p, 2, none⟩ (.slice (some ⟨g2, 0, none⟩) (ms.length + 1) cap)).ownsRow 0 33 5 (.slice (some ⟨g2, 0, none⟩) (ms.length + 1) cap) (ms.length + 1) (flatN ms ++ ncells ⟨⟨kind, kids, lo, hi', set⟩, (kA, kn, kc), (sA, sn, sc)⟩) :=
      hown3.kept (row := some p) ⟨rfl, rfl, rfl, by simp, fun i _ hne => heap_setCell_other _ _ _ _ (fun e => hne (by rw [e]))⟩ (.inr (by simp [Value.ownBlock]; exact hgp))
    have HF := Lib.hid (HMRG.out (w3.setCell ⟨p, 2, none⟩ (.slice (some ⟨g2, 0, none⟩) (ms.length + 1) cap)) (.slice (some ⟨g2, 0, none⟩) (ms.length + 1) cap) (y4.trans rfl) (y5.trans rfl) (y6.trans rfl) (by simp; exact y3) (fun i h1 h2 h3 => (heap_setCell_other _ _ _ _ h2).trans (y1 i h1 h3)) hbox hown4 (by
      rcases hat with e | e
      · exact .inl e.symm
      · exact .inr fun b hb => by simp [Value.ownBlock] at hb; have := HS1.out; omega))
    have z2 : (w3.setCell ⟨p, 2, none⟩ (.slice (some ⟨g2, 0, none⟩) (ms.length + 1) cap)).cell? ⟨p, 2, none⟩ = some (.slice (some ⟨g2, 0, none⟩) (ms.length + 1) cap) := RxMem.cell_of_row (j := 2) hbox rfl
    clear hown3 hg3 y1 y2 y3 y4 y5 y6 hpb hb3 hbox hown4 HPX HPB
    go_wp2
    go_ret
    exact ⟨by first | rfl | (congr 2; omega), _, _, HF.out⟩
end Go.Proofs.Ytdmbgjpidlllcaa.RxNode

namespace Go.Proofs.Ytdmbgjpidlllcaa.RxPost
open Go Go.RowKit Words AppN Km Mo_ RxSpec RxEq RxMem RxPeek RxIn RxEsc RxCln RxHas RxClean RxNode

/-- The parser may go on: no fault so far, its numbers are small. -/
structure Pre (rs : List Nat) (q : PSt) (ms : List NM) : Prop where
  good : q.bad = false
  here : q.at_ ≤ rs.length
  len : rs.length ≤ 1000
  deep : q.deep + (rs.length - q.at_) ≤ 2000
  few : ms.length + 4 * (rs.length - q.at_) ≤ 5000
  runes : ∀ r ∈ rs, r ≤ 1114111
  top : q.deep ≤ q.most
/-- A tree, or a fault; at most s nodes more than four for each rune. -/
structure NOk (rs : List Nat) (s : Nat) (q : PSt) (ms : List NM) (ans : Res) (x : Nat) (q' : PSt) (ms' : List NM) : Prop where
  here : q'.at_ ≤ rs.length + 3
  deep : q'.deep = q.deep
  few : ms'.length ≤ ms.length + 4 * (rs.length - q.at_) + s
  yes : ∀ p k r1, ans = some (p, k, r1) → x + 1 = ms'.length ∧ nds ms' = nds ms ++ emit p ms.length ∧ q'.bad = false ∧ q'.at_ ≤ rs.length ∧ rs.drop q'.at_ = r1 ∧ q'.most = max q.most (q.deep + k) ∧ ms'.length + 4 * (rs.length - q'.at_) ≤ ms.length + 4 * (rs.length - q.at_) + s
  no : ans = none → q'.bad = true
def NPost (w : World) (K : Nat → Nat) (o p : Nat) (S : Sl) (rs : List Nat) (s : Nat) (q : PSt) (ms : List NM) (ans : Res) (e : Ending) (w' : World) : Prop :=
  ∃ (x : Nat) (K' : Nat → Nat) (q' : PSt) (ms' : List NM) (v' : Value), e = .returned (.int .i64 (x : Int)) ∧ RP w' K' o p S rs q' ms' v' ∧ Mo K K' (fun x => x = o) w w' ∧ NOk rs s q ms ans x q' ms'
theorem nds_len (ms : List NM) : (nds ms).length = ms.length := by simp [nds]
theorem nds_snoc (ms : List NM) (m : NM) : nds (ms ++ [m]) = nds ms ++ [m.nd] := by simp [nds]

set_option maxRecDepth 100000 in
theorem info_int : ∃ i, Try.prog.info? 3 = some i ∧ i.zero = some (.int .i64 0) ∧ i.size = 1 ∧ i.bytes = 8 := ⟨_, rfl, rfl, rfl, rfl⟩
theorem iv_ones (l : List Nat) : ∀ u ∈ l.map IV, u.oneCell' = true := fun u hu => by obtain ⟨c, _, rfl⟩ := List.mem_map.1 hu; rfl
theorem cellNewI (w : World) (u : Value) (e : TypeId) : ∀ j x, [u][j]? = some x → (w.alloc (.cells #[u] e)).cell? ((⟨w.heap.size, 0, none⟩ : Addr).add j) = some x := by
  intro j x h
  obtain rfl : j = 0 := by by_cases hj : j = 0; exact hj; rw [List.getElem?_eq_none (by simp; omega)] at h; simp at h
  simp only [List.getElem?_cons_zero, Option.some.injEq] at h
  subst h
  exact RxMem.cell_of_row (heap_alloc_new w _) rfl
/-- A list of kids in a row of a frame's own; the frame began with B blocks. -/
structure FK (w : World) (K : Nat → Nat) (o B : Nat) (v : Value) (l : List Nat) : Prop where
  own : w.ownsRow B 3 1 v l.length (l.map IV)
  kind : ∀ b, v.ownBlock = some b → K b = o + 1
theorem FK.nil_ (w : World) (K : Nat → Nat) (o B : Nat) : FK w K o B (.slice none 0 0) [] := ⟨World.ownsRow_nil _ _ _ _, fun _ h => by cases h⟩
theorem FK.mo {w w' : World} {K K' : Nat → Nat} {o B : Nat} {v : Value} {l : List Nat} (h : FK w K o B v l) (hm : Mo K K' (fun x => x = o) w w') : FK w' K' o B v l := by
  obtain ⟨h1, h2⟩ := own_mo (m := o + 1) h.own h.kind hm (by omega)
  exact ⟨h1, h2⟩
/-- What holds of a frame: the parser, its kids, and what has changed since it began. -/
structure Fr (w0 w : World) (K0 K : Nat → Nat) (o p : Nat) (S : Sl) (rs : List Nat) (q : PSt) (ms : List NM) (v : Value) (vk : Value) (l : List Nat) : Prop where
  rp : RP w K o p S rs q ms v
  fk : FK w K o w0.heap.size vk l
  mo : Mo K0 K (fun x => x = o) w0 w
section
variable {w0 w w' : World} {K0 K K' : Nat → Nat} {o p : Nat} {S : Sl} {rs : List Nat} {q q' : PSt} {ms ms' : List NM} {v v' vk : Value} {l : List Nat}
theorem Fr.start (h : RP w K o p S rs q ms v) : Fr w w K K o p S rs q ms v (.slice none 0 0) [] := ⟨h, FK.nil_ _ _ _ _, Mo.refl _ _ _⟩
/-- Behind a call of the parser's. -/
theorem Fr.call (h : Fr w0 w K0 K o p S rs q ms v vk l) (hr : RP w' K' o p S rs q' ms' v') (hm : Mo K K' (fun x => x = o) w w') : Fr w0 w' K0 K' o p S rs q' ms' v' vk l := ⟨hr, h.fk.mo hm, h.mo.trans hm⟩
theorem Fr.below (h : Fr w0 w K0 K o p S rs q ms v vk l) (hb : Below w.heap.size w w') : Fr w0 w' K0 K o p S rs q ms v vk l := h.call (h.rp.below hb) (Mo.same hb)
/-- A kid more. -/
theorem Fr.push (h : Fr w0 w K0 K o p S rs q ms v vk l) {x : Nat} {ob : Obj} {v2 : Value} (hown : w'.ownsRow w0.heap.size 3 1 v2 (l.length + 1) (l.map IV ++ [x].map IV)) (hg : (w.alloc ob).grownBy w' vk.ownBlock) (hat : v2.ownBlock = vk.ownBlock ∨ v2.ownBlock = some (w.alloc ob).heap.size) :
    Fr w0 w' K0 (kmark K w.heap.size (o + 1)) o p S rs q ms v v2 (l ++ [x]) := by
  have hsz : w.heap.size ≤ w'.heap.size := by have := hg.size; simp at this; omega
  have hmo : Mo K (kmark K w.heap.size (o + 1)) (fun y => y = o + 1) w w' := ⟨hg.os.trans rfl, hg.tape.trans rfl, hg.output.trans rfl, hsz, fun i hi hk => ⟨(hg.block i (by simp; omega) (fun e => hk (h.fk.kind i e.symm))).trans (heap_alloc_old _ _ hi), kmark_old hi⟩⟩
  refine ⟨h.rp.moT hmo fun _ h => h, ⟨by rw [List.length_append, List.map_append]; exact hown, fun b hb => ?_⟩, ⟨hmo.os.trans h.mo.os, hmo.tape.trans h.mo.tape, hmo.output.trans h.mo.output, Nat.le_trans h.mo.size hsz, fun i hi hk => ?_⟩⟩
  · rcases hat with e | e
    · rw [e] at hb
      rw [kmark_old (h.fk.own.lt b hb).2]
      exact h.fk.kind b hb
    · rw [e] at hb
      injection hb with hb
      exact kmark_new (by simp at hb; omega)
  · have hi2 : i < w.heap.size := Nat.lt_of_lt_of_le hi h.mo.size
    obtain ⟨a1, a2⟩ := h.mo.keep i hi hk
    exact ⟨((hg.block i (by simp; omega) (fun e => by have := (h.fk.own.lt i e.symm).1; omega)).trans (heap_alloc_old _ _ hi2)).trans a1, (kmark_old hi2).trans a2⟩
/-- The kids are given away. -/
theorem Fr.give {A : Option Addr} {n c : Nat} (h : Fr w0 w K0 K o p S rs q ms v (.slice A n c) l) : ∃ K', RP w K' o p S rs q ms v ∧ Mo K0 K' (fun x => x = o) w0 w ∧ n = l.length ∧ Sd w K' o (A, n, c) (l.map IV) := by
  rcases h.fk.own.2 with ⟨e, h2⟩ | ⟨g, cap, cur, e, hb, hg, h1, h2, h3, h4⟩
  · injection e with e1 e2 e3
    subst e1 e2 e3
    have : l = [] := List.eq_nil_of_length_eq_zero h2
    subst this
    exact ⟨K, h.rp, h.mo, rfl, Sd.nil_ w K o⟩
  · injection e with e1 e2 e3
    subst e1 e2 e3
    have hk := h.fk.kind g rfl
    have hgl := (Array.getElem?_eq_some_iff.1 hg).1
    have hmo : Mo K (fun b => if b = g then o + 2 else K b) (fun y => y = o + 1) w w := ⟨rfl, rfl, rfl, Nat.le_refl _, fun i hi hki => ⟨rfl, if_neg (fun e => hki (by rw [e]; exact hk))⟩⟩
    refine ⟨fun b => if b = g then o + 2 else K b, h.rp.moT hmo fun _ h => h, ⟨h.mo.os, h.mo.tape, h.mo.output, h.mo.size, fun i hi hki => ?_⟩, rfl, ⟨by simp, h1, h2, fun _ => ⟨g, 0, rfl, hgl, fun j u hu => ?_⟩, fun b off e _ => ?_⟩⟩
    · obtain ⟨a1, a2⟩ := h.mo.keep i hi hki
      exact ⟨a1, (if_neg (by omega)).trans a2⟩
    · have := h.fk.own.cells (g := g) rfl j u hu
      rwa [add_off] at this
    · injection e with e
      injection e with e _
      subst e
      simp only [if_true]
      exact ⟨by omega, by omega⟩
end
end Go.Proofs.Ytdmbgjpidlllcaa.RxPost

namespace Go.Proofs.Ytdmbgjpidlllcaa.RxRowP
open RxSpec RxEq RxMem RxPost

/-- Good so far: the items ps, as deep as k. -/
structure RowG (rs : List Nat) (q : PSt) (ms : List NM) (q' : PSt) (ms' : List NM) (l : List Nat) (ps : List Pat) (k : Nat) : Prop where
  pre : Pre rs q' ms'
  deep : q'.deep = q.deep
  same : rowL [] 0 (rs.drop q.at_) = rowL ps k (rs.drop q'.at_)
  kids : l = roots ps ms.length
  nodes : nds ms' = nds ms ++ emits ps ms.length
  most : q'.most = max q.most (q.deep + k)
  few : ms'.length + 4 * (rs.length - q'.at_) ≤ ms.length + 4 * (rs.length - q.at_)
  on : q.at_ + ps.length ≤ q'.at_
/-- A fault was found. -/
structure RowB (rs : List Nat) (q : PSt) (ms : List NM) (q' : PSt) (ms' : List NM) (l : List Nat) : Prop where
  bad : q'.bad = true
  none_ : rowL [] 0 (rs.drop q.at_) = none
  here : q'.at_ ≤ rs.length + 3
  deep : q'.deep = q.deep
  few : ms'.length ≤ ms.length + 4 * (rs.length - q.at_)
  kids : l.length ≤ 1001
def RowSt (rs : List Nat) (q : PSt) (ms : List NM) (q' : PSt) (ms' : List NM) (l : List Nat) : Prop := (∃ ps k, RowG rs q ms q' ms' l ps k) ∨ RowB rs q ms q' ms' l
theorem RowG.start {rs : List Nat} {q : PSt} {ms : List NM} (h : Pre rs q ms) : RowG rs q ms q ms [] [] 0 :=
  ⟨h, rfl, rfl, by simp [roots], by simp [emits], by have := h.top; omega, Nat.le_refl _, Nat.le_refl _⟩
theorem RowG.len {rs : List Nat} {q q' : PSt} {ms ms' : List NM} {l : List Nat} {ps : List Pat} {k : Nat} (h : RowG rs q ms q' ms' l ps k) : l.length = ps.length ∧ l.length ≤ 1000 := by
  have h1 : l.length = ps.length := by rw [h.kids, roots_len]
  have h2 := h.on
  have h3 := h.pre.here
  have h4 := h.pre.len
  exact ⟨h1, by omega⟩
theorem RowSt.len {rs : List Nat} {q q' : PSt} {ms ms' : List NM} {l : List Nat} (h : RowSt rs q ms q' ms' l) : l.length ≤ 1001 := by
  rcases h with ⟨ps, k, h⟩ | h
  · have := h.len; omega
  · exact h.kids
theorem RowSt.fewN {rs : List Nat} {q q' : PSt} {ms ms' : List NM} {l : List Nat} (h : RowSt rs q ms q' ms' l) (hp : Pre rs q ms) : ms'.length ≤ 5000 ∧ q'.at_ ≤ rs.length + 3 := by
  have h0 := hp.few
  rcases h with ⟨ps, k, h⟩ | h
  · have h1 := h.few; have h2 := h.pre.here; omega
  · have h1 := h.few; have h2 := h.here; omega
/-- Does the row end here? -/
def stop (rest : List Nat) : Prop := rest = [] ∨ hd rest 124 = true ∨ hd rest 41 = true
theorem RowG.next {rs : List Nat} {q q' q2 : PSt} {ms ms' ms2 : List NM} {l : List Nat} {ps : List Pat} {k x : Nat} (h : RowG rs q ms q' ms' l ps k) (hs : ¬ stop (rs.drop q'.at_)) (hn : NOk rs 0 q' ms' (itemS (rs.drop q'.at_)) x q2 ms2) : RowSt rs q ms q2 ms2 (l ++ [x]) := by
  have hsame := h.same
  unfold stop at hs
  rw [rowL_eq ps k (rs.drop q'.at_), if_neg hs] at hsame
  have h1 := h.few
  have h2 := h.on
  have h3 := h.pre.here
  have h4 := h.len
  cases hi : itemS (rs.drop q'.at_) with
  | none =>
    rw [hi] at hsame hn
    have h5 := hn.few
    exact .inr ⟨hn.no rfl, hsame, hn.here, hn.deep.trans h.deep, by omega, by rw [List.length_append]; simp; omega⟩
  | some y =>
    obtain ⟨p, k', r1⟩ := y
    rw [hi] at hsame hn
    obtain ⟨y1, y2, y3, y4, y5, y6, y7⟩ := hn.yes p k' r1 rfl
    have hsh := item_short hi
    rw [List.length_drop] at hsh
    have hr1 : r1.length = rs.length - q2.at_ := by rw [← y5, List.length_drop]
    have hdp := h.pre.deep
    have hd := h.deep
    have hd2 := hn.deep
    have hml : ms'.length = ms.length + (emits ps ms.length).length := by
      have := congrArg List.length h.nodes
      rw [nds_len, List.length_append, nds_len] at this
      exact this
    have hml2 : ms2.length = ms'.length + (emit p ms'.length).length := by
      have := congrArg List.length y2
      rw [nds_len, List.length_append, nds_len] at this
      exact this
    refine .inl ⟨ps ++ [p], max k k', ⟨⟨y3, y4, h.pre.len, by omega, by have := h.pre.few; omega, h.pre.runes, ?_⟩, hd2.trans hd, ?_, ?_, ?_, ?_, by omega, by rw [List.length_append]; simp; omega⟩⟩
    · rw [y6, hd2]; have := h.pre.top; omega
    · rw [hsame, y5]
    · rw [roots_snoc, ← h.kids, ← hml]
      congr 2
      omega
    · rw [y2, h.nodes, emits_snoc, hml, List.append_assoc]
    · rw [y6, h.most, hd]; omega
theorem RowG.stop {rs : List Nat} {q q' : PSt} {ms ms' : List NM} {l : List Nat} {ps : List Pat} {k : Nat} (h : RowG rs q ms q' ms' l ps k) (hs : stop (rs.drop q'.at_)) : rowL [] 0 (rs.drop q.at_) = some (mkRow ps, k, rs.drop q'.at_) := by
  unfold RxRowP.stop at hs
  rw [h.same, rowL_eq ps k (rs.drop q'.at_), if_pos hs]
theorem nodes_len {ms ms' : List NM} {E : List Nd} (h : nds ms' = nds ms ++ E) : ms'.length = ms.length + E.length := by
  have := congrArg List.length h
  rw [nds_len, List.length_append, nds_len] at this
  exact this
/-- The row's end: with no item, with one, with more. -/
theorem RowG.end_ {rs : List Nat} {q q' : PSt} {ms ms' ms2 : List NM} {l : List Nat} {ps : List Pat} {k x : Nat} (h : RowG rs q ms q' ms' l ps k) (hs : RxRowP.stop (rs.drop q'.at_))
    (h2 : nds ms2 = nds ms ++ emit (mkRow ps) ms.length) (hx : x + 1 = ms2.length) (hl : ms2.length ≤ ms'.length + 1) : NOk rs 1 q ms (rowL [] 0 (rs.drop q.at_)) x q' ms2 := by
  have h1 := h.few
  have hon := h.on
  have h3 := h.pre.here
  refine ⟨by omega, h.deep, by omega, fun p k' r1 he => ?_, fun he => ?_⟩
  · rw [h.stop hs] at he
    injection he with he
    injection he with e1 e2
    injection e2 with e2 e3
    subst e1 e2 e3
    exact ⟨hx, h2, h.pre.good, h3, rfl, h.most, by omega⟩
  · rw [h.stop hs] at he; cases he
theorem RowB.end_ {rs : List Nat} {q q' : PSt} {ms ms' ms2 : List NM} {l : List Nat} {x : Nat} (h : RowB rs q ms q' ms' l) (hl : ms2.length ≤ ms'.length + 1) : NOk rs 1 q ms (rowL [] 0 (rs.drop q.at_)) x q' ms2 := by
  have h1 := h.few
  exact ⟨h.here, h.deep, by omega, (fun p k' r1 he => by rw [h.none_] at he; cases he), fun _ => h.bad⟩
section
variable {rs : List Nat} {q q' : PSt} {ms ms' ms2 : List NM} {l : List Nat}
theorem RowSt.end0 (h : RowSt rs q ms q' ms' l) (hs : q'.bad = false → RxRowP.stop (rs.drop q'.at_)) (hl : l.length = 0) (h2 : nds ms2 = nds ms' ++ [⟨1, [], 0, 0, []⟩]) : NOk rs 1 q ms (rowL [] 0 (rs.drop q.at_)) ms'.length q' ms2 := by
  have hm := nodes_len h2
  simp at hm
  rcases h with ⟨ps, k, h⟩ | h
  · have hps : ps = [] := List.eq_nil_of_length_eq_zero (by rw [← h.len.1]; exact hl)
    subst hps
    have hn := h.nodes
    simp only [emits, List.append_nil] at hn
    exact h.end_ (hs h.pre.good) (by rw [h2, hn]; simp [mkRow, emit]) (by omega) (by omega)
  · exact h.end_ (by omega)
theorem RowSt.end1 (h : RowSt rs q ms q' ms' l) (hs : q'.bad = false → RxRowP.stop (rs.drop q'.at_)) (hl : l.length = 1) : NOk rs 1 q ms (rowL [] 0 (rs.drop q.at_)) (l.getD 0 0) q' ms' := by
  rcases h with ⟨ps, k, h⟩ | h
  · have hp1 : ps.length = 1 := by rw [← h.len.1]; exact hl
    match ps, hp1 with
    | [p], _ =>
      have hn := h.nodes
      simp only [emits, List.append_nil] at hn
      have hm := nodes_len hn
      have hpos := emit_pos p ms.length
      refine h.end_ (hs h.pre.good) (by rw [hn]; simp [mkRow]) ?_ (by omega)
      rw [h.kids]
      simp only [roots, List.getD_cons_zero]
      omega
  · exact h.end_ (by omega)
theorem RowSt.end2 (h : RowSt rs q ms q' ms' l) (hs : q'.bad = false → RxRowP.stop (rs.drop q'.at_)) (hl : 2 ≤ l.length) (h2 : nds ms2 = nds ms' ++ [⟨3, l, 0, 0, []⟩]) : NOk rs 1 q ms (rowL [] 0 (rs.drop q.at_)) ms'.length q' ms2 := by
  have hm := nodes_len h2
  simp at hm
  rcases h with ⟨ps, k, h⟩ | h
  · have hp2 : 2 ≤ ps.length := by rw [← h.len.1]; exact hl
    match ps, hp2 with
    | a :: b :: ps, _ =>
      refine h.end_ (hs h.pre.good) (by rw [h2, h.nodes, h.kids]; simp only [mkRow, emit, List.append_assoc]) (by omega) (by omega)
  · exact h.end_ (by omega)
end
end Go.Proofs.Ytdmbgjpidlllcaa.RxRowP

