/- Trees in memory, and the document's parser: five cells a node, their kids and sets in rows of their own; the parser in a block, its nodes in a row of the same number. Of no program but for its types. No conditions. · The contracts of the document's peek, is, in and digit. Conditions: the parser lies in memory, its place is below 2^62. · The contracts of the document's in and digit. Conditions: a text's length is a slice's; the parser lies in memory, its place is below 2^62. -/
import Derived.Test.YtdmbgjpidlllcaaBase
import Derived.Test.YtdmbgjpidlllcaaRxSpecs
import Derived.Test.YtdmbgjpidlllcaaRows
import Derived.Deep.OwnRows
import Derived.Lib.Hide
import Derived.BigQuiet
import Derived.IntWalk
import Derived.WalkLawsBesides
import Derived.Outline
import Derived.Deep.RegionLaw
namespace Go.Proofs.Ytdmbgjpidlllcaa.RxMem
open Go Go.RowKit Words AppN Km Mo_ RxSpec

def IV (k : Nat) : Value := .int .i64 (k : Int)
def R32 (r : Nat) : Value := .int .i32 (r : Int)
def I32 (z : Int) : Value := .int .i32 z
/-- A slice: its address, its length, its capacity. -/
abbrev Sl := Option Addr × Nat × Nat
def slV (s : Sl) : Value := .slice s.1 s.2.1 s.2.2
/-- A node, and where its kids and its set lie. -/
structure NM where
  nd : Nd
  ks : Sl
  ss : Sl
def ncells (m : NM) : List Value := [.int .i64 (m.nd.kind : Int), slV m.ks, .int .i64 m.nd.lo, .int .i64 m.nd.hi, slV m.ss]
def aggN (m : NM) : Value := .agg #[.int .i64 (m.nd.kind : Int), slV m.ks, .int .i64 m.nd.lo, .int .i64 m.nd.hi, slV m.ss]
def flatN (l : List NM) : List Value := l.flatMap ncells
def nds (l : List NM) : List Nd := l.map NM.nd
theorem flatN_cons (x : NM) (l : List NM) : flatN (x :: l) = .int .i64 (x.nd.kind : Int) :: slV x.ks :: .int .i64 x.nd.lo :: .int .i64 x.nd.hi :: slV x.ss :: flatN l := by simp [flatN, ncells]
theorem flatN_append (l m : List NM) : flatN (l ++ m) = flatN l ++ flatN m := by simp [flatN]
theorem flatN_one (x : NM) : flatN [x] = ncells x := by simp [flatN]
theorem flatN_len : ∀ l : List NM, (flatN l).length = l.length * 5
  | [] => rfl
  | x :: l => by rw [flatN_cons, List.length_cons, List.length_cons, List.length_cons, List.length_cons, List.length_cons, flatN_len l, List.length_cons]; omega
theorem ncells_ones (m : NM) : ∀ u ∈ ncells m, u.oneCell' = true := by
  intro u hu
  unfold ncells at hu
  simp at hu
  rcases hu with rfl | rfl | rfl | rfl | rfl <;> rfl
theorem flatN_at : ∀ {l : List NM} {k : Nat} (h : k < l.length), (flatN l)[k * 5]? = some (.int .i64 ((l[k]).nd.kind : Int)) ∧ (flatN l)[k * 5 + 1]? = some (slV (l[k]).ks) ∧ (flatN l)[k * 5 + 2]? = some (.int .i64 (l[k]).nd.lo) ∧ (flatN l)[k * 5 + 3]? = some (.int .i64 (l[k]).nd.hi) ∧ (flatN l)[k * 5 + 4]? = some (slV (l[k]).ss)
  | x :: l, 0, _ => by simp [flatN, ncells]
  | x :: l, k + 1, h => by
    have ih := flatN_at (l := l) (k := k) (by simpa using h)
    rw [show (k + 1) * 5 = k * 5 + 1 + 1 + 1 + 1 + 1 by omega, flatN_cons]
    simpa using ih
theorem info_node : (Try.prog.info? 33).map (fun i => (i.zero, i.size, i.bytes)) = some (some (.agg #[.int .i64 0, .slice none 0 0, .int .i64 0, .int .i64 0, .slice none 0 0]), 5, 72) := by kernel_rfl

/-- A slice at s reads as the cells vs, in a block whose number is neither o nor o + 1. -/
structure Sd (w : World) (K : Nat → Nat) (o : Nat) (s : Sl) (vs : List Value) : Prop where
  len : s.2.1 = vs.length
  le : s.2.1 ≤ s.2.2
  cap : s.2.2 ≤ maxLen
  rd : Rd w w.heap.size s.1 vs
  kind : ∀ b off, s.1 = some ⟨b, off, none⟩ → 0 < vs.length → K b ≠ o ∧ K b ≠ o + 1
theorem Sd.moT {w w' : World} {K K' : Nat → Nat} {o : Nat} {s : Sl} {vs : List Value} {T : Nat → Prop} (h : Sd w K o s vs) (hm : Mo K K' T w w') (hT : ∀ x, T x → x = o ∨ x = o + 1) : Sd w' K' o s vs := by
  obtain ⟨h1, h2⟩ := rd_mo hm h.rd (fun b off e hn ht => by have := h.kind b off e hn; have := hT _ ht; omega)
  exact ⟨h.len, h.le, h.cap, h1, fun b off e hn => by rw [h2 b off e hn]; exact h.kind b off e hn⟩
theorem Sd.mo {w w' : World} {K K' : Nat → Nat} {o : Nat} {s : Sl} {vs : List Value} (h : Sd w K o s vs) (hm : Mo K K' (fun x => x = o) w w') : Sd w' K' o s vs := h.moT hm fun _ h => .inl h
theorem Sd.nil_ (w : World) (K : Nat → Nat) (o : Nat) : Sd w K o (none, 0, 0) [] := ⟨rfl, Nat.le_refl _, Nat.zero_le _, Rd.nil_, fun _ _ e => by cases e⟩
/-- A node's kids and set lie where its cells say. -/
structure Okn (w : World) (K : Nat → Nat) (o : Nat) (m : NM) : Prop where
  ks : Sd w K o m.ks (m.nd.kids.map IV)
  ss : Sd w K o m.ss (m.nd.set.map I32)
theorem Okn.moT {w w' : World} {K K' : Nat → Nat} {o : Nat} {m : NM} {T : Nat → Prop} (h : Okn w K o m) (hm : Mo K K' T w w') (hT : ∀ x, T x → x = o ∨ x = o + 1) : Okn w' K' o m := ⟨h.ks.moT hm hT, h.ss.moT hm hT⟩
theorem Okn.mo {w w' : World} {K K' : Nat → Nat} {o : Nat} {m : NM} (h : Okn w K o m) (hm : Mo K K' (fun x => x = o) w w') : Okn w' K' o m := ⟨h.ks.mo hm, h.ss.mo hm⟩

/-- The parser's own numbers. -/
structure PSt where
  at_ : Nat
  deep : Nat
  most : Nat
  bad : Bool
def pcells (S : Sl) (q : PSt) (v : Value) : Array Value := #[slV S, .int .i64 (q.at_ : Int), v, .int .i64 (q.deep : Int), .int .i64 (q.most : Int), .bool q.bad]
/-- The parser in block p, its memory of the number o; its nodes at v. -/
structure RP (w : World) (K : Nat → Nat) (o p : Nat) (S : Sl) (rs : List Nat) (q : PSt) (ms : List NM) (v : Value) : Prop where
  pk : K p = o
  box : w.heap[p]? = some (.cells (pcells S q v) 53 (0, 0))
  runes : Sd w K o S (rs.map R32)
  own : w.ownsRow 0 33 5 v ms.length (flatN ms)
  vk : ∀ b, v.ownBlock = some b → K b = o ∧ b ≠ p
  each : ∀ m ∈ ms, Okn w K o m
section
variable {w w' : World} {K K' : Nat → Nat} {o p : Nat} {S : Sl} {rs : List Nat} {q : PSt} {ms : List NM} {v : Value}
theorem RP.lt (h : RP w K o p S rs q ms v) : p < w.heap.size := (Array.getElem?_eq_some_iff.1 h.box).1
theorem cell_of_row {g j : Nat} {cs : Array Value} {t : TypeId} {u : Value} (h : w.heap[g]? = some (.cells cs t (0, 0))) (hj : cs[j]? = some u) : w.cell? ⟨g, j, .none⟩ = some u := by
  unfold World.cell?
  rw [h]
  simpa using hj
theorem RP.cells (h : RP w K o p S rs q ms v) : w.cell? ⟨p, 0, none⟩ = some (slV S) ∧ w.cell? ⟨p, 1, none⟩ = some (.int .i64 (q.at_ : Int)) ∧ w.cell? ⟨p, 2, none⟩ = some v ∧ w.cell? ⟨p, 3, none⟩ = some (.int .i64 (q.deep : Int)) ∧ w.cell? ⟨p, 4, none⟩ = some (.int .i64 (q.most : Int)) ∧ w.cell? ⟨p, 5, none⟩ = some (.bool q.bad) :=
  ⟨cell_of_row h.box rfl, cell_of_row h.box rfl, cell_of_row h.box rfl, cell_of_row h.box rfl, cell_of_row h.box rfl, cell_of_row h.box rfl⟩
theorem RP.frozen (h : RP w K o p S rs q ms v) (j : Nat) : w.frozen? ⟨p, j, none⟩ = false := frozen_of_row _ _ _ _ _ h.box
/-- Only other blocks have changed. -/
theorem RP.moT {T : Nat → Prop} (h : RP w K o p S rs q ms v) (hm : Mo K K' T w w') (hT : ∀ x, T x → x = o + 1) : RP w' K' o p S rs q ms v := by
  have hT' : ∀ x, T x → x = o ∨ x = o + 1 := fun x hx => .inr (hT x hx)
  have hno : ¬ T o := fun h => by have := hT _ h; omega
  obtain ⟨e1, e2⟩ := hm.keep p h.lt (by rw [h.pk]; exact hno)
  refine ⟨e2.trans h.pk, e1.trans h.box, h.runes.moT hm hT', (own_mo (m := o) h.own (fun b e => (h.vk b e).1) hm hno).1, fun b e => ?_, fun m hx => (h.each m hx).moT hm hT'⟩
  exact ⟨(own_mo (m := o) h.own (fun b e => (h.vk b e).1) hm hno).2 b e, (h.vk b e).2⟩
theorem RP.mo (h : RP w K o p S rs q ms v) (hm : Mo K K' (fun _ => False) w w') : RP w' K' o p S rs q ms v := h.moT hm fun _ h => h.elim
theorem RP.below (h : RP w K o p S rs q ms v) (hb : Below w.heap.size w w') : RP w' K o p S rs q ms v := h.mo (Mo.same hb)
/-- A store into one of the parser's cells. -/
theorem RP.poke (h : RP w K o p S rs q ms v) (j : Nat) (u : Value) (q' : PSt) (he : (pcells S q v).setIfInBounds j u = pcells S q' v) : RP (w.setCell ⟨p, j, none⟩ u) K o p S rs q' ms v := by
  have hm : Mo K K (fun x => x = o) w (w.setCell ⟨p, j, none⟩ u) := Mo.poke (a := ⟨p, j, none⟩) u h.pk
  refine ⟨h.pk, ?_, h.runes.mo hm, ?_, h.vk, fun m hx => (h.each m hx).mo hm⟩
  · rw [← he]; exact heap_setCell_same _ _ _ _ _ _ h.box
  · refine h.own.kept (row := some p) ⟨rfl, rfl, rfl, by simp, fun i _ hne => heap_setCell_other w ⟨p, j, none⟩ i u (fun e => hne (by rw [e]))⟩ ?_
    cases hb : v.ownBlock with
    | none => exact .inl rfl
    | some b => exact .inr fun e => (h.vk b hb).2 (by injection e)
theorem RP.pokeMo (h : RP w K o p S rs q ms v) (j : Nat) (u : Value) : Mo K K (fun x => x = o) w (w.setCell ⟨p, j, none⟩ u) := Mo.poke (a := ⟨p, j, none⟩) u h.pk
/-- A rune. -/
theorem RP.rune (h : RP w K o p S rs q ms v) {k : Nat} (hk : k < rs.length) : ∃ g off, S.1 = some ⟨g, off, none⟩ ∧ w.cell? ⟨g, off + k, none⟩ = some (.int .i32 ((rs[k] : Nat) : Int)) := by
  obtain ⟨g, off, e, _, hc⟩ := h.runes.rd (by simp; omega)
  exact ⟨g, off, e, hc k _ (by simp [hk, R32])⟩
end
end Go.Proofs.Ytdmbgjpidlllcaa.RxMem

namespace Go.Proofs.Ytdmbgjpidlllcaa.RxPeek
open Go Go.RowKit Words AppN Km Mo_ RxSpec RxEq RxMem

theorem below_drewN {w0 w : World} {B : Nat} (h : Below B w0 w) (k : Nat) : Below B w0 (w.drewN k) := ⟨h.os, h.tape, h.output, h.size, h.block⟩
/-- The next rune; -1 at the end, or if it is no pattern. -/
def pkz (rs : List Nat) (q : PSt) : Int := if q.bad = true ∨ rs.length ≤ q.at_ then -1 else ((rs.getD q.at_ 0 : Nat) : Int)
set_option maxHeartbeats 3200000 in
set_option maxRecDepth 100000 in
theorem peek_any {w : World} {K : Nat → Nat} {o p : Nat} {S : Sl} {rs : List Nat} {q : PSt} {ms : List NM} {v : Value} (h : RP w K o p S rs q ms v) (hat : q.at_ < 4611686018427387904) :
    Calls Try.prog 35 #[.pointer (some ⟨p, 0, none⟩)] w fun e w' => e = .returned (.int .i32 (pkz rs q)) ∧ Below w.heap.size w w' := by
  obtain ⟨c0, c1, c2, c3, c4, c5⟩ := h.cells
  obtain ⟨A, n, c⟩ := S
  have hn : n = rs.length := by simpa using h.runes.len
  have hle := h.runes.le
  have hcm := h.runes.cap
  simp only at hle hcm
  unfold maxLen at hcm
  subst hn
  have HR : Hid (∀ k (hk : k < rs.length), ∃ g off, A = some ⟨g, off, none⟩ ∧ w.cell? ⟨g, off + k, none⟩ = some (.int .i32 ((rs[k] : Nat) : Int))) := Lib.hid fun k hk => h.rune hk
  clear h
  unfold slV at c0
  obtain ⟨at_, deep, most, bad⟩ := q
  simp only at c0 c1 c3 c4 c5 hat
  cases bad with
  | true =>
    have HE : Hid (pkz rs ⟨at_, deep, most, true⟩ = -1) := Lib.hid (by unfold pkz; rw [if_pos (.inl rfl)])
    go_enter Try.func35, Try.ntmps35
    go_wp2
    go_quiet (fail)
    go_wp2
    go_ret
    rw [HE.out]
    exact ⟨rfl, below_drewN (Below.refl _ _) _⟩
  | false =>
    by_cases hlt : at_ < rs.length
    case neg =>
      have HE : Hid (pkz rs ⟨at_, deep, most, false⟩ = -1) := Lib.hid (by unfold pkz; rw [if_pos (.inr (by simp only; omega))])
      have d1 : decide ((rs.length : Int) ≤ (at_ : Int)) = true := decide_eq_true (by omega)
      go_enter Try.func35, Try.ntmps35
      go_wp2
      go_quiet (fail)
      go_wp2
      go_ret
      rw [HE.out]
      exact ⟨rfl, below_drewN (Below.refl _ _) _⟩
    have d1 : decide ((rs.length : Int) ≤ (at_ : Int)) = false := decide_eq_false (by omega)
    obtain ⟨g, off, eA, hc⟩ := HR.out at_ hlt
    have HE : Hid (pkz rs ⟨at_, deep, most, false⟩ = ((rs[at_] : Nat) : Int)) := Lib.hid (by
      unfold pkz
      rw [if_neg (by simp; omega), List.getD_eq_getElem?_getD, List.getElem?_eq_getElem hlt]; rfl)
    subst eA
    clear HR
    generalize rs[at_] = r at *
    go_enter Try.func35, Try.ntmps35
    go_wp2
    go_quiet (fail)
    go_wp2
    go_quiet (fail)
    go_wp2
    go_ret
    rw [HE.out]
    exact ⟨rfl, below_drewN (below_drewN (Below.refl _ _) _) _⟩
theorem pokeAt {w : World} {K : Nat → Nat} {o p : Nat} {S : Sl} {rs : List Nat} {q : PSt} {ms : List NM} {v : Value} (h : RP w K o p S rs q ms v) : RP (w.setCell ⟨p, 1, none⟩ (.int .i64 ((q.at_ : Int) + 1))) K o p S rs { q with at_ := q.at_ + 1 } ms v :=
  h.poke 1 _ _ (by unfold pcells; simp)
set_option maxHeartbeats 3200000 in
set_option maxRecDepth 100000 in
theorem is_no {w : World} {K : Nat → Nat} {o p : Nat} {S : Sl} {rs : List Nat} {q : PSt} {ms : List NM} {v : Value} (h : RP w K o p S rs q ms v) (hat : q.at_ < 4611686018427387904) (r : Int) (hr : pkz rs q ≠ r) :
    Calls Try.prog 29 #[.pointer (some ⟨p, 0, none⟩), .int .i32 r] w fun e w' => e = .returned (.bool false) ∧ Below w.heap.size w w' := by
  have HC := peek_any h hat
  have d1 : (pkz rs q == r) = false := by simpa using hr
  clear h hr
  generalize pkz rs q = z at *
  go_enter Try.func29, Try.ntmps29
  go_wp2_with fail
  refine HC.mono ?_
  rintro _ w1 ⟨rfl, hb⟩
  go_wp2
  go_ret
  exact ⟨rfl, hb⟩
set_option maxHeartbeats 3200000 in
set_option maxRecDepth 100000 in
theorem is_yes {w : World} {K : Nat → Nat} {o p : Nat} {S : Sl} {rs : List Nat} {q : PSt} {ms : List NM} {v : Value} (h : RP w K o p S rs q ms v) (hat : q.at_ < 4611686018427387904) (r : Int) (hr : pkz rs q = r) :
    Calls Try.prog 29 #[.pointer (some ⟨p, 0, none⟩), .int .i32 r] w fun e w' => e = .returned (.bool true) ∧ RP w' K o p S rs { q with at_ := q.at_ + 1 } ms v ∧ Mo K K (fun x => x = o) w w' := by
  have HC := peek_any h hat
  have d1 : (pkz rs q == r) = true := by simpa using hr
  have H := Lib.hid h
  clear h hr
  generalize hz : pkz rs q = z at *
  clear hz
  go_enter Try.func29, Try.ntmps29
  go_wp2_with fail
  refine HC.mono ?_
  rintro _ w1 ⟨rfl, hb⟩
  have H1 := Lib.hid (H.out.below hb)
  obtain ⟨c0, c1, c2, c3, c4, c5⟩ := H1.out.cells
  have f1 := H1.out.frozen 1
  have H2 := Lib.hid (pokeAt H1.out)
  have HM : Hid (Mo K K (fun x => x = o) w (w1.setCell ⟨p, 1, none⟩ (.int .i64 ((q.at_ : Int) + 1)))) := Lib.hid ((Mo.same hb).trans (H1.out.pokeMo 1 _))
  clear HC hb H H1
  go_wp2
  go_ret
  exact ⟨rfl, H2.out, HM.out⟩
def InRel (W : World) (s : List Nat) (r : Int) (v : Value) (wr : World) : Prop := ∃ k : Nat, k ≤ s.length ∧ v = .int .i64 (k : Int) ∧ (∀ c ∈ s.take k, (c : Int) ≠ r) ∧ Below W.heap.size W wr
end Go.Proofs.Ytdmbgjpidlllcaa.RxPeek

namespace Go.Proofs.Ytdmbgjpidlllcaa.RxIn
open Go Go.RowKit Words AppN Km Mo_ RxSpec RxEq RxMem RxPeek

def intOf' (v : Value) : Int := intOf v
def InRel (W : World) (s : List UInt8) (r : Int) (v : Value) (wr : World) : Prop := ∃ k : Nat, k ≤ s.length ∧ v = .int .i64 (k : Int) ∧ Hid (((s.take k).any fun c => ((c.toNat : Int) == r)) = false) ∧ Hid (Below W.heap.size W wr)
theorem index_str (s : List UInt8) (k : Nat) (hk : k < s.length) (w : World) : (Instr.index 9 (.string ⟨s.toArray⟩) (.int .i64 (k : Int))).run Try.prog w = .ok (.int .u8 ((s[k]).toNat : Int)) w := by
  rw [run_index_string w 9 ⟨s.toArray⟩ .i64 (k : Int) Try.underlying9]
  rw [dif_pos ⟨by omega, by show (k : Int) < ((s.toArray.size : Nat) : Int); simp; omega⟩]
  rfl
set_option maxHeartbeats 3200000 in
set_option maxRecDepth 100000 in
theorem in_any (w : World) (r : Int) (s : List UInt8) (hs : s.length < 4611686018427387904) :
    Calls Try.prog 51 #[.int .i32 r, .string ⟨s.toArray⟩] w fun e w' => e = .returned (.bool (s.any fun c => ((c.toNat : Int) == r))) ∧ Below w.heap.size w w' := by
  have IX := index_str s
  have hsz : (ByteArray.mk s.toArray).size = s.length := by show s.toArray.size = _; simp
  obtain ⟨b, hb⟩ : ∃ b, (s.any fun c => ((c.toNat : Int) == r)) = b := ⟨_, rfl⟩
  rw [hb]
  have HB := Lib.hid hb
  clear hb
  go_enter Try.func51, Try.ntmps51
  go_wp2
  go_loopw [5] (fun v wr => InRel w s r v wr) (fun v _ => s.length - (intOf v).toNat)
  case atStart => exact ⟨0, Nat.zero_le _, rfl, Lib.hid rfl, Lib.hid (Below.refl _ _)⟩
  case round =>
    obtain ⟨k, hk, rfl, HN, HBr⟩ := hrel
    by_cases hlt : k < s.length
    · have hrun := IX k hlt
      have d1 : decide ((k : Int) < (s.length : Int)) = true := decide_eq_true (by omega)
      have hc : (s[k]).toNat < 256 := UInt8.toNat_lt _
      have HX : Hid (((s.take (k + 1)).any fun c => ((c.toNat : Int) == r)) = (((s[k]).toNat : Int) == r)) := Lib.hid (by
        rw [List.take_succ_eq_append_getElem hlt, List.any_append, HN.out]; simp)
      have HY : Hid ((((s[k]).toNat : Int) == r) = true → b = true) := Lib.hid fun h => by
        rw [← HB.out, List.any_eq_true]
        exact ⟨s[k], List.getElem_mem hlt, h⟩
      clear IX
      generalize (s[k]).toNat = x at *
      by_cases e : ((x : Int) == r) = true
      · have HE := Lib.hid (HY.out e)
        clear HX HY
        go_wp2
        go_ret
        rw [HE.out]
        exact ⟨rfl, HBr.out⟩
      · have e' : ((x : Int) == r) = false := by simpa using e
        rw [e'] at HX
        clear HY e
        go_wp2
        exact ⟨⟨k + 1, hlt, by go_num, HX, HBr⟩, by simp [intOf]; omega⟩
    · have d1 : decide ((k : Int) < (s.length : Int)) = false := decide_eq_false (by omega)
      have HE : Hid (b = false) := Lib.hid (by have h := HN.out; rw [List.take_of_length_le (by omega)] at h; rw [← HB.out, h])
      go_wp2
      go_ret
      rw [HE.out]
      exact ⟨rfl, HBr.out⟩
end Go.Proofs.Ytdmbgjpidlllcaa.RxIn

