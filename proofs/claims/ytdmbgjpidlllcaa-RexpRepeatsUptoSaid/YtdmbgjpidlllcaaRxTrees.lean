/- A tree's nodes, one word for all kinds: its kids' nodes and then its own; its size by its kids'. Of no program. No conditions. · The contract of the document's Size. Conditions: a tree's nodes lie in memory. -/
import Derived.Test.YtdmbgjpidlllcaaRxSpecs
import Derived.Test.YtdmbgjpidlllcaaRxMems
namespace Go.Proofs.Ytdmbgjpidlllcaa.RxTree
open RxSpec

def kidsOf : Pat → List Pat
  | .seq l => l
  | .alt l => l
  | .rep p _ _ => [p]
  | _ => []
def timesOf : Pat → Nat
  | .rep _ lo hi => times lo hi
  | _ => 1
def kindOf : Pat → Nat
  | .empty => 1
  | .set _ => 2
  | .seq _ => 3
  | .alt _ => 4
  | .rep _ _ _ => 5
  | .bol => 6
  | .eol => 7
def loOf : Pat → Nat
  | .rep _ lo _ => lo
  | _ => 0
def hiOf : Pat → Int
  | .rep _ _ hi => hi
  | _ => 0
def setOf : Pat → List Int
  | .set l => l.map fun (n : Nat) => (n : Int)
  | _ => []
/-- A tree's own node, where b are ahead of the tree's. -/
def ownNd (p : Pat) (b : Nat) : Nd := ⟨kindOf p, roots (kidsOf p) b, (loOf p : Int), hiOf p, setOf p⟩
theorem emit_eq (p : Pat) (b : Nat) : emit p b = emits (kidsOf p) b ++ [ownNd p b] := by
  cases p <;> simp [emit, emits, roots, kidsOf, kindOf, loOf, hiOf, setOf, ownNd]
theorem size_eq (p : Pat) : size p = 1 + timesOf p * sizes (kidsOf p) := by
  cases p <;> simp [size, sizes, kidsOf, timesOf]
theorem kid_lt {p x : Pat} (h : x ∈ kidsOf p) : SizeOf.sizeOf x < SizeOf.sizeOf p := by
  cases p with
  | seq l => have := List.sizeOf_lt_of_mem (show x ∈ l from h); simp; omega
  | alt l => have := List.sizeOf_lt_of_mem (show x ∈ l from h); simp; omega
  | rep p lo hi => obtain rfl : x = p := by simpa [kidsOf] using h
                   simp; omega
  | _ => simp [kidsOf] at h
theorem times_pos (p : Pat) : 1 ≤ timesOf p := by
  cases p with
  | rep p lo hi =>
    show 1 ≤ times lo hi
    unfold times
    split
    · omega
    · split <;> omega
  | _ => exact Nat.le_refl _
/-- How often, as the document says it. -/
theorem times_go (p : Pat) : (kindOf p = 5 ∧ 1 < hiOf p ∧ (timesOf p : Int) = hiOf p ∧ ¬ hiOf p < 0) ∨ (kindOf p = 5 ∧ ¬ 1 < hiOf p ∧ hiOf p < 0 ∧ 0 < loOf p ∧ timesOf p = loOf p + 1) ∨ (kindOf p = 5 ∧ ¬ 1 < hiOf p ∧ hiOf p < 0 ∧ ¬ 0 < loOf p ∧ timesOf p = 1) ∨ (kindOf p = 5 ∧ ¬ 1 < hiOf p ∧ ¬ hiOf p < 0 ∧ timesOf p = 1) ∨ (kindOf p ≠ 5 ∧ timesOf p = 1) := by
  cases p with
  | rep p lo hi =>
    show (5 = 5 ∧ 1 < hi ∧ (times lo hi : Int) = hi ∧ ¬ hi < 0) ∨ (5 = 5 ∧ ¬ 1 < hi ∧ hi < 0 ∧ 0 < lo ∧ times lo hi = lo + 1) ∨ (5 = 5 ∧ ¬ 1 < hi ∧ hi < 0 ∧ ¬ 0 < lo ∧ times lo hi = 1) ∨ (5 = 5 ∧ ¬ 1 < hi ∧ ¬ hi < 0 ∧ times lo hi = 1) ∨ (5 ≠ 5 ∧ times lo hi = 1)
    unfold times
    split
    · left; omega
    · split <;> omega
  | _ => right; right; right; right; exact ⟨by simp [kindOf], rfl⟩
/-- Where a kid's nodes lie. -/
theorem kid_at : ∀ (l : List Pat) (A C : List Nd) (i : Nat) (h : i < l.length), ∃ B D, A ++ emits l A.length ++ C = B ++ emit l[i] B.length ++ D ∧ (roots l A.length)[i]? = some (B.length + (emit l[i] B.length).length - 1)
  | p :: l, A, C, 0, _ => ⟨A, emits l (A.length + (emit p A.length).length) ++ C, by simp [emits, List.append_assoc], by simp [roots]⟩
  | p :: l, A, C, i + 1, h => by
    obtain ⟨B, D, h1, h2⟩ := kid_at l (A ++ emit p A.length) C i (by simpa using h)
    refine ⟨B, D, ?_, ?_⟩
    · rw [List.length_append] at h1
      rw [emits, List.getElem_cons_succ, ← h1]
      simp [List.append_assoc]
    · rw [List.length_append] at h2
      rw [roots, List.getElem?_cons_succ, List.getElem_cons_succ, h2]
/-- The size so far, behind i kids; never above 2000. -/
def upto (p : Pat) (i : Nat) : Nat := min 2000 (1 + timesOf p * sizes ((kidsOf p).take i))
theorem sizes_app : ∀ (l m : List Pat), sizes (l ++ m) = sizes l + sizes m
  | [], m => by simp [sizes]
  | p :: l, m => by rw [List.cons_append, sizes, sizes_app l m, sizes, Nat.add_assoc]
theorem upto_zero (p : Pat) : upto p 0 = 1 := by simp [upto, sizes]
theorem upto_next (p : Pat) (i : Nat) (h : i < (kidsOf p).length) : upto p (i + 1) = min 2000 (upto p i + timesOf p * min 2000 (size (kidsOf p)[i])) := by
  unfold upto
  rw [List.take_succ_eq_append_getElem h, sizes_app]
  simp only [sizes, Nat.add_zero, Nat.mul_add]
  have ht := times_pos p
  generalize timesOf p * sizes ((kidsOf p).take i) = a
  generalize size (kidsOf p)[i] = s
  by_cases hs : s ≤ 2000
  · rw [Nat.min_eq_right hs]; omega
  · have h1 : 2000 ≤ timesOf p * s := Nat.le_trans (by omega) (Nat.le_mul_of_pos_left s ht)
    have h2 : 2000 ≤ timesOf p * min 2000 s := by rw [Nat.min_eq_left (by omega)]; exact Nat.le_mul_of_pos_left 2000 ht
    omega
theorem upto_all (p : Pat) : upto p (kidsOf p).length = min 2000 (size p) := by
  unfold upto
  rw [List.take_length, size_eq]
mutual
theorem emit_le : ∀ (p : Pat) (b : Nat), (emit p b).length ≤ size p
  | .empty, b => by simp [emit, size]
  | .set l, b => by simp [emit, size]
  | .bol, b => by simp [emit, size]
  | .eol, b => by simp [emit, size]
  | .seq l, b => by have := emits_le l b; simp [emit, size]; omega
  | .alt l, b => by have := emits_le l b; simp [emit, size]; omega
  | .rep p lo hi, b => by
    have h1 := emit_le p b
    have h2 : 1 ≤ times lo hi := times_pos (.rep p lo hi)
    have h3 : size p ≤ times lo hi * size p := Nat.le_mul_of_pos_left _ h2
    simp [emit, size]
    omega
theorem emits_le : ∀ (l : List Pat) (b : Nat), (emits l b).length ≤ sizes l
  | [], b => by simp [emits]
  | p :: l, b => by
    have h1 := emit_le p b
    have h2 := emits_le l (b + (emit p b).length)
    rw [emits, List.length_append, sizes]
    omega
end
end Go.Proofs.Ytdmbgjpidlllcaa.RxTree

namespace Go.Proofs.Ytdmbgjpidlllcaa.RxSize
open Go Go.RowKit Words AppN Km Mo_ RxSpec RxTree RxEq RxMem RxPeek

/-- Nodes that lie at v. -/
structure Tr (w : World) (A : Option Addr) (c : Nat) (ms : List NM) : Prop where
  rd : Rd w w.heap.size A (flatN ms)
  le : ms.length ≤ c
  cap : c ≤ maxLen
  each : ∀ m ∈ ms, ∃ (A : Option Addr) (c : Nat), m.ks = (A, m.nd.kids.length, c) ∧ Rd w w.heap.size A (m.nd.kids.map IV) ∧ m.nd.kids.length ≤ c ∧ c ≤ maxLen
  sets : ∀ m ∈ ms, ∃ (A : Option Addr) (c : Nat), m.ss = (A, m.nd.set.length, c) ∧ Rd w w.heap.size A (m.nd.set.map I32) ∧ m.nd.set.length ≤ c ∧ c ≤ maxLen
  small : ∀ m ∈ ms, m.nd.lo ≤ 1000000 ∧ m.nd.hi ≤ 1000000
theorem rd_up {w w' : World} {A : Option Addr} {l : List Value} (h : Rd w w.heap.size A l) (hb : Below w.heap.size w w') : Rd w' w'.heap.size A l := fun hl => by
  obtain ⟨b, o, e, hlt, hc⟩ := h hl
  exact ⟨b, o, e, Nat.lt_of_lt_of_le hlt hb.size, fun j u hu => (hb.cell (p := ⟨b, o + j, none⟩) hlt).trans (hc j u hu)⟩
theorem Tr.up {w w' : World} {A : Option Addr} {c : Nat} {ms : List NM} (h : Tr w A c ms) (hb : Below w.heap.size w w') : Tr w' A c ms :=
  ⟨rd_up h.rd hb, h.le, h.cap, fun m hm => by obtain ⟨A, c, e, hr, h1, h2⟩ := h.each m hm; exact ⟨A, c, e, rd_up hr hb, h1, h2⟩, fun m hm => by obtain ⟨A, c, e, hr, h1, h2⟩ := h.sets m hm; exact ⟨A, c, e, rd_up hr hb, h1, h2⟩, h.small⟩
/-- A tree's size, for trees of less than N. -/
def SizeC (P : Option Addr) (c : Nat) (ms : List NM) (N : Nat) : Prop := ∀ (w : World) (p : Pat) (A B : List Nd), Tr w P c ms → SizeOf.sizeOf p < N → nds ms = A ++ emit p A.length ++ B →
  Calls Try.prog 22 #[.slice P ms.length c, .int .i64 ((A.length + (emit p A.length).length - 1 : Nat) : Int)] w fun e w' => e = .returned (.int .i64 ((min 2000 (size p) : Nat) : Int)) ∧ Below w.heap.size w w'
theorem root_at {ms : List NM} {p : Pat} {A B : List Nd} (h : nds ms = A ++ emit p A.length ++ B) : ∃ hx : A.length + (emit p A.length).length - 1 < ms.length, (ms[A.length + (emit p A.length).length - 1]).nd = ownNd p A.length := by
  have e : A.length + (emit p A.length).length - 1 = A.length + (emits (kidsOf p) A.length).length := by rw [emit_eq]; simp
  have h2 : (nds ms)[A.length + (emit p A.length).length - 1]? = some (ownNd p A.length) := by
    rw [h, e, emit_eq]
    rw [List.append_assoc, List.getElem?_append_right (by omega), Nat.add_sub_cancel_left]
    simp
  unfold nds at h2
  rw [List.getElem?_map] at h2
  have hx : A.length + (emit p A.length).length - 1 < ms.length := by
    apply Classical.byContradiction
    intro hn
    rw [List.getElem?_eq_none (by omega)] at h2
    cases h2
  refine ⟨hx, ?_⟩
  rw [List.getElem?_eq_getElem hx] at h2
  simpa using h2
def ZRel (w : World) (p : Pat) (vn vi : Value) (wr : World) : Prop := ∃ i : Nat, i ≤ (kidsOf p).length ∧ vi = .int .i64 (i : Int) ∧ vn = .int .i64 ((upto p i : Nat) : Int) ∧ Hid (Below w.heap.size w wr)
def intOf' (v : Value) : Int := intOf v
theorem upto_le (p : Pat) (i : Nat) : upto p i ≤ 2000 := by unfold upto; omega
set_option maxHeartbeats 6400000 in
set_option maxRecDepth 100000 in
theorem size_of {P : Option Addr} {c : Nat} {ms : List NM} {N : Nat} (HI : SizeC P c ms N) : SizeC P c ms (N + 1) := by
  intro w p A B ht hN hn
  obtain ⟨hx, hroot⟩ := root_at hn
  have hle := ht.le
  have hcap := ht.cap
  unfold maxLen at hcap
  obtain ⟨A2, c2, hks, hkr, hk1, hk2⟩ := ht.each _ (List.getElem_mem hx)
  have hsm := ht.small _ (List.getElem_mem hx)
  have HCALL : Hid (∀ i (hi : i < (kidsOf p).length), ∃ y : Nat, (roots (kidsOf p) A.length)[i]? = some y ∧ ∀ wz, Below w.heap.size w wz → Calls Try.prog 22 #[.slice P ms.length c, .int .i64 (y : Int)] wz fun e w' => e = .returned (.int .i64 ((min 2000 (size (kidsOf p)[i]) : Nat) : Int)) ∧ Below wz.heap.size wz w') := Lib.hid fun i hi => by
    obtain ⟨C, D, h1, h2⟩ := kid_at (kidsOf p) A ([ownNd p A.length] ++ B) i hi
    refine ⟨_, h2, fun wz hb => HI wz (kidsOf p)[i] C D (ht.up hb) ?_ ?_⟩
    · have := kid_lt (List.getElem_mem hi)
      omega
    · rw [hn, emit_eq, ← h1, List.append_assoc, List.append_assoc, List.append_assoc]
  rw [hroot] at hks hkr hk1 hsm
  have hrl : (ownNd p A.length).kids.length = (kidsOf p).length := roots_len _ _
  have hrd := flatN_at hx
  rw [hroot, hks, hrl] at hrd
  rw [hrl] at hk1
  unfold maxLen at hk2
  obtain ⟨g, off, rfl, hg, hc⟩ := ht.rd (by rw [flatN_len]; omega)
  have HC : Hid (∀ wz, Below w.heap.size w wz → wz.cell? ⟨g, off + (A.length + (emit p A.length).length - 1) * 5, none⟩ = some (.int .i64 (kindOf p : Int)) ∧ wz.cell? ⟨g, off + (A.length + (emit p A.length).length - 1) * 5 + 1, none⟩ = some (.slice A2 (kidsOf p).length c2) ∧ wz.cell? ⟨g, off + (A.length + (emit p A.length).length - 1) * 5 + 2, none⟩ = some (.int .i64 (loOf p : Int)) ∧ wz.cell? ⟨g, off + (A.length + (emit p A.length).length - 1) * 5 + 3, none⟩ = some (.int .i64 (hiOf p))) := Lib.hid fun wz hb => by
    have key : ∀ j u, (flatN ms)[j]? = some u → wz.cell? ⟨g, off + j, none⟩ = some u := fun j u hu => (hb.cell (p := ⟨g, off + j, none⟩) hg).trans (hc j u hu)
    exact ⟨key _ _ hrd.1, key _ _ hrd.2.1, key _ _ hrd.2.2.1, key _ _ hrd.2.2.2.1⟩
  have HK : Hid (∀ (i y : Nat), (roots (kidsOf p) A.length)[i]? = some y → ∃ g2 o2, A2 = some ⟨g2, o2, none⟩ ∧ ∀ wz, Below w.heap.size w wz → wz.cell? ⟨g2, o2 + i, none⟩ = some (.int .i64 (y : Int))) := Lib.hid fun i y hy => by
    have hu : ((roots (kidsOf p) A.length).map IV)[i]? = some (.int .i64 (y : Int)) := by rw [List.getElem?_map, hy]; rfl
    obtain ⟨g2, o2, e, hg2, hc2⟩ := hkr (by
      show 0 < ((roots (kidsOf p) A.length).map IV).length
      have := (List.getElem?_eq_some_iff.1 hu).1
      omega)
    exact ⟨g2, o2, e, fun wz hb => (hb.cell (p := ⟨g2, o2 + i, none⟩) hg2).trans (hc2 i _ hu)⟩
  have HT := Lib.hid (times_go p)
  have HS : Hid ((loOf p : Int) ≤ 1000000 ∧ hiOf p ≤ 1000000) := Lib.hid hsm
  have HU := Lib.hid (upto_next p)
  have HA := Lib.hid (upto_all p)
  have HL := Lib.hid (upto_le p)
  have HZ := Lib.hid (upto_zero p)
  clear HI ht hn hroot hks hkr hsm hrl hrd hc
  generalize A.length + (emit p A.length).length - 1 = x at *
  have x0 : (0 : Int) ≤ (x : Int) := by omega
  have x1 : (x : Int) < (ms.length : Int) := by omega
  go_enter Try.func22, Try.ntmps22
  go_wp2
  go_loopw [5, 6] (fun vn vi wr => ZRel w p vn vi wr) (fun _ vi _ => (kidsOf p).length - (intOf vi).toNat)
  case atStart => exact ⟨0, Nat.zero_le _, rfl, by rw [HZ.out]; rfl, Lib.hid (Below.refl _ _)⟩
  case round =>
    obtain ⟨i, hi, rfl, rfl, HB⟩ := hrel
    obtain ⟨k0, k1, k2, k3⟩ := HC.out wr HB.out
    by_cases hlt : i < (kidsOf p).length
    case neg =>
      have d1 : decide ((i : Int) < ((kidsOf p).length : Int)) = false := decide_eq_false (by omega)
      have HE : Hid (upto p i = min 2000 (size p)) := Lib.hid (by rw [← HA.out]; congr 1; omega)
      rw [HE.out]
      go_wp2
      go_ret
      exact ⟨rfl, HB.out⟩
    case pos =>
      have d1 : decide ((i : Int) < ((kidsOf p).length : Int)) = true := decide_eq_true (by omega)
      obtain ⟨y, hy, hcall⟩ := HCALL.out i hlt
      obtain ⟨g2, o2, rfl, hk⟩ := HK.out i y hy
      have k4 := hk wr HB.out
      have i0 : (0 : Int) ≤ (i : Int) := by omega
      have i1 : (i : Int) < ((kidsOf p).length : Int) := by omega
      have HCL := hcall wr HB.out
      have HN := Lib.hid (HU.out i hlt)
      have hu := HL.out i
      have HTP := Lib.hid (times_pos p)
      clear HCALL HK HC HU HA HL HZ hk hcall hy hN hx d1
      generalize size (kidsOf p)[i] = s at *
      generalize upto p i = n at *
      obtain ⟨n2, hn2⟩ : ∃ n2, upto p (i + 1) = n2 := ⟨_, rfl⟩
      rw [hn2] at HN
      have HN2 := Lib.hid hn2
      clear hn2
      generalize timesOf p = t at *
      generalize kindOf p = k at *
      generalize loOf p = lo at *
      generalize hiOf p = hh at *
      obtain ⟨m, hm⟩ : ∃ m, min 2000 s = m := ⟨_, rfl⟩
      have hm2 : m ≤ 2000 := by omega
      rw [hm] at HCL HN
      clear hm
      obtain ⟨z, hz⟩ : ∃ z, t * m = z := ⟨_, rfl⟩
      have rm0 : (t : Int) * (m : Int) = (z : Int) := by rw [← hz]; exact (Int.natCast_mul t m).symm
      rw [hz] at HN
      have HZM := Lib.hid hz
      have HZ2 : Hid (t ≤ 1000001 → z ≤ 1000001 * 2000) := Lib.hid fun h => by rw [← hz]; exact Nat.mul_le_mul h hm2
      clear hz
      rcases HT.out with ⟨rfl, h1, h2, h3⟩ | ⟨rfl, h1, h2, h3, h4⟩ | ⟨rfl, h1, h2, h3, h4⟩ | ⟨rfl, h1, h2, h3⟩ | ⟨h1, h2⟩
      case' inl =>
        have b1 : (((5 : Nat) : Int) == 5) = true := rfl
        have b2 : decide (1 < hh) = true := decide_eq_true h1
        have b3 : decide (hh < 0) = false := decide_eq_false (by omega)
        subst h2
        have r1 : (t : Int) ≤ 1000001 := by have := HS.out; omega
        have r3 : 0 < t := by omega
      case' inr.inl =>
        have b1 : (((5 : Nat) : Int) == 5) = true := rfl
        have b2 : decide (1 < hh) = false := decide_eq_false (by omega)
        have b3 : decide (hh < 0) = true := decide_eq_true h2
        have b4 : decide (0 < (lo : Int)) = true := decide_eq_true (by omega)
        have r1 : (t : Int) ≤ 1000001 := by have := HS.out; omega
        have r2 : IntKind.i64.wrap ((lo : Int) + 1) = (t : Int) := by rw [IntKind.wrap_i64]; have := HS.out; omega
        clear h4
      case' inr.inr.inl =>
        have b1 : (((5 : Nat) : Int) == 5) = true := rfl
        have b2 : decide (1 < hh) = false := decide_eq_false (by omega)
        have b3 : decide (hh < 0) = true := decide_eq_true h2
        have b4 : decide (0 < (lo : Int)) = false := decide_eq_false (by omega)
        subst h4
        have r1 : ((1 : Nat) : Int) ≤ 1000001 := by omega
      case' inr.inr.inr.inl =>
        have b1 : (((5 : Nat) : Int) == 5) = true := rfl
        have b2 : decide (1 < hh) = false := decide_eq_false (by omega)
        have b3 : decide (hh < 0) = false := decide_eq_false (by omega)
        subst h3
        have r1 : ((1 : Nat) : Int) ≤ 1000001 := by omega
      case' inr.inr.inr.inr =>
        have b1 : ((k : Int) == 5) = false := by simp; omega
        subst h2
        have r1 : ((1 : Nat) : Int) ≤ 1000001 := by omega
      all_goals
        have hz2 := HZ2.out (by omega)
        clear HT h1 HZ2
        go_wp2_with fail
        refine HCL.mono ?_
        rintro _ w5 ⟨rfl, hb5⟩
        have HB5 := Lib.hid (HB.out.trans (hb5.mono HB.out.size))
        clear HCL HB hb5 k0 k1 k2 k3 k4
      all_goals
        go_wp2_with fail
        all_goals
          have hN1 := HN.out
          have hZ1 := HZM.out
          refine ⟨⟨i + 1, hlt, by go_num, ?_, HB5⟩, by simp [intOf]; omega⟩
          rw [HN2.out]
          simp only [Value.int.injEq, true_and]
          omega
end Go.Proofs.Ytdmbgjpidlllcaa.RxSize

