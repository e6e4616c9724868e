/- Both sides' heads at once, nil or not: the contracts of the calls of HeadScripts in one form. -/
import Derived.Test.YtkgmcabamhpjhaaGreatHdAdd
import Derived.Test.YtkgmcabamhpjhaaGreatHdTermsF
import Derived.Test.YtkgmcabamhpjhaaGreatHdMems
import Derived.Test.YtkgmcabamhpjhaaGreatHdTakesW
namespace Go.Proofs.YtkgmcabamhpjhaaGreat.HdBoth
open Go Go.RowKit Words AppN Less LbSpec LbMem LbRef RcSpec RcAll RcMem RcRef LbOpen RcOpen HdSpec HdRm HdMem HdKm HdLaw HdRef HdAdd HdFind HdTakesW UtOwn Km

/-- The two heads' blocks, or none. -/
abbrev Mode := Option (Nat × Nat)
def hv : Mode → Value
  | .none => .pointer .none
  | .some x => .pointer (some ⟨x.1, 0, .none⟩)
def rv : Mode → Value
  | .none => .pointer .none
  | .some x => .pointer (some ⟨x.2, 0, .none⟩)
def err (M : Mode) (S : HSt) (l : List Rec) : Nat := match M with | .none => 2 | .some _ => addE S l
def nxt (M : Mode) (S : HSt) (l : List Rec) : HSt := match M with | .none => S | .some _ => add S l
def lst (M : Mode) (S : HSt) : List Rec := match M with | .none => [] | .some _ => HdSpec.all S
def tkn (M : Mode) (S : HSt) : HSt := match M with | .none => S | .some _ => taken S
section
variable {HeadR : World → (Nat → Nat) → Nat → Nat → HSt → Prop}
def HInv (HeadR : World → (Nat → Nat) → Nat → Nat → HSt → Prop) (M : Mode) (w : World) (K : Nat → Nat) (S : HSt) : Prop := match M with | .none => True | .some x => HeadR w K 1 x.1 S
def RInv (M : Mode) (w : World) (K : Nat → Nat) (S : HSt) : Prop := match M with | .none => True | .some x => RefR w K 2 x.2 S
theorem hinv_mo (P : Hed HeadR) {M : Mode} {w w' : World} {K K' : Nat → Nat} {T : Nat → Prop} {S : HSt} (h : HInv HeadR M w K S) (ht : Mo K K' T w w') (h1 : ¬ T 1) : HInv HeadR M w' K' S := by
  cases M with
  | none => trivial
  | some x => exact P.mo h ht h1
theorem rinv_mo {M : Mode} {w w' : World} {K K' : Nat → Nat} {T : Nat → Prop} {S : HSt} (h : RInv M w K S) (ht : Mo K K' T w w') (h2 : ¬ T 2) (h0 : ¬ T 0) : RInv M w' K' S := by
  cases M with
  | none => trivial
  | some x => exact RefR.mo h ht h2 h0
theorem hadd (P : Hed HeadR) {M : Mode} {w : World} {K : Nat → Nat} {S : HSt} (h : HInv HeadR M w K S) {ms : List RM} {A : Option Addr} {n c : Nat} (hx : Rl w A n c ms) (hl : Lies K (fun x => x ≠ 1) A ms) (hz : totalR ms ≤ 2097152) :
    Calls Tryz.prog 11 #[hv M, .slice A n c] w fun e w' => e = .returned (.int .i64 (err M S (recsOf ms) : Int)) ∧ ∃ K', HInv HeadR M w' K' (nxt M S (recsOf ms)) ∧ Mo K K' (fun x => x = 1) w w' := by
  cases M with
  | none => exact (P.addNil w ms A n c hx hz).mono fun e w' ⟨he, hb⟩ => ⟨he, K, trivial, Mo.same hb⟩
  | some x => exact (P.add w K 1 x.1 S ms A n c h hx hl hz).mono fun e w' ⟨he, K', h1, h2⟩ => ⟨he, K', h1, h2⟩
theorem radd {M : Mode} {w : World} {K : Nat → Nat} {S : HSt} (h : RInv M w K S) {ms : List RM} {A : Option Addr} {n c : Nat} (hx : Rl w A n c ms) (hl : Lies K (fun x => x = 0) A ms) (hn : n ≤ 1099511627776) :
    Calls Tryz.prog 12 #[rv M, .slice A n c] w fun e w' => e = .returned (.int .i64 (err M S (recsOf ms) : Int)) ∧ ∃ K', RInv M w' K' (nxt M S (recsOf ms)) ∧ Mo K K' (fun x => x = 2) w w' := by
  cases M with
  | none => exact (raddNil_any w _).mono fun e w' ⟨he, hw⟩ => ⟨he, K, trivial, hw ▸ Mo.refl K _ w⟩
  | some x => exact (radd_any w K 2 x.2 S ms A n c h (by decide) hx hl hn).mono fun e w' ⟨he, K', h1, h2⟩ => ⟨he, K', h1, h2⟩
/-- Records are answered, in rows of the number 3. -/
def LPost (HeadR : World → (Nat → Nat) → Nat → Nat → HSt → Prop) (M : Mode) (w : World) (K : Nat → Nat) (l : List Rec) (S : HSt) (e : Ending) (w' : World) : Prop :=
  ∃ v ms K', e = .returned v ∧ recsOf ms = l ∧ Res K' 3 ms v w' ∧ HInv HeadR M w' K' S ∧ Mo K K' (fun x => x = 1) w w'
theorem res_nil (K : Nat → Nat) (k : Nat) (w : World) : Res K k [] (.slice .none 0 0) w := ⟨⟨World.ownsRow_nil _ _ _ _, fun m hm => (by cases hm), fun m hm => (by cases hm), fun m hm => (by cases hm), List.Pairwise.nil⟩, fun q hq => (by cases hq), fun q ⟨m, hm, _⟩ => (by cases hm)⟩
theorem hall (P : Hed HeadR) {M : Mode} {w : World} {K : Nat → Nat} {S : HSt} (h : HInv HeadR M w K S) : Calls Tryz.prog 15 #[hv M] w (LPost HeadR M w K (lst M S) S) := by
  cases M with
  | none => exact (P.allNil w).mono fun e w' ⟨he, hb⟩ => ⟨_, [], K, he, rfl, res_nil K 3 w', trivial, Mo.same hb⟩
  | some x => exact (P.all w K 1 x.1 3 S h (by decide)).mono fun e w' ⟨v, ms, K', he, h1, h2, h3, h4⟩ => ⟨v, ms, K', he, h1, h2, h3, h4⟩
theorem htake (P : Hed HeadR) {M : Mode} {w : World} {K : Nat → Nat} {S : HSt} (h : HInv HeadR M w K S) : Calls Tryz.prog 20 #[hv M] w (LPost HeadR M w K (lst M S) (tkn M S)) := by
  cases M with
  | none => exact (P.takeNil w).mono fun e w' ⟨he, hb⟩ => ⟨_, [], K, he, rfl, res_nil K 3 w', trivial, Mo.same hb⟩
  | some x => exact (P.take w K 1 x.1 3 S h (by decide)).mono fun e w' ⟨v, ms, K', he, h1, h2, h3, h4⟩ => ⟨v, ms, K', he, h1, h2, h3, h4⟩
theorem hlen (P : Hed HeadR) {M : Mode} {w : World} {K : Nat → Nat} {S : HSt} (h : HInv HeadR M w K S) : Calls Tryz.prog 22 #[hv M] w fun e w' => e = .returned (.int .i64 (((lst M S).length : Nat) : Int)) ∧ ∃ K', HInv HeadR M w' K' S ∧ Mo K K' (fun x => x = 1) w w' := by
  cases M with
  | none => exact (P.lenNil w).mono fun e w' ⟨he, hb⟩ => ⟨he, K, trivial, Mo.same hb⟩
  | some x => exact (P.len w K 1 x.1 S h).mono fun e w' ⟨he, K', h1, h2⟩ => ⟨by rw [he]; unfold lst HdSpec.all; rw [sortR_len], K', h1, h2⟩
/-- Places are answered. -/
def PPost (HeadR : World → (Nat → Nat) → Nat → Nat → HSt → Prop) (M : Mode) (w : World) (K : Nat → Nat) (l : List UInt64) (S : HSt) (e : Ending) (w' : World) : Prop :=
  ∃ A c K', e = .returned (.slice A l.length c) ∧ l.length ≤ c ∧ c ≤ maxLen ∧ Rd w' w'.heap.size A (l.map B64) ∧ (∀ b off, A = some ⟨b, off, .none⟩ → 0 < l.length → K' b = 3) ∧ HInv HeadR M w' K' S ∧ Mo K K' (fun x => x = 1) w w'
theorem hfind (P : Hed HeadR) {M : Mode} {w : World} {K : Nat → Nat} {S : HSt} (h : HInv HeadR M w K S) (t : List UInt8) (ht : t.length ≤ maxLen) : Calls Tryz.prog 18 #[hv M, .string ⟨t.toArray⟩] w (PPost HeadR M w K (HdSpec.find (lst M S) t) S) := by
  cases M with
  | none => exact (P.findNil w t ht).mono fun e w' ⟨he, hb⟩ => ⟨.none, 0, K, he, Nat.le_refl _, by unfold maxLen; omega, Rd.nil_, fun b off e => (by cases e), trivial, Mo.same hb⟩
  | some x => exact (P.find w K 1 x.1 3 S t h (by decide) ht).mono fun e w' ⟨A, c, K', he, h1, h2, h3, h4, h5, h6⟩ => ⟨A, c, K', he, h1, h2, h3, h4, h5, h6⟩
theorem rall {M : Mode} {w : World} {K : Nat → Nat} {S : HSt} (h : RInv M w K S) : Calls Tryz.prog 16 #[rv M] w (HdRef.APost w K (lst M S)) := by
  cases M with
  | none => exact (rallNil_any w).mono fun e w' ⟨he, hw⟩ => hw ▸ ⟨.none, 0, [], he, rfl, rl_none .none (by unfold maxLen; omega), lies_none .none, Below.refl _ w⟩
  | some x => exact rall_any w K 2 x.2 S h
theorem rtake {M : Mode} {w : World} {K : Nat → Nat} {S : HSt} (h : RInv M w K S) : Calls Tryz.prog 21 #[rv M] w fun e w' => ∃ A c ms, e = .returned (.slice A ms.length c) ∧ ∃ K', recsOf ms = lst M S ∧ Rl w' A ms.length c ms ∧ Lies K' (fun x => x = 0) A ms ∧ RInv M w' K' (tkn M S) ∧ Mo K K' (fun x => x = 2) w w' := by
  cases M with
  | none => exact (rtakeNil_any w).mono fun e w' ⟨he, hw⟩ => hw ▸ ⟨.none, 0, [], he, K, rfl, rl_none .none (by unfold maxLen; omega), lies_none .none, trivial, Mo.refl K _ w⟩
  | some x => exact rtake_any w K 2 x.2 S h (by decide)
/-- What holds of a head's records: each is small. -/
theorem lst_small {M : Mode} {w : World} {K : Nat → Nat} {S : HSt} (h : RInv M w K S) : (lst M S).length ≤ 65536 ∧ ∀ r ∈ lst M S, sizeR r ≤ 1048576 := by
  cases M with
  | none => exact ⟨by simp [lst], fun r hr => by cases hr⟩
  | some x =>
    have hg : HdSpec.Good S := h.1
    refine ⟨by unfold lst HdSpec.all; rw [sortR_len]; exact hg.few, fun r hr => ?_⟩
    have hok := hg.ok r ((sortR_perm _).mem_iff.1 hr)
    have h1 := hok.line
    have h2 := hok.may.few
    have h3 : total r.labels ≤ r.labels.length * 288 := by
      have key : ∀ l : List Lab, (∀ x ∈ l, x.1.length ≤ 32 ∧ x.2.length ≤ 256) → total l ≤ l.length * 288 := by
        intro l
        induction l with
        | nil => intro _; simp [total]
        | cons x l ih =>
          intro h
          have h4 := ih (fun y hy => h y (by simp [hy]))
          have h5 := h x (by simp)
          simp only [total, List.map_cons, List.sum_cons, List.length_cons] at *
          omega
      exact key _ fun x hx => lerr_len (hok.may.each x hx)
    unfold sizeR
    omega
end
end Go.Proofs.YtkgmcabamhpjhaaGreat.HdBoth
