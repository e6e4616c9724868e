/- ManifestSwap in plain words: a save over another manifest with the disk going down at the k-th change, whatever is kept. No conditions but those that the theorems name. -/
import Derived.Test.YtjninegpaoblfaaGreatDoorMfDisks
namespace Go.Proofs.YtjninegpaoblfaaGreatDoor.MfSwapP
open Go DkSpec PdLook MfSpec MfDisk

def full (x : F) : F := x.map fun p => (p.1, p.1.length)
noncomputable def xOf (o : Man) : F := if may o = true then some (mbytes o, 0) else none
noncomputable def oldOf (o : Man) : Man := if may o = true then o else MfSpec.first
theorem e1_of (o : Man) : save o DkSpec.fresh = (if may o = true then 0 else 1, dk (full (xOf o)) none false false (-1)) := by
  unfold xOf
  by_cases h : may o = true
  · rw [if_pos h, if_pos h, mk_fresh, save_up h]
    rfl
  · rw [if_neg h, if_neg h, save_no h]
    rfl
theorem load_dk {o : Man} (ho : Ok o) (y : F) (fl : Bool) (left : Int) : MfSpec.load (dk (full (xOf o)) y fl false left) = (0, oldOf o) := by
  unfold MfSpec.load xOf oldOf full
  rw [read_mk]
  by_cases h : may o = true
  · rw [if_pos h, if_pos h]
    simp only [Option.map_some]
    rw [if_neg (by decide), if_neg (by decide), read_is ⟨ho, h, rfl⟩]
  · rw [if_neg h, if_neg h]
    rfl
theorem load_new {f : Man} (hf : Ok f) (h : may f = true) (y : F) (fl : Bool) (left : Int) : MfSpec.load (dk (some (mbytes f, (mbytes f).length)) y fl false left) = (0, f) := by
  unfold MfSpec.load
  rw [read_mk]
  simp only
  rw [if_neg (by decide), if_neg (by decide), read_is ⟨hf, h, rfl⟩]
theorem e3_of {f : Man} (h : may f = true) (x : F) (k : Nat) (hk : k < 7) : ∃ (y : F) (off : Bool) (left : Int), save f (arm (k : Int) (dk x none false false (-1))) = if k < 4 then (23, dk x y false off left) else (0, dk (some (mbytes f, (mbytes f).length)) none false off left) := by
  rw [arm_mk]
  have hk7 : k = 0 ∨ k = 1 ∨ k = 2 ∨ k = 3 ∨ k = 4 ∨ k = 5 ∨ k = 6 := by omega
  rcases hk7 with rfl | rfl | rfl | rfl | rfl | rfl | rfl
  · exact ⟨none, true, 0, by rw [if_pos (by decide)]; exact save_off h _ _ _ _⟩
  · exact ⟨none, true, 0, by rw [if_pos (by decide)]; exact (save_up h _ _ _ _).trans rfl⟩
  · exact ⟨some (mbytes f, 0), true, 0, by rw [if_pos (by decide)]; exact (save_up h _ _ _ _).trans rfl⟩
  · exact ⟨some (mbytes f, (mbytes f).length), true, 0, by rw [if_pos (by decide)]; exact (save_up h _ _ _ _).trans rfl⟩
  · exact ⟨none, true, 0, by rw [if_neg (by decide)]; exact (save_up h _ _ _ _).trans rfl⟩
  · exact ⟨none, false, 1, by rw [if_neg (by decide)]; exact (save_up h _ _ _ _).trans rfl⟩
  · exact ⟨none, false, 2, by rw [if_neg (by decide)]; exact (save_up h _ _ _ _).trans rfl⟩
noncomputable def E3 (o f : Man) (k : Nat) : Nat × DSt := save f (arm (k : Int) (save o DkSpec.fresh).2)
noncomputable def D4 (o f : Man) (k : Nat) (ks : List Int) : DSt := restart ks (E3 o f k).2
noncomputable def E5 (o f : Man) (k : Nat) (ks : List Int) : Nat × DSt := save f (D4 o f k ks)
structure Facts (o f : Man) (k : Nat) (ks : List Int) : Prop where
  load4 : MfSpec.load (D4 o f k ks) = (0, if (E3 o f k).1 = 0 then f else oldOf o)
  no : ¬ may f = true → (E3 o f k).1 = 1
  yes : may f = true → ((E3 o f k).1 = 0 ↔ 4 ≤ k)
  e5 : may f = true → (E5 o f k ks).1 = 0
  load5 : may f = true → MfSpec.load (E5 o f k ks).2 = (0, f)
  list5 : may f = true → DkSpec.list (E5 o f k ks).2 = (0, [nm])
  s1 : Small (save o DkSpec.fresh).2
  s2 : Small (arm (k : Int) (save o DkSpec.fresh).2)
  s3 : Small (E3 o f k).2
  s4 : Small (D4 o f k ks)
  s5 : Small (E5 o f k ks).2
theorem facts {o f : Man} (ho : Ok o) (hf : Ok f) (k : Nat) (hk : k < 7) (ks : List Int) : Facts o f k ks := by
  have s1 := small_save small_fresh ho
  have s2 : Small (arm (k : Int) (save o DkSpec.fresh).2) := small_arm s1 (by omega)
  have s3 : Small (E3 o f k).2 := small_save s2 hf
  have s4 : Small (D4 o f k ks) := small_restart s3 ks
  have s5 : Small (E5 o f k ks).2 := small_save s4 hf
  by_cases hm : may f = true
  · obtain ⟨y, off, left, h3⟩ := e3_of hm (full (xOf o)) k hk
    have hE : E3 o f k = if k < 4 then (23, dk (full (xOf o)) y false off left) else (0, dk (some (mbytes f, (mbytes f).length)) none false off left) := by
      unfold E3
      rw [e1_of]
      exact h3
    by_cases h4 : k < 4
    · rw [if_pos h4] at hE
      obtain ⟨y', hD⟩ : ∃ y', D4 o f k ks = dk (full (xOf o)) y' false false (-1) := by
        unfold D4
        rw [hE]
        exact res_mk ks (xOf o) y false off left
      have hE5 : E5 o f k ks = (0, dk (some (mbytes f, (mbytes f).length)) none false false (-1)) := by
        unfold E5
        rw [hD]
        exact (save_up hm _ _ _ _).trans rfl
      refine ⟨?_, fun h => absurd hm h, fun _ => ?_, fun _ => by rw [hE5], fun _ => by rw [hE5]; exact load_new hf hm _ _ _, fun _ => by rw [hE5]; exact list_mk _ _ _, s1, s2, s3, s4, s5⟩
      · rw [hE, if_neg (by simp), hD]
        exact load_dk ho _ _ _
      · rw [hE]
        constructor
        · intro h; cases h
        · intro h; omega
    · rw [if_neg h4] at hE
      obtain ⟨y', hD⟩ : ∃ y', D4 o f k ks = dk (some (mbytes f, (mbytes f).length)) y' false false (-1) := by
        unfold D4
        rw [hE]
        exact res_mk ks (some (mbytes f, 0)) none false off left
      have hE5 : E5 o f k ks = (0, dk (some (mbytes f, (mbytes f).length)) none false false (-1)) := by
        unfold E5
        rw [hD]
        exact (save_up hm _ _ _ _).trans rfl
      refine ⟨?_, fun h => absurd hm h, fun _ => ?_, fun _ => by rw [hE5], fun _ => by rw [hE5]; exact load_new hf hm _ _ _, fun _ => by rw [hE5]; exact list_mk _ _ _, s1, s2, s3, s4, s5⟩
      · rw [hE, if_pos rfl, hD]
        exact load_new hf hm _ _ _
      · rw [hE]
        exact ⟨fun _ => by omega, fun _ => rfl⟩
  · have hE : E3 o f k = (1, arm (k : Int) (dk (full (xOf o)) none false false (-1))) := by
      unfold E3
      rw [e1_of]
      exact save_no hm _
    obtain ⟨y', hD⟩ : ∃ y', D4 o f k ks = dk (full (xOf o)) y' false false (-1) := by
      unfold D4
      rw [hE, arm_mk]
      exact res_mk ks (xOf o) none false _ _
    refine ⟨?_, fun _ => by rw [hE], fun h => absurd h hm, fun h => absurd h hm, fun h => absurd h hm, fun h => absurd h hm, s1, s2, s3, s4, s5⟩
    rw [hE, if_neg (by simp), hD]
    exact load_dk ho _ _ _
end Go.Proofs.YtjninegpaoblfaaGreatDoor.MfSwapP
