/- Reading a manifest's bytes, in plain words: of the numbers that stand in the payload a manifest is made; if its bytes are the ones that were read it is the one, else there is none. No conditions but those that the theorems name. -/
import Derived.Test.YtjninegpaoblfaaGreatDoorMfSpec
namespace Go.Proofs.YtjninegpaoblfaaGreatDoor.MfRead
open Go Plain Zig Framed Reading BackF MfSpec

/-- The number at a place, if it is small. -/
def numb (L : List UInt64) (i : Nat) : Int := match L[i]? with
  | some x => if x.toNat ≤ 2000000000 then (x.toNat : Int) else -1
  | none => -1
def at64 (L : List UInt64) (i : Nat) : Nat := (L.getD i 0).toNat
def segAt (L : List UInt64) (j : Nat) : Sg := ⟨numb L (5 + 4 * j), numb L (5 + 4 * j + 1), zag (at64 L (5 + 4 * j + 2)), zag (at64 L (5 + 4 * j + 3))⟩
def segTo (L : List UInt64) (k : Nat) : List Sg := (List.range k).map (segAt L)
theorem segTo_succ (L : List UInt64) (k : Nat) : segTo L (k + 1) = segTo L k ++ [segAt L k] := by unfold segTo; rw [List.range_succ, List.map_append]; rfl
theorem segTo_len (L : List UInt64) (k : Nat) : (segTo L k).length = k := by simp [segTo]
def candTo (L : List UInt64) (k : Nat) : Man := ⟨numb L 0, numb L 1, L.getD 2 0, zag (at64 L 3), segTo L k⟩
def cand (L : List UInt64) : Man := candTo L ((L.length - 5) / 4)
theorem numb_in (L : List UInt64) (i : Nat) : In64 (numb L i) := by
  unfold numb
  split
  · split <;> constructor <;> omega
  · constructor <;> omega
theorem at_lt (L : List UInt64) (i : Nat) : at64 L i < 18446744073709551616 := (L.getD i 0).toNat_lt
theorem zag_in (L : List UInt64) (i : Nat) : In64 (zag (at64 L i)) := zag_bound (by omega) (by have := at_lt L i; omega)
theorem ok_seg (L : List UInt64) (j : Nat) : SgOk (segAt L j) := ⟨numb_in _ _, numb_in _ _, zag_in _ _, zag_in _ _⟩
theorem ok_cand (L : List UInt64) (k : Nat) : Ok (candTo L k) := ⟨numb_in _ _, numb_in _ _, zag_in _ _, fun s hs => by
  obtain ⟨j, _, rfl⟩ := List.mem_map.1 (show s ∈ (List.range k).map (segAt L) from hs)
  exact ok_seg L j⟩
theorem numb_of {L : List UInt64} {i : Nat} {n : Int} (h : L[i]? = some (u n)) (h0 : 0 ≤ n) (h1 : n ≤ 2000000000) : numb L i = n := by
  unfold numb
  rw [h]
  simp only
  rw [u_toNat (by omega), if_pos (by omega)]
  omega
theorem zag_of {L : List UInt64} {i : Nat} {n : Int} (h : L[i]? = some (u (zig n))) (hn : In64 n) : zag (at64 L i) = n := by
  have hz := zig64 hn
  have : ((at64 L i : Nat) : Int) = zig n := by
    unfold at64
    rw [List.getD, h]
    simp only [Option.getD_some]
    rw [u_toNat (by omega)]
    omega
  rw [this, zag_zig]
theorem flat_at : ∀ {l : List Sg} {j : Nat} {s : Sg}, l[j]? = some s → (l.flatMap segNums)[4 * j]? = some (u s.id) ∧ (l.flatMap segNums)[4 * j + 1]? = some (u s.count) ∧ (l.flatMap segNums)[4 * j + 2]? = some (u (zig s.least)) ∧ (l.flatMap segNums)[4 * j + 3]? = some (u (zig s.most))
  | [], j, s, h => by simp at h
  | x :: l, 0, s, h => by simp at h; subst h; simp [segNums]
  | x :: l, j + 1, s, h => by
    have ih := flat_at (l := l) (j := j) (s := s) (by simpa using h)
    have e : ∀ c, ((x :: l).flatMap segNums)[4 * (j + 1) + c]? = (l.flatMap segNums)[4 * j + c]? := fun c => by
      rw [List.flatMap_cons, List.getElem?_append_right (by simp [segNums]; omega)]
      congr 1
      simp [segNums]
      omega
    exact ⟨(e 0).trans ih.1, (e 1).trans ih.2.1, (e 2).trans ih.2.2.1, (e 3).trans ih.2.2.2⟩
theorem nums_at (m : Man) {j : Nat} {s : Sg} (h : m.segs[j]? = some s) : (nums m)[5 + 4 * j]? = some (u s.id) ∧ (nums m)[5 + 4 * j + 1]? = some (u s.count) ∧ (nums m)[5 + 4 * j + 2]? = some (u (zig s.least)) ∧ (nums m)[5 + 4 * j + 3]? = some (u (zig s.most)) := by
  have e : ∀ c, (nums m)[5 + 4 * j + c]? = (m.segs.flatMap segNums)[4 * j + c]? := fun c => by
    unfold nums
    rw [List.getElem?_append_right (by simp [headNums]; omega)]
    congr 1
    simp [headNums]
    omega
  have h := flat_at h
  exact ⟨(e 0).trans h.1, (e 1).trans h.2.1, (e 2).trans h.2.2.1, (e 3).trans h.2.2.2⟩
/-- Of a manifest's own numbers it is made again. -/
theorem cand_nums {m : Man} (h : May m) : cand (nums m) = m := by
  have hl : ((nums m).length - 5) / 4 = m.segs.length := by rw [nums_len]; omega
  have hsegs : segTo (nums m) m.segs.length = m.segs := by
    refine List.ext_getElem? fun j => ?_
    unfold segTo
    rw [List.getElem?_map]
    rcases Nat.lt_or_ge j m.segs.length with hj | hj
    · have hs : m.segs[j]? = some m.segs[j] := List.getElem?_eq_getElem hj
      rw [List.getElem?_range hj, hs]
      simp only [Option.map_some, Option.some.injEq]
      obtain ⟨h0, h1, h2, h3⟩ := nums_at m hs
      have hm := h.segs _ (List.getElem_mem hj)
      have ho := h.ok.segs _ (List.getElem_mem hj)
      have hn := h.head.next
      unfold segAt
      rw [numb_of h0 (by have := hm.id; omega) (by have := hm.id; omega), numb_of h1 (by have := hm.count; omega) (by have := hm.count; omega), zag_of h2 ho.least, zag_of h3 ho.most]
    · rw [List.getElem?_eq_none hj, List.getElem?_eq_none (by simpa using hj)]
      rfl
  unfold cand candTo
  rw [hl, hsegs]
  have g0 : (nums m)[0]? = some (u m.wal) := rfl
  have g1 : (nums m)[1]? = some (u m.next) := rfl
  have g3 : (nums m)[3]? = some (u (zig m.mark)) := rfl
  rw [numb_of g0 (by have := h.head.wal; omega) (by have := h.head.wal; omega), numb_of g1 (by have := h.head.next; omega) (by have := h.head.next; omega), zag_of g3 h.ok.mark]
  rfl
section
variable {b : List UInt8}
theorem is_payload {m : Man} (h : Is b m) : rdE b 0 = 0 ∧ rdP b 0 = encs (nums m) := by
  obtain ⟨ho, hm, hb⟩ := h
  have hl := encs_len (may_of ho hm).head
  have := rd_frm0 (encs (nums m)) (by omega)
  rw [← hb]
  exact ⟨this.1, this.2.1⟩
theorem none_frame (h : rdE b 0 ≠ 0) : read b = (30, zero) := read_none fun _ hm => h (is_payload hm).1
theorem none_num {ns : List UInt64} {k : Nat} (hk : k < (rdP b 0).length) (hn : encs ns = (rdP b 0).take k) (h : getE (rdP b 0) k ≠ 0) : read b = (30, zero) := read_none fun _ hm => h (next_num (by omega) hn (is_payload hm).2.symm hk)
theorem none_few {L : List UInt64} (hL : encs L = rdP b 0) (h : L.length < 5) : read b = (30, zero) := read_none fun m hm => by
  have := encs_inj (hL.trans (is_payload hm).2)
  rw [this, nums_len] at h
  omega
theorem read_cand {L : List UInt64} (hL : encs L = rdP b 0) : read b = if (write (cand L)).1 = 0 ∧ (write (cand L)).2 = b then (0, cand L) else (30, zero) := by
  split
  · rename_i h
    have hm : may (cand L) = true := by
      by_cases hm : may (cand L) = true
      · exact hm
      · rw [write_no hm] at h
        exact absurd h.1 (by decide)
    rw [write_ok hm] at h
    exact read_is ⟨ok_cand _ _, hm, h.2⟩
  · rename_i h
    refine read_none fun m hm => h ?_
    have hLm := encs_inj (hL.trans (is_payload hm).2)
    rw [hLm, cand_nums (may_of hm.1 hm.2.1), write_ok hm.2.1]
    exact ⟨rfl, hm.2.2⟩
end
theorem encs_ge (l : List UInt64) : l.length ≤ (encs l).length := by
  induction l with
  | nil => exact Nat.zero_le _
  | cons x l ih =>
    rw [encs_cons, List.length_append, List.length_cons]
    have := Lib.uvarint_pos x.toNat
    omega
theorem payload_len (b : List UInt8) (at_ : Int) : (rdP b at_).length ≤ 65536 := by
  unfold rdP
  split
  · rename_i h
    unfold rdE at h
    split at h
    · contradiction
    · split at h
      · omega
      · rename_i h2
        unfold pay
        rw [List.length_take]
        omega
  · simp
end Go.Proofs.YtjninegpaoblfaaGreatDoor.MfRead
