/- The contract of the program's word: of a run's runes the small forms of the first 32. Condition: the run has at most 2^40 bytes. -/
import Derived.Test.YtebdolfcemplnaaTxSpec
import Derived.Test.YtebdolfcemplnaaUtFold
namespace Go.Proofs.Ytebdolfcemplnaa.TxWord
open Go Go.RowKit UtSpec UtShelf UtSmall UtRange UtFold TxSpec

theorem encs_take {cur : List Nat} {k : Nat} (h : k < cur.length) : encs (cur.take (k + 1)) = encs (cur.take k) ++ enc cur[k] := by
  rw [List.take_succ_eq_append_getElem h, encs_append]
  simp [encs]
theorem encs_split {cur : List Nat} {k : Nat} (h : k < cur.length) : encs cur = encs (cur.take k) ++ (enc cur[k] ++ encs (cur.drop (k + 1))) := by
  conv => lhs; rw [← List.take_append_drop k cur, List.drop_eq_getElem_cons h, encs_append, encs_cons]
theorem dec_at {cur : List Nat} (hs : ∀ r ∈ cur, sc r) {k : Nat} (h : k < cur.length) : dec ((encs cur).drop (encs (cur.take k)).length) = (cur[k], (enc cur[k]).length) := by
  rw [encs_split h, List.drop_left]
  exact dec_enc (hs _ (List.getElem_mem h)) _
theorem ext_pre (l m : List UInt8) : (⟨(l ++ m).toArray⟩ : ByteArray).extract 0 l.length = ⟨l.toArray⟩ := by
  apply ByteArray.ext
  rw [ByteArray.data_extract]
  apply Array.ext'
  simp
theorem fold_first (cur : List Nat) (hs : ∀ r ∈ cur, sc r) : fold (encs (cur.take 32)) = wof cur := by
  rw [fold_of_encs (fun r hr => hs r (List.mem_of_mem_take hr))]
  rfl

theorem fold_at (s : ByteArray) (w : World) (F : List UInt8) (hs : s.size ≤ 281474976710656) (hb : fold s.data.toList = F) (hF : F.length + 4 ≤ 140737488355328) : Calls Try.prog 20 #[.string s] w fun e w' => e = .returned (.string ⟨F.toArray⟩) ∧ Below w.heap.size w w' := by
  subst hb
  exact fold_any s w hs hF
def WRel (cur : List Nat) (s : ByteArray) (w : World) (vn : Value) (wr : World) : Prop :=
  ∃ k : Nat, k ≤ cur.length ∧ k ≤ 32 ∧ vn = .int .i64 (k : Int) ∧ wr.heap[w.heap.size]? = some (.stringIter s (encs (cur.take k)).length) ∧ Hid (Below w.heap.size w wr)

set_option maxHeartbeats 1600000 in
set_option maxRecDepth 100000 in
/-- text.word. -/
theorem tword_any (cur : List Nat) (hs : ∀ r ∈ cur, sc r) (w : World) (hl : (encs cur).length ≤ 1099511627776) :
    Calls Try.prog 28 #[.string ⟨(encs cur).toArray⟩] w fun e w' => e = .returned (.string ⟨(wof cur).toArray⟩) ∧ Below w.heap.size w w' := by
  obtain ⟨s, hsd⟩ : ∃ s : ByteArray, s = ⟨(encs cur).toArray⟩ := ⟨_, rfl⟩
  have hl2 : s.data.toList = encs cur := by rw [hsd]
  have hsz : s.size = (encs cur).length := by rw [hsd]; show (encs cur).toArray.size = _; simp
  have hwl : (wof cur).length + 4 ≤ 140737488355328 := by
    have h := encs_len (rs := (cur.take 32).map smallN) (fun r hr => by
      obtain ⟨x, hx, rfl⟩ := List.mem_map.1 hr
      exact smallN_sc (hs x (List.mem_of_mem_take hx)))
    unfold wof
    rw [List.length_map, List.length_take] at h
    omega
  have HL2 := Lib.hid hl2
  have HSZ := Lib.hid hsz
  have HSD := Lib.hid hsd
  rw [← hsd]
  have hss : s.size ≤ 1099511627776 := by omega
  clear hl2 hsz hsd hl
  obtain ⟨W, hW⟩ : ∃ W : ByteArray, W = ⟨(wof cur).toArray⟩ := ⟨_, rfl⟩
  rw [← hW]
  have HW := Lib.hid hW
  clear hW
  go_enter Try.func28, Try.ntmps28
  go_wp2
  go_loopw [3] (fun v wr => WRel cur s w v wr) (fun _ wr => s.size - wr.iterPos w.heap.size)
  case atStart => exact ⟨0, Nat.zero_le _, by omega, rfl, World.iter_heap w s 0, Lib.hid ((Below.refl _ w).alloc (Nat.le_refl _) _)⟩
  case round =>
    obtain ⟨k, hk, hk32, rfl, hit, HB⟩ := hrel
    by_cases hlt : k < cur.length
    · have hp : (encs (cur.take k)).length < s.size := by
        have h1 := (enc_len (hs _ (List.getElem_mem hlt))).1
        have h2 := congrArg List.length (encs_split hlt)
        simp only [List.length_append] at h2
        rw [HSZ.out]
        omega
      have hd := dec_at hs hlt
      rw [← HL2.out, ← decode_dec] at hd
      have hnx : ∀ ty, (Instr.next (.pointer (some ⟨w.heap.size, 0, none⟩)) true ty).run Try.prog wr = _ := fun ty => Lib.run_next_any_at wr w.heap.size s (encs (cur.take k)).length ty hit hp
      rw [hd] at hnx
      obtain ⟨p, hpe⟩ : ∃ p, (encs (cur.take k)).length = p := ⟨_, rfl⟩
      obtain ⟨n, hne⟩ : ∃ n, (enc cur[k]).length = n := ⟨_, rfl⟩
      obtain ⟨r, hre⟩ : ∃ r, cur[k] = r := ⟨_, rfl⟩
      have HP2 : Hid (p + n = (encs (cur.take (k + 1))).length) := Lib.hid (by rw [encs_take hlt, List.length_append, hpe, hne])
      have HPE := Lib.hid hpe
      have hn0 := (enc_len (hs _ (List.getElem_mem hlt))).1
      have hpn : p + n ≤ s.size := by
        have h2 := congrArg List.length (encs_split hlt)
        simp only [List.length_append] at h2
        rw [HSZ.out]
        omega
      rw [hne] at hn0
      rw [hpe, hne, hre] at hnx
      rw [hpe] at hit hp
      have hit2 := Lib.iterAt_heap wr w.heap.size s p (p + n) hit
      have HB2 := Lib.hid (Lib.below_iterAt HB.out (k := w.heap.size) (Nat.le_refl _) s (p + n))
      clear hpe hne hre hd
      by_cases h32 : k = 32
      · subst h32
        have he : s.extract 0 p = ⟨(encs (cur.take 32)).toArray⟩ := by
          rw [HSD.out, ← HPE.out]
          conv => lhs; rw [encs_split hlt]
          exact ext_pre _ _
        obtain ⟨S, hS⟩ : ∃ S, s.extract 0 p = S := ⟨_, rfl⟩
        have HFO : Hid (∀ wx, Calls Try.prog 20 #[.string S] wx fun e w' => e = .returned (.string W) ∧ Below wx.heap.size wx w') := Lib.hid (fun wx => by
          have h := fold_at S wx (wof cur) (by rw [← hS, ByteArray.size_extract]; omega) (by rw [← hS, he]; exact fold_first cur hs) hwl
          rw [← HW.out] at h
          exact h)
        clear he
        go_wp2_with fail
        refine (HFO.out _).mono ?_
        rintro e w3 ⟨rfl, hb3⟩
        go_wp2
        go_ret
        exact ⟨rfl, HB2.out.trans (hb3.mono HB2.out.size)⟩
      · have h32' : ((k : Int) == 32) = false := by simp; omega
        go_wp2
        go_roundw
        case rel => exact ⟨k + 1, by omega, by omega, by go_num, by rw [← HP2.out]; exact hit2, HB2⟩
        case measure =>
          simp only [World.iterPos, hit2, hit]
          omega
    · have hkl : k = cur.length := by omega
      subst hkl
      have hp : ¬ (encs (cur.take cur.length)).length < s.size := by rw [List.take_length, HSZ.out]; omega
      have hnx : ∀ ty, (Instr.next (.pointer (some ⟨w.heap.size, 0, none⟩)) true ty).run Try.prog wr = _ := fun ty => Lib.run_next_end_at wr w.heap.size s (encs (cur.take cur.length)).length ty hit hp
      have HFO : Hid (∀ wx, Calls Try.prog 20 #[.string s] wx fun e w' => e = .returned (.string W) ∧ Below wx.heap.size wx w') := Lib.hid (fun wx => by
        have h := fold_at s wx (wof cur) (by omega) (by rw [HL2.out]; have h5 := fold_first cur hs; rw [List.take_of_length_le hk32] at h5; exact h5) hwl
        rw [← HW.out] at h
        exact h)
      clear hp hlt
      go_wp2_with fail
      refine (HFO.out _).mono ?_
      rintro e w3 ⟨rfl, hb3⟩
      go_wp2
      go_ret
      exact ⟨rfl, HB.out.trans (hb3.mono HB.out.size)⟩
end Go.Proofs.Ytebdolfcemplnaa.TxWord
