/- The statement's own 'copied': the same records in rows of their own. Condition: at most 2^40 records with at most 2^40 labels each. -/
import Derived.Test.YtkgmcabamhpjhaaGreatHdMems
import Derived.Test.YtkgmcabamhpjhaaGreatHdSorts
namespace Go.Proofs.YtkgmcabamhpjhaaGreat.HdCopied
open Go Go.RowKit Words AppN Less LbSpec LbMem LbRef RcSpec RcAll RcMem HdMem HdKm HdSort UtOwn Km

def CRel (w : World) (l : List RM) (vo vi : Value) (wr : World) : Prop := ∃ (k : Nat) (ms : List RM), k ≤ l.length ∧ vi = .int .i64 (k : Int) ∧ Hid (recsOf ms = recsOf (l.take k)) ∧ Hid (ArN w ms vo wr)
/-- What copied answers. -/
def CPost (w : World) (l : List RM) (e : Ending) (w' : World) : Prop := ∃ v ms, e = .returned v ∧ recsOf ms = recsOf l ∧ ArN w ms v w'

set_option maxHeartbeats 6400000 in
set_option maxRecDepth 100000 in
theorem copied_any (w : World) (l : List RM) (A : Option Addr) (n c : Nat) (h : Rl w A n c l) (hn : n ≤ 1099511627776) (hlb : ∀ m ∈ l, m.1.labels.length ≤ 1099511627776) :
    Calls Tryz.prog 10 #[.slice A n c] w (CPost w l) := by
  obtain ⟨i1, gi, gz0, gz1, gz2⟩ := info_parts info_record
  obtain ⟨l1, li, lz0, lz1, lz2⟩ := info_parts info_label
  have HL := Lib.hid h
  have HLB := Lib.hid hlb
  obtain ⟨rfl, hnc, hcm, _, _⟩ := h
  unfold maxLen at hcm
  clear hlb
  go_enter Tryz.func10, Tryz.ntmps10
  go_wp2
  go_loopw [3, 4] (fun vo vi wr => CRel w l vo vi wr) (fun _ vi _ => l.length - (intOf vi).toNat)
  case atStart => exact ⟨0, [], Nat.zero_le _, rfl, Lib.hid rfl, Lib.hid (arn_nil w)⟩
  case round =>
    obtain ⟨k, ms, hk, rfl, HR, HA⟩ := hrel
    by_cases hlt : k < l.length
    · obtain ⟨b1, o1, rfl, hbb, hc⟩ := HL.out.rd (by rw [flatR_len]; omega)
      obtain ⟨q0, q1, q2, q3⟩ := cellsR hc hlt
      have hbw := HA.out.below
      have k0 := (hbw.cell (p := ⟨b1, o1 + k * 4, .none⟩) hbb).trans q0
      have k1 := (hbw.cell (p := ⟨b1, o1 + k * 4 + 1, .none⟩) hbb).trans q1
      have k2 := (hbw.cell (p := ⟨b1, o1 + k * 4 + 2, .none⟩) hbb).trans q2
      have k3 := (hbw.cell (p := ⟨b1, o1 + k * 4 + 3, .none⟩) hbb).trans q3
      have hok : Okm wr l[k] := (HL.out.each _ (List.getElem_mem hlt)).below hbw
      have hln := HLB.out _ (List.getElem_mem hlt)
      have hml : ms.length ≤ k := by
        have h1 := congrArg List.length HR.out
        simp only [recsOf, List.length_map, List.length_take] at h1
        omega
      have HSN : Hid (recsOf (l.take (k + 1)) = recsOf (l.take k) ++ [(l[k]).1]) := Lib.hid (by rw [List.take_succ_eq_append_getElem hlt]; unfold recsOf; rw [List.map_append]; rfl)
      unfold slV at k2
      generalize l[k] = m at *
      obtain ⟨⟨tm, s, ls, ln⟩, Am, nm, cm⟩ := m
      simp only at k0 k1 k2 k3 hln HSN
      obtain ⟨e1, hm1, hm2, hm3⟩ := hok.labs
      simp only at e1 hm1 hm2 hm3
      subst e1
      have HFT := Lib.hid hok.fits
      -- the box, the empty row
      obtain ⟨wB, hwB⟩ : ∃ wB, wB = ((wr.alloc (.cells #[.int .i64 tm, .int .u64 (s : Int), .slice Am ls.length cm, .string ⟨ln.toArray⟩] 47)).alloc (.cells #[] 70)) := ⟨_, rfl⟩
      have hsB : wB.heap.size = wr.heap.size + 1 + 1 := by rw [hwB]; simp
      have hbB : Below wr.heap.size wr wB := by rw [hwB]; exact ((Below.refl _ wr).alloc (Nat.le_refl _) _).alloc (by simp) _
      have hboxB : wB.heap[wr.heap.size]? = some (.cells #[.int .i64 tm, .int .u64 (s : Int), .slice Am ls.length cm, .string ⟨ln.toArray⟩] 47 (0, 0)) := by
        rw [hwB]
        exact (((Below.refl _ (wr.alloc _)).alloc (Nat.le_refl _) _).block _ (by simp)).trans (heap_alloc_new wr _)
      have hoB : wB.ownsRow (wr.heap.size + 1) 70 2 (.slice (some ⟨wr.heap.size + 1, 0, .none⟩) 0 0) 0 [] := by
        have h1 := World.ownsRow_lit (base := wr.heap.size + 1) (e := 70) (size := 2) (wr.alloc (.cells #[.int .i64 tm, .int .u64 (s : Int), .slice Am ls.length cm, .string ⟨ln.toArray⟩] 47)) #[] 0 (by simp) (by unfold maxLen; omega) rfl
        rw [show (wr.alloc (.cells #[.int .i64 tm, .int .u64 (s : Int), .slice Am ls.length cm, .string ⟨ln.toArray⟩] 47)).heap.size = wr.heap.size + 1 by simp] at h1
        rw [hwB]
        exact h1
      have HOB := Lib.hid hoB
      have HRB := Lib.hid (hm3.below hbB)
      have HBB := Lib.hid hbB
      have HXB := Lib.hid hboxB
      have HSB := Lib.hid hsB
      have c2 := HdRef.cell_of_heap (j := 2) hboxB rfl
      clear hc q0 q1 q2 q3 hok hm3 hsB hbB hboxB hoB
      subst hwB
      have hsz1 := HSB.out
      go_wp2_with (at_builtin; refine wpList_append_rd _ rfl (.tmp 16) (.tmp 18) 45 rfl (wr.heap.size + 1) 2 70 l1 (.agg #[.string ByteArray.empty, .string ByteArray.empty]) 32 Tryz.underlying45 li lz0 lz1 lz2 rfl (by omega) _ _ _ rfl HOB.out wr.heap.size Am ls.length cm (flat ls) rfl (flat_len ls) HRB.out (flat_ones ls) (by unfold maxLen; omega) (by omega) (by omega) ?_)
      intro vL wC hownL hgL hvL
      have hownL2 : wC.ownsRow (wr.heap.size + 1) 70 2 vL ls.length (flat ls) := by simpa using hownL
      obtain ⟨AL, cL, rfl, hl1, hl2, hl3⟩ := own_row hownL2 (flat_len ls)
      have hbC : Below wr.heap.size wr wC := HBB.out.grown hgL HBB.out.size (fun g h => by have := (HOB.out.lt g h).1; omega)
      have hboxC : wC.heap[wr.heap.size]? = some (.cells #[.int .i64 tm, .int .u64 (s : Int), .slice Am ls.length cm, .string ⟨ln.toArray⟩] 47 (0, 0)) := (hgL.block _ (by omega) (fun e => by have := (HOB.out.lt _ e.symm).1; omega)).trans HXB.out
      have g2 := HdRef.cell_of_heap (j := 2) hboxC rfl
      have gf := HdRef.frozen_of_heap (j := 2) hboxC
      have hboxD := heap_setCell_same wC wr.heap.size 2 _ _ (.slice AL ls.length cL) hboxC
      have hbD : Below wr.heap.size wr (wC.setCell ⟨wr.heap.size, 2, .none⟩ (.slice AL ls.length cL)) := hbC.setCell (p := ⟨wr.heap.size, 2, .none⟩) (Nat.le_refl _) _
      have d0 := HdRef.cell_of_heap (j := 0) hboxD rfl
      have d1 := HdRef.cell_of_heap (j := 1) hboxD rfl
      have d2 := HdRef.cell_of_heap (j := 2) hboxD rfl
      have d3 := HdRef.cell_of_heap (j := 3) hboxD rfl
      have hownD : (wC.setCell ⟨wr.heap.size, 2, .none⟩ (.slice AL ls.length cL)).ownsRow (wr.heap.size + 1) 70 2 (.slice AL ls.length cL) ls.length (flat ls) := ownsRow_setCell_other hownL2 (fun e => by have h9 : wr.heap.size + 1 ≤ wr.heap.size := (hownL2.lt _ e).1; omega) _
      have hbE : Below (wC.setCell ⟨wr.heap.size, 2, .none⟩ (.slice AL ls.length cL)).heap.size (wC.setCell ⟨wr.heap.size, 2, .none⟩ (.slice AL ls.length cL)) ((wC.setCell ⟨wr.heap.size, 2, .none⟩ (.slice AL ls.length cL)).alloc (.cells #[.int .i64 tm, .int .u64 (s : Int), .slice AL ls.length cL, .string ⟨ln.toArray⟩] 47)) := (Below.refl _ (wC.setCell ⟨wr.heap.size, 2, .none⟩ (.slice AL ls.length cL))).alloc (Nat.le_refl _) _
      have HAE := Lib.hid (HA.out.call (hbD.trans (hbE.mono hbD.size)))
      have HMN : Hid (MNew w u3 ms ((⟨tm, s, ls, ln⟩, AL, ls.length, cL) : RM) ((wC.setCell ⟨wr.heap.size, 2, .none⟩ (.slice AL ls.length cL)).alloc (.cells #[.int .i64 tm, .int .u64 (s : Int), .slice AL ls.length cL, .string ⟨ln.toArray⟩] 47))) := Lib.hid ⟨HFT.out, own_monoN (LbCanon.own_keepN hownD hbE) (by have := HA.out.below.size; omega), fun g h1 h2 => by
          have := (HA.out.own.lt g h1).2
          have := (hownD.lt g h2).1
          omega, fun x hx g h1 h2 => by
          have := ((HA.out.each x hx).lt g h1).2
          have := (hownD.lt g h2).1
          omega⟩
      have HME := Lib.hid (Rd.made (wC.setCell ⟨wr.heap.size, 2, .none⟩ (.slice AL ls.length cL)) #[.int .i64 tm, .int .u64 (s : Int), .slice AL ls.length cL, .string ⟨ln.toArray⟩] 47)
      have hsD := Nat.le_trans HA.out.below.size hbD.size
      clear hownL hgL hvL hownL2 hl3 hbC hboxC hboxD hbD hownD hbE HOB HRB HBB HXB c2 k0 k1 k2 k3 hbw
      go_wp2_with (at_builtin; refine wpList_append_rd _ rfl (.tmp 21) (.tmp 23) 28 rfl w.heap.size 4 47 i1 (.agg #[.int .i64 0, .int .u64 0, .slice .none 0 0, .string ByteArray.empty]) 56 Tryz.underlying28 gi gz0 gz1 gz2 rfl (by omega) _ _ _ rfl HAE.out.own (wC.heap.size + 1) (some ⟨wC.heap.size, 0, .none⟩) 1 1 [.int .i64 tm, .int .u64 (s : Int), .slice AL ls.length cL, .string ⟨ln.toArray⟩] rfl rfl ?f0 ?f1 ?f2 ?f3 ?f4 ?_)
      case f0 => simpa using HME.out
      case f1 => exact ⟨rfl, rfl, rfl, rfl⟩
      case f2 => unfold maxLen; omega
      case f3 => omega
      case f4 => simp at hsD ⊢; omega
      intro v' w9 hown9 hg9 hv9
      have HA9 := Lib.hid (HAE.out.app HMN.out hown9 hg9 (by simpa using hv9))
      have HR9 : Hid (recsOf (ms ++ [((⟨tm, s, ls, ln⟩, AL, ls.length, cL) : RM)]) = recsOf (l.take (k + 1))) := Lib.hid (by
        rw [HSN.out, ← HR.out]
        simp [recsOf])
      clear hown9 hg9 hv9 HAE HMN HME HA HR
      go_wp2
      exact ⟨⟨k + 1, ms ++ [((⟨tm, s, ls, ln⟩, AL, ls.length, cL) : RM)], by omega, by go_num, HR9, HA9⟩, by simp [intOf]; omega⟩
    · obtain rfl : k = l.length := by omega
      rw [List.take_length] at HR
      go_wp2
      go_ret
      exact ⟨_, ms, rfl, HR.out, HA.out⟩
end Go.Proofs.YtkgmcabamhpjhaaGreat.HdCopied
