/- The contract of the program's firstOfTiers: for each tier the places of its first segments, at most four, each list in a row of the call's own. Conditions: the segments lie in memory, each count an int, at most 2^47 bytes of them. -/
import Derived.Test.YtepbnclpiojoaaaPnTier
import Derived.Maps.AppendAt
import Derived.Laws.Tables
namespace Go.Proofs.Ytepbnclpiojoaaa.PnFirst
open Go Go.RowKit Words AppN PnSpec SgMem PnRef PnGone PnMerge PnSame PnLaw PnTier

def nilS : Value := .slice none 0 0
/-- The 32 lists in one block. -/
def arr (f : Nat → Value) : Array Value := ((List.range 32).map f).toArray
theorem arr_size (f : Nat → Value) : (arr f).size = 32 := by simp [arr]
theorem arr_at (f : Nat → Value) {t : Nat} (h : t < 32) : (arr f)[t]? = some (f t) := by simp [arr, h]
theorem arr_set (f : Nat → Value) (t : Nat) (v : Value) : (arr f).setIfInBounds t v = arr fun u => if u = t then v else f u := by
  apply Array.ext_getElem?
  intro i
  rw [Array.getElem?_setIfInBounds]
  by_cases hi : i < 32
  · rw [arr_at _ hi, arr_at _ hi, arr_size]
    by_cases e : t = i
    · subst e; simp [hi]
    · rw [if_neg e, if_neg (fun h => e h.symm)]
  · have e1 : ∀ f, (arr f)[i]? = none := fun f => Array.getElem?_eq_none (by rw [arr_size]; omega)
    rw [e1, e1, arr_size]
    simp
    omega
/-- A list of places for each tier, no two in one row. -/
structure Rws (w : World) (B : Nat) (cs : List Int) (k : Nat) (f : Nat → Value) : Prop where
  row : ∀ t, w.ownsRow B 3 1 (f t) (picksTo cs t k).length ((picksTo cs t k).map IV)
  apart : ∀ t u b, t ≠ u → (f t).ownBlock = some b → (f u).ownBlock ≠ some b
theorem Rws.start (w : World) (B : Nat) (cs : List Int) : Rws w B cs 0 fun _ => nilS := ⟨fun _ => World.ownsRow_nil _ _ _ _, fun _ _ _ _ h => by simp [nilS, Value.ownBlock] at h⟩
theorem Rws.kept {w w' : World} {B k : Nat} {cs : List Int} {f : Nat → Value} (h : Rws w B cs k f) (hg : w.grownBy w' none) : Rws w' B cs k f := ⟨fun t => (h.row t).kept hg (by cases (f t).ownBlock <;> simp), h.apart⟩
/-- A place that changes no list. -/
theorem Rws.skip {w : World} {B k : Nat} {cs : List Int} {f : Nat → Value} (h : Rws w B cs k f) (hx : ¬ (picksTo cs (tierI (cs.getD k 0)) k).length < 4) : Rws w B cs (k + 1) f := ⟨fun t => by
  have e : picksTo cs t (k + 1) = picksTo cs t k := by rw [picksTo_succ, if_neg (fun ⟨h1, h2⟩ => hx (by rw [h2]; exact h1))]
  rw [e]; exact h.row t, h.apart⟩
/-- One list more by a place. -/
theorem Rws.step {w w' : World} {B k T : Nat} {cs : List Int} {f : Nat → Value} (h : Rws w B cs k f) {v : Value} (hT : tierI (cs.getD k 0) = T) (hl : (picksTo cs T k).length < 4) (ho : w'.ownsRow B 3 1 v ((picksTo cs T k).length + 1) ((picksTo cs T k).map IV ++ [k].map IV)) (hg : w.grownBy w' (f T).ownBlock)
    (hat : v.ownBlock = (f T).ownBlock ∨ v.ownBlock = some w.heap.size) : Rws w' B cs (k + 1) fun u => if u = T then v else f u := by
  have hv : ∀ t b, t ≠ T → (f t).ownBlock = some b → v.ownBlock ≠ some b := fun t b ht hb e => by
    rcases hat with e2 | e2
    · exact h.apart T t b (fun e => ht e.symm) (by rw [← e2]; exact e) hb
    · rw [e2] at e
      have := (h.row t).lt b hb
      simp at e
      omega
  refine ⟨fun t => ?_, fun t u b htu hb => ?_⟩
  · by_cases e : t = T
    · subst e
      rw [if_pos rfl, picksTo_succ, if_pos ⟨hl, hT⟩, List.map_append, List.length_append]
      exact ho
    · rw [if_neg e, picksTo_succ, if_neg (fun h => e (by rw [← h.2, hT]))]
      refine (h.row t).kept hg ?_
      cases hb : (f t).ownBlock with
      | none => exact .inl rfl
      | some b => exact .inr fun e2 => h.apart t T b e hb e2.symm
  · by_cases e : t = T
    · rw [if_pos e] at hb
      by_cases e2 : u = T
      · exact absurd (e.trans e2.symm) htu
      · rw [if_neg e2]
        intro hu
        exact hv u b e2 hu hb
    · rw [if_neg e] at hb
      by_cases e2 : u = T
      · rw [if_pos e2]
        exact hv t b e hb
      · rw [if_neg e2]
        exact h.apart t u b htu hb
theorem Rws.set {w : World} {B k : Nat} {cs : List Int} {f : Nat → Value} (h : Rws w B cs k f) (a : Addr) (v : Value) (ha : a.block < B) : Rws (w.setCell a v) B cs k f := ⟨fun t => (h.row t).kept (row := some a.block) ⟨rfl, rfl, rfl, by simp, fun i _ hne => heap_setCell_other w a i v (fun e => hne (by rw [e]))⟩ (by
  cases hb : (f t).ownBlock with
  | none => exact .inl rfl
  | some b =>
    have := ((h.row t).lt b hb).1
    exact .inr fun e => by simp at e; omega), h.apart⟩
def FsRel (W : World) (cs : List Int) (v : Value) (wr : World) : Prop :=
  ∃ (k : Nat) (f : Nat → Value), k ≤ cs.length ∧ v = .int .i64 (k : Int) ∧ Hid (Rws wr (W.heap.size + 2) cs k f) ∧ Hid (wr.heap[W.heap.size]? = some (.cells (arr fun _ => nilS) 43 (0, 0))) ∧
    Hid (wr.heap[W.heap.size + 1]? = some (.cells (arr f) 43 (0, 0))) ∧ Hid (Below W.heap.size W wr)
theorem own_mono {w : World} {base base' n : Nat} {e : TypeId} {v : Value} {xs : List Value} (h : w.ownsRow base e 1 v n xs) (hb : base' ≤ base) : w.ownsRow base' e 1 v n xs :=
  ⟨h.1, h.2.imp id fun ⟨g, cap, cur, e1, hg, r⟩ => ⟨g, cap, cur, e1, Nat.le_trans hb hg, r⟩⟩
/-- What is answered: the lists of all. -/
def FsPost (w : World) (cs : List Int) (e : Ending) (w' : World) : Prop := ∃ f : Nat → Value, e = .returned (.agg (arr f)) ∧ (∀ t, w'.ownsRow w.heap.size 3 1 (f t) (picks cs t).length ((picks cs t).map IV)) ∧ Below w.heap.size w w'

set_option maxHeartbeats 3200000 in
set_option maxRecDepth 100000 in
theorem first_any (w : World) (s : Sl) (l : List Sg) (hs : Sgs w s l) (hok : ∀ x ∈ l, In64 x.count) (hl : l.length * 32 ≤ 140737488355328) :
    Calls Try.prog 19 #[slV s] w (FsPost w (l.map Sg.count)) := by
  obtain ⟨A, n, c⟩ := s
  have HRD := Lib.hid hs.rd
  have hn := hs.len
  have hc := hs.le
  have hm := hs.cap
  simp only at hn hc hm
  unfold slV
  unfold maxLen at hm
  subst hn
  have HOK := Lib.hid hok
  have HML : Hid ((l.map Sg.count).length = l.length) := Lib.hid (by simp)
  have HPL := Lib.hid (picksTo_len (l.map Sg.count))
  clear hs hok
  obtain ⟨i0, hi, hz0, hz1, hz2⟩ := info_int
  go_enter Try.func19, Try.ntmps19
  go_wp2
  go_loopw [9] (fun v wr => FsRel w (l.map Sg.count) v wr) (fun u _ => l.length - (intOf u).toNat)
  case atStart =>
    refine ⟨0, fun _ => nilS, Nat.zero_le _, rfl, Lib.hid (Rws.start _ _ _), Lib.hid ?_, Lib.hid ?_, Lib.hid ?_⟩
    · exact heap_alloc2_old _ _ _
    · exact heap_alloc2_new _ _ _
    · exact ((Below.refl _ w).alloc (Nat.le_refl _) _).alloc (by simp) _
  case round =>
    obtain ⟨k, f, hk, rfl, HR, HN, HA, HBr⟩ := hrel
    rw [HML.out] at hk
    by_cases hlt : k < l.length
    · obtain ⟨g, off, rfl, hg, hcs⟩ := HRD.out (by rw [flatS_len]; omega)
      obtain ⟨p0, p1, p2, p3⟩ := cellsS hcs hlt
      have k0 := cell_up HBr.out (p := ⟨g, off + k * 4, none⟩) hg p0
      have k1 := cell_up HBr.out (p := ⟨g, off + k * 4 + 1, none⟩) hg p1
      have k2 := cell_up HBr.out (p := ⟨g, off + k * 4 + 2, none⟩) hg p2
      have k3 := cell_up HBr.out (p := ⟨g, off + k * 4 + 3, none⟩) hg p3
      have hx64 := HOK.out _ (List.getElem_mem hlt)
      have HT := tierI_le hx64
      have HD : Hid ((l.map Sg.count).getD k 0 = (l[k]).count) := Lib.hid (by simp [List.getD_eq_getElem?_getD, hlt])
      clear hcs p0 p1 p2 p3 HRD
      generalize l[k] = x at *
      obtain ⟨a0, a1, a2, a3⟩ := x
      simp only at k0 k1 k2 k3 hx64 HT HD
      have HC := fun w => tier_any w a1 hx64
      have HTD : Hid (tierI ((l.map Sg.count).getD k 0) = tierI a1) := Lib.hid (by rw [HD.out])
      generalize tierI a1 = T at *
      have hpk := picksTo_le (l.map Sg.count) T k
      have hpl := HPL.out T k
      obtain ⟨Y, hY⟩ : ∃ Y, wr.alloc (.cells #[.int .i64 a0, .int .i64 a1, .int .i64 a2, .int .i64 a3] 33) = Y := ⟨_, rfl⟩
      have HRY : Hid (Rws Y (w.heap.size + 2) (l.map Sg.count) k f) := Lib.hid (by rw [← hY]; exact HR.out.kept (World.grownBy_alloc _ _ _))
      have hsz : w.heap.size + 2 ≤ wr.heap.size := (Array.getElem?_eq_some_iff.1 HA.out).1
      have HNY : Hid (Y.heap[w.heap.size]? = some (.cells (arr fun _ => nilS) 43 (0, 0))) := Lib.hid (by rw [← hY]; exact (heap_alloc_old _ _ (by omega)).trans HN.out)
      have HAY : Hid (Y.heap[w.heap.size + 1]? = some (.cells (arr f) 43 (0, 0))) := Lib.hid (by rw [← hY]; exact (heap_alloc_old _ _ (by omega)).trans HA.out)
      have HBY : Hid (Below w.heap.size w Y) := Lib.hid (by rw [← hY]; exact HBr.out.trans (((Below.refl _ wr).alloc (Nat.le_refl _) _).mono HBr.out.size))
      have HNW : Hid (Y.heap[wr.heap.size]? = some (.cells #[.int .i64 a0, .int .i64 a1, .int .i64 a2, .int .i64 a3] 33 (0, 0))) := Lib.hid (by rw [← hY]; exact heap_alloc_new wr _)
      have y1 := cell_of_heapS (j := 1) HNW.out rfl
      have hgw : wr.heap.size < Y.heap.size := by rw [← hY]; simp
      go_wp2_with fail
      refine (HC _).mono ?_
      rintro _ w2 ⟨rfl, hb⟩
      clear hY HR HN HA HBr k0 k1 k2 k3 HD hx64 y1
      have HR2 : Hid (Rws w2 (w.heap.size + 2) (l.map Sg.count) k f) := Lib.hid (HRY.out.kept ⟨hb.os, hb.tape, hb.output, hb.size, fun i hi _ => hb.block i hi⟩)
      have HN2 : Hid (w2.heap[w.heap.size]? = some (.cells (arr fun _ => nilS) 43 (0, 0))) := Lib.hid ((hb.block _ (by omega)).trans HNY.out)
      have HA2 : Hid (w2.heap[w.heap.size + 1]? = some (.cells (arr f) 43 (0, 0))) := Lib.hid ((hb.block _ (by omega)).trans HAY.out)
      have HB2 : Hid (Below w.heap.size w w2) := Lib.hid (HBY.out.trans (hb.mono HBY.out.size))
      have HZ : Hid (wr.heap.size < w2.heap.size) := Lib.hid (by have := hb.size; omega)
      clear hb HRY HNY HAY HBY HNW HC hgw
      obtain ⟨A5, c5, hfT⟩ := own_slice (HR2.out.row T)
      have hcell : w2.cell? ⟨w.heap.size + 1, T, none⟩ = some (.slice A5 (picksTo (l.map Sg.count) T k).length c5) := by rw [← hfT]; exact cell_of_heapS HA2.out (arr_at f (by omega))
      by_cases h4 : (picksTo (l.map Sg.count) T k).length < 4
      case neg =>
        have hd : decide (((picksTo (l.map Sg.count) T k).length : Int) < 4) = false := decide_eq_false (by omega)
        have HR3 : Hid (Rws w2 (w.heap.size + 2) (l.map Sg.count) (k + 1) f) := Lib.hid (HR2.out.skip (by rw [HTD.out]; exact h4))
        clear HR2
        go_wp2
        exact ⟨⟨k + 1, f, by rw [HML.out]; exact hlt, by go_num, HR3, HN2, HA2, HB2⟩, by simp [intOf]; omega⟩
      have hd : decide (((picksTo (l.map Sg.count) T k).length : Int) < 4) = true := decide_eq_true (by omega)
      have HOW : Hid ((w2.alloc (.cells #[.int .i64 (k : Int)] 3)).ownsRow (w.heap.size + 2) 3 1 (.slice A5 (picksTo (l.map Sg.count) T k).length c5) (picksTo (l.map Sg.count) T k).length ((picksTo (l.map Sg.count) T k).map IV)) := Lib.hid (by rw [← hfT]; exact (HR2.out.row T).alloc _)
      have HSZ : Hid (w.heap.size + 2 ≤ (w2.alloc (.cells #[.int .i64 (k : Int)] 3)).heap.size) := Lib.hid (by have := HZ.out; simp; omega)
      have hi31 : (0 : Int) ≤ (T : Int) ∧ (T : Int) < 32 := ⟨by omega, by omega⟩
      go_wp2_with (at_builtin; refine wpList_append_own_at _ rfl (.tmp 25) (.tmp 27) 26 rfl (w.heap.size + 2) 3 i0 (.int .i64 0) 1 8 Try.underlying26 hi hz0 hz1 hz2 rfl (by decide) _ _ _ rfl HOW.out ⟨w2.heap.size, 0, none⟩ 1 1 ([k].map IV) rfl (by simp) (cellNew _ _ _) (iv_ones _) ?c3 ?c4 HSZ.out ?_)
      case c3 => unfold maxLen; omega
      case c4 => omega
      intro v2 w3 hown2 hg2 _ hat2
      obtain ⟨A6, c6, hv2⟩ := own_slice hown2
      have hlb := fun b => (HOW.out.lt b)
      rw [← hfT] at hg2 hat2 hlb
      have hRA : Rws (w2.alloc (.cells #[.int .i64 (k : Int)] 3)) (w.heap.size + 2) (l.map Sg.count) k f := HR2.out.kept (World.grownBy_alloc _ _ _)
      have hR3 := hRA.step HTD.out h4 hown2 hg2 (by simpa using hat2)
      have hbk : ∀ i, i < w.heap.size + 2 → w3.heap[i]? = w2.heap[i]? := fun i hi => (hg2.block i (by have := HSZ.out; omega) (fun e => by have := (hlb i e.symm).1; omega)).trans (heap_alloc_old _ _ (by have := HZ.out; have := (Array.getElem?_eq_some_iff.1 HA2.out).1; omega))
      have HN3 : Hid (w3.heap[w.heap.size]? = some (.cells (arr fun _ => nilS) 43 (0, 0))) := Lib.hid ((hbk _ (by omega)).trans HN2.out)
      have HA3 : Hid (w3.heap[w.heap.size + 1]? = some (.cells (arr f) 43 (0, 0))) := Lib.hid ((hbk _ (by omega)).trans HA2.out)
      have HB3 : Hid (Below w.heap.size w w3) := Lib.hid ((HB2.out.trans (((Below.refl _ w2).alloc (Nat.le_refl _) _).mono HB2.out.size)).grown hg2 (by have := HSZ.out; omega) (fun b hb => by have := (hlb b hb).1; omega))
      have hc3 : w3.cell? ⟨w.heap.size + 1, T, none⟩ = some (.slice A5 (picksTo (l.map Sg.count) T k).length c5) := by rw [← hfT]; exact cell_of_heapS HA3.out (arr_at f (by omega))
      have hf3 : w3.frozen? ⟨w.heap.size + 1, T, none⟩ = false := frozen_of_row _ _ _ _ _ HA3.out
      subst hv2
      have HR3 : Hid (Rws (w3.setCell ⟨w.heap.size + 1, T, none⟩ (.slice A6 ((picksTo (l.map Sg.count) T k).length + 1) c6)) (w.heap.size + 2) (l.map Sg.count) (k + 1) fun u => if u = T then (.slice A6 ((picksTo (l.map Sg.count) T k).length + 1) c6) else f u) := Lib.hid (hR3.set _ _ (by simp))
      have HN4 : Hid ((w3.setCell ⟨w.heap.size + 1, T, none⟩ (.slice A6 ((picksTo (l.map Sg.count) T k).length + 1) c6)).heap[w.heap.size]? = some (.cells (arr fun _ => nilS) 43 (0, 0))) := Lib.hid ((heap_setCell_other _ _ _ _ (by simp)).trans HN3.out)
      have HA4 : Hid ((w3.setCell ⟨w.heap.size + 1, T, none⟩ (.slice A6 ((picksTo (l.map Sg.count) T k).length + 1) c6)).heap[w.heap.size + 1]? = some (.cells (arr fun u => if u = T then (.slice A6 ((picksTo (l.map Sg.count) T k).length + 1) c6) else f u) 43 (0, 0))) := Lib.hid (by rw [← arr_set]; exact heap_setCell_same _ _ _ _ _ _ HA3.out)
      have HB4 : Hid (Below w.heap.size w (w3.setCell ⟨w.heap.size + 1, T, none⟩ (.slice A6 ((picksTo (l.map Sg.count) T k).length + 1) c6))) := Lib.hid ⟨HB3.out.os, HB3.out.tape, HB3.out.output, by simpa using HB3.out.size, fun i hi => (heap_setCell_other _ _ _ _ (by simp; omega)).trans (HB3.out.block i hi)⟩
      clear hown2 hg2 hat2 hlb hRA hR3 hbk HN3 HA3 HB3 HOW HSZ HR2 HN2 HA2 HB2 hcell
      go_wp2
      exact ⟨⟨k + 1, _, by rw [HML.out]; exact hlt, by go_num, HR3, HN4, HA4, HB4⟩, by simp [intOf]; omega⟩
    · have hd : decide ((k : Int) < (l.length : Int)) = false := decide_eq_false (by omega)
      have HI : Hid ((Try.prog.info? 43).map (·.size) = some (arr f).size) := Lib.hid (by rw [arr_size]; kernel_rfl)
      have HO : Hid ((arr fun _ => nilS).size = (arr f).size) := Lib.hid (by rw [arr_size, arr_size])
      have HC : Hid ((arr f).all (·.oneCell') = true) := Lib.hid (by
        rw [Array.all_eq_true_iff_forall_mem]
        intro v hv
        unfold arr at hv
        simp only [List.mem_toArray, List.mem_map] at hv
        obtain ⟨t, _, rfl⟩ := hv
        obtain ⟨A, c, e⟩ := own_slice (HR.out.row t)
        rw [e]; rfl)
      have hkl : Hid (k = (l.map Sg.count).length) := Lib.hid (by have := HML.out; omega)
      go_wp2_with (first
        | refine wpList_load_row rfl 43 (.tmp 3) rfl (w.heap.size + 1) rfl 43 _ (0, 0) _ HA.out Try.underlying43 rfl HI.out ?_
        | refine wpList_store_row rfl 43 (.tmp 2) (.tmp 31) rfl w.heap.size (arr f) rfl rfl 43 _ HN.out HI.out HO.out HC.out ?_)
      go_wp2
      have HS : Hid (∀ t, (wr.setRow w.heap.size (arr f)).ownsRow w.heap.size 3 1 (f t) (picks (l.map Sg.count) t).length ((picks (l.map Sg.count) t).map IV)) := Lib.hid fun t => by
        have h := HR.out.row t
        rw [hkl.out] at h
        have h2 := h.kept (w' := wr.setRow w.heap.size (arr f)) (row := some w.heap.size) ⟨rfl, rfl, rfl, by simp, fun i _ hne => setRow_other _ _ _ _ (fun e => hne (by rw [e]))⟩ (by
          cases hb : (f t).ownBlock with
          | none => exact .inl rfl
          | some b =>
            have := (h.lt b hb).1
            exact .inr fun e => by simp at e; omega)
        exact own_mono h2 (by omega)
      have HB : Hid (Below w.heap.size w (wr.setRow w.heap.size (arr f))) := Lib.hid ⟨HBr.out.os, HBr.out.tape, HBr.out.output, by simpa using HBr.out.size, fun i hi => (setRow_other _ _ _ _ (by omega)).trans (HBr.out.block i hi)⟩
      refine bodyPost_ret (v := .agg (arr f)) (results_cell_row (p := 2) (ty := 43) rfl _ _ w.heap.size 43 (arr f) (0, 0) _ rfl (setRow_heap _ _ _ _ _ _ HN.out) Try.underlying43 rfl HI.out) rfl ⟨f, rfl, HS.out, HB.out⟩
end Go.Proofs.Ytepbnclpiojoaaa.PnFirst
