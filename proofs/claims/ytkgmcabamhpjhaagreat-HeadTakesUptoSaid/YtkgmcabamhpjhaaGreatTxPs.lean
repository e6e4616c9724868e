/- Plain: the program's way through a text: where its runs begin and end, by places of bytes; what is taken of them. No conditions. · The contract of the program's word: of a run's runes the small forms of the first 32. Condition: the run has at most 2^40 bytes. · The contracts of the two functions that the program hands to eachRun: the word of a run is appended to the list that they share with their maker. Condition: fewer than 2^40 words. · The contracts of the program's eachRun, with either of the two functions that it is handed: the words of the runs, or of the inner ones, are appended in order. Condition: the text has at most 2^30 bytes. -/
import Derived.Test.YtkgmcabamhpjhaaGreatUtTx
import Derived.Test.YtkgmcabamhpjhaaGreatTxAll
import Derived.Test.YtkgmcabamhpjhaaGreatUtRunesB
import Derived.Test.YtkgmcabamhpjhaaGreatTxOnce
import Derived.StillTailTactics
import Derived.Deep.RegionWith
import Derived.Deep.RegionLaw
import Derived.Deep.RegionHeld3
import Derived.OneCell
import Derived.WalkSmall
namespace Go.Proofs.YtkgmcabamhpjhaaGreat.TxStep
open Go UtSpec TxSpec TxAll

theorem rs_cons {l l' : List UInt8} {r n : Nat} (h : runes l = (r, n) :: runes l') : rs l = r :: rs l' := by unfold rs; rw [h]; rfl
theorem wd_bad : wd 0xFFFD = false := by decide +kernel
/-- A word rune's bytes. -/
theorem word_bytes {l : List UInt8} (hl : l ≠ []) {r n : Nat} (hd : dec l = (r, n)) (hw : wd r = true) : sc r ∧ l = enc r ++ l.drop n := by
  rcases dec_cases hl with h | ⟨r', t, hs, he, h⟩
  · rw [hd] at h
    obtain ⟨rfl, rfl⟩ := Prod.mk.inj h
    rw [wd_bad] at hw
    cases hw
  · rw [hd] at h
    obtain ⟨rfl, rfl⟩ := Prod.mk.inj h
    refine ⟨hs, ?_⟩
    conv => rhs; rw [he, List.drop_left]
    exact he
/-- What stands between the places f and p: the runes of a run. -/
structure Run (t : List UInt8) (f p : Nat) (cur : List Nat) : Prop where
  ne : cur ≠ []
  sc : ∀ r ∈ cur, sc r
  bytes : t.drop f = encs cur ++ t.drop p
  le : f ≤ p ∧ p ≤ t.length
  len : p = f + (encs cur).length
theorem Run.begin {t : List UInt8} {p r n : Nat} (hp : p < t.length) (hd : dec (t.drop p) = (r, n)) (hw : wd r = true) (hn : p + n ≤ t.length) : Run t p (p + n) [r] := by
  have hne : t.drop p ≠ [] := by intro e; have := congrArg List.length e; rw [List.length_drop] at this; simp at this; omega
  obtain ⟨hs, he⟩ := word_bytes hne hd hw
  rw [List.drop_drop] at he
  refine ⟨by simp, by simpa using hs, by simpa [encs] using he, ⟨by omega, hn⟩, ?_⟩
  have h1 := congrArg List.length he
  rw [List.length_append, List.length_drop, List.length_drop] at h1
  simp [encs]
  omega
theorem Run.more {t : List UInt8} {f p r n : Nat} {cur : List Nat} (h : Run t f p cur) (hp : p < t.length) (hd : dec (t.drop p) = (r, n)) (hw : wd r = true) (hn : p + n ≤ t.length) : Run t f (p + n) (cur ++ [r]) := by
  have h2 := Run.begin hp hd hw hn
  refine ⟨by simp, ?_, ?_, ⟨by have := h.le.1; omega, hn⟩, ?_⟩
  · intro x hx
    rcases List.mem_append.1 hx with hx | hx
    · exact h.sc x hx
    · exact h2.sc x hx
  · rw [h.bytes, h2.bytes, encs_append, List.append_assoc]
  · rw [encs_append, List.length_append, ← Nat.add_assoc, ← h.len]
    exact h2.len
theorem Run.part {s : ByteArray} {f p : Nat} {cur : List Nat} (h : Run s.data.toList f p cur) : s.extract f p = ⟨(encs cur).toArray⟩ := by
  apply ByteArray.ext
  rw [ByteArray.data_extract]
  apply Array.ext'
  have h1 : s.data.toList.drop f = encs cur ++ s.data.toList.drop p := h.bytes
  have h2 : p - f = (encs cur).length := by have := h.len; omega
  simp only [Array.toList_extract, List.extract_eq_take_drop, h1, h2, List.take_left]
/-- The words, so far, and those to come. At a place between two runes, out of a run, or in one (from f on). -/
def Out (b : Bool) (t : List UInt8) (T L : List (List UInt8)) (p : Nat) : Prop := L ++ sel b (runsA [] (decide (0 < p)) (rs (t.drop p))) = T
def In (b : Bool) (t : List UInt8) (T L : List (List UInt8)) (f p : Nat) (cur : List Nat) : Prop := Run t f p cur ∧ L ++ sel b (runsA cur (decide (0 < f)) (rs (t.drop p))) = T
/-- What a run adds. -/
def adds (b : Bool) (f p n : Nat) (cur : List Nat) : List (List UInt8) := if (!b || (decide (0 < f) && decide (p < n))) = true then [wof cur] else []

theorem out_out {b : Bool} {t : List UInt8} {T L : List (List UInt8)} {p r n : Nat} (h : Out b t T L p) (hr : runes (t.drop p) = (r, n) :: runes (t.drop (p + n))) (hn : 1 ≤ n) (hw : wd r = false) : Out b t T L (p + n) := by
  unfold Out at *
  rw [rs_cons hr, runsA_skip hw] at h
  rw [show decide (0 < p + n) = true by simp; omega]
  exact h
theorem out_in {b : Bool} {t : List UInt8} {T L : List (List UInt8)} {p r n : Nat} (h : Out b t T L p) (hr : runes (t.drop p) = (r, n) :: runes (t.drop (p + n))) (hd : dec (t.drop p) = (r, n)) (hp : p < t.length) (hn : p + n ≤ t.length) (hw : wd r = true) : In b t T L p (p + n) [r] := by
  refine ⟨Run.begin hp hd hw hn, ?_⟩
  unfold Out at h
  rw [rs_cons hr, runsA, if_pos hw] at h
  exact h
theorem in_in {b : Bool} {t : List UInt8} {T L : List (List UInt8)} {f p r n : Nat} {cur : List Nat} (h : In b t T L f p cur) (hr : runes (t.drop p) = (r, n) :: runes (t.drop (p + n))) (hd : dec (t.drop p) = (r, n)) (hp : p < t.length) (hn : p + n ≤ t.length) (hw : wd r = true) : In b t T L f (p + n) (cur ++ [r]) := by
  refine ⟨h.1.more hp hd hw hn, ?_⟩
  have h2 := h.2
  rw [rs_cons hr, runsA, if_pos hw] at h2
  exact h2
theorem in_out {b : Bool} {t : List UInt8} {T L : List (List UInt8)} {f p r n : Nat} {cur : List Nat} (h : In b t T L f p cur) (hr : runes (t.drop p) = (r, n) :: runes (t.drop (p + n))) (hp : p < t.length) (hn : 1 ≤ n) (hw : wd r = false) : Out b t T (L ++ adds b f p t.length cur) (p + n) := by
  have h2 := h.2
  have hw' : ¬ wd r = true := by rw [hw]; decide
  rw [rs_cons hr, runsA, if_neg hw', if_neg h.1.ne, sel_cons] at h2
  unfold Out adds
  rw [show decide (0 < p + n) = true by simp; omega, show decide (p < t.length) = true by simpa using hp, Bool.and_true, List.append_assoc]
  exact h2
theorem out_end {b : Bool} {t : List UInt8} {T L : List (List UInt8)} {p : Nat} (h : Out b t T L p) (hp : t.length ≤ p) : L = T := by
  unfold Out at h
  rw [List.drop_eq_nil_of_le hp] at h
  rw [← h]
  simp [rs, runes_nil, runsA, sel]
theorem in_end {b : Bool} {t : List UInt8} {T L : List (List UInt8)} {f p : Nat} {cur : List Nat} (h : In b t T L f p cur) (hp : p = t.length) : L ++ adds b f t.length t.length cur = T := by
  subst hp
  have h2 := h.2
  rw [List.drop_eq_nil_of_le (Nat.le_refl _), show rs [] = [] from rfl, runsA, if_neg h.1.ne, sel_cons] at h2
  rw [← h2]
  unfold adds
  simp [sel]
theorem adds_len (b : Bool) (f p n : Nat) (cur : List Nat) : (adds b f p n cur).length ≤ 1 := by unfold adds; split <;> simp
end Go.Proofs.YtkgmcabamhpjhaaGreat.TxStep

namespace Go.Proofs.YtkgmcabamhpjhaaGreat.TxWord
open Go Go.RowKit UtSpec UtShelf UtSmall UtRange UtFold TxSpec

theorem encs_take {cur : List Nat} {k : Nat} (h : k < cur.length) : encs (cur.take (k + 1)) = encs (cur.take k) ++ enc cur[k] := by
  rw [List.take_succ_eq_append_getElem h, encs_append]
  simp [encs]
theorem encs_split {cur : List Nat} {k : Nat} (h : k < cur.length) : encs cur = encs (cur.take k) ++ (enc cur[k] ++ encs (cur.drop (k + 1))) := by
  conv => lhs; rw [← List.take_append_drop k cur, List.drop_eq_getElem_cons h, encs_append, encs_cons]
theorem dec_at {cur : List Nat} (hs : ∀ r ∈ cur, sc r) {k : Nat} (h : k < cur.length) : dec ((encs cur).drop (encs (cur.take k)).length) = (cur[k], (enc cur[k]).length) := by
  rw [encs_split h, List.drop_left]
  exact dec_enc (hs _ (List.getElem_mem h)) _
theorem ext_pre (l m : List UInt8) : (⟨(l ++ m).toArray⟩ : ByteArray).extract 0 l.length = ⟨l.toArray⟩ := by
  apply ByteArray.ext
  rw [ByteArray.data_extract]
  apply Array.ext'
  simp
theorem fold_first (cur : List Nat) (hs : ∀ r ∈ cur, sc r) : fold (encs (cur.take 32)) = wof cur := by
  rw [fold_of_encs (fun r hr => hs r (List.mem_of_mem_take hr))]
  rfl

theorem fold_at (s : ByteArray) (w : World) (F : List UInt8) (hs : s.size ≤ 281474976710656) (hb : fold s.data.toList = F) (hF : F.length + 4 ≤ 140737488355328) : Calls Tryz.prog 102 #[.string s] w fun e w' => e = .returned (.string ⟨F.toArray⟩) ∧ Below w.heap.size w w' := by
  subst hb
  exact fold_any s w hs hF
def WRel (cur : List Nat) (s : ByteArray) (w : World) (vn : Value) (wr : World) : Prop :=
  ∃ k : Nat, k ≤ cur.length ∧ k ≤ 32 ∧ vn = .int .i64 (k : Int) ∧ wr.heap[w.heap.size]? = some (.stringIter s (encs (cur.take k)).length) ∧ Hid (Below w.heap.size w wr)

set_option maxHeartbeats 1600000 in
set_option maxRecDepth 100000 in
/-- text.word. -/
theorem tword_any (cur : List Nat) (hs : ∀ r ∈ cur, sc r) (w : World) (hl : (encs cur).length ≤ 1099511627776) :
    Calls Tryz.prog 63 #[.string ⟨(encs cur).toArray⟩] w fun e w' => e = .returned (.string ⟨(wof cur).toArray⟩) ∧ Below w.heap.size w w' := by
  obtain ⟨s, hsd⟩ : ∃ s : ByteArray, s = ⟨(encs cur).toArray⟩ := ⟨_, rfl⟩
  have hl2 : s.data.toList = encs cur := by rw [hsd]
  have hsz : s.size = (encs cur).length := by rw [hsd]; show (encs cur).toArray.size = _; simp
  have hwl : (wof cur).length + 4 ≤ 140737488355328 := by
    have h := encs_len (rs := (cur.take 32).map smallN) (fun r hr => by
      obtain ⟨x, hx, rfl⟩ := List.mem_map.1 hr
      exact smallN_sc (hs x (List.mem_of_mem_take hx)))
    unfold wof
    rw [List.length_map, List.length_take] at h
    omega
  have HL2 := Lib.hid hl2
  have HSZ := Lib.hid hsz
  have HSD := Lib.hid hsd
  rw [← hsd]
  have hss : s.size ≤ 1099511627776 := by omega
  clear hl2 hsz hsd hl
  obtain ⟨W, hW⟩ : ∃ W : ByteArray, W = ⟨(wof cur).toArray⟩ := ⟨_, rfl⟩
  rw [← hW]
  have HW := Lib.hid hW
  clear hW
  go_enter Tryz.func63, Tryz.ntmps63
  go_wp2
  go_loopw [3] (fun v wr => WRel cur s w v wr) (fun _ wr => s.size - wr.iterPos w.heap.size)
  case atStart => exact ⟨0, Nat.zero_le _, by omega, rfl, World.iter_heap w s 0, Lib.hid ((Below.refl _ w).alloc (Nat.le_refl _) _)⟩
  case round =>
    obtain ⟨k, hk, hk32, rfl, hit, HB⟩ := hrel
    by_cases hlt : k < cur.length
    · have hp : (encs (cur.take k)).length < s.size := by
        have h1 := (enc_len (hs _ (List.getElem_mem hlt))).1
        have h2 := congrArg List.length (encs_split hlt)
        simp only [List.length_append] at h2
        rw [HSZ.out]
        omega
      have hd := dec_at hs hlt
      rw [← HL2.out, ← decode_dec] at hd
      have hnx : ∀ ty, (Instr.next (.pointer (some ⟨w.heap.size, 0, none⟩)) true ty).run Tryz.prog wr = _ := fun ty => Lib.run_next_any_at wr w.heap.size s (encs (cur.take k)).length ty hit hp
      rw [hd] at hnx
      obtain ⟨p, hpe⟩ : ∃ p, (encs (cur.take k)).length = p := ⟨_, rfl⟩
      obtain ⟨n, hne⟩ : ∃ n, (enc cur[k]).length = n := ⟨_, rfl⟩
      obtain ⟨r, hre⟩ : ∃ r, cur[k] = r := ⟨_, rfl⟩
      have HP2 : Hid (p + n = (encs (cur.take (k + 1))).length) := Lib.hid (by rw [encs_take hlt, List.length_append, hpe, hne])
      have HPE := Lib.hid hpe
      have hn0 := (enc_len (hs _ (List.getElem_mem hlt))).1
      have hpn : p + n ≤ s.size := by
        have h2 := congrArg List.length (encs_split hlt)
        simp only [List.length_append] at h2
        rw [HSZ.out]
        omega
      rw [hne] at hn0
      rw [hpe, hne, hre] at hnx
      rw [hpe] at hit hp
      have hit2 := Lib.iterAt_heap wr w.heap.size s p (p + n) hit
      have HB2 := Lib.hid (Lib.below_iterAt HB.out (k := w.heap.size) (Nat.le_refl _) s (p + n))
      clear hpe hne hre hd
      by_cases h32 : k = 32
      · subst h32
        have he : s.extract 0 p = ⟨(encs (cur.take 32)).toArray⟩ := by
          rw [HSD.out, ← HPE.out]
          conv => lhs; rw [encs_split hlt]
          exact ext_pre _ _
        obtain ⟨S, hS⟩ : ∃ S, s.extract 0 p = S := ⟨_, rfl⟩
        have HFO : Hid (∀ wx, Calls Tryz.prog 102 #[.string S] wx fun e w' => e = .returned (.string W) ∧ Below wx.heap.size wx w') := Lib.hid (fun wx => by
          have h := fold_at S wx (wof cur) (by rw [← hS, ByteArray.size_extract]; omega) (by rw [← hS, he]; exact fold_first cur hs) hwl
          rw [← HW.out] at h
          exact h)
        clear he
        go_wp2_with fail
        refine (HFO.out _).mono ?_
        rintro e w3 ⟨rfl, hb3⟩
        go_wp2
        go_ret
        exact ⟨rfl, HB2.out.trans (hb3.mono HB2.out.size)⟩
      · have h32' : ((k : Int) == 32) = false := by simp; omega
        go_wp2
        go_roundw
        case rel => exact ⟨k + 1, by omega, by omega, by go_num, by rw [← HP2.out]; exact hit2, HB2⟩
        case measure =>
          simp only [World.iterPos, hit2, hit]
          omega
    · have hkl : k = cur.length := by omega
      subst hkl
      have hp : ¬ (encs (cur.take cur.length)).length < s.size := by rw [List.take_length, HSZ.out]; omega
      have hnx : ∀ ty, (Instr.next (.pointer (some ⟨w.heap.size, 0, none⟩)) true ty).run Tryz.prog wr = _ := fun ty => Lib.run_next_end_at wr w.heap.size s (encs (cur.take cur.length)).length ty hit hp
      have HFO : Hid (∀ wx, Calls Tryz.prog 102 #[.string s] wx fun e w' => e = .returned (.string W) ∧ Below wx.heap.size wx w') := Lib.hid (fun wx => by
        have h := fold_at s wx (wof cur) (by omega) (by rw [HL2.out]; have h5 := fold_first cur hs; rw [List.take_of_length_le hk32] at h5; exact h5) hwl
        rw [← HW.out] at h
        exact h)
      clear hp hlt
      go_wp2_with fail
      refine (HFO.out _).mono ?_
      rintro e w3 ⟨rfl, hb3⟩
      go_wp2
      go_ret
      exact ⟨rfl, HB.out.trans (hb3.mono HB.out.size)⟩
end Go.Proofs.YtkgmcabamhpjhaaGreat.TxWord

namespace Go.Proofs.YtkgmcabamhpjhaaGreat.TxClo
open Go Go.RowKit Words App UtSpec UtOwn TxSpec TxAll Less TxOnce TxWord TxStep

/-- An append whose run is known, in a region that draws its order. -/
theorem step_append_run {P : Program} {ops : Array Oper} {o : Oper} {a : Act} {w : World} {K : Act → World → Prop} {Q : Exit → Act → World → Prop} {E : Prop}
    (hg : o.guard = none) (s x : Operand) (t : TypeId) (hop : o.op = Op.call { callee := Callee.builtin Builtin.append, args := #[s, x], argTypes := #[t, t] })
    (v' : Value) (w' : World) (hrun : (Builtin.append_ #[t, t] o.type #[a.eval s, a.eval x]).run P w = .ok v' w') (hK : K (a.put o.dst v') w') :
    if Region.wanted o (yielded ops a.tmps) = true then Oper.wp P o a w K Q else E := by
  have hw : Region.wanted o (yielded ops a.tmps) = true := by simp [Region.wanted, hg]
  rw [if_pos hw]
  unfold Oper.wp
  simp [execOp, hop, resolve, invoke, builtin, hrun, Result.andThen]
  exact hK

/-- Behind the maker's entry: its text in block q, the list's variable in q + 1, the way's iterator in q + 2, the list's rows from q + 3 on. -/
structure Box (s : ByteArray) (w0 : World) (L : List (List UInt8)) (wr : World) : Prop where
  below : Below w0.heap.size w0 wr
  size : w0.heap.size + 3 ≤ wr.heap.size
  text : wr.heap[w0.heap.size]? = some (.cells #[.string s] 9 (0, 0))
  list : ∃ A c, wr.heap[w0.heap.size + 1]? = some (.cells #[.slice A L.length c] 49 (0, 0)) ∧ wr.ownsRow (w0.heap.size + 3) 9 1 (.slice A L.length c) L.length (L.map S8)
/-- The maker's blocks are as they were, but for the list's variable. -/
def CPost (s : ByteArray) (w0 : World) (L : List (List UInt8)) (w : World) (e : Ending) (w' : World) : Prop :=
  e = .returned (.tuple #[]) ∧ Box s w0 L w' ∧ w'.heap[w0.heap.size + 2]? = w.heap[w0.heap.size + 2]?

theorem cell_of_heap {w : World} {g j : Nat} {cs : Array Value} {t : TypeId} {u : Value} (h : w.heap[g]? = some (.cells cs t (0, 0))) (hj : cs[j]? = some u) : w.cell? ⟨g, j, none⟩ = some u := by
  unfold World.cell?
  rw [h]
  simpa using hj
theorem frozen_of_heap {w : World} {g j : Nat} {cs : Array Value} {t : TypeId} (h : w.heap[g]? = some (.cells cs t (0, 0))) : w.frozen? ⟨g, j, none⟩ = false := by
  unfold World.frozen?
  rw [h]
  simp

/-- What the statement does, told ahead: the append's run, and the maker's state behind the store. -/
theorem appends {s : ByteArray} {w0 wr : World} {L : List (List UInt8)} {A : Option Addr} {c : Nat} (hb : Box s w0 L wr) (hl : wr.heap[w0.heap.size + 1]? = some (.cells #[.slice A L.length c] 49 (0, 0)))
    (hown : wr.ownsRow (w0.heap.size + 3) 9 1 (.slice A L.length c) L.length (L.map S8)) (hL : L.length ≤ 1099511627776) (x : List UInt8) (X : ByteArray) (hX : X = ⟨x.toArray⟩)
    (W w3 : World) (e1 : W.heap = wr.heap) (e2 : W.os = wr.os) (e3 : W.tape = wr.tape) (e4 : W.output = wr.output) (hb3 : Below W.heap.size W w3) :
    ∃ A' c' w', (Builtin.append_ #[49, 49] 49 #[.slice A L.length c, .slice (some ⟨w3.heap.size, 0, none⟩) 1 1]).run Tryz.prog (w3.alloc (.cells #[.string X] 9)) = .ok (.slice A' (L.length + 1) c') w' ∧
      (w3.cell? ⟨w0.heap.size, 0, none⟩ = some (.string s) ∧ w3.cell? ⟨w0.heap.size + 1, 0, none⟩ = some (.slice A L.length c)) ∧
      ((w3.alloc (.cells #[.string X] 9)).cell? ⟨w0.heap.size, 0, none⟩ = some (.string s) ∧ (w3.alloc (.cells #[.string X] 9)).cell? ⟨w0.heap.size + 1, 0, none⟩ = some (.slice A L.length c)) ∧
      (w'.cell? ⟨w0.heap.size, 0, none⟩ = some (.string s) ∧ w'.cell? ⟨w0.heap.size + 1, 0, none⟩ = some (.slice A L.length c)) ∧ w'.frozen? ⟨w0.heap.size + 1, 0, none⟩ = false ∧
      Hid (Box s w0 (L ++ [x]) (w'.setCell ⟨w0.heap.size + 1, 0, none⟩ (.slice A' (L.length + 1) c')) ∧ (w'.setCell ⟨w0.heap.size + 1, 0, none⟩ (.slice A' (L.length + 1) c')).heap[w0.heap.size + 2]? = wr.heap[w0.heap.size + 2]?) := by
  obtain ⟨i1, gi, gz0, gz1, gz2⟩ := info_parts info_str
  have hb3' : Below wr.heap.size wr w3 := ⟨hb3.os.trans e2, hb3.tape.trans e3, hb3.output.trans e4, e1 ▸ hb3.size, fun k hk => (hb3.block k (by rw [e1]; exact hk)).trans (by rw [e1])⟩
  have hsz := hb.size
  have hs3 := hb3'.size
  have hown3 : w3.ownsRow (w0.heap.size + 3) 9 1 (.slice A L.length c) L.length (L.map S8) := own_keep hown hb3'
  have hown4 := hown3.alloc (.cells #[.string X] 9)
  have hM := Rd.made w3 #[.string X] 9
  obtain ⟨v', w', hrun, hown', hg, hv⟩ := run_append_rd (P := Tryz.prog) (w3.alloc (.cells #[.string X] 9)) (w0.heap.size + 3) 49 49 9 i1 (.string ByteArray.empty) 16 Tryz.underlying49 gi gz0 gz1 gz2 rfl _ _ _ hown4
    (w3.heap.size + 1) (some ⟨w3.heap.size, 0, none⟩) 1 1 [.string X] rfl hM (by intro u hu; simp at hu; subst hu; rfl) (by unfold maxLen; omega) (by omega) (by simp; omega)
  have hpre : ∀ k, k < w0.heap.size + 3 → w'.heap[k]? = wr.heap[k]? := fun k hk => by
    refine (hg.block k (by simp; omega) ?_).trans ((Below.heap_alloc w3 _ k (by omega)).trans (hb3'.block k (by omega)))
    intro e
    have := own_lt hown3 k e.symm
    omega
  have t3 : w3.heap[w0.heap.size]? = some (.cells #[.string s] 9 (0, 0)) := (hb3'.block _ (by omega)).trans hb.text
  have l3 : w3.heap[w0.heap.size + 1]? = some (.cells #[.slice A L.length c] 49 (0, 0)) := (hb3'.block _ (by omega)).trans hl
  have t4 : (w3.alloc (.cells #[.string X] 9)).heap[w0.heap.size]? = some (.cells #[.string s] 9 (0, 0)) := (Below.heap_alloc w3 _ _ (by omega)).trans t3
  have l4 : (w3.alloc (.cells #[.string X] 9)).heap[w0.heap.size + 1]? = some (.cells #[.slice A L.length c] 49 (0, 0)) := (Below.heap_alloc w3 _ _ (by omega)).trans l3
  have t5 : w'.heap[w0.heap.size]? = some (.cells #[.string s] 9 (0, 0)) := (hpre _ (by omega)).trans hb.text
  have l5 : w'.heap[w0.heap.size + 1]? = some (.cells #[.slice A L.length c] 49 (0, 0)) := (hpre _ (by omega)).trans hl
  obtain ⟨A', c', rfl, _, _, _⟩ := own_slice hown'
  have hsz5 : w3.heap.size + 1 ≤ w'.heap.size := by have := hg.size; simpa using this
  refine ⟨A', c', w', hrun, ⟨cell_of_heap t3 rfl, cell_of_heap l3 rfl⟩, ⟨cell_of_heap t4 rfl, cell_of_heap l4 rfl⟩, ⟨cell_of_heap t5 rfl, cell_of_heap l5 rfl⟩, frozen_of_heap l5, Lib.hid ⟨⟨?_, ?_, ?_, A', c', ?_, ?_⟩, ?_⟩⟩
  · have hbw : Below w0.heap.size w0 w' := (((hb.below.trans (hb3'.mono (by omega))).alloc (by omega) _).grown hg (by simp; omega) (fun k hk => by have := own_lt hown3 k hk; omega))
    exact hbw.setCell (p := ⟨w0.heap.size + 1, 0, none⟩) (by simp) _
  · simp; omega
  · exact (heap_setCell_other w' _ _ _ (by simp)).trans t5
  · have h := heap_setCell_same w' (w0.heap.size + 1) 0 _ _ (.slice A' (L.length + 1) c') l5
    rw [h]
    simp
  · have h := ownsRow_setCell_other (a := ⟨w0.heap.size + 1, 0, none⟩) hown' (fun e => by have := own_lt hown' _ e; simp at this) (.slice A' (L.length + 1) c')
    rw [List.length_append, List.map_append]
    subst hX
    exact h
  · exact (heap_setCell_other w' _ _ _ (by simp)).trans (hpre _ (by omega))

set_option maxHeartbeats 3200000 in
set_option maxRecDepth 100000 in
theorem cloW (s : ByteArray) (w0 wr : World) (L : List (List UInt8)) (f p : Nat) (cur : List Nat) (hr : Run s.data.toList f p cur) (hb : Box s w0 L wr) (hs : s.size ≤ 1073741824) (hL : L.length ≤ 1073741825) :
    Calls Tryz.prog 62 #[.int .i64 (f : Int), .int .i64 (p : Int), .pointer (some ⟨w0.heap.size + 1, 0, none⟩), .pointer (some ⟨w0.heap.size, 0, none⟩)] wr (CPost s w0 (L ++ adds false f p s.size cur) wr) := by
  have e2 : s.data.toList.length = s.size := by simp
  have hle := hr.le
  rw [e2] at hle
  obtain ⟨hfp, hps⟩ := hle
  obtain ⟨X, hX⟩ : ∃ X : ByteArray, X = ⟨(wof cur).toArray⟩ := ⟨_, rfl⟩
  obtain ⟨R, hR⟩ : ∃ R, s.extract f p = R := ⟨_, rfl⟩
  have HWD : Hid (∀ wx, Calls Tryz.prog 63 #[.string R] wx fun e w' => e = .returned (.string X) ∧ Below wx.heap.size wx w') := Lib.hid (fun wx => by
    rw [← hR, hr.part, hX]
    refine tword_any cur hr.sc wx ?_
    have := hr.len
    omega)
  obtain ⟨A, c, hl, hown⟩ := hb.list
  have HST := Lib.hid (fun (W w3 : World) e1 e2 e3 e4 hb3 => appends hb hl hown (by omega) (wof cur) X hX W w3 e1 e2 e3 e4 hb3)
  have k0 : wr.cell? ⟨w0.heap.size, 0, none⟩ = some (.string s) := cell_of_heap hb.text rfl
  have k1 : wr.cell? ⟨w0.heap.size + 1, 0, none⟩ = some (.slice A L.length c) := cell_of_heap hl rfl
  have hi1 : (0 : Int) ≤ (f : Int) := by omega
  have hi2 : (f : Int) ≤ (p : Int) := by omega
  have hi3 : (p : Int) ≤ (s.size : Int) := by omega
  have hi4 : (0 : Int) ≤ (p : Int) := by omega
  have HB := Lib.hid hb
  clear e2 hr hl hown hX hb
  have HQ : Hid (∃ q, q = w0.heap.size) := Lib.hid ⟨_, rfl⟩
  obtain ⟨q0, hq⟩ := HQ.out
  have HQ0 := Lib.hid hq
  rw [← hq] at HST k0 k1 ⊢
  clear hq HQ
  obtain ⟨n, hn⟩ : ∃ n, L.length = n := ⟨_, rfl⟩
  rw [hn] at HST k1
  clear hn hL
  go_enter Tryz.func62, Tryz.ntmps62
  go_region_law (first
    | (go_simp; go_at_call 63; refine (HWD.out _).mono ?_; rintro e w3 ⟨rfl, hb3⟩; obtain ⟨A', c', w', hrun, ⟨hs3, ht3⟩, ⟨hs4, ht4⟩, ⟨hs5, ht5⟩, hz5, hfin⟩ := HST.out wr.drew w3 rfl rfl rfl rfl hb3)
    | (refine step_append_run rfl (.tmp 6) (.tmp 12) 49 rfl _ w' hrun ?_))
  all_goals
    go_wp2
    go_end0
    exact ⟨rfl, hfin.out.1, by rw [← HQ0.out]; exact hfin.out.2⟩

end Go.Proofs.YtkgmcabamhpjhaaGreat.TxClo

namespace Go.Proofs.YtkgmcabamhpjhaaGreat.TxEach
open Go Go.RowKit Words App UtSpec UtOwn UtSmall UtRange TxSpec TxAll Less TxOnce TxWord TxStep TxClo

theorem Box.iter {s : ByteArray} {w0 wr : World} {L : List (List UInt8)} (h : Box s w0 L wr) (p : Nat) : Box s w0 L (wr.iterAt (w0.heap.size + 2) s p) := by
  obtain ⟨A, c, h1, h2⟩ := h.list
  exact ⟨Lib.below_iterAt h.below (by omega) s p, by rw [Lib.iterAt_size]; exact h.size, (Lib.iterAt_other _ _ _ _ _ (by omega)).trans h.text, A, c, (Lib.iterAt_other _ _ _ _ _ (by omega)).trans h1, ownsRow_iterAt h2 (by omega) s p⟩
def ERel (b : Bool) (s : ByteArray) (T : List (List UInt8)) (w0 : World) (v : Value) (wr : World) : Prop :=
  ∃ (p : Nat) (L : List (List UInt8)), Hid (Box s w0 L wr) ∧ wr.heap[w0.heap.size + 2]? = some (.stringIter s p) ∧ p ≤ s.size ∧ L.length ≤ p ∧
    ((v = .int .i64 (-1) ∧ Hid (Out b s.data.toList T L p)) ∨ ∃ f cur, v = .int .i64 ((f : Nat) : Int) ∧ f < p ∧ Hid (In b s.data.toList T L f p cur))
/-- What the maker lays ahead of the way. -/
structure Made (s : ByteArray) (w0 w1 : World) : Prop where
  size : w1.heap.size = w0.heap.size + 2
  below : Below w0.heap.size w0 w1
  text : w1.heap[w0.heap.size]? = some (.cells #[.string s] 9 (0, 0))
  list : w1.heap[w0.heap.size + 1]? = some (.cells #[.slice none 0 0] 49 (0, 0))
theorem Made.box {s : ByteArray} {w0 w1 : World} (h : Made s w0 w1) : Box s w0 [] (w1.alloc (.stringIter s 0)) := by
  have hs := h.size
  exact ⟨h.below.alloc (by omega) _, by simp; omega, (Below.heap_alloc w1 _ _ (by omega)).trans h.text, none, 0, (Below.heap_alloc w1 _ _ (by omega)).trans h.list, World.ownsRow_nil ..⟩
theorem pword_at (r : Nat) (b : Bool) (hb : wd r = b) (w : World) : Calls Tryz.prog 101 #[.int .i32 (r : Int)] w fun e w' => e = .returned (.bool b) ∧ w = w' := by
  subst hb
  exact word_any (r : Int) w

set_option maxHeartbeats 6400000 in
set_option maxRecDepth 100000 in
theorem eachW (s : ByteArray) (w0 w1 : World) (hm : Made s w0 w1) (hs : s.size ≤ 1073741824) :
    Calls Tryz.prog 61 #[.string s, .func (.func 62) #[] #[.pointer (some ⟨w0.heap.size + 1, 0, none⟩), .pointer (some ⟨w0.heap.size, 0, none⟩)]] w1 fun e w' => e = .returned (.tuple #[]) ∧ Box s w0 (sel false (runsA [] false (rs s.data.toList))) w' := by
  obtain ⟨T, hT⟩ : ∃ T, sel false (runsA [] false (rs s.data.toList)) = T := ⟨_, rfl⟩
  rw [hT]
  have HT := Lib.hid hT
  have HM := Lib.hid hm
  have hsz := hm.size
  have e2 : s.data.toList.length = s.size := by simp
  have E2 := Lib.hid e2
  have HCL := fun wr L f p cur hr hb hL => Lib.hid (cloW s w0 wr L f p cur hr hb hs hL)
  unfold CPost at HCL
  obtain ⟨q, hq⟩ : ∃ q, w0.heap.size = q := ⟨_, rfl⟩
  have HQ := Lib.hid hq
  rw [hq] at HCL hsz ⊢
  clear hT hm e2 hq
  go_enter Tryz.func61, Tryz.ntmps61
  go_wp2
  go_loopw [4] (fun v wr => ERel false s T w0 v wr) (fun _ wr => s.size - wr.iterPos (q + 2))
  case atStart =>
    refine ⟨0, [], Lib.hid HM.out.box, ?_, Nat.zero_le _, Nat.le_refl _, .inl ⟨rfl, Lib.hid ?_⟩⟩
    · rw [HQ.out, ← hsz]
      exact World.iter_heap w1 s 0
    · unfold Out
      rw [List.nil_append, List.drop_zero]
      exact HT.out
  case round =>
    obtain ⟨p, L, HB, hit, hps, hL, hway⟩ := hrel
    rw [HQ.out] at hit
    by_cases hp : p < s.size
    · obtain ⟨r, n, hd⟩ : ∃ r n, Utf8.decode s p = (r, n) := ⟨_, _, rfl⟩
      have hnx : ∀ ty, (Instr.next (.pointer (some ⟨q + 2, 0, none⟩)) true ty).run Tryz.prog wr = _ := fun ty => Lib.run_next_any_at wr (q + 2) s p ty hit hp
      rw [hd] at hnx
      obtain ⟨hdd, hr, hn1, hn2, _, _⟩ := rune_step hp hd
      have HD := Lib.hid hdd
      have HR := Lib.hid hr
      have hit2 := Lib.iterAt_heap wr (q + 2) s p (p + n) hit
      have HB2 : Hid (Box s w0 L (wr.iterAt (q + 2) s (p + n))) := Lib.hid (by rw [← HQ.out]; exact Box.iter HB.out (p + n))
      obtain ⟨bw, hbw⟩ : ∃ bw, wd r = bw := ⟨_, rfl⟩
      have HW := fun wx => Lib.hid (pword_at r bw hbw wx)
      have HBW := Lib.hid hbw
      have hms : s.size - (wr.iterAt (q + 2) s (p + n)).iterPos (q + 2) < s.size - wr.iterPos (q + 2) := by
        simp only [World.iterPos, hit2, hit]
        omega
      have HMS := Lib.hid hms
      clear hd hdd hr hbw hms HB
      rcases hway with ⟨rfl, HO⟩ | ⟨f, cur, rfl, hfp, HI⟩
      · cases bw with
        | true =>
          have HI2 : Hid (In false s.data.toList T L p (p + n) [r]) := Lib.hid (out_in HO.out HR.out HD.out (by rw [E2.out]; exact hp) (by rw [E2.out]; exact hn2) HBW.out)
          clear HO
          go_wp2_with fail
          refine (HW _).out.mono ?_
          rintro e w' ⟨rfl, rfl⟩
          go_wp2
          go_roundw
          case rel => exact ⟨p + n, L, HB2, by rw [HQ.out]; exact hit2, hn2, by omega, .inr ⟨p, [r], rfl, by omega, HI2⟩⟩
          case measure => exact HMS.out
        | false =>
          have HO2 : Hid (Out false s.data.toList T L (p + n)) := Lib.hid (out_out HO.out HR.out hn1 HBW.out)
          clear HO
          go_wp2_with fail
          refine (HW _).out.mono ?_
          rintro e w' ⟨rfl, rfl⟩
          go_wp2
          go_roundw
          case rel => exact ⟨p + n, L, HB2, by rw [HQ.out]; exact hit2, hn2, by omega, .inl ⟨rfl, HO2⟩⟩
          case measure => exact HMS.out
      · have hf0 : ¬ ((f : Int) < 0) := by omega
        have hf1 : (0 : Int) ≤ (f : Int) := by omega
        cases bw with
        | true =>
          have HI2 : Hid (In false s.data.toList T L f (p + n) (cur ++ [r])) := Lib.hid (in_in HI.out HR.out HD.out (by rw [E2.out]; exact hp) (by rw [E2.out]; exact hn2) HBW.out)
          clear HI
          go_wp2_with fail
          refine (HW _).out.mono ?_
          rintro e w' ⟨rfl, rfl⟩
          go_wp2
          go_roundw
          case rel => exact ⟨p + n, L, HB2, by rw [HQ.out]; exact hit2, hn2, by omega, .inr ⟨f, cur ++ [r], rfl, by omega, HI2⟩⟩
          case measure => exact HMS.out
        | false =>
          have HO2 : Hid (Out false s.data.toList T (L ++ adds false f p s.size cur) (p + n)) := Lib.hid (by
            have h := in_out HI.out HR.out (by rw [E2.out]; exact hp) hn1 HBW.out
            rw [E2.out] at h
            exact h)
          have HC := HCL (wr.iterAt (q + 2) s (p + n)) L f p cur HI.out.1 HB2.out (by omega)
          have hal := adds_len false f p s.size cur
          clear HI
          generalize adds false f p s.size cur = D at *
          go_wp2_with fail
          refine (HW _).out.mono ?_
          rintro e w' ⟨rfl, rfl⟩
          go_wp2_with fail
          refine HC.out.mono ?_
          rintro e w3 ⟨rfl, hb3, hi3⟩
          have HB3 := Lib.hid hb3
          have hi4 := hi3.trans hit2
          have HMS2 : Hid (s.size - w3.iterPos (q + 2) < s.size - wr.iterPos (q + 2)) := Lib.hid (by
            have h := HMS.out
            simp only [World.iterPos, hit2, hi4] at h ⊢
            exact h)
          clear hb3 hi3
          go_wp2
          go_roundw
          case rel => exact ⟨p + n, L ++ D, HB3, by rw [HQ.out]; exact hi4, hn2, by rw [List.length_append]; omega, .inl ⟨rfl, HO2⟩⟩
          case measure => exact HMS2.out
    · have hnx : ∀ ty, (Instr.next (.pointer (some ⟨q + 2, 0, none⟩)) true ty).run Tryz.prog wr = _ := fun ty => Lib.run_next_end_at wr (q + 2) s p ty hit hp
      obtain rfl : p = s.size := by omega
      rcases hway with ⟨rfl, HO⟩ | ⟨f, cur, rfl, hfp, HI⟩
      · have HE : Hid (L = T) := Lib.hid (out_end HO.out (by rw [E2.out]; exact Nat.le_refl _))
        clear HO hp
        go_wp2
        go_end0
        exact ⟨rfl, by rw [← HE.out]; exact HB.out⟩
      · have hf1 : (0 : Int) ≤ (f : Int) := by omega
        have HE : Hid (L ++ adds false f s.size s.size cur = T) := Lib.hid (by
          have h := in_end HI.out (by rw [E2.out])
          rw [E2.out] at h
          exact h)
        have HC := HCL wr L f s.size cur HI.out.1 HB.out (by omega)
        clear HI hp
        generalize adds false f s.size s.size cur = D at *
        go_wp2_with fail
        refine HC.out.mono ?_
        rintro e w3 ⟨rfl, hb3, _⟩
        have HB3 := Lib.hid hb3
        clear hb3
        go_wp2
        go_end0
        exact ⟨rfl, by rw [← HE.out]; exact HB3.out⟩

end Go.Proofs.YtkgmcabamhpjhaaGreat.TxEach

