/- The contract of the document's Runes: a text's runes, in new memory, and whether it is valid. Condition: the text has at most 2^40 bytes. · The contract of the document's Bytes: a rune as UTF-8, in new memory. Condition: a rune that UTF-8 has bytes for. · The contract of utf.Fold: the small forms of a text's runes, as UTF-8. Conditions: the text has at most 2^48 bytes, and the folded text fewer than 2^47 - 3. -/
import Derived.Test.YtkgmcabamhpjhaaGreatUtOne
import Derived.Test.YtkgmcabamhpjhaaGreatBase
import Derived.Test.YtkgmcabamhpjhaaGreatUts
namespace Go.Proofs.YtkgmcabamhpjhaaGreat.UtRunes
open Go Go.RowKit Words App UtSpec UtShelf UtSmall UtRange UtOne UtOwn

def R32 (p : Nat × Nat) : Value := .int .i32 (p.1 : Int)
theorem info_i32 : (Tryz.prog.info? 21).map (fun i => (i.zero, i.size, i.bytes)) = some (some (.int .i32 0), 1, 4) := by kernel_rfl
def allok (R : List (Nat × Nat)) : Bool := R.all fun p => !bad p
theorem allok_snoc (R : List (Nat × Nat)) (p : Nat × Nat) : allok (R ++ [p]) = (allok R && !bad p) := by simp [allok]
def RRel (s : ByteArray) (w : World) (vl vv va : Value) (wr : World) : Prop :=
  ∃ (pos : Nat) (R : List (Nat × Nat)), va = .int .i64 (pos : Int) ∧ pos ≤ s.size ∧ R.length ≤ pos ∧ Hid (R ++ runes (s.data.toList.drop pos) = runes s.data.toList) ∧ vv = .bool (allok R) ∧
    wr.ownsRow w.heap.size 21 1 vl R.length (R.map R32) ∧ Below w.heap.size w wr
def RPost (s : ByteArray) (w : World) (e : Ending) (w' : World) : Prop :=
  ∃ v, e = .returned (.tuple #[v, .bool (vals s.data.toList)]) ∧ w'.ownsRow w.heap.size 21 1 v (runes s.data.toList).length ((runes s.data.toList).map R32) ∧ Below w.heap.size w w'
theorem one_at {s : ByteArray} {p r n : Nat} (hp : p < s.size) (hs : s.size ≤ 9223372036854775000) (hd : dec (s.data.toList.drop p) = (r, n)) (w : World) :
    Calls Tryz.prog 91 #[.string s, .int .i64 (p : Int)] w fun e w' => e = .returned (.tuple #[.int .i32 (r : Int), .int .i64 (n : Int)]) ∧ w = w' := by
  have h := one_any s p hp hs w
  unfold OneIs at h
  rw [hd] at h
  exact h
theorem own_snoc32 {w : World} {base : Nat} {v : Value} {R : List (Nat × Nat)} {r n : Nat} (h : w.ownsRow base 21 1 v (R.length + 1) (R.map R32 ++ [.int .i32 (r : Int)])) :
    w.ownsRow base 21 1 v (R ++ [(r, n)]).length ((R ++ [(r, n)]).map R32) := by
  simpa [R32] using h

set_option maxHeartbeats 1600000 in
set_option maxRecDepth 100000 in
theorem runes_any (s : ByteArray) (w : World) (hs : s.size ≤ 1099511627776) : Calls Tryz.prog 58 #[.string s] w (RPost s w) := by
  obtain ⟨i1, gi, gz0, gz1, gz2⟩ := info_parts info_i32
  go_enter Tryz.func58, Tryz.ntmps58
  go_wp2
  go_loopw [4, 5, 6] (fun vl vv va wr => RRel s w vl vv va wr) (fun _ _ va _ => s.size - (intOf va).toNat)
  case atStart => exact ⟨0, [], rfl, Nat.zero_le _, Nat.le_refl _, Lib.hid (by simp), rfl, World.ownsRow_nil .., Below.refl _ _⟩
  case round =>
    obtain ⟨pos, R, rfl, hp', hRl, hR, rfl, hown, hb⟩ := hrel
    by_cases hp : pos < s.size
    · obtain ⟨r, n, hd⟩ : ∃ r n, Utf8.decode s pos = (r, n) := ⟨_, _, rfl⟩
      obtain ⟨hdd, hr, hn1, hn2, hr1, _⟩ := rune_step hp hd
      have H1 := Lib.hid (one_at hp (by omega) hdd wr)
      have HR : Hid (R ++ [(r, n)] ++ runes (s.data.toList.drop (pos + n)) = runes s.data.toList) := Lib.hid (by
        rw [← hR.out, hr]
        simp)
      have HV := Lib.hid (allok_snoc R (r, n))
      obtain ⟨ok, hok⟩ : ∃ ok, allok R = ok := ⟨_, rfl⟩
      rw [hok] at HV ⊢
      have HO := Lib.hid hown
      have HB := Lib.hid hb
      have hbase := hb.size
      clear hd hdd hr hR hok hown hb
      have key : bad (r, n) = true ∧ ((n : Int) == 1) = true ∧ ((r : Int) == 65533) = true ∨ bad (r, n) = false ∧ ((n : Int) == 1) = true ∧ ((r : Int) == 65533) = false ∨ bad (r, n) = false ∧ ((n : Int) == 1) = false := by
        unfold bad
        by_cases h1 : n = 1 <;> by_cases h2 : r = 65533 <;> simp [h1, h2] <;> omega
      rcases key with ⟨hbad, k1, k2⟩ | ⟨hbad, k1, k2⟩ | ⟨hbad, k1⟩
      all_goals
        rw [hbad] at HV
        have HBD := Lib.hid hbad
        clear hbad
        go_wp2_with fail
        refine H1.out.mono ?_
        rintro e w' ⟨rfl, rfl⟩
        go_wp2_with (at_builtin; refine wpList_append_rd _ rfl (.tmp 19) (.tmp 21) 94 rfl w.heap.size 21 i1 (.int .i32 0) 4 Tryz.underlying94 gi gz0 gz1 gz2 rfl _ _ _ rfl (HO.out.alloc _) (wr.heap.size + 1) (some ⟨wr.heap.size, 0, none⟩) 1 1 [.int .i32 (r : Int)] rfl rfl (Rd.made wr #[.int .i32 (r : Int)] 21) ?f1 ?f2 ?f3 ?f4 ?_)
        case f1 => intro u hu; simp at hu; subst hu; rfl
        case f2 => unfold maxLen; omega
        case f3 => omega
        case f4 => simp; omega
        intro v' w2 hown2 hg _
        have HO2 := Lib.hid (own_snoc32 (n := n) hown2)
        have HB2 := Lib.hid (below_appw HO.out HB.out hg)
        clear hown2 hg HO HB H1
        go_wp2
        go_roundw
        case rel => exact ⟨pos + n, R ++ [(r, n)], by go_num, hn2, by simp; omega, HR, by rw [HV.out]; simp, HO2.out, HB2.out⟩
        case measure => simp [intOf]; omega
    · have HE : Hid (R = runes s.data.toList) := Lib.hid (by
        have h := hR.out
        rw [drop_all (by omega), runes_nil, List.append_nil] at h
        exact h)
      have HO := Lib.hid hown
      have HB := Lib.hid hb
      clear hR hown hb
      go_wp2
      go_ret2
      have hE := HE.out
      refine ⟨_, by rw [show vals s.data.toList = allok R by rw [hE]; rfl]; rfl, ?_, HB.out⟩
      rw [← hE]
      exact HO.out
end Go.Proofs.YtkgmcabamhpjhaaGreat.UtRunes

namespace Go.Proofs.YtkgmcabamhpjhaaGreat.UtBytes
open Go Go.RowKit Words App UtSpec UtShelf UtSmall UtRange UtOne UtOwn

def BPost (r : Nat) (w : World) (e : Ending) (w' : World) : Prop :=
  e = .returned (.slice (some ⟨w.heap.size, 0, none⟩) (enc r).length (enc r).length) ∧ w' = w.alloc (.cells ((enc r).map B8).toArray 5)
theorem wrap8 {x : Int} {b : UInt8} (h : (b.toNat : Int) = x) : Value.int .u8 x = B8 b := by
  unfold B8
  rw [h]
set_option maxHeartbeats 1600000 in
set_option maxRecDepth 100000 in
theorem bytes_any (r : Nat) (w : World) (hs : sc r) : Calls Tryz.prog 66 #[.int .i32 (r : Int)] w (BPost r w) := by
  unfold BPost
  have hs' : r ≤ 1114111 := by unfold sc at hs; omega
  rcases enc_cases hs with ⟨b0, e, h, h0⟩ | ⟨b0, b1, e, h, h', h0, h1⟩ | ⟨b0, b1, b2, e, h, h', h0, h1, h2⟩ | ⟨b0, b1, b2, b3, e, h, h', h0, h1, h2, h3⟩
  · rw [e]
    simp only [List.map_cons, List.map_nil, List.length_cons, List.length_nil, ← wrap8 (x := (r : Int)) (b := b0) (by omega)]
    clear e h0
    go_enter Tryz.func66, Tryz.ntmps66
    go_wp2
    go_ret
    exact ⟨rfl, rfl⟩
  · rw [e]
    simp only [List.map_cons, List.map_nil, List.length_cons, List.length_nil, ← wrap8 (x := 192 + (r : Int) / 64) (b := b0) (by omega), ← wrap8 (x := 128 + (r : Int) % 64) (b := b1) (by omega)]
    clear e h0 h1
    go_enter Tryz.func66, Tryz.ntmps66
    go_wp2
    go_ret
    exact ⟨rfl, rfl⟩
  · rw [e]
    simp only [List.map_cons, List.map_nil, List.length_cons, List.length_nil, ← wrap8 (x := 224 + (r : Int) / 4096) (b := b0) (by omega), ← wrap8 (x := 128 + (r : Int) / 64 % 64) (b := b1) (by omega), ← wrap8 (x := 128 + (r : Int) % 64) (b := b2) (by omega)]
    have i1 : (2048 : Int) ≤ (r : Int) := by omega
    have i2 : (r : Int) ≤ 65535 := by omega
    have d1 : decide ((r : Int) < 128) = false := by simp; omega
    have d2 : decide ((r : Int) < 2048) = false := by simp; omega
    have d3 : decide ((r : Int) < 65536) = true := by simp; omega
    clear e h0 h1 h2 h h' hs hs'
    generalize (r : Int) = x at *
    go_enter Tryz.func66, Tryz.ntmps66
    go_wp2
    go_ret
    exact ⟨rfl, rfl⟩
  · rw [e]
    simp only [List.map_cons, List.map_nil, List.length_cons, List.length_nil, ← wrap8 (x := 240 + (r : Int) / 262144) (b := b0) (by omega), ← wrap8 (x := 128 + (r : Int) / 4096 % 64) (b := b1) (by omega), ← wrap8 (x := 128 + (r : Int) / 64 % 64) (b := b2) (by omega), ← wrap8 (x := 128 + (r : Int) % 64) (b := b3) (by omega)]
    have i1 : (65536 : Int) ≤ (r : Int) := by omega
    have i2 : (r : Int) ≤ 1114111 := by omega
    have d1 : decide ((r : Int) < 128) = false := by simp; omega
    have d2 : decide ((r : Int) < 2048) = false := by simp; omega
    have d3 : decide ((r : Int) < 65536) = false := by simp; omega
    clear e h0 h1 h2 h3 h h' hs hs'
    generalize (r : Int) = x at *
    go_enter Tryz.func66, Tryz.ntmps66
    go_wp2
    go_ret
    exact ⟨rfl, rfl⟩
end Go.Proofs.YtkgmcabamhpjhaaGreat.UtBytes

namespace Go.Proofs.YtkgmcabamhpjhaaGreat.UtFold
open Go Go.RowKit UtSpec UtShelf UtSmall UtRange

theorem fold_cons {s : ByteArray} {pos r n : Nat} (hr : runes (s.data.toList.drop pos) = (r, n) :: runes (s.data.toList.drop (pos + n))) :
    fold (s.data.toList.drop pos) = enc (smallN r) ++ fold (s.data.toList.drop (pos + n)) := by
  unfold fold
  rw [hr]
  rfl
theorem cells_enc (r : Nat) : Lib.runeCells (small (r : Int)) = Lib.byteCells (enc (smallN r)) := by
  rw [small_nat, ← Lib.byteCells_encodeRune]
  rfl

def FRel (s : ByteArray) (w : World) (it : Nat) (wr : World) : Prop :=
  ∃ (pos : Nat) (acc : List UInt8), Lib.IsBuilderF 152 5 w.heap.size w.heap.size (Lib.byteCells acc) wr ∧ wr.heap[it]? = some (.stringIter s pos) ∧ Below w.heap.size w wr ∧ Hid (acc ++ fold (s.data.toList.drop pos) = fold s.data.toList) ∧ pos ≤ s.size

set_option maxHeartbeats 1600000 in
set_option maxRecDepth 100000 in
/-- utf.Fold. -/
theorem fold_any (s : ByteArray) (w : World) (hs : s.size ≤ 281474976710656) (hf : (fold s.data.toList).length + 4 ≤ 140737488355328) :
    Calls Tryz.prog 102 #[.string s] w fun e w' => e = .returned (.string ⟨(fold s.data.toList).toArray⟩) ∧ Below w.heap.size w w' := by
  have HF := Lib.hid hf
  clear hf
  have hg := Builder_Grow_fresh w.heap.size w.heap.size s.size (w.alloc (.cells #[.pointer none, .slice none 0 0] 152)) (Nat.le_refl _) (heap_alloc_new w _) (by simp) hs
  have HG := Lib.hid hg
  clear hg
  go_enter Tryz.func102, Tryz.ntmps102
  go_wp2_with fail
  refine HG.out.mono ?_
  rintro e w1 ⟨rfl, hb1, hbw1⟩
  have HB1 : Hid (Below w.heap.size w w1) := Lib.hid (((Below.refl _ w).alloc (Nat.le_refl _) _).trans hbw1)
  have HI1 : Hid (Lib.IsBuilderF 152 5 w.heap.size w.heap.size (Lib.byteCells []) w1) := Lib.hid (Lib.IsBuilderF.of (Or.inr hb1))
  have hlt : w.heap.size < w1.heap.size := by have := hbw1.size; simp at this; omega
  clear hb1 hbw1 HG
  go_wp2
  obtain ⟨it, hit0⟩ : ∃ it, w1.heap.size = it := ⟨_, rfl⟩
  have HIT := Lib.hid hit0
  go_loopw [] (fun wr => FRel s w w1.heap.size wr) (fun wr => s.size - wr.iterPos w1.heap.size)
  case atStart => exact ⟨0, [], HI1.out.alloc _, World.iter_heap w1 s 0, HB1.out.alloc HB1.out.size _, Lib.hid (by simp), Nat.zero_le _⟩
  case round =>
    obtain ⟨pos, acc, hI, hit, hb, hc, hp'⟩ := hrel
    clear HIT hit0 HI1 HB1
    have hsz : w1.heap.size < wr.heap.size := (Array.getElem?_eq_some_iff.1 hit).1
    by_cases hp : pos < s.size
    · obtain ⟨r, n, hd⟩ : ∃ r n, Utf8.decode s pos = (r, n) := ⟨_, _, rfl⟩
      have hnx : ∀ ty, (Instr.next (.pointer (some ⟨w1.heap.size, 0, none⟩)) true ty).run Tryz.prog wr = _ := fun ty => Lib.run_next_any_at wr w1.heap.size s pos ty hit hp
      rw [hd] at hnx
      obtain ⟨_, hr, hn1, hn2, hr1, _⟩ := rune_step hp hd
      have hit2 := Lib.iterAt_heap wr w1.heap.size s pos (pos + n) hit
      have HI2 := Lib.hid (hI.iterAt hit (pos + n))
      have HB := Lib.hid (Lib.below_iterAt hb (k := w1.heap.size) (by omega) s (pos + n))
      have HZ : Hid (w.heap.size ≤ (wr.iterAt w1.heap.size s (pos + n)).heap.size) := Lib.hid (by rw [Lib.iterAt_size]; omega)
      have hfc := fold_cons hr
      have HC : Hid ((acc ++ enc (smallN r)) ++ fold (s.data.toList.drop (pos + n)) = fold s.data.toList) := Lib.hid (by rw [← hc.out, hfc, List.append_assoc])
      have HL : Hid (acc.length + 4 ≤ 140737488355328) := Lib.hid (by
        have h1 := congrArg List.length HC.out
        have h2 := HF.out
        simp only [List.length_append] at h1
        omega)
      obtain ⟨hsm0, hsm1⟩ := small_bound (r := (r : Int)) (by omega) (by omega)
      obtain ⟨q, hq⟩ : ∃ q, small (r : Int) = q := ⟨_, rfl⟩
      have HS := Lib.hid (small_any (r : Int) (wr.iterAt w1.heap.size s (pos + n)) (by omega) (by omega))
      have HW := Lib.hid (Builder_WriteRune_k w.heap.size w.heap.size _ q (by omega) (by omega) _ HI2.out (by rw [Lib.byteCells_length]; exact HL.out) HZ.out)
      rw [hq] at HS
      have HCE : Hid (Lib.runeCells q = Lib.byteCells (enc (smallN r))) := Lib.hid (by rw [← hq]; exact cells_enc r)
      clear hd hr hc hb hI hfc hq hsm0 hsm1
      go_wp2_with fail
      refine HS.out.mono ?_
      rintro e w' ⟨rfl, rfl⟩
      go_wp2_with fail
      refine HW.out.mono ?_
      rintro e W1 ⟨rfl, h1, b1, k1⟩
      have hit3 := k1.iter hit2 (by omega)
      have HB2 := Lib.hid (HB.out.trans b1)
      have HI3 : Hid (Lib.IsBuilderF 152 5 w.heap.size w.heap.size (Lib.byteCells (acc ++ enc (smallN r))) W1) := Lib.hid (by rw [Lib.byteCells_append, ← HCE.out]; exact Or.inr h1)
      clear h1 b1 k1 HS HW HB HI2
      go_wp2
      go_roundw
      case rel => exact ⟨pos + n, acc ++ enc (smallN r), HI3.out, hit3, HB2.out, HC, hn2⟩
      case measure =>
        simp only [World.iterPos, hit3, hit]
        omega
    · have hnx : ∀ ty, (Instr.next (.pointer (some ⟨w1.heap.size, 0, none⟩)) true ty).run Tryz.prog wr = _ := fun ty => Lib.run_next_end_at wr w1.heap.size s pos ty hit hp
      have HE : Hid (acc = fold s.data.toList) := Lib.hid (by
        have h := hc.out
        rw [drop_all (by omega)] at h
        simpa [fold, runes_nil] using h)
      have HST := Lib.hid (Builder_String_any_k w.heap.size w.heap.size acc _ hI (by omega))
      have HB := Lib.hid hb
      clear hc hb hI
      go_wp2_with fail
      refine HST.out.mono ?_
      rintro e W1 ⟨rfl, _, b1, _⟩
      have HB2 := Lib.hid (HB.out.trans b1)
      clear b1 HST HB
      go_wp2
      go_ret
      rw [← HE.out]
      exact ⟨rfl, HB2.out⟩
end Go.Proofs.YtkgmcabamhpjhaaGreat.UtFold

