/- The program's map from four bytes to the place where they last stood: what it tells ('MapOk'), and the contracts of its two methods. Conditions: the bytes' length is at most their slice's capacity, that at most the model's greatest length; at most 65536 bytes. -/
import Derived.Test.YtifndcjjlhjgiaaRows
import Derived.Test.YtifndcjjlhjgiaaOwn
import Derived.Test.YtifndcjjlhjgiaaCompSpec
import Derived.Maps.Own
import Derived.Maps.OwnSet
import Derived.Maps.OwnOps
import Derived.WideKeyArr
import Derived.Laws.Cover3
namespace Go.Proofs.Ytifndcjjlhjgiaa.Map
open Go Go.RowKit Go.Maps Words Plain Put Own CompSpec

theorem law : Keyed Try.prog 50 := Keyed.of_law (WideMaps.ArrKey.law (e := 5) (n := 4) ⟨Try.underlying50, by kernel_rfl, by kernel_rfl, by kernel_rfl⟩)
theorem zeroE (w : World) : (zeroValue 3).run Try.prog w = .ok (.int .i64 0) w := by kernel_rfl
theorem wf8 (x : UInt8) : (Lit.int .u8 ((x.toNat : Nat) : Int)).wf = true := by
  have := x.toNat_lt
  simp only [Lit.wf, Bool.and_eq_true, decide_eq_true_eq]
  rw [show IntKind.u8.min = 0 from rfl, show IntKind.u8.max = 255 from rfl]
  omega
theorem bytes1 (x : UInt8) : bytesBE 1 x.toNat = [x] := by
  have := x.toNat_lt
  simp [bytesBE, bytesLE, Nat.mod_eq_of_lt this]
theorem lit1 (D : Nat) (x : UInt8) : Try.prog.keyLits (D + 1) 5 [B8 x] = some [.int .u8 ((x.toNat : Nat) : Int)] := by
  unfold Program.keyLits
  rw [Try.underlying5]
  simp only [B8]
  rw [if_pos ⟨trivial, wf8 x⟩]
theorem lits4 (x0 x1 x2 x3 : UInt8) : Try.prog.keyLits (68 + 1) 50 [B8 x0, B8 x1, B8 x2, B8 x3] = some [.int .u8 ((x0.toNat : Nat) : Int), .int .u8 ((x1.toNat : Nat) : Int), .int .u8 ((x2.toNat : Nat) : Int), .int .u8 ((x3.toNat : Nat) : Int)] := by
  have c4 : Try.prog.cellsOf 50 = 4 := by kernel_rfl
  have c1 : Try.prog.cellsOf 5 = 1 := by kernel_rfl
  have hr : List.range 4 = [0, 1, 2, 3] := by decide
  have l0 := lit1 67 x0
  have l1 := lit1 67 x1
  have l2 := lit1 67 x2
  have l3 := lit1 67 x3
  unfold Program.keyLits
  rw [Try.underlying50]
  simp only [c4, c1, hr]
  simp [l0, l1, l2, l3]
/-- The key of four bytes. -/
theorem key4 (x0 x1 x2 x3 : UInt8) : keyOf Try.prog 50 (.agg #[B8 x0, B8 x1, B8 x2, B8 x3]) = some (.string [x0, x1, x2, x3]) := by
  have hk : Try.prog.keyType 50 = true := by kernel_rfl
  have hs : Try.prog.types.size + 1 = 68 + 1 := by kernel_rfl
  have c4 : Try.prog.cellsOf 50 = 4 := by kernel_rfl
  unfold keyOf
  rw [Try.underlying50]
  simp only [hk, Value.formed, Try.underlying50, c4, Value.cells]
  rw [hs, if_pos (by rfl), lits4]
  have b0 := x0.toNat_lt
  have b1 := x1.toNat_lt
  have b2 := x2.toNat_lt
  have b3 := x3.toNat_lt
  simp only [Option.map_some, keyBytes, List.flatMap_cons, List.flatMap_nil, Lit.keyBytes]
  have e : ∀ x : UInt8, bytesBE (IntKind.u8.bits / 8) (((x.toNat : Nat) : Int) % 2 ^ IntKind.u8.bits).toNat = [x] := fun x => by
    have h := x.toNat_lt
    rw [show (((x.toNat : Nat) : Int) % 2 ^ IntKind.u8.bits).toNat = x.toNat by show (((x.toNat : Nat) : Int) % 256).toNat = x.toNat; omega]
    exact bytes1 x
  rw [e, e, e, e]
  rfl

/-- What the map's datum tells. -/
def Tells (D : DataW Unit) (b : List UInt8) (m : Nat) : Prop := ∀ x0 x1 x2 x3 : UInt8, Maps.has D (.string [x0, x1, x2, x3]) = (last b [x0, x1, x2, x3] m).isSome ∧
  D.atKey (.string [x0, x1, x2, x3]) (.lit (.int .i64 0)) = .lit (.int .i64 (((last b [x0, x1, x2, x3] m).getD 0 : Nat) : Int))
/-- Block M is the map of the places ahead of m. -/
def MapOk (w : World) (M : Nat) (b : List UInt8) (m : Nat) : Prop := ∃ (n : Nat) (D : DataW Unit), n ≤ m ∧ w.ownsMap Try.prog 50 (plainElem Try.prog 3) M n D ∧ Tells D b m

theorem tells_zero (b : List UInt8) : Tells (.map []) b 0 := fun x0 x1 x2 x3 => ⟨rfl, rfl⟩
theorem four_list {b : List UInt8} {m : Nat} (h : m + 4 ≤ b.length) : four b m = [b.getD m 0, b.getD (m + 1) 0, b.getD (m + 2) 0, b.getD (m + 3) 0] := by
  have hl := four_length h
  have h0 := four_at (j := 0) (by omega) h
  have h1 := four_at (j := 1) (by omega) h
  have h2 := four_at (j := 2) (by omega) h
  have h3 := four_at (j := 3) (by omega) h
  rw [Nat.add_zero] at h0
  rw [h0, h1, h2, h3]
  match hq : four b m, hl with
  | [a0, a1, a2, a3], _ => rfl
theorem tells_keep {D : DataW Unit} {b : List UInt8} {m : Nat} (hD : IsMap D) (h : Tells D b m) (hm : m + 4 ≤ b.length) : Tells (D.put (.string (four b m)) (.lit (.int .i64 (m : Int)))) b (m + 1) := by
  intro x0 x1 x2 x3
  rw [last]
  by_cases hq : four b m = [x0, x1, x2, x3]
  · rw [if_pos ⟨hm, hq⟩, hq, has_put_same hD (by trivial), atKey_put_same hD (by trivial)]
    exact ⟨rfl, rfl⟩
  · have hne : Lit.string [x0, x1, x2, x3] ≠ Lit.string (four b m) := fun e => hq (by injection e with e; exact e.symm)
    rw [if_neg (fun h => hq h.2), has_put_other hne, atKey_put_other hne]
    exact h x0 x1 x2 x3
theorem tells_skip {D : DataW Unit} {b : List UInt8} {m : Nat} (h : Tells D b m) (hm : ¬ m + 4 ≤ b.length) : Tells D b (m + 1) := by
  intro x0 x1 x2 x3
  rw [last, if_neg (fun h => hm h.1)]
  exact h x0 x1 x2 x3

theorem MapOk.kept {w w' : World} {M B : Nat} {b : List UInt8} {m : Nat} (h : MapOk w M b m) (hb : Below B w w') (hM : M < B) : MapOk w' M b m := by
  obtain ⟨n, D, h1, ⟨es, clock, h2, h3⟩, h4⟩ := h
  exact ⟨n, D, h1, ⟨es, clock, (hb.block M hM).trans h2, h3⟩, h4⟩


theorem cells4 (b : List UInt8) (A : Option Addr) (a : Nat) (w : World) (B : Nat) (hr : Rd w B A (b.map B8)) (hbl : b.length ≤ 65536) (ha : a + 4 ≤ b.length) : ∃ g off, A = some ⟨g, off, none⟩ ∧ g < B ∧ w.cell? ⟨g, off + a, none⟩ = some (.int .u8 (((b.getD a 0).toNat : Nat) : Int)) ∧ w.cell? ⟨g, off + a + 1, none⟩ = some (.int .u8 (((b.getD (a + 1) 0).toNat : Nat) : Int)) ∧
    w.cell? ⟨g, off + a + 2, none⟩ = some (.int .u8 (((b.getD (a + 2) 0).toNat : Nat) : Int)) ∧ w.cell? ⟨g, off + a + 3, none⟩ = some (.int .u8 (((b.getD (a + 3) 0).toNat : Nat) : Int)) := by
  obtain ⟨g, off, rfl, hg, hcell⟩ := hr (by simp; omega)
  have h : ∀ j, j < b.length → w.cell? ⟨g, off + j, none⟩ = some (.int .u8 (((b.getD j 0).toNat : Nat) : Int)) := fun j hj => by
    rw [cell8 hcell hj]
    simp [List.getD, List.getElem?_eq_getElem hj]
  exact ⟨g, off, rfl, hg, h a (by omega), by rw [Nat.add_assoc]; exact h (a + 1) (by omega), by rw [Nat.add_assoc]; exact h (a + 2) (by omega), by rw [Nat.add_assoc]; exact h (a + 3) (by omega)⟩

set_option maxHeartbeats 800000 in
theorem find_late (b : List UInt8) (A : Option Addr) (c : Nat) (a : Nat) (w : World) (M : Nat) (hab : a ≤ b.length) (ha : ¬ a + 4 ≤ b.length) :
    Calls Try.prog 21 #[.map (some M), .slice A b.length c, .int .i64 (a : Int)] w fun e w' => e = .returned (.tuple #[.int .i64 (((findAt b a).getD 0 : Nat) : Int), .bool (findAt b a).isSome]) ∧ w = w' := by
  have hf : findAt b a = none := by unfold findAt; rw [if_neg ha]
  have hs : ((b.length : Int) - (a : Int)) = ((b.length - a : Nat) : Int) := by omega
  have h1 : decide (((b.length - a : Nat) : Int) < 4) = true := by simp; omega
  rw [hf]
  generalize b.length - a = s at *
  go_enter Try.func21, Try.ntmps21
  go_wp2
  go_ret2
  exact ⟨rfl, rfl⟩

set_option maxHeartbeats 800000 in
theorem find_in (b : List UInt8) (A : Option Addr) (c : Nat) (a : Nat) (w : World) (M : Nat) (B : Nat) (hr : Rd w B A (b.map B8)) (hc : b.length ≤ c) (hbl : b.length ≤ 65536) (hM : MapOk w M b a) (ha : a + 4 ≤ b.length) :
    Calls Try.prog 21 #[.map (some M), .slice A b.length c, .int .i64 (a : Int)] w fun e w' => e = .returned (.tuple #[.int .i64 (((findAt b a).getD 0 : Nat) : Int), .bool (findAt b a).isSome]) ∧ w = w' := by
  obtain ⟨g, off, rfl, hg, k0, k1, k2, k3⟩ := cells4 b A a w B hr hbl ha
  have hf : findAt b a = last b (four b a) a := by unfold findAt; rw [if_pos ha]
  rw [hf, four_list ha]
  obtain ⟨n, D, hn, hown, ht⟩ := hM
  obtain ⟨ht1, ht2⟩ := ht (b.getD a 0) (b.getD (a + 1) 0) (b.getD (a + 2) 0) (b.getD (a + 3) 0)
  have hs : ((b.length : Int) - (a : Int)) = ((b.length - a : Nat) : Int) := by omega
  have h1 : decide (((b.length - a : Nat) : Int) < 4) = false := by simp; omega
  have h4 : 4 ≤ b.length - a := by omega
  have hca : ¬ c = a := by omega
  have hK := key4 (b.getD a 0) (b.getD (a + 1) 0) (b.getD (a + 2) 0) (b.getD (a + 3) 0)
  generalize b.getD a 0 = x0 at *
  generalize b.getD (a + 1) 0 = x1 at *
  generalize b.getD (a + 2) 0 = x2 at *
  generalize b.getD (a + 3) 0 = x3 at *
  rw [← ht1]
  have HT := Lib.hid ht2
  have HO := Lib.hid hown
  have hab : a ≤ b.length := by omega
  have hac : a ≤ c := by omega
  have HK : Hid (keyOf Try.prog 50 (.agg #[.int .u8 ((x0.toNat : Nat) : Int), .int .u8 ((x1.toNat : Nat) : Int), .int .u8 ((x2.toNat : Nat) : Int), .int .u8 ((x3.toNat : Nat) : Int)]) = some (.string [x0, x1, x2, x3])) := Lib.hid hK
  have hat : ∀ w, (Instr.arrayAt 50 (.slice (some ⟨g, off + a, none⟩) (b.length - a) (c - a))).run Try.prog w = .ok (.pointer (some ⟨g, off + a, none⟩)) w := fun w => run_arrayAt w 50 _ 4 _ _ _ Try.underlying50 h4
  clear ht1 ht2 ht hf hr hc hown hK ha
  go_enter Try.func21, Try.ntmps21
  go_wp2_with (at_lookup; (refine wpList_lookup_own_ok_int _ rfl _ _ 44 rfl 50 3 .i64 law Try.underlying44 Try.underlying3 (zeroE _) M n D rfl HO.out _ _ rfl HK.out ?_); intro cc hcc hwc)
  go_ret2
  have h9 := hcc.symm.trans HT.out
  injection h9 with h9
  injection h9 with _ h9
  subst h9
  exact ⟨rfl, rfl⟩
/-- places.find. -/
theorem find_any (b : List UInt8) (A : Option Addr) (c : Nat) (a : Nat) (w : World) (M : Nat) (B : Nat) (hr : Rd w B A (b.map B8)) (hc : b.length ≤ c) (hbl : b.length ≤ 65536) (hM : MapOk w M b a) (hab : a ≤ b.length) :
    Calls Try.prog 21 #[.map (some M), .slice A b.length c, .int .i64 (a : Int)] w fun e w' => e = .returned (.tuple #[.int .i64 (((findAt b a).getD 0 : Nat) : Int), .bool (findAt b a).isSome]) ∧ w = w' := by
  by_cases ha : a + 4 ≤ b.length
  · exact find_in b A c a w M B hr hc hbl hM ha
  · exact find_late b A c a w M hab ha

set_option maxHeartbeats 800000 in
theorem keep_late (b : List UInt8) (A : Option Addr) (c : Nat) (a : Nat) (w : World) (M : Nat) (hM : MapOk w M b a) (hab : a ≤ b.length) (ha : ¬ a + 4 ≤ b.length) :
    Calls Try.prog 20 #[.map (some M), .slice A b.length c, .int .i64 (a : Int)] w fun e w' => e = .returned (.tuple #[]) ∧ MapOk w' M b (a + 1) ∧ w.grownBy w' (some M) := by
  have HM : Hid (MapOk w M b (a + 1)) := by
    obtain ⟨n, D, hn, hown, ht⟩ := hM
    exact Lib.hid ⟨n, D, by omega, hown, tells_skip ht ha⟩
  have hs : ((b.length : Int) - (a : Int)) = ((b.length - a : Nat) : Int) := by omega
  have h1 : decide (4 ≤ ((b.length - a : Nat) : Int)) = false := by simp; omega
  have h5 : b.length - a < 4 := by omega
  clear hM ha
  generalize b.length - a = s at *
  go_enter Try.func20, Try.ntmps20
  go_wp2
  go_end0
  exact ⟨rfl, HM.out, only_of_below (Below.refl _ _) _⟩

set_option maxHeartbeats 800000 in
theorem keep_in (b : List UInt8) (A : Option Addr) (c : Nat) (a : Nat) (w : World) (M : Nat) (B : Nat) (hr : Rd w B A (b.map B8)) (hc : b.length ≤ c) (hbl : b.length ≤ 65536) (hM : MapOk w M b a) (ha : a + 4 ≤ b.length) :
    Calls Try.prog 20 #[.map (some M), .slice A b.length c, .int .i64 (a : Int)] w fun e w' => e = .returned (.tuple #[]) ∧ MapOk w' M b (a + 1) ∧ w.grownBy w' (some M) := by
  obtain ⟨g, off, rfl, hg, k0, k1, k2, k3⟩ := cells4 b A a w B hr hbl ha
  obtain ⟨n, D, hn, hown, ht⟩ := hM
  have HT := Lib.hid (tells_keep hown.isMap ht ha)
  rw [four_list ha] at HT
  have hs : ((b.length : Int) - (a : Int)) = ((b.length - a : Nat) : Int) := by omega
  have h1 : decide (4 ≤ ((b.length - a : Nat) : Int)) = true := by simp; omega
  have h4 : 4 ≤ b.length - a := by omega
  have hca : ¬ c = a := by omega
  have hK := key4 (b.getD a 0) (b.getD (a + 1) 0) (b.getD (a + 2) 0) (b.getD (a + 3) 0)
  generalize b.getD a 0 = x0 at *
  generalize b.getD (a + 1) 0 = x1 at *
  generalize b.getD (a + 2) 0 = x2 at *
  generalize b.getD (a + 3) 0 = x3 at *
  have HO := Lib.hid hown
  have hab : a ≤ b.length := by omega
  have hac : a ≤ c := by omega
  have HK : Hid (keyOf Try.prog 50 (.agg #[.int .u8 ((x0.toNat : Nat) : Int), .int .u8 ((x1.toNat : Nat) : Int), .int .u8 ((x2.toNat : Nat) : Int), .int .u8 ((x3.toNat : Nat) : Int)]) = some (.string [x0, x1, x2, x3])) := Lib.hid hK
  have hat : ∀ w, (Instr.arrayAt 50 (.slice (some ⟨g, off + a, none⟩) (b.length - a) (c - a))).run Try.prog w = .ok (.pointer (some ⟨g, off + a, none⟩)) w := fun w => run_arrayAt w 50 _ 4 _ _ _ Try.underlying50 h4
  have hwf : (Lit.int .i64 (a : Int)).wf = true := WalkArith.wf_i64 (by omega)
  have HW := Lib.hid hwf
  clear ht hr hc hown hK ha hwf
  go_enter Try.func20, Try.ntmps20
  go_wp2_with (at_mapUpdate; refine wpList_mapUpdate_own _ rfl _ _ _ 44 rfl 50 3 law Try.underlying44 _ M n D rfl HO.out (by unfold maxLen; omega) _ _ _ rfl rfl HK.out _ [] (plainElem_int Try.underlying3 HW.out) ?_; intro w1 hown1 hgrow1)
  go_end0
  exact ⟨rfl, ⟨n + 1, _, by omega, hown1, HT.out⟩, hgrow1⟩
/-- places.keep. -/
theorem keep_any (b : List UInt8) (A : Option Addr) (c : Nat) (a : Nat) (w : World) (M : Nat) (B : Nat) (hr : Rd w B A (b.map B8)) (hc : b.length ≤ c) (hbl : b.length ≤ 65536) (hM : MapOk w M b a) (hab : a ≤ b.length) :
    Calls Try.prog 20 #[.map (some M), .slice A b.length c, .int .i64 (a : Int)] w fun e w' => e = .returned (.tuple #[]) ∧ MapOk w' M b (a + 1) ∧ w.grownBy w' (some M) := by
  by_cases ha : a + 4 ≤ b.length
  · exact keep_in b A c a w M B hr hc hbl hM ha
  · exact keep_late b A c a w M hM hab ha
end Go.Proofs.Ytifndcjjlhjgiaa.Map
