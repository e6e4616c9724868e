/- The walk of the program's Make, over the contracts of the library's slices.Clone, slices.Sort and slices.Compact. Conditions: at most 2^43 texts, each of a length that Go's strings have. -/
import Derived.Test.YteaafkadjglnhaaBlLaw
import Derived.Test.YteaafkadjglnhaaBlPlace
namespace Go.Proofs.Yteaafkadjglnhaa.BlMakeW
open Go Go.RowKit Words Less BlSpec BlRef UtOwn BlMake TxOnce BlLaw BlPlace

/-- A row of the call's own, from the block 'base' on. -/
def CPost (l : List (List UInt8)) (base : Nat) (w : World) (e : Ending) (w' : World) : Prop :=
  ∃ v, e = .returned v ∧ w'.ownsRow base 9 1 v l.length (l.map S8) ∧ ∀ B w0, B ≤ base → Below B w0 w → Below B w0 w'
def SPost (l : List (List UInt8)) (base : Nat) (v : Value) (w : World) (e : Ending) (w' : World) : Prop :=
  e = .returned (.tuple #[]) ∧ w'.ownsRow base 9 1 v l.length (l.map S8) ∧ ∀ B w0, B ≤ base → Below B w0 w → Below B w0 w'


def sorted (l : List (List UInt8)) : List (List UInt8) := l.mergeSort fun x y => decide (x ≤ y)
/-- The filter's row, and all that was there when it was made. -/
def IR (w w3 : World) (O : List (List UInt8)) (g L : Nat) (v : Value) (wr : World) : Prop := ∃ i : Nat, i ≤ O.length ∧ v = .int .i64 (i : Int) ∧ Hid (Row w wr g L (setAll (O.take i) (List.replicate L 0))) ∧ Hid (Below g w3 wr)
def KR (w w3 : World) (O : List (List UInt8)) (g L i : Nat) (v : Value) (wr : World) : Prop := ∃ k : Nat, k ≤ 3 ∧ v = .int .i64 (k : Int) ∧ Hid (Row w wr g L (setK (O[i]?.getD []) k (setAll (O.take i) (List.replicate L 0)))) ∧ Hid (Below g w3 wr)
theorem make_once (l : List (List UInt8)) : make l = setAll (once l) (List.replicate (8 * size (once l).length) 0) := by
  rw [← make_ext (a := once l) (b := l) (fun z => mem_once), make, once_ext (a := once l) (b := l) (fun z => mem_once)]

set_option maxHeartbeats 6400000 in
set_option maxRecDepth 100000 in
theorem make_walk
    (CL : ∀ (w : World) (l : List (List UInt8)) (A : Option Addr) (c : Nat), Rd w w.heap.size A (l.map S8) → l.length ≤ 8796093022208 → Calls Try.prog 14 #[.slice A l.length c] w (CPost l w.heap.size w))
    (SO : ∀ (ws : List (List UInt8)) (base : Nat) (v : Value) (w : World), w.ownsRow base 9 1 v ws.length (ws.map S8) → ws.length ≤ 8796093022208 → Calls Try.prog 15 #[v] w (SPost (sorted ws) base v w))
    (CO : ∀ (ws : List (List UInt8)) (base : Nat) (v : Value) (w : World), w.ownsRow base 9 1 v (sorted ws).length ((sorted ws).map S8) → ws.length ≤ 8796093022208 → Calls Try.prog 16 #[v] w (CPost (once ws) base w))
    (w : World) (l : List (List UInt8)) (A : Option Addr) (c : Nat) (h1 : Rd w w.heap.size A (l.map S8)) (hm : l.length ≤ c) (hc1 : c ≤ maxLen) (hl : l.length ≤ 8796093022208) (hs : ∀ s ∈ l, s.length ≤ maxLen) :
    Calls Try.prog 8 #[.slice A l.length c] w (MPost l w) := by
  obtain ⟨i1, gi, gz0, gz1, gz2⟩ := info_parts info_b8
  have C1 := Lib.hid (CL w l A c h1 hl)
  have HS : Hid (∀ s ∈ once l, s.length ≤ maxLen) := Lib.hid fun s h => hs s (mem_once.1 h)
  have hol := once_length l
  unfold maxLen at hc1
  clear h1 hs CL
  go_enter Try.func8, Try.ntmps8
  go_wp2_with fail
  refine C1.out.mono ?_
  rintro e w1 ⟨v1, rfl, ho1, hb1⟩
  have HB1 := Lib.hid (hb1 w.heap.size w (Nat.le_refl _) (Below.refl _ w))
  have C2 := Lib.hid (SO l w.heap.size v1 w1 ho1 hl)
  clear C1 hb1 ho1 SO
  go_wp2_with fail
  refine C2.out.mono ?_
  rintro e w2 ⟨rfl, ho2, hb2⟩
  have HB2 := Lib.hid (hb2 w.heap.size w (Nat.le_refl _) HB1.out)
  have C3 := Lib.hid (CO l w.heap.size v1 w2 ho2 hl)
  clear C2 hb2 ho2 HB1 CO
  go_wp2_with fail
  refine C3.out.mono ?_
  rintro e w3 ⟨v3, rfl, ho3, hb3⟩
  have HB3 := Lib.hid (hb3 w.heap.size w (Nat.le_refl _) HB2.out)
  obtain ⟨A3, c3, rfl, hn3, hc3, hr3, ha3⟩ := own_rd ho3
  have HO3 := Lib.hid ho3
  clear C3 hb3 ho3 HB2
  have HML : Hid (make l = setAll (once l) (List.replicate (8 * size (once l).length) 0)) := make_once l
  have hsz := size_any (once l).length
  generalize once l = O at *
  obtain ⟨L, hL⟩ : ∃ L, 8 * size O.length = L := ⟨_, rfl⟩
  have h3 : size O.length ≤ O.length := by unfold size; omega
  have h4 : L ≤ 70368744177664 := by omega
  have h5 : 0 < O.length → 0 < L := fun h => by rw [← hL]; unfold size; omega
  rw [hL] at hsz HML
  clear hL h3
  have HZ := Lib.hid (fun w => hsz w (by omega))
  have H5 := Lib.hid h5
  clear hsz h5
  obtain ⟨M, hM⟩ : ∃ M, M = ((List.replicate L (0 : UInt8)).map B8).toArray := ⟨_, rfl⟩
  have hmk : ∀ W : World, (Instr.makeSlice 23 (.int .i64 (L : Int)) (.int .i64 (L : Int))).run Try.prog W = .ok (.slice (some ⟨W.heap.size, 0, none⟩) L L) (W.alloc (.cells M 5)) := fun W => by
    have h := run_make (P := Try.prog) W 23 5 i1 (.int .u8 0) Try.underlying23 gi gz0 .i64 .i64 (L : Int) (L : Int) (by omega) (by omega) (by rw [gz2]; omega) (by omega)
    rw [gz1] at h
    have e : madeCells (Value.int .u8 0).cells (((L : Nat) : Int).toNat * 1) = M := by
      rw [hM]
      apply Array.ext'
      rw [show (Value.int .u8 0).cells = #[.int .u8 0] from rfl, toList_madeCells_one]
      simp [B8]
    rw [e] at h
    simpa using h
  have HO : Hid ((w3.alloc (.cells M 5)).ownsRow w.heap.size 5 1 (.slice (some ⟨w3.heap.size, 0, none⟩) L L) L ((setAll (O.take 0) (List.replicate L 0)).map B8)) := by
    have h := World.ownsRow_lit (base := w.heap.size) (size := 1) (e := 5) w3 M L HB3.out.size (by unfold maxLen; omega) (by rw [hM]; simp)
    rw [hM] at h ⊢
    exact h
  have HBz : Hid (Below w3.heap.size w3 (w3.alloc (.cells M 5))) := (Below.refl _ w3).alloc (Nat.le_refl _) _
  have HR3 := Lib.hid hr3
  have HW : Hid (w.heap.size ≤ w3.heap.size) := HB3.out.size
  clear hM gi gz0 gz1 gz2 hr3 ha3 HO3
  go_wp2_with fail
  refine (HZ.out _).mono ?_
  rintro e w' ⟨rfl, rfl⟩
  go_wp2_with fail
  clear hmk HZ
  generalize w3.heap.size = g at *
  go_loopw [21] (fun v wr => IR w w3 O g L v wr) (fun v _ => O.length - (intOf v).toNat)
  case atStart => exact ⟨0, Nat.zero_le _, rfl, HO, HBz⟩
  case round =>
    obtain ⟨i, hi, rfl, HOi, HBi⟩ := hrel
    by_cases hlt : i < O.length
    · clear HO HBz
      obtain ⟨b1, o1, rfl, hbb, hc⟩ := HR3.out (by simp; omega)
      have k1 : wr.cell? ⟨b1, o1 + i, none⟩ = some (.string ⟨(O[i]).toArray⟩) := (HBi.out.cell (p := ⟨b1, o1 + i, none⟩) hbb).trans (cellS hc hlt)
      have hsl := HS.out _ (List.getElem_mem hlt)
      have hL0 := H5.out (by omega)
      have hgs : O[i]?.getD [] = O[i] := by rw [List.getElem?_eq_getElem hlt]; rfl
      have HSN := Lib.hid (setAll_snoc O hlt (List.replicate L 0))
      obtain ⟨T, hT⟩ : ∃ T, #[Value.int .u64 ((place O[i] 0 (8 * L) : Nat) : Int), .int .u64 ((place O[i] 1 (8 * L) : Nat) : Int), .int .u64 ((place O[i] 2 (8 * L) : Nat) : Int)] = T := ⟨_, rfl⟩
      have HT : Hid (∀ k : Nat, k < 3 → T[k]? = some (.int .u64 ((place O[i] k (8 * L) : Nat) : Int))) := Lib.hid fun k hk => by
        obtain ⟨x, hx, h⟩ := trio_get O[i] (8 * L) k hk
        rw [← hT, h, hx]
      have CP : Hid (∀ w : World, Calls Try.prog 18 #[.string ⟨(O[i]).toArray⟩, .slice (some ⟨g, 0, none⟩) L L] w fun e w' => e = .returned (.agg T) ∧ Below w.heap.size w w') := Lib.hid fun w => by
        have h := places_any O[i] L L (some ⟨g, 0, none⟩) w hsl hL0 (by omega)
        rw [trio, hT] at h
        exact h
      have HKR : Hid (∀ v wr, KR w w3 O g L i v wr = ∃ k : Nat, k ≤ 3 ∧ v = .int .i64 (k : Int) ∧ Hid (Row w wr g L (setK O[i] k (setAll (O.take i) (List.replicate L 0)))) ∧ Hid (Below g w3 wr)) := Lib.hid fun v wr => by unfold KR; rw [hgs]
      clear hc hgs hT hsl
      obtain ⟨s, hs⟩ : ∃ s, O[i] = s := ⟨_, rfl⟩
      rw [hs] at k1 HSN HT CP HKR
      clear hs
      go_wp2_with fail
      refine (CP.out _).mono ?_
      rintro e w5 ⟨rfl, hb5⟩
      have hgl : g < wr.heap.size := by
        rcases HOi.out.2 with ⟨h, _⟩ | ⟨g', cap', cur, hv', hbase, hb, h1, h2, h3, h4⟩
        · cases h
        · cases hv'
          exact (Array.getElem?_eq_some_iff.1 hb).1
      have HB5 : Hid (Below g w3 w5) := HBi.out.trans (hb5.mono (by omega))
      have HO5 : Hid (Row w w5 g L (setAll (O.take i) (List.replicate L 0))) := own_keep HOi.out hb5
      clear CP hb5 hgl HOi HBi k1
      go_wp2_with fail
      go_loopw [28] (fun v wr => KR w w3 O g L i v wr) (fun v _ => 3 - (intOf v).toNat)
      case atStart => rw [HKR.out]; exact ⟨0, by omega, rfl, HO5, HB5⟩
      case round =>
        rw [HKR.out] at hrel
        obtain ⟨k, hk, rfl, HOk, HBk⟩ := hrel
        by_cases hk3 : k < 3
        · obtain ⟨f, hf⟩ : ∃ f, setK s k (setAll (O.take i) (List.replicate L 0)) = f := ⟨_, rfl⟩
          have hfl : f.length = L := by rw [← hf, setK_len, setAll_len, List.length_replicate]
          have ht := HT.out k hk3
          have hp : place s k (8 * L) < 8 * L := Nat.mod_lt _ (by omega)
          have hnx : Hid (setK s (k + 1) (setAll (O.take i) (List.replicate L 0)) = setB f (place s k (8 * L))) := by
            show _ = _
            rw [setK, hf, setAll_len, List.length_replicate]
          rw [hf] at HOk
          generalize place s k (8 * L) = p at *
          have hpL : p / 8 < L := by omega
          have hx := (f[p / 8]'(by omega)).toNat_lt
          have hg8 : (f[p / 8]?.getD 0) = f[p / 8]'(by omega) := by rw [List.getElem?_eq_getElem (by omega)]; rfl
          have k2 : wr.cell? ⟨g, p / 8, none⟩ = some (.int .u8 (((f[p / 8]'(by omega)).toNat : Nat) : Int)) := by
            have h := HOk.out.cellAt (p / 8) (by omega)
            rw [h, List.getElem?_map, List.getElem?_eq_getElem (by omega)]
            rfl
          have k3 := HOk.out.frozenAt (p / 8)
          have HSB : Hid (setB f p = f.set (p / 8) (UInt8.ofNat ((f[p / 8]'(by omega)).toNat ||| 2 ^ (p % 8)))) := by show _ = _; rw [setB, hg8]
          generalize (f[p / 8]'(by omega)).toNat = x at *
          have hix : ∀ w, (Instr.index 37 (.agg T) (.int .i64 (k : Int))).run Try.prog w = .ok (.int .u64 (p : Int)) w := run_trio T k hk3 _ ht
          have HFL := Lib.hid hfl
          clear hf hg8 ht HT hfl
          go_wp2_with fail
          have hv : Value.int IntKind.u8 (bits .or .u8 (x : Int) (2 ^ (p % 8) % 256)) = B8 (UInt8.ofNat (x ||| 2 ^ (p % 8))) := or_cell (by omega) (Nat.mod_lt _ (by omega))
          rw [hv, HKR.out]
          refine ⟨⟨k + 1, by omega, by go_num, ?_, Lib.hid (HBk.out.setCell (p := ⟨g, p / 8, none⟩) (Nat.le_refl _) _)⟩, by simp only [intOf]; omega⟩
          rw [hnx.out, HSB.out]
          have h := (HOk.out.stored (p / 8) (B8 (UInt8.ofNat (x ||| 2 ^ (p % 8))))).1
          refine Lib.hid ?_
          unfold Row
          rw [List.map_set]
          exact h
        · obtain rfl : k = 3 := by omega
          go_wp2_with fail
          refine ⟨⟨i + 1, by omega, by go_num, ?_, HBk⟩, by simp only [intOf]; omega⟩
          rw [HSN.out]
          exact HOk
    · obtain rfl : i = O.length := by omega
      rw [List.take_length, ← HML.out] at HOi
      have hml : (make l).length = L := by rw [HML.out, setAll_len, List.length_replicate]
      go_wp2_with fail
      go_ret
      exact ⟨_, rfl, by rw [hml]; exact HOi.out, HB3.out.trans (HBi.out.mono HW.out)⟩
end Go.Proofs.Yteaafkadjglnhaa.BlMakeW
