/- The contract of the document's Make: the filter, in new memory. Conditions: at most 2^43 texts, each of a length that Go's strings have. -/
import Derived.Test.YteaafkadjglnhaaBlRef
import Derived.Test.YteaafkadjglnhaaTxOnce
namespace Go.Proofs.Yteaafkadjglnhaa.BlMake
open Go Go.RowKit Words Less BlSpec BlRef UtOwn

theorem info_b8 : (Try.prog.info? 5).map (fun i => (i.zero, i.size, i.bytes)) = some (some (.int .u8 0), 1, 1) := by kernel_rfl
/-- The loop that counts the eights. -/
def ZRel (n : Nat) (v : Value) : Prop := ∃ z : Nat, z ≤ size n ∧ v = .int .i64 (z : Int)
theorem size_lt {n z : Nat} : z < size n ↔ 64 * z < 10 * n := by unfold size; omega
def MPost (ws : List (List UInt8)) (w : World) (e : Ending) (w' : World) : Prop :=
  ∃ v, e = .returned v ∧ w'.ownsRow w.heap.size 5 1 v (make ws).length ((make ws).map B8) ∧ Below w.heap.size w w'

theorem or_cell {x d : Nat} (hx : x < 256) (hd : d < 8) : Value.int IntKind.u8 (bits .or .u8 (x : Int) (2 ^ d % 256)) = B8 (UInt8.ofNat (x ||| 2 ^ d)) := by
  have h2 : 2 ^ d < 2 ^ 8 := Nat.pow_lt_pow_right (by omega) hd
  have h3 : x ||| 2 ^ d < 2 ^ 8 := Nat.or_lt_two_pow (by omega) h2
  have e : (2 : Int) ^ d % 256 = ((2 ^ d : Nat) : Int) := by
    rw [show (2 : Int) ^ d = ((2 ^ d : Nat) : Int) by push_cast; rfl]
    generalize 2 ^ d = q at *
    omega
  rw [e, u8_or_nat x (2 ^ d) hx (by omega), B8, UInt8.toNat_ofNat_of_lt' h3]
def Row (w wr : World) (g L : Nat) (f : List UInt8) : Prop := wr.ownsRow w.heap.size 5 1 (.slice (some ⟨g, 0, none⟩) L L) L (f.map B8)
def IRel (l : List (List UInt8)) (w : World) (g L : Nat) (v : Value) (wr : World) : Prop := ∃ i : Nat, i ≤ l.length ∧ v = .int .i64 (i : Int) ∧ Hid (Row w wr g L (setAll (l.take i) (List.replicate L 0))) ∧ Hid (Below w.heap.size w wr)
def KRel (l : List (List UInt8)) (w : World) (g L i : Nat) (v : Value) (wr : World) : Prop := ∃ k : Nat, k ≤ 3 ∧ v = .int .u64 (k : Int) ∧ Hid (Row w wr g L (setK (l[i]?.getD []) k (setAll (l.take i) (List.replicate L 0)))) ∧ Hid (Below w.heap.size w wr)
set_option maxHeartbeats 6400000 in
set_option maxRecDepth 100000 in
theorem refMake_any (w : World) (l : List (List UInt8)) (A : Option Addr) (c : Nat) (h1 : Rd w w.heap.size A (l.map S8)) (hm : l.length ≤ c) (hc1 : c ≤ maxLen) (hl : l.length ≤ 8796093022208) (hs : ∀ s ∈ l, s.length ≤ maxLen) :
    Calls Try.prog 9 #[.slice A l.length c] w (MPost l w) := by
  obtain ⟨i1, gi, gz0, gz1, gz2⟩ := info_parts info_b8
  have CO := TxOnce.once_any w l A c h1 hm hc1 hl
  have H1 := Lib.hid h1
  have HS := Lib.hid hs
  have hol := once_length l
  unfold maxLen at hc1
  clear h1 hs
  go_enter Try.func9, Try.ntmps9
  go_wp2_with fail
  refine CO.mono ?_
  rintro e w1 ⟨v, rfl, hown, hb⟩
  obtain ⟨Ao, co, rfl, ho1, ho2, _⟩ := own_slice hown
  clear hown CO
  generalize hn : (once l).length = n at *
  have HN := Lib.hid hn
  clear hn
  have HB := Lib.hid hb
  clear hb
  go_wp2
  go_loop [4] (fun v => ZRel n v) (fun v => size n - (intOf v).toNat)
  case atStart => exact ⟨0, Nat.zero_le _, rfl⟩
  case round =>
    obtain ⟨z, hz, rfl⟩ := hrel
    by_cases hlt : z < size n
    · have h2 := size_lt.1 hlt
      go_wp2
      exact ⟨⟨z + 1, by omega, by go_num⟩, by simp only [intOf]; omega⟩
    · obtain rfl : z = size n := by omega
      have h2 : ¬ 64 * size n < 10 * n := fun h => hlt (size_lt.2 h)
      have h3 : size n ≤ n := by unfold size; omega
      obtain ⟨L, hL⟩ : ∃ L, 8 * size n = L := ⟨_, rfl⟩
      have r1 : 8 * ((size n : Nat) : Int) = (L : Int) := by omega
      have h4 : L ≤ 70368744177664 := by omega
      obtain ⟨M, hM⟩ : ∃ M, M = ((List.replicate L (0 : UInt8)).map B8).toArray := ⟨_, rfl⟩
      have hmk : ∀ W : World, (Instr.makeSlice 23 (.int .i64 (L : Int)) (.int .i64 (L : Int))).run Try.prog W = .ok (.slice (some ⟨W.heap.size, 0, none⟩) L L) (W.alloc (.cells M 5)) := fun W => by
        have h := run_make (P := Try.prog) W 23 5 i1 (.int .u8 0) Try.underlying23 gi gz0 .i64 .i64 (L : Int) (L : Int) (by omega) (by omega) (by rw [gz2]; omega) (by omega)
        rw [gz1] at h
        have e : madeCells (Value.int .u8 0).cells (((L : Nat) : Int).toNat * 1) = M := by
          rw [hM]
          apply Array.ext'
          rw [show (Value.int .u8 0).cells = #[.int .u8 0] from rfl, toList_madeCells_one]
          simp [B8]
        rw [e] at h
        simpa using h
      have HO : Hid ((w1.alloc (.cells M 5)).ownsRow w.heap.size 5 1 (.slice (some ⟨w1.heap.size, 0, none⟩) L L) L ((setAll (l.take 0) (List.replicate L 0)).map B8)) := by
        have h := World.ownsRow_lit (base := w.heap.size) (size := 1) (e := 5) w1 M L HB.out.size (by unfold maxLen; omega) (by rw [hM]; simp)
        rw [hM] at h ⊢
        exact h
      have HB2 : Hid (Below w.heap.size w (w1.alloc (.cells M 5))) := HB.out.alloc HB.out.size _
      have HG : Hid (w.heap.size ≤ w1.heap.size) := HB.out.size
      have HL : Hid (make l = setAll l (List.replicate L 0)) := by show _ = _; rw [make, HN.out, hL]
      have HLL : Hid (8 * size n = L) := hL
      clear hM hL h3 hlt hz HN
      go_wp2
      generalize w1.heap.size = g at *
      clear hmk HB gi gz0 gz1 gz2 h2
      go_loopw [6] (fun v wr => IRel l w g L v wr) (fun v _ => l.length - (intOf v).toNat)
      case atStart => exact ⟨0, Nat.zero_le _, rfl, HO, HB2⟩
      case round =>
        obtain ⟨i, hi, rfl, HOi, HBi⟩ := hrel
        by_cases hlt : i < l.length
        · clear HO HB2
          go_wp2
          go_loopw [7] (fun v wr => KRel l w g L i v wr) (fun v _ => 3 - (intOf v).toNat)
          case atStart => exact ⟨0, by omega, rfl, HOi, HBi⟩
          case round =>
            obtain ⟨k, hk, rfl, HOk, HBk⟩ := hrel
            by_cases hk3 : k < 3
            · obtain ⟨b1, o1, rfl, hbb, hc⟩ := H1.out (by simp; omega)
              have k1 : wr.cell? ⟨b1, o1 + i, none⟩ = some (.string ⟨(l[i]).toArray⟩) := (HBk.out.cell (p := ⟨b1, o1 + i, none⟩) hbb).trans (cellS hc hlt)
              have hsl := HS.out _ (List.getElem_mem hlt)
              have hL0 : 0 < L := by
                have h := make_pos (List.getElem_mem hlt)
                rw [HL.out, setAll_len, List.length_replicate] at h
                exact h
              have hgs : l[i]?.getD [] = l[i] := by rw [List.getElem?_eq_getElem hlt]; rfl
              have CK : Hid (Calls Try.prog 20 #[.string ⟨(l[i]).toArray⟩, .int .u64 (k : Int), .int .u64 (64 * ((size n : Nat) : Int))] wr fun e w' => e = .returned (.int .u64 ((place (l[i]) k (8 * L) : Nat) : Int)) ∧ wr = w') := by
                have h := refPlace_any l[i] k (8 * L) wr hsl hk3 (by omega) (by omega)
                rwa [show ((8 * L : Nat) : Int) = 64 * ((size n : Nat) : Int) by omega] at h
              rw [hgs] at HOk
              obtain ⟨f, hf⟩ : ∃ f, setK l[i] k (setAll (l.take i) (List.replicate L 0)) = f := ⟨_, rfl⟩
              have hfl : f.length = L := by rw [← hf, setK_len, setAll_len, List.length_replicate]
              have hnx : Hid (setK (l[i]?.getD []) (k + 1) (setAll (l.take i) (List.replicate L 0)) = setB f (place l[i] k (8 * L))) := by
                show _ = _
                rw [hgs, setK, hf, setAll_len, List.length_replicate]
              have hp : place l[i] k (8 * L) < 8 * L := Nat.mod_lt _ (by omega)
              rw [hf] at HOk
              generalize place l[i] k (8 * L) = p at *
              generalize l[i] = s at *
              have hpL : p / 8 < L := by omega
              have hx := (f[p / 8]'(by omega)).toNat_lt
              have hg8 : (f[p / 8]?.getD 0) = f[p / 8]'(by omega) := by rw [List.getElem?_eq_getElem (by omega)]; rfl
              have k2 : wr.cell? ⟨g, p / 8, none⟩ = some (.int .u8 (((f[p / 8]'(by omega)).toNat : Nat) : Int)) := by
                have h := HOk.out.cellAt (p / 8) (by omega)
                rw [h, List.getElem?_map, List.getElem?_eq_getElem (by omega)]
                rfl
              have k3 := HOk.out.frozenAt (p / 8)
              have HSB : Hid (setB f p = f.set (p / 8) (UInt8.ofNat ((f[p / 8]'(by omega)).toNat ||| 2 ^ (p % 8)))) := by show _ = _; rw [setB, hg8]
              generalize (f[p / 8]'(by omega)).toNat = x at *
              clear hc hf hgs hg8
              go_wp2_with fail
              refine CK.out.mono ?_
              rintro e w' ⟨rfl, rfl⟩
              clear CK
              go_wp2_with fail
              have hv : Value.int IntKind.u8 (bits .or .u8 (x : Int) (2 ^ (p % 8) % 256)) = B8 (UInt8.ofNat (x ||| 2 ^ (p % 8))) := or_cell (by omega) (Nat.mod_lt _ (by omega))
              rw [hv]
              have hg := HG.out
              refine ⟨⟨k + 1, by omega, by go_num, ?_, Lib.hid (HBk.out.setCell (p := ⟨g, p / 8, none⟩) hg _)⟩, by simp only [intOf]; omega⟩
              rw [hnx.out, HSB.out]
              have h := (HOk.out.stored (p / 8) (B8 (UInt8.ofNat (x ||| 2 ^ (p % 8))))).1
              refine Lib.hid ?_
              unfold Row
              rw [List.map_set]
              exact h
            · obtain rfl : k = 3 := by omega
              go_wp2_with fail
              refine ⟨⟨i + 1, by omega, by go_num, ?_, HBk⟩, by simp only [intOf]; omega⟩
              rw [setAll_snoc l hlt]
              rw [List.getElem?_eq_getElem hlt] at HOk
              exact HOk
        · obtain rfl : i = l.length := by omega
          rw [List.take_length, ← HL.out] at HOi
          have hml : (make l).length = L := by rw [HL.out, setAll_len, List.length_replicate]
          go_wp2_with fail
          go_ret
          exact ⟨_, rfl, by rw [hml]; exact HOi.out, HBi.out⟩
end Go.Proofs.Yteaafkadjglnhaa.BlMake
