/- The walk of BloomSizes over what stage 12 asks of the program. -/
import Derived.Test.YteaafkadjglnhaaBlKeepsW
import Derived.BigQuiet
import Derived.BigRegion
namespace Go.Proofs.Yteaafkadjglnhaa.BlSizesW
open Go Go.RowKit Words Less BlSpec BlRef UtOwn BlMake BlLaw BlKeepsW
open App (wpList_append_rd)

/-- A filter with one bit turned. -/
def flip (f : List UInt8) (p : Nat) : List UInt8 := f.set (p / 8) (UInt8.ofNat ((f[p / 8]?.getD 0).toNat ^^^ 2 ^ (p % 8)))
theorem flip_len (f : List UInt8) (p : Nat) : (flip f p).length = f.length := by simp [flip]
theorem pow8 (p : Nat) : 2 ^ (p % 8) < 2 ^ 8 := Nat.pow_lt_pow_right (by omega) (by omega)
theorem xor_lt (x : UInt8) (p : Nat) : x.toNat ^^^ 2 ^ (p % 8) < 2 ^ 8 := Nat.xor_lt_two_pow (by have := x.toNat_lt; omega) (pow8 p)
theorem bit_flip {f : List UInt8} {p : Nat} (hp : p / 8 < f.length) (q : Nat) : bit (flip f p) q = (bit f q ^^ decide (q = p)) := by
  have h3 := xor_lt (f[p / 8]?.getD 0) p
  unfold bit flip
  by_cases e : q / 8 = p / 8
  · rw [e, List.getElem?_set_self hp, Option.getD_some, UInt8.toNat_ofNat_of_lt' h3, Nat.testBit_xor, Nat.testBit_two_pow]
    congr 1
    rw [decide_eq_decide]
    omega
  · rw [List.getElem?_set_ne (fun h => e h.symm)]
    have : q ≠ p := fun h => e (by rw [h])
    simp [this]
theorem flip_flip {f : List UInt8} {p : Nat} (hp : p / 8 < f.length) : flip (flip f p) p = f := by
  refine setB_ext (by rw [flip_len, flip_len]) fun q => ?_
  rw [bit_flip (by rw [flip_len]; exact hp), bit_flip hp, Bool.xor_assoc, Bool.xor_self, Bool.xor_false]
/-- Of a filter that has a word: turned at p it has it unless p is one of the word's places. -/
def isP (s : List UInt8) (m p : Nat) : Prop := p = place s 0 m ∨ p = place s 1 m ∨ p = place s 2 m
instance (s : List UInt8) (m p : Nat) : Decidable (isP s m p) := by unfold isP; exact inferInstance
theorem has_flip {f s : List UInt8} {p : Nat} (h : has f s = true) (hp : p / 8 < f.length) : has (flip f p) s = !decide (isP s (8 * f.length) p) := by
  have hh := (has_iff _ _).1 h
  by_cases hi : isP s (8 * f.length) p
  · rw [decide_eq_true hi, Bool.not_true, Bool.eq_false_iff]
    intro h2
    have h3 := ((has_iff _ _).1 h2).2
    rw [flip_len] at h3
    have key : ∀ j, j < 3 → p = place s j (8 * f.length) → False := fun j hj e => by
      have h4 := h3 j hj
      rw [bit_flip hp, hh.2 j hj, ← e] at h4
      simp at h4
    rcases hi with e | e | e
    · exact key 0 (by omega) e
    · exact key 1 (by omega) e
    · exact key 2 (by omega) e
  · rw [decide_eq_false hi, Bool.not_false]
    refine (has_iff _ _).2 ⟨by rw [flip_len]; exact hh.1, fun j hj => ?_⟩
    rw [flip_len, bit_flip hp, hh.2 j hj]
    have : place s j (8 * f.length) ≠ p := fun e => hi (by
      unfold isP
      match j, hj with
      | 0, _ => exact .inl e.symm
      | 1, _ => exact .inr (.inl e.symm)
      | 2, _ => exact .inr (.inr e.symm))
    simp [this]
/-- How many of the first i places are a word's. -/
def cnt (s : List UInt8) (m : Nat) : Nat → Nat
  | 0 => 0
  | i + 1 => cnt s m i + if isP s m i then 1 else 0
def bel (p i : Nat) : Nat := if p < i then 1 else 0
theorem bel_succ (p i : Nat) : bel p (i + 1) = bel p i + if i = p then 1 else 0 := by
  unfold bel
  by_cases h1 : p < i
  · rw [if_pos h1, if_pos (by omega), if_neg (by omega)]
  · by_cases h2 : i = p
    · rw [if_neg h1, if_pos (by omega), if_pos h2]
    · rw [if_neg h1, if_neg (by omega), if_neg h2]
theorem one_le (s : List UInt8) (m i : Nat) : (if isP s m i then 1 else 0) ≤ (if i = place s 0 m then 1 else 0) + (if i = place s 1 m then 1 else 0) + (if i = place s 2 m then 1 else 0) := by
  by_cases h0 : i = place s 0 m
  · rw [if_pos (show isP s m i from .inl h0), if_pos h0]; omega
  · by_cases h1 : i = place s 1 m
    · rw [if_pos (show isP s m i from .inr (.inl h1)), if_pos h1]; omega
    · by_cases h2 : i = place s 2 m
      · rw [if_pos (show isP s m i from .inr (.inr h2)), if_pos h2]; omega
      · rw [if_neg (fun h : isP s m i => Or.elim h h0 (fun h => Or.elim h h1 h2))]; omega
theorem cnt_le (s : List UInt8) (m : Nat) : ∀ i, cnt s m i ≤ bel (place s 0 m) i + bel (place s 1 m) i + bel (place s 2 m) i
  | 0 => Nat.zero_le _
  | i + 1 => by
    have ih := cnt_le s m i
    have h := one_le s m i
    rw [cnt, bel_succ, bel_succ, bel_succ]
    omega
theorem le_cnt (s : List UInt8) (m : Nat) : ∀ i, bel (place s 0 m) i ≤ cnt s m i
  | 0 => by simp [bel]
  | i + 1 => by
    have ih := le_cnt s m i
    rw [cnt, bel_succ]
    by_cases h : i = place s 0 m
    · rw [if_pos h, if_pos (show isP s m i from .inl h)]; omega
    · rw [if_neg h]; omega
theorem cnt_i (s : List UInt8) (m : Nat) : ∀ i, cnt s m i ≤ i
  | 0 => Nat.le_refl _
  | i + 1 => by
    have ih := cnt_i s m i
    rw [cnt]
    split <;> omega
theorem cnt_all {s : List UInt8} {m : Nat} (hm : 0 < m) : 1 ≤ cnt s m m ∧ cnt s m m ≤ 3 := by
  have h1 := cnt_le s m m
  have h2 := le_cnt s m m
  have h3 : place s 0 m < m := Nat.mod_lt _ hm
  unfold bel at *
  rw [if_pos h3] at h2
  refine ⟨h2, ?_⟩
  repeat' split at h1
  all_goals omega
/-- The lengths. -/
theorem ins_le (x : List UInt8) (o : List (List UInt8)) : o.length ≤ (ins x o).length := by
  rw [ins_pos]
  split
  · exact Nat.le_refl _
  · rw [List.length_append, List.length_cons, List.length_take, List.length_drop]
    omega
theorem once_snoc (l : List (List UInt8)) (s : List UInt8) : once (l ++ [s]) = ins s (once l) := by
  unfold once
  rw [List.foldl_append]
  rfl
theorem lens (l : List (List UInt8)) (s : List UInt8) : (make l).length % 8 = 0 ∧ (make l).length ≤ (make (l ++ [s])).length ∧ (make (l ++ [s])).length ≤ (make l).length + 8 ∧ (0 < l.length → 0 < (make l).length) ∧ 0 < (make (l ++ [s])).length := by
  have h1 := ins_length s (once l)
  have h2 := ins_le s (once l)
  have h3 : 0 < l.length → 0 < (make l).length := fun h => make_pos (List.getElem_mem h)
  have h4 : 0 < (make (l ++ [s])).length := make_pos (List.mem_append_right _ (List.mem_singleton.2 rfl))
  refine ⟨?_, ?_, ?_, h3, h4⟩
  · rw [make_len]; omega
  · rw [make_len, make_len, once_snoc]; unfold size; omega
  · rw [make_len, make_len, once_snoc]; unfold size; omega
theorem xor_cell {x d : Nat} (hx : x < 256) (hd : d < 8) : Value.int IntKind.u8 (bits .xor .u8 (x : Int) (2 ^ d % 256)) = B8 (UInt8.ofNat (x ^^^ 2 ^ d)) := by
  have h2 : 2 ^ d < 2 ^ 8 := Nat.pow_lt_pow_right (by omega) hd
  have h3 : x ^^^ 2 ^ d < 2 ^ 8 := Nat.xor_lt_two_pow (by omega) h2
  have e : (2 : Int) ^ d % 256 = ((2 ^ d : Nat) : Int) := by
    rw [show (2 : Int) ^ d = ((2 ^ d : Nat) : Int) by push_cast; rfl]
    generalize 2 ^ d = q at *
    omega
  rw [e, u8_xor_nat x (2 ^ d) hx (by omega), B8, UInt8.toNat_ofNat_of_lt' h3]
/-- What a turned bit asks of memory, and leaves. -/
theorem turn_row {wr : World} {base gb n c5 i : Nat} {f : List UInt8} (hO : wr.ownsRow base 5 1 (.slice (some ⟨gb, 0, none⟩) n c5) n (f.map B8)) (hn : f.length = n) (hi : i / 8 < n) :
    ∃ x : Nat, wr.cell? ⟨gb, i / 8, none⟩ = some (.int .u8 (x : Int)) ∧ wr.frozen? ⟨gb, i / 8, none⟩ = false ∧
      Hid ((wr.setCell ⟨gb, i / 8, none⟩ (.int .u8 (bits .xor .u8 (x : Int) (2 ^ (i % 8) % 256)))).ownsRow base 5 1 (.slice (some ⟨gb, 0, none⟩) n c5) n ((flip f i).map B8)) := by
  have hif : i / 8 < f.length := by omega
  refine ⟨(f[i / 8]).toNat, ?_, hO.frozenAt (i / 8), ?_⟩
  · have k2 := hO.cellAt (i / 8) (by omega)
    rw [k2, List.getElem?_map, List.getElem?_eq_getElem hif]
    rfl
  · show World.ownsRow _ _ _ _ _ _ _
    rw [xor_cell (by have := (f[i / 8]).toNat_lt; omega) (Nat.mod_lt _ (by omega)), flip, List.getElem?_eq_getElem hif, List.map_set]
    exact (hO.stored (i / 8) _).1
def SRel (w2 w4 : World) (s G : List UInt8) (A5 : Option Addr) (c5 : Nat) (vo vi : Value) (wr : World) : Prop :=
  ∃ i : Nat, i ≤ 8 * G.length ∧ vi = .int .i64 (i : Int) ∧ vo = .int .i64 ((cnt s (8 * G.length) i : Nat) : Int) ∧ Hid (wr.ownsRow w4.heap.size 5 1 (.slice A5 G.length c5) G.length (G.map B8)) ∧ Hid (Below w2.heap.size w2 wr)
set_option maxHeartbeats 6400000 in
set_option maxRecDepth 100000 in
theorem sizes_any {N : Nat} (P : Bloom N) (w : World) (l : List (List UInt8)) (A : Option Addr) (c : Nat) (h1 : Rd w w.heap.size A (l.map S8)) (hm : l.length ≤ c) (hc : c ≤ maxLen) (hlN : l.length + 1 ≤ N) (hl : l.length * 16 ≤ 140737488355327) (hs : ∀ s ∈ l, s.length ≤ maxLen)
    (s : List UInt8) (hs1 : s.length ≤ maxLen) :
    Calls Try.prog 6 #[.slice A l.length c, .string ⟨s.toArray⟩] w fun e w' => e = .returned (.bool true) ∧ Below w.heap.size w w' := by
  obtain ⟨i1, gi, gz0, gz1, gz2⟩ := info_parts info_str
  have HA := Lib.hid (awake_any P w)
  have H1 := Lib.hid h1
  have HS := Lib.hid hs
  have hlen := lens l s
  unfold maxLen at hc
  clear h1 hs
  go_enter Try.func6, Try.ntmps6
  go_wp2_with fail
  refine HA.out.mono ?_
  rintro e w1 ⟨rfl, hb1⟩
  have HB1 := Lib.hid hb1
  have HM := Lib.hid (P.make_ w1 l A c ((H1.out.below hb1).more hb1.size) hm (by unfold maxLen; omega) (by omega) HS.out)
  clear hb1 HA
  go_wp2_with fail
  refine HM.out.mono ?_
  rintro e w2 ⟨v2, rfl, ho2, hb2⟩
  obtain ⟨A2, c2, rfl, _, _, _, _⟩ := own_rd ho2
  have HB2 : Hid (Below w.heap.size w w2) := HB1.out.trans (hb2.mono HB1.out.size)
  clear ho2 hb2 HM HB1
  have hown0 := World.ownsRow_lit (base := w2.heap.size) (e := 9) (size := 1) w2 #[] 0 (Nat.le_refl _) (by unfold maxLen; omega) rfl
  have HBz := Lib.hid ((Below.refl w2.heap.size w2).alloc (Nat.le_refl _) (.cells #[] 9))
  have HRz : Hid (Rd (w2.alloc (.cells #[] 9)) w.heap.size A (l.map S8)) := (H1.out.below HB2.out).below (HBz.out.mono HB2.out.size)
  have q1 : 0 + l.length ≤ maxLen := by unfold maxLen; omega
  have q2 : (0 + l.length) * 16 ≤ 140737488355328 := by omega
  have q3 : l.length + 1 ≤ maxLen := by unfold maxLen; omega
  have q4 : (l.length + 1) * 16 ≤ 140737488355328 := by omega
  go_wp2_with (at_builtin; refine wpList_append_rd (v := .slice (some ⟨w2.heap.size, 0, none⟩) 0 0) _ rfl (.tmp 13) (.tmp 14) 22 rfl w2.heap.size 9 i1 (.string ByteArray.empty) 16 Try.underlying22 gi gz0 gz1 gz2 rfl 0 [] rfl hown0 w.heap.size A l.length c (l.map S8) rfl (List.length_map _) HRz.out (oneS l) q1 q2 HBz.out.size ?_)
  intro v3 w3 hown3 hg3 _
  have HB3 := Lib.hid (below_app hown0 HBz.out hg3)
  have HO3 : Hid (w3.ownsRow w2.heap.size 9 1 v3 l.length (l.map S8)) := by
    show World.ownsRow _ _ _ _ _ _ _
    simpa using hown3
  clear hown0 hown3 hg3 HRz HBz
  have HX1 : Hid (∀ u ∈ [Value.string ⟨s.toArray⟩], u.oneCell' = true) := by intro u hu; simp at hu; subst hu; rfl
  have HB3a : Hid (Below w2.heap.size w2 (w3.alloc (.cells #[.string ⟨s.toArray⟩] 9))) := HB3.out.alloc HB3.out.size _
  have HO3a : Hid ((w3.alloc (.cells #[.string ⟨s.toArray⟩] 9)).ownsRow w2.heap.size 9 1 v3 l.length (l.map S8)) := HO3.out.alloc _
  go_wp2_with (at_builtin; refine wpList_append_rd (v := v3) _ rfl (.tmp 15) (.tmp 17) 22 rfl w2.heap.size 9 i1 (.string ByteArray.empty) 16 Try.underlying22 gi gz0 gz1 gz2 rfl _ _ rfl HO3a.out (w3.heap.size + 1) (some ⟨w3.heap.size, 0, none⟩) 1 1 [.string ⟨s.toArray⟩] rfl rfl (Rd.made w3 #[.string ⟨s.toArray⟩] 9) HX1.out q3 q4 HB3a.out.size ?_)
  intro v4 w4 hown4 hg4 _
  have HB4 := Lib.hid (below_app HO3a.out HB3a.out hg4)
  have HM4 : Hid (∃ A4 c4, v4 = .slice A4 (l.length + 1) c4 ∧ Calls Try.prog 8 #[.slice A4 (l.length + 1) c4] w4 fun e w' => ∃ v, e = .returned v ∧ w'.ownsRow w4.heap.size 5 1 v (make (l ++ [s])).length ((make (l ++ [s])).map B8) ∧ Below w4.heap.size w4 w') := by
    obtain ⟨A4, c4, rfl, f1, f2, f3, _⟩ := own_rd hown4
    refine ⟨A4, c4, rfl, ?_⟩
    have hL : (l ++ [s]).length = l.length + 1 := by simp
    have h := P.make_ w4 (l ++ [s]) A4 c4 (by rw [List.map_append]; exact f3) (by omega) f2 (by omega) (fun x hx => (List.mem_append.1 hx).elim (HS.out x) (fun h => by rw [List.mem_singleton.1 h]; exact hs1))
    rw [hL] at h
    exact h
  have HHS : Hid (has (make (l ++ [s])) s = true) := has_make (List.mem_append_right _ (List.mem_singleton.2 rfl))
  obtain ⟨A4, c4, rfl, hm4⟩ := HM4.out
  have HN4 := Lib.hid hm4
  have hfl : (make (l ++ [s])).length ≤ 8 * (l.length + 1) := by
    have h := once_length (l ++ [s])
    rw [List.length_append] at h
    have h2 : [s].length = 1 := rfl
    rw [make_len, size]
    omega
  clear hown4 hg4 HO3 HO3a HB3a HX1 HM4 hm4
  generalize make (l ++ [s]) = G at *
  generalize hF : make l = F at *
  clear hF
  obtain ⟨l1, l2, l3, l4, l5⟩ := hlen
  go_wp2_with fail
  refine HN4.out.mono ?_
  rintro e w5 ⟨v5, rfl, ho5, hb5⟩
  obtain ⟨A5, c5, rfl, r1, r2, r3, _⟩ := own_rd ho5
  have HB5 : Hid (Below w2.heap.size w2 w5) := below_step HB4.out hb5
  have HO5 := Lib.hid ho5
  have HR5 := Lib.hid r3
  clear ho5 hb5 r3 HN4
  have hb1 : decide (G.length < F.length) = false := decide_eq_false (by omega)
  have hb2 : decide ((F.length : Int) + 8 < (G.length : Int)) = false := decide_eq_false (by omega)
  have hb3 : ¬ G.length < F.length := by omega
  have hb4 : ¬ (F.length : Int) + 8 < (G.length : Int) := by omega
  have HL4 := Lib.hid l4
  have CH : Hid (∀ wz f, f.length = G.length → Rd wz wz.heap.size A5 (f.map B8) → ∀ q, has f s = q → Calls Try.prog 10 #[.slice A5 G.length c5, .string ⟨s.toArray⟩] wz fun e w' => e = .returned (.bool q) ∧ Below wz.heap.size wz w') := fun wz f hfl2 hr q hq => by
    subst hq
    have h := P.has_ wz f s A5 c5 hr (by omega) r2 (by omega) hs1
    rw [hfl2] at h
    exact h
  have C5 := Lib.hid (CH.out w5 G rfl HR5.out true HHS.out)
  clear l4
  by_cases hl0 : 0 < l.length
  case' pos =>
    have hF0 := HL4.out hl0
    have hF1 : ((F.length : Int) == 0) = false := beq_eq_false_iff_ne.2 (by omega)
    go_wp2_with fail
  case' neg =>
    have hl1 : l.length = 0 := by omega
    clear hl0
    go_wp2_with fail
  all_goals
    refine C5.out.mono ?_
    rintro e w6 ⟨rfl, hb6⟩
    have HB6 : Hid (Below w2.heap.size w2 w6) := below_step HB5.out hb6
    have HO6 : Hid (w6.ownsRow w4.heap.size 5 1 (.slice A5 G.length c5) G.length (G.map B8)) := own_keep HO5.out hb6
    clear hb6 C5 HO5 HR5 HB5
    go_wp2_with fail
    go_loopw [7, 8] (fun vo vi wr => SRel w2 w4 s G A5 c5 vo vi wr) (fun _ vi _ => 8 * G.length - (intOf vi).toNat)
    case atStart => exact ⟨0, Nat.zero_le _, rfl, rfl, HO6, HB6⟩
    case round =>
      obtain ⟨i, hi, rfl, rfl, HOi, HBi⟩ := hrel
      clear HO6 HB6
      have hci := cnt_i s (8 * G.length) i
      by_cases hlt : i < 8 * G.length
      · obtain ⟨gb, gc, hgv, hgb, _⟩ := HOi.out.form (by omega)
        injection hgv with e1 _ e3
        subst e1 e3
        have hi8 : i / 8 < G.length := by omega
        have i1 : (0 : Int) ≤ (i : Int) := by omega
        have i2 : (i : Int) / 8 < (G.length : Int) := by omega
        have i3 : (0 : Int) ≤ (i : Int) / 8 := by omega
        have i4 : (i : Int) < 8 * (G.length : Int) := by omega
        have i5 : (0 : Int) ≤ (i : Int) % 8 := by omega
        obtain ⟨x, k2, k3, HT⟩ := turn_row (i := i) HOi.out rfl hi8
        have HBW := Lib.hid (HBi.out.setCell (p := ⟨gb, i / 8, none⟩) (Nat.le_trans HB4.out.size hgb) (.int .u8 (bits .xor .u8 (x : Int) (2 ^ (i % 8) % 256))))
        have hHF := has_flip HHS.out hi8
        have hFL := Lib.hid (flip_len G i)
        have hFF := Lib.hid (flip_flip hi8)
        have hcn : Hid (cnt s (8 * G.length) (i + 1) = cnt s (8 * G.length) i + if isP s (8 * G.length) i then 1 else 0) := rfl
        by_cases hp : isP s (8 * G.length) i
        · rw [decide_eq_true hp, Bool.not_true] at hHF
          have HHF := Lib.hid hHF
          rw [if_pos hp] at hcn
          generalize cnt s (8 * G.length) i = n0 at *
          clear hHF HBi HOi
          go_wp2_with fail
          go_region
          generalize HWR : (wr.setCell ⟨gb, i / 8, none⟩ (.int .u8 (bits .xor .u8 (x : Int) (2 ^ (i % 8) % 256)))).drew = wq
          have HO7 : Hid (wq.ownsRow w4.heap.size 5 1 (.slice (some ⟨gb, 0, none⟩) G.length c5) G.length ((flip G i).map B8)) := by rw [← HWR]; exact HT.out.drew
          have HB7 : Hid (Below w2.heap.size w2 wq) := by rw [← HWR]; exact HBW.out.drew
          clear HWR HT HBW k2 k3
          have C7 := Lib.hid (CH.out wq (flip G i) hFL.out (Rd.of_own HO7.out) false HHF.out)
          go_wp2_with fail
          refine C7.out.mono ?_
          rintro e wx ⟨rfl, hbx⟩
          have HO8 := Lib.hid (own_keep HO7.out hbx)
          have HB8 := Lib.hid (below_step HB7.out hbx)
          obtain ⟨y, k2, k3, HT⟩ := turn_row (i := i) HO8.out hFL.out hi8
          have HBW := Lib.hid (HB8.out.setCell (p := ⟨gb, i / 8, none⟩) (Nat.le_trans HB4.out.size hgb) (.int .u8 (bits .xor .u8 (y : Int) (2 ^ (i % 8) % 256))))
          rw [hFF.out] at HT
          clear C7 hbx HO7 HB7 HO8 HB8
          go_wp2_with fail
          go_region
          generalize HWR : (wx.setCell ⟨gb, i / 8, none⟩ (.int .u8 (bits .xor .u8 (y : Int) (2 ^ (i % 8) % 256)))).drew = wy
          have HO9 : Hid (wy.ownsRow w4.heap.size 5 1 (.slice (some ⟨gb, 0, none⟩) G.length c5) G.length (G.map B8)) := by rw [← HWR]; exact HT.out.drew
          have HB9 : Hid (Below w2.heap.size w2 wy) := by rw [← HWR]; exact HBW.out.drew
          clear HWR HT HBW k2 k3
          go_wp2_with fail
          exact ⟨⟨i + 1, by omega, by go_num, by rw [hcn.out]; go_num, HO9, HB9⟩, by simp only [intOf]; omega⟩
        · rw [decide_eq_false hp, Bool.not_false] at hHF
          have HHF := Lib.hid hHF
          rw [if_neg hp, Nat.add_zero] at hcn
          generalize cnt s (8 * G.length) i = n0 at *
          clear hHF HBi HOi
          go_wp2_with fail
          go_region
          generalize HWR : (wr.setCell ⟨gb, i / 8, none⟩ (.int .u8 (bits .xor .u8 (x : Int) (2 ^ (i % 8) % 256)))).drew = wq
          have HO7 : Hid (wq.ownsRow w4.heap.size 5 1 (.slice (some ⟨gb, 0, none⟩) G.length c5) G.length ((flip G i).map B8)) := by rw [← HWR]; exact HT.out.drew
          have HB7 : Hid (Below w2.heap.size w2 wq) := by rw [← HWR]; exact HBW.out.drew
          clear HWR HT HBW k2 k3
          have C7 := Lib.hid (CH.out wq (flip G i) hFL.out (Rd.of_own HO7.out) true HHF.out)
          go_wp2_with fail
          refine C7.out.mono ?_
          rintro e wx ⟨rfl, hbx⟩
          have HO8 := Lib.hid (own_keep HO7.out hbx)
          have HB8 := Lib.hid (below_step HB7.out hbx)
          obtain ⟨y, k2, k3, HT⟩ := turn_row (i := i) HO8.out hFL.out hi8
          have HBW := Lib.hid (HB8.out.setCell (p := ⟨gb, i / 8, none⟩) (Nat.le_trans HB4.out.size hgb) (.int .u8 (bits .xor .u8 (y : Int) (2 ^ (i % 8) % 256))))
          rw [hFF.out] at HT
          clear C7 hbx HO7 HB7 HO8 HB8
          go_wp2_with fail
          go_region
          generalize HWR : (wx.setCell ⟨gb, i / 8, none⟩ (.int .u8 (bits .xor .u8 (y : Int) (2 ^ (i % 8) % 256)))).drew = wy
          have HO9 : Hid (wy.ownsRow w4.heap.size 5 1 (.slice (some ⟨gb, 0, none⟩) G.length c5) G.length (G.map B8)) := by rw [← HWR]; exact HT.out.drew
          have HB9 : Hid (Below w2.heap.size w2 wy) := by rw [← HWR]; exact HBW.out.drew
          clear HWR HT HBW k2 k3
          go_wp2_with fail
          exact ⟨⟨i + 1, by omega, by go_num, by rw [hcn.out]; rfl, HO9, HB9⟩, by simp only [intOf]; omega⟩
      · obtain rfl : i = 8 * G.length := by omega
        obtain ⟨n1, n2⟩ := cnt_all (s := s) (m := 8 * G.length) (by omega)
        have HE : Hid (Below w.heap.size w wr) := HB2.out.trans (HBi.out.mono HB2.out.size)
        generalize cnt s (8 * G.length) (8 * G.length) = n0 at *
        have n3 : (1 : Int) ≤ (n0 : Int) := by omega
        have n4 : (n0 : Int) ≤ 3 := by omega
        clear HOi HBi
        go_wp2_with fail
        go_ret
        exact ⟨rfl, HE.out⟩
end Go.Proofs.Yteaafkadjglnhaa.BlSizesW
