/- The contract of the document's Runes: a text's runes, in new memory, and whether it is valid. Condition: the text has at most 2^40 bytes. -/
import Derived.Test.YtahbaifbihpppaaUtOne
import Derived.Test.YtahbaifbihpppaaUtOwn
namespace Go.Proofs.Ytahbaifbihpppaa.UtRunes
open Go Go.RowKit Words App UtSpec UtShelf UtSmall UtRange UtOne UtOwn

def R32 (p : Nat × Nat) : Value := .int .i32 (p.1 : Int)
theorem info_i32 : (Try.prog.info? 21).map (fun i => (i.zero, i.size, i.bytes)) = some (some (.int .i32 0), 1, 4) := by kernel_rfl
def allok (R : List (Nat × Nat)) : Bool := R.all fun p => !bad p
theorem allok_snoc (R : List (Nat × Nat)) (p : Nat × Nat) : allok (R ++ [p]) = (allok R && !bad p) := by simp [allok]
def RRel (s : ByteArray) (w : World) (vl vv va : Value) (wr : World) : Prop :=
  ∃ (pos : Nat) (R : List (Nat × Nat)), va = .int .i64 (pos : Int) ∧ pos ≤ s.size ∧ R.length ≤ pos ∧ Hid (R ++ runes (s.data.toList.drop pos) = runes s.data.toList) ∧ vv = .bool (allok R) ∧
    wr.ownsRow w.heap.size 21 1 vl R.length (R.map R32) ∧ Below w.heap.size w wr
def RPost (s : ByteArray) (w : World) (e : Ending) (w' : World) : Prop :=
  ∃ v, e = .returned (.tuple #[v, .bool (vals s.data.toList)]) ∧ w'.ownsRow w.heap.size 21 1 v (runes s.data.toList).length ((runes s.data.toList).map R32) ∧ Below w.heap.size w w'
theorem one_at {s : ByteArray} {p r n : Nat} (hp : p < s.size) (hs : s.size ≤ 9223372036854775000) (hd : dec (s.data.toList.drop p) = (r, n)) (w : World) :
    Calls Try.prog 54 #[.string s, .int .i64 (p : Int)] w fun e w' => e = .returned (.tuple #[.int .i32 (r : Int), .int .i64 (n : Int)]) ∧ w = w' := by
  have h := one_any s p hp hs w
  unfold OneIs at h
  rw [hd] at h
  exact h
theorem own_snoc32 {w : World} {base : Nat} {v : Value} {R : List (Nat × Nat)} {r n : Nat} (h : w.ownsRow base 21 1 v (R.length + 1) (R.map R32 ++ [.int .i32 (r : Int)])) :
    w.ownsRow base 21 1 v (R ++ [(r, n)]).length ((R ++ [(r, n)]).map R32) := by
  simpa [R32] using h

set_option maxHeartbeats 1600000 in
set_option maxRecDepth 100000 in
theorem runes_any (s : ByteArray) (w : World) (hs : s.size ≤ 1099511627776) : Calls Try.prog 36 #[.string s] w (RPost s w) := by
  obtain ⟨i1, gi, gz0, gz1, gz2⟩ := info_parts info_i32
  go_enter Try.func36, Try.ntmps36
  go_wp2
  go_loopw [4, 5, 6] (fun vl vv va wr => RRel s w vl vv va wr) (fun _ _ va _ => s.size - (intOf va).toNat)
  case atStart => exact ⟨0, [], rfl, Nat.zero_le _, Nat.le_refl _, Lib.hid (by simp), rfl, World.ownsRow_nil .., Below.refl _ _⟩
  case round =>
    obtain ⟨pos, R, rfl, hp', hRl, hR, rfl, hown, hb⟩ := hrel
    by_cases hp : pos < s.size
    · obtain ⟨r, n, hd⟩ : ∃ r n, Utf8.decode s pos = (r, n) := ⟨_, _, rfl⟩
      obtain ⟨hdd, hr, hn1, hn2, hr1, _⟩ := rune_step hp hd
      have H1 := Lib.hid (one_at hp (by omega) hdd wr)
      have HR : Hid (R ++ [(r, n)] ++ runes (s.data.toList.drop (pos + n)) = runes s.data.toList) := Lib.hid (by
        rw [← hR.out, hr]
        simp)
      have HV := Lib.hid (allok_snoc R (r, n))
      obtain ⟨ok, hok⟩ : ∃ ok, allok R = ok := ⟨_, rfl⟩
      rw [hok] at HV ⊢
      have HO := Lib.hid hown
      have HB := Lib.hid hb
      have hbase := hb.size
      clear hd hdd hr hR hok hown hb
      have key : bad (r, n) = true ∧ ((n : Int) == 1) = true ∧ ((r : Int) == 65533) = true ∨ bad (r, n) = false ∧ ((n : Int) == 1) = true ∧ ((r : Int) == 65533) = false ∨ bad (r, n) = false ∧ ((n : Int) == 1) = false := by
        unfold bad
        by_cases h1 : n = 1 <;> by_cases h2 : r = 65533 <;> simp [h1, h2] <;> omega
      rcases key with ⟨hbad, k1, k2⟩ | ⟨hbad, k1, k2⟩ | ⟨hbad, k1⟩
      all_goals
        rw [hbad] at HV
        have HBD := Lib.hid hbad
        clear hbad
        go_wp2_with fail
        refine H1.out.mono ?_
        rintro e w' ⟨rfl, rfl⟩
        go_wp2_with (at_builtin; refine wpList_append_rd _ rfl (.tmp 19) (.tmp 21) 61 rfl w.heap.size 21 i1 (.int .i32 0) 4 Try.underlying61 gi gz0 gz1 gz2 rfl _ _ _ rfl (HO.out.alloc _) (wr.heap.size + 1) (some ⟨wr.heap.size, 0, none⟩) 1 1 [.int .i32 (r : Int)] rfl rfl (Rd.made wr #[.int .i32 (r : Int)] 21) ?f1 ?f2 ?f3 ?f4 ?_)
        case f1 => intro u hu; simp at hu; subst hu; rfl
        case f2 => unfold maxLen; omega
        case f3 => omega
        case f4 => simp; omega
        intro v' w2 hown2 hg _
        have HO2 := Lib.hid (own_snoc32 (n := n) hown2)
        have HB2 := Lib.hid (below_appw HO.out HB.out hg)
        clear hown2 hg HO HB H1
        go_wp2
        go_roundw
        case rel => exact ⟨pos + n, R ++ [(r, n)], by go_num, hn2, by simp; omega, HR, by rw [HV.out]; simp, HO2.out, HB2.out⟩
        case measure => simp [intOf]; omega
    · have HE : Hid (R = runes s.data.toList) := Lib.hid (by
        have h := hR.out
        rw [drop_all (by omega), runes_nil, List.append_nil] at h
        exact h)
      have HO := Lib.hid hown
      have HB := Lib.hid hb
      clear hR hown hb
      go_wp2
      go_ret2
      have hE := HE.out
      refine ⟨_, by rw [show vals s.data.toList = allok R by rw [hE]; rfl]; rfl, ?_, HB.out⟩
      rw [← hE]
      exact HO.out
end Go.Proofs.Ytahbaifbihpppaa.UtRunes
