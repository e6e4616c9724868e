/- The contract of the document's own Read (of a disk): the error, or the file's bytes where they lie; the world stands. Conditions: the disk lies in memory as 'RefD' says; the name's length is at most the model's greatest. · The contract of the document's own List (of a disk): the error, or the names in new memory; nothing that was there has changed. Conditions: the disk lies in memory as 'RefD' says; at most 10^9 files. -/
import Derived.Test.YtjninegpaoblfaaGreatDoorRefOps
namespace Go.Proofs.YtjninegpaoblfaaGreatDoor.RefRead5
open Go Go.RowKit Words DkSpec RefDisk RefChange RefRow RefTake RefPut5 RefOps5

/-- What Read answers. -/
def RdPost (w : World) (K : Nat → Nat) (r : Nat × List UInt8) (e : Ending) (w' : World) : Prop := (∃ A c, e = .returned (.tuple #[.slice A r.2.length c, .int .i64 (r.1 : Int)]) ∧ r.2.length ≤ c ∧ c ≤ maxLen ∧ Rd w w.heap.size A (r.2.map B8) ∧ (∀ b off, A = some ⟨b, off, none⟩ → 0 < r.2.length → K b = 0)) ∧ w = w'
theorem rdpost_err {w : World} {K : Nat → Nat} {r : Nat × List UInt8} {n : Nat} {x : Int} (hr : r = (n, [])) (hx : x = (n : Int)) : RdPost w K r (.returned (.tuple #[.slice none 0 0, .int .i64 x])) w := by
  subst hr hx
  exact ⟨⟨none, 0, rfl, Nat.le_refl _, by unfold maxLen; omega, Rd.nil_, fun b off e => by cases e⟩, rfl⟩

theorem read_nil (w : World) (a : List UInt8) : Calls Tryz.prog 22 #[.pointer none, .string ⟨a.toArray⟩] w fun e w' => e = .returned (.tuple #[.slice none 0 0, .int .i64 2]) ∧ w = w' := by
  have hne := eq_nil
  go_enter Tryz.func22, Tryz.ntmps22
  go_wp2
  go_ret2
  exact ⟨rfl, rfl⟩

set_option maxHeartbeats 800000 in
theorem read_any (w : World) (K : Nat → Nat) (o p : Nat) (d : DSt) (a : List UInt8) (hd : RefD w K o p d) (ha : a.length ≤ maxLen) :
    Calls Tryz.prog 22 #[.pointer (some ⟨p, 0, none⟩), .string ⟨a.toArray⟩] w (RdPost w K (read a d)) := by
  have HNA := Lib.hid (name_list a w ha)
  have HFD := Lib.hid (find_any w K o p d a hd)
  obtain ⟨A, c, hc, hm, hp, hk, c0, c1, c2, c3, _, _, _, _, _, hf⟩ := hd
  have HFR := Lib.hid hf
  clear hk c1 c3 ha hf
  by_cases hna : nameOk a = true
  · rw [hna] at HNA
    cases hoff : d.off with
    | true =>
      have HX := Lib.hid (show read a d = (23, []) by unfold DkSpec.read refused; rw [hna, hoff]; rfl)
      rw [hoff] at c2
      clear hna hoff HFR HFD c0
      go_enter Tryz.func22, Tryz.ntmps22
      go_wp2_with fail
      refine HNA.out.mono ?_
      rintro e w1 ⟨rfl, rfl⟩
      go_wp2
      go_ret2
      exact rdpost_err HX.out rfl
    | false =>
      rw [hoff] at c2
      obtain ⟨i, b, hib⟩ : ∃ i b, place a d.files = (i, b) := ⟨_, _, rfl⟩
      have hle := place_le a d.files
      rw [hib] at HFD hle
      obtain ⟨_, hle2⟩ := hle
      simp only at hle2
      have h0 : ¬ refused a a d ≠ 0 := by unfold refused; rw [hna, hoff]; simp
      cases b with
      | false =>
        have HX := Lib.hid (show read a d = (21, []) by unfold DkSpec.read; rw [if_neg h0, hib]; rfl)
        clear hna hoff HFR c0 hib hle2 h0
        go_enter Tryz.func22, Tryz.ntmps22
        go_wp2_with fail
        refine HNA.out.mono ?_
        rintro e w1 ⟨rfl, rfl⟩
        go_wp2_with fail
        refine HFD.out.mono ?_
        rintro e w1 ⟨rfl, rfl⟩
        go_wp2
        go_ret2
        exact rdpost_err HX.out rfl
      | true =>
        have hil := (hle2 rfl).1
        obtain ⟨g, off, rfl, _, _, _, hcell⟩ := HFR.out (by omega)
        obtain ⟨_, ⟨A', c', k1, k1a, k1b, k1c, k1d⟩, _⟩ := hcell i (d.files[i]'hil) (List.getElem?_eq_getElem hil)
        have HX := Lib.hid (show read a d = (0, (d.files[i]'hil).data) by
          unfold DkSpec.read old
          rw [if_neg h0, hib]
          simp [List.getD, List.getElem?_eq_getElem hil])
        generalize (d.files[i]'hil) = f at *
        have H1 := Lib.hid k1a
        have H2 := Lib.hid k1b
        have H3 := Lib.hid k1c
        have H4 := Lib.hid k1d
        unfold maxLen at hm
        clear hna hoff hib hle2 h0 HFR hcell k1a k1b k1c k1d
        go_enter Tryz.func22, Tryz.ntmps22
        go_wp2_with fail
        refine HNA.out.mono ?_
        rintro e w1 ⟨rfl, rfl⟩
        go_wp2_with fail
        refine HFD.out.mono ?_
        rintro e w1 ⟨rfl, rfl⟩
        go_wp2
        go_ret2
        rw [HX.out]
        exact ⟨⟨A', c', rfl, H1.out, H2.out, H3.out, H4.out⟩, rfl⟩
  · have hna' : nameOk a = false := by simpa using hna
    have HX := Lib.hid (show read a d = (1, []) by unfold DkSpec.read refused; rw [hna']; rfl)
    rw [hna'] at HNA
    clear hna hna' HFR HFD c0 c2
    go_enter Tryz.func22, Tryz.ntmps22
    go_wp2_with fail
    refine HNA.out.mono ?_
    rintro e w1 ⟨rfl, rfl⟩
    go_wp2
    go_ret2
    exact rdpost_err HX.out rfl
end Go.Proofs.YtjninegpaoblfaaGreatDoor.RefRead5

namespace Go.Proofs.YtjninegpaoblfaaGreatDoor.RefList5
open Go Go.RowKit Words DkSpec RefDisk RefChange RefRow RefTake RefPut5 RefOps5

theorem info_str : (Tryz.prog.info? 9).map (fun i => (i.zero, i.size, i.bytes)) = some (some (.string ByteArray.empty), 1, 16) := by kernel_rfl
/-- What List answers. -/
def LsPost (w : World) (r : Nat × List (List UInt8)) (e : Ending) (w' : World) : Prop := ∃ v, e = .returned (.tuple #[v, .int .i64 (r.1 : Int)]) ∧ w'.ownsRow w.heap.size 9 1 v r.2.length (r.2.map S8) ∧ Below w.heap.size w w'
theorem list_nil (w : World) : Calls Tryz.prog 20 #[.pointer none] w fun e w' => e = .returned (.tuple #[.slice none 0 0, .int .i64 2]) ∧ w = w' := by
  have hne := eq_nil
  go_enter Tryz.func20, Tryz.ntmps20
  go_wp2
  go_ret2
  exact ⟨rfl, rfl⟩
def Rel (l : List DFile) (w : World) (v i : Value) (wr : World) : Prop := ∃ k : Nat, k ≤ l.length ∧ i = .int .i64 (k : Int) ∧ wr.ownsRow w.heap.size 9 1 v k ((l.take k).map fun f => S8 f.name) ∧ Below w.heap.size w wr

set_option maxHeartbeats 1600000 in
set_option maxRecDepth 100000 in
theorem list_any (w : World) (K : Nat → Nat) (o p : Nat) (d : DSt) (hd : RefD w K o p d) (hn : d.files.length ≤ 1000000000) :
    Calls Tryz.prog 20 #[.pointer (some ⟨p, 0, none⟩)] w (LsPost w (list d)) := by
  obtain ⟨i0, hi, hz0, hz1, hz2⟩ := info_parts info_str
  obtain ⟨A, c, hc, hm, hp, hk, c0, c1, c2, c3, _, _, _, _, _, hf⟩ := hd
  have HFR := Lib.hid hf
  clear hk c1 c3 hf
  unfold maxLen at hm
  cases hoff : d.off with
  | true =>
    have HX := Lib.hid (show list d = (23, []) by unfold list; rw [hoff]; rfl)
    rw [hoff] at c2
    clear hoff HFR c0
    go_enter Tryz.func20, Tryz.ntmps20
    go_wp2
    go_ret2
    rw [HX.out]
    exact ⟨_, rfl, World.ownsRow_nil _ _ _ _, Below.refl _ _⟩
  | false =>
    have HX := Lib.hid (show list d = (0, d.files.map (·.name)) by unfold list; rw [hoff]; rfl)
    rw [hoff] at c2
    clear hoff
    generalize d.files = l at *
    go_enter Tryz.func20, Tryz.ntmps20
    go_wp2
    go_loopw [4, 5] (fun v i wr => Rel l w v i wr) (fun _ i _ => l.length - (intOf i).toNat)
    case atStart => exact ⟨0, by omega, rfl, World.ownsRow_nil _ _ _ _, Below.refl _ _⟩
    case round =>
      obtain ⟨k, hk, rfl, hown, hb⟩ := hrel
      have c0' : wr.cell? ⟨p, 0, none⟩ = some (.slice A l.length c) := (hb.cell (p := ⟨p, 0, none⟩) hp).trans c0
      have HO := Lib.hid hown
      by_cases hlt : k < l.length
      · obtain ⟨g, off, rfl, hg, _, _, hcell⟩ := HFR.out (by omega)
        obtain ⟨k0, _, _⟩ := hcell k l[k] (List.getElem?_eq_getElem hlt)
        have k0' := (hb.cell (p := ⟨g, off + k * 3, none⟩) hg).trans k0
        have hts : (l.take (k + 1)).map (fun f => S8 f.name) = (l.take k).map (fun f => S8 f.name) ++ [S8 l[k].name] := by
          rw [List.take_succ_eq_append_getElem hlt, List.map_append]
          rfl
        have HTS := Lib.hid hts
        unfold S8 at k0'
        clear hcell k0 hts hown
        generalize hnm : l[k].name = nm at *
        clear hnm
        go_wp2_with (at_builtin; refine wpList_append_own _ rfl (.tmp 21) (.tmp 30) 48 rfl w.heap.size 9 i0 (.string ByteArray.empty) 1 16 Tryz.underlying48 hi hz0 hz1 hz2 rfl (by decide) _ _ _ rfl (HO.out.alloc _) ⟨wr.heap.size, 0, none⟩ 1 1 [.string ⟨nm.toArray⟩] rfl rfl ?c1 ?c2 ?c3 ?c4 ?c5 ?_)
        case c1 =>
          intro j x hj
          match j, hj with
          | 0, hj => simp at hj; subst hj; simp [Addr.add]
        case c2 => intro u hu; simp at hu; subst hu; rfl
        case c3 => unfold maxLen; omega
        case c4 => omega
        case c5 => have := hb.size; simp; omega
        intro v' w2 hown2 hg2 _
        have hb2 : Below w.heap.size w w2 := (hb.alloc hb.size _).grown hg2 (by have := hb.size; simp; omega) (fun k' hk' => (HO.out.lt k' hk').1)
        have hown3 : w2.ownsRow w.heap.size 9 1 v' (k + 1) ((l.take (k + 1)).map fun f => S8 f.name) := by
          rw [HTS.out, List.map_take]
          exact hown2
        clear hown2 hg2 HO hb c0'
        go_wp2
        go_roundw
        case rel => exact ⟨k + 1, by omega, by go_num, hown3, hb2⟩
        case measure => simp [intOf]; omega
      · obtain rfl : k = l.length := by omega
        have HB := Lib.hid hb
        clear hown hb
        go_wp2
        go_ret2
        rw [HX.out]
        refine ⟨_, rfl, ?_, HB.out⟩
        have h := HO.out
        rw [List.take_length] at h
        simpa [List.map_map, Function.comp_def] using h
end Go.Proofs.YtjninegpaoblfaaGreatDoor.RefList5

