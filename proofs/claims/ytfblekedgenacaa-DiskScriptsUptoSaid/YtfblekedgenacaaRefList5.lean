/- The contract of the document's own List (of a disk): the error, or the names in new memory; nothing that was there has changed. Conditions: the disk lies in memory as 'RefD' says; at most 10^9 files. -/
import Derived.Test.YtfblekedgenacaaRefRead5
namespace Go.Proofs.Ytfblekedgenacaa.RefList5
open Go Go.RowKit Words DkSpec RefDisk RefChange RefRow RefTake RefPut5 RefOps5

theorem info_str : (Try.prog.info? 9).map (fun i => (i.zero, i.size, i.bytes)) = some (some (.string ByteArray.empty), 1, 16) := by kernel_rfl
/-- What List answers. -/
def LsPost (w : World) (r : Nat × List (List UInt8)) (e : Ending) (w' : World) : Prop := ∃ v, e = .returned (.tuple #[v, .int .i64 (r.1 : Int)]) ∧ w'.ownsRow w.heap.size 9 1 v r.2.length (r.2.map S8) ∧ Below w.heap.size w w'
theorem list_nil (w : World) : Calls Try.prog 31 #[.pointer none] w fun e w' => e = .returned (.tuple #[.slice none 0 0, .int .i64 2]) ∧ w = w' := by
  have hne := eq_nil
  go_enter Try.func31, Try.ntmps31
  go_wp2
  go_ret2
  exact ⟨rfl, rfl⟩
def Rel (l : List DFile) (w : World) (v i : Value) (wr : World) : Prop := ∃ k : Nat, k ≤ l.length ∧ i = .int .i64 (k : Int) ∧ wr.ownsRow w.heap.size 9 1 v k ((l.take k).map fun f => S8 f.name) ∧ Below w.heap.size w wr

set_option maxHeartbeats 1600000 in
set_option maxRecDepth 100000 in
theorem list_any (w : World) (K : Nat → Nat) (o p : Nat) (d : DSt) (hd : RefD w K o p d) (hn : d.files.length ≤ 1000000000) :
    Calls Try.prog 31 #[.pointer (some ⟨p, 0, none⟩)] w (LsPost w (list d)) := by
  obtain ⟨i0, hi, hz0, hz1, hz2⟩ := info_parts info_str
  obtain ⟨A, c, hc, hm, hp, hk, c0, c1, c2, c3, _, _, _, _, _, hf⟩ := hd
  have HFR := Lib.hid hf
  clear hk c1 c3 hf
  unfold maxLen at hm
  cases hoff : d.off with
  | true =>
    have HX := Lib.hid (show list d = (23, []) by unfold list; rw [hoff]; rfl)
    rw [hoff] at c2
    clear hoff HFR c0
    go_enter Try.func31, Try.ntmps31
    go_wp2
    go_ret2
    rw [HX.out]
    exact ⟨_, rfl, World.ownsRow_nil _ _ _ _, Below.refl _ _⟩
  | false =>
    have HX := Lib.hid (show list d = (0, d.files.map (·.name)) by unfold list; rw [hoff]; rfl)
    rw [hoff] at c2
    clear hoff
    generalize d.files = l at *
    go_enter Try.func31, Try.ntmps31
    go_wp2
    go_loopw [4, 5] (fun v i wr => Rel l w v i wr) (fun _ i _ => l.length - (intOf i).toNat)
    case atStart => exact ⟨0, by omega, rfl, World.ownsRow_nil _ _ _ _, Below.refl _ _⟩
    case round =>
      obtain ⟨k, hk, rfl, hown, hb⟩ := hrel
      have c0' : wr.cell? ⟨p, 0, none⟩ = some (.slice A l.length c) := (hb.cell (p := ⟨p, 0, none⟩) hp).trans c0
      have HO := Lib.hid hown
      by_cases hlt : k < l.length
      · obtain ⟨g, off, rfl, hg, _, _, hcell⟩ := HFR.out (by omega)
        obtain ⟨k0, _, _⟩ := hcell k l[k] (List.getElem?_eq_getElem hlt)
        have k0' := (hb.cell (p := ⟨g, off + k * 3, none⟩) hg).trans k0
        have hts : (l.take (k + 1)).map (fun f => S8 f.name) = (l.take k).map (fun f => S8 f.name) ++ [S8 l[k].name] := by
          rw [List.take_succ_eq_append_getElem hlt, List.map_append]
          rfl
        have HTS := Lib.hid hts
        unfold S8 at k0'
        clear hcell k0 hts hown
        generalize hnm : l[k].name = nm at *
        clear hnm
        go_wp2_with (at_builtin; refine wpList_append_own _ rfl (.tmp 21) (.tmp 30) 50 rfl w.heap.size 9 i0 (.string ByteArray.empty) 1 16 Try.underlying50 hi hz0 hz1 hz2 rfl (by decide) _ _ _ rfl (HO.out.alloc _) ⟨wr.heap.size, 0, none⟩ 1 1 [.string ⟨nm.toArray⟩] rfl rfl ?c1 ?c2 ?c3 ?c4 ?c5 ?_)
        case c1 =>
          intro j x hj
          match j, hj with
          | 0, hj => simp at hj; subst hj; simp [Addr.add]
        case c2 => intro u hu; simp at hu; subst hu; rfl
        case c3 => unfold maxLen; omega
        case c4 => omega
        case c5 => have := hb.size; simp; omega
        intro v' w2 hown2 hg2 _
        have hb2 : Below w.heap.size w w2 := (hb.alloc hb.size _).grown hg2 (by have := hb.size; simp; omega) (fun k' hk' => (HO.out.lt k' hk').1)
        have hown3 : w2.ownsRow w.heap.size 9 1 v' (k + 1) ((l.take (k + 1)).map fun f => S8 f.name) := by
          rw [HTS.out, List.map_take]
          exact hown2
        clear hown2 hg2 HO hb c0'
        go_wp2
        go_roundw
        case rel => exact ⟨k + 1, by omega, by go_num, hown3, hb2⟩
        case measure => simp [intOf]; omega
      · obtain rfl : k = l.length := by omega
        have HB := Lib.hid hb
        clear hown hb
        go_wp2
        go_ret2
        rw [HX.out]
        refine ⟨_, rfl, ?_, HB.out⟩
        have h := HO.out
        rw [List.take_length] at h
        simpa [List.map_map, Function.comp_def] using h
end Go.Proofs.Ytfblekedgenacaa.RefList5
