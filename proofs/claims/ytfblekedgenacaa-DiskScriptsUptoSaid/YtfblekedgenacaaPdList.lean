/- The contracts of names and List. Conditions: the disk lies in memory as 'PDisk' says; at most 10^9 files. -/
import Derived.Test.YtfblekedgenacaaPdRead
import Derived.CallsIn
namespace Go.Proofs.Ytfblekedgenacaa.PdList
open Go Go.RowKit Go.Maps Go.Sort Go.Shelf Words DkSpec PdLook RefDisk PdDisk PdChange PdOps PdRead

theorem names_perm {w : World} {K : Nat → Nat} {o p M : Nat} {D : DataW Unit} {L : Int} {G : List UInt8 → Nat} {Q : List UInt8 → Value} {d : DSt} (h : PAt w K o p M D L G Q d) : (d.files.map (·.name)).Perm (strKeys D) := by
  obtain ⟨es, hD, hpw, _⟩ := h.map.entries keyed
  obtain ⟨es', hD', hko⟩ := h.map.keysOf
  obtain rfl : es = es' := by rw [hD] at hD'; simpa using hD'
  have ht := h.tells
  subst hD
  exact perm_strKeys hpw (fun p hp => by obtain ⟨v, hv⟩ := hko p hp; obtain ⟨x, _, hx, _⟩ := Maps.keyOf_str Try.underlying9 hv; exact ⟨x, hx⟩) (names_nodup h.good.1) (fun x => by rw [mem_names, ht])
theorem size_files {w : World} {K : Nat → Nat} {o p M : Nat} {D : DataW Unit} {L : Int} {G : List UInt8 → Nat} {Q : List UInt8 → Value} {d : DSt} (h : PAt w K o p M D L G Q d) : Maps.size D = d.files.length := by
  have hp := (names_perm h).length_eq
  obtain ⟨es, hD⟩ := h.map.isMap
  subst hD
  simp [strKeys] at hp
  simp [Maps.size, hp]

/-- What names answers. -/
def NmPost (w : World) (l : List (List UInt8)) (e : Ending) (w' : World) : Prop := ∃ v, e = .returned v ∧ w'.ownsRow w.heap.size 9 1 v l.length (l.map S8) ∧ Below w.heap.size w w'
set_option maxHeartbeats 800000 in
theorem names_any (w : World) (K : Nat → Nat) (o p M : Nat) (D : DataW Unit) (L : Int) (G : List UInt8 → Nat) (Q : List UInt8 → Value) (d : DSt) (h : PAt w K o p M D L G Q d) (hn : d.files.length ≤ 1000000000) :
    Calls Try.prog 35 #[.pointer (some ⟨p, 0, none⟩)] w (NmPost w (d.files.map (·.name))) := by
  have hsz := size_files h
  have HK := Lib.hid (callsIn_wide.1 (Try.maps_Keys_46 (some M) w))
  have HS := Lib.hid (callsIn_wide.1 (Try.slices_Sorted_keys_45_46 M _ D ptrR w h.map (by unfold maxLen; omega) (by omega)))
  have HP := Lib.hid (names_perm h)
  have HR := Lib.hid h.good.1
  obtain ⟨c0, _, _⟩ := PAt.cells h
  clear h hsz
  go_enter Try.func35, Try.ntmps35
  go_wp2_with fail
  refine HK.out.mono ?_
  rintro e w1 ⟨rfl, rfl⟩
  go_wp2_with fail
  refine HS.out.mono ?_
  rintro e w2 ⟨v, ss, rfl, hS, hrow, hnil, hb⟩
  have hms := sorted_names HR.out (hS.trans HP.out.symm)
  have hlen : ss.length = (d.files.map (·.name)).length := (hS.trans HP.out.symm).length_eq
  have HO : Hid (w2.ownsRow w.heap.size 9 1 v (d.files.map (·.name)).length ((d.files.map (·.name)).map S8)) := Lib.hid (by
    rw [← hlen, ← hms]
    exact own_mono hrow (by simp))
  have HB : Hid (Below w.heap.size w w2) := Lib.hid (((Below.refl _ w).alloc (Nat.le_refl _) _).trans (hb.mono (by simp)))
  clear hS hrow hnil hb hms hlen
  go_wp2
  go_ret
  exact ⟨v, rfl, HO.out, HB.out⟩

/-- What List answers. -/
def LsPost (w : World) (r : Nat × List (List UInt8)) (e : Ending) (w' : World) : Prop := ∃ v, e = .returned (.tuple #[v, .int .i64 (r.1 : Int)]) ∧ w'.ownsRow w.heap.size 9 1 v r.2.length (r.2.map S8) ∧ Below w.heap.size w w'
set_option maxHeartbeats 800000 in
theorem list_any (w : World) (K : Nat → Nat) (o p : Nat) (d : DSt) (hd : PDisk w K o p d) (hn : d.files.length ≤ 1000000000) :
    Calls Try.prog 22 #[.pointer (some ⟨p, 0, none⟩)] w (LsPost w (list d)) := by
  obtain ⟨M, D, L, G, Q, h⟩ := hd
  have HC := Lib.hid (refusal_zero h)
  have HN := Lib.hid (names_any w K o p M D L G Q d h hn)
  have HX : Hid (list d = if d.off then (23, []) else (0, d.files.map (·.name))) := Lib.hid rfl
  clear h hn
  generalize d.off = b at *
  cases b with
  | true =>
    go_enter Try.func22, Try.ntmps22
    go_wp2_with fail
    refine HC.out.mono ?_
    rintro e w1 ⟨rfl, rfl⟩
    go_wp2
    go_ret2
    rw [HX.out]
    exact ⟨_, rfl, World.ownsRow_nil _ _ _ _, Below.refl _ _⟩
  | false =>
    go_enter Try.func22, Try.ntmps22
    go_wp2_with fail
    refine HC.out.mono ?_
    rintro e w1 ⟨rfl, rfl⟩
    go_wp2_with fail
    refine HN.out.mono ?_
    rintro e w1 ⟨v, rfl, hown, hb⟩
    have HO := Lib.hid hown
    have HB := Lib.hid hb
    clear hown hb
    go_wp2
    go_ret2
    rw [HX.out]
    exact ⟨v, rfl, HO.out, HB.out⟩
end Go.Proofs.Ytfblekedgenacaa.PdList
