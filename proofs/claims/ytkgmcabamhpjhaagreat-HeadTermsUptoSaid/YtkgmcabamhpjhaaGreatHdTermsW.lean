/- HeadTerms, walked over the contracts of head's calls. -/
import Derived.Test.YtkgmcabamhpjhaaGreatHdMems
import Derived.Test.YtkgmcabamhpjhaaGreatHdTermsF
import Derived.Deep.RegionWith
import Derived.Deep.RegionHeld3
namespace Go.Proofs.YtkgmcabamhpjhaaGreat.HdTermsW
open Go Go.RowKit Words Less LbSpec LbMem RcSpec RcAll RcMem LbOpen RcOpen HdSpec HdMem HdKm HdLaw HdTerms HdAwake TxSame UtOwn Km

/-- The record's box behind the entry. -/
structure BoxSt (w : World) (m : RM) (wr : World) : Prop where
  box : wr.heap[w.heap.size]? = some (.cells #[.int .i64 m.1.time, .int .u64 (m.1.seq : Int), .slice m.2.1 m.2.2.1 m.2.2.2, .string ⟨m.1.line.toArray⟩] 47 (0, 0))
  below : Below w.heap.size w wr
  ok : Okm wr m
theorem BoxSt.call {w wr w1 : World} {m : RM} (h : BoxSt w m wr) (hb : Below wr.heap.size wr w1) : BoxSt w m w1 :=
  ⟨(hb.block _ (Array.getElem?_eq_some_iff.1 h.box).1).trans h.box, h.below.trans (hb.mono h.below.size), h.ok.below hb⟩
theorem BoxSt.facts {w wr : World} {m : RM} (h : BoxSt w m wr) : wr.cell? ⟨w.heap.size, 0, .none⟩ = some (.int .i64 m.1.time) ∧ wr.cell? ⟨w.heap.size, 1, .none⟩ = some (.int .u64 (m.1.seq : Int)) ∧ wr.cell? ⟨w.heap.size, 2, .none⟩ = some (.slice m.2.1 m.2.2.1 m.2.2.2) ∧ wr.cell? ⟨w.heap.size, 3, .none⟩ = some (.string ⟨m.1.line.toArray⟩) :=
  ⟨cell_of_heap h.box rfl, cell_of_heap h.box rfl, cell_of_heap h.box rfl, cell_of_heap h.box rfl⟩
theorem rtermsT_any (w : World) (m : RM) (h : Okm w m) (hz : sizeR m.1 ≤ 4294967296) : Calls Tryz.prog 25 #[aggR m] w (TPost (terms m.1) w) :=
  (rterms_any w m h hz).mono fun e w' ⟨v, he, ho, hb⟩ => by
    obtain ⟨A, c, rfl, h1, h2, _⟩ := own_slice ho
    exact ⟨A, c, he, h1, h2, Rd.of_own ho, hb⟩

set_option maxHeartbeats 3200000 in
set_option maxRecDepth 100000 in
theorem terms_walk {HeadR : World → (Nat → Nat) → Nat → Nat → HSt → Prop} (P : Hed HeadR) (w : World) (m : RM) (h : Okm w m) (hz : sizeR m.1 ≤ 2097152) :
    Calls Tryz.prog 4 #[aggR m] w fun e w' => e = .returned (.bool true) ∧ Below w.heap.size w w' := by
  have hb0 : Below w.heap.size w (w.alloc (.cells #[.int .i64 m.1.time, .int .u64 (m.1.seq : Int), .slice m.2.1 m.2.2.1 m.2.2.2, .string ⟨m.1.line.toArray⟩] 47)) := (Below.refl _ w).alloc (Nat.le_refl _) _
  have HS0 : Hid (BoxSt w m (w.alloc (.cells #[.int .i64 m.1.time, .int .u64 (m.1.seq : Int), .slice m.2.1 m.2.2.1 m.2.2.2, .string ⟨m.1.line.toArray⟩] 47)).drew) := Lib.hid ⟨heap_alloc_new w _, drew_to hb0, h.below (drew_to hb0)⟩
  have HF := HS0.out.facts
  have HSTEP : Hid (∀ wz w', Hid (BoxSt w m wz) → Below wz.heap.size wz w' → Hid (BoxSt w m w') ∧ (w'.cell? ⟨w.heap.size, 0, .none⟩ = some (.int .i64 m.1.time) ∧ w'.cell? ⟨w.heap.size, 1, .none⟩ = some (.int .u64 (m.1.seq : Int)) ∧ w'.cell? ⟨w.heap.size, 2, .none⟩ = some (.slice m.2.1 m.2.2.1 m.2.2.2) ∧ w'.cell? ⟨w.heap.size, 3, .none⟩ = some (.string ⟨m.1.line.toArray⟩))) := Lib.hid fun wz w' hs hb => ⟨Lib.hid (hs.out.call hb), (hs.out.call hb).facts⟩
  have A0 := fun w => Lib.hid (awake_any P w)
  have AT := fun wz (hs : Hid (BoxSt w m wz)) => Lib.hid (P.terms wz m hs.out.ok hz)
  have AR := fun wz (hs : Hid (BoxSt w m wz)) => Lib.hid (rtermsT_any wz m hs.out.ok (by omega))
  unfold TPost at AT AR
  generalize terms m.1 = T at *
  have AS := fun wz A2 A3 c2 c3 B2 B3 h2 h3 n2 n3 k2 k3 => Lib.hid (same_any wz T T A2 A3 c2 c3 B2 B3 h2 h3 n2 n3 k2 k3)
  rw [show (T == T) = true by simp] at AS
  obtain ⟨⟨t, s, l, line⟩, A, n, c⟩ := m
  unfold aggR slV S8 at AT AR
  unfold aggR slV S8
  simp only at HF HSTEP HS0 AT AR ⊢
  obtain ⟨f0, f1, f2, f3⟩ := HF
  clear h hb0 hz
  go_enter Tryz.func4, Tryz.ntmps4
  go_wp2
  go_region_held3 (fun w' => w'.cell? ⟨w.heap.size, 0, .none⟩ = some (.int .i64 t) ∧ w'.cell? ⟨w.heap.size, 1, .none⟩ = some (.int .u64 (s : Int)) ∧ w'.cell? ⟨w.heap.size, 2, .none⟩ = some (.slice A n c) ∧ w'.cell? ⟨w.heap.size, 3, .none⟩ = some (.string ⟨line.toArray⟩)) (first | assumption | go_keep) (first
    | (go_at_call 7; refine (A0 _).out.mono ?_; rintro e w1 ⟨rfl, hb1⟩; obtain ⟨HS1, x0, x1, x2, x3⟩ := HSTEP.out _ _ HS0 hb1)
    | (go_at_call 24; refine (AT _ HS1).out.mono ?_; rintro e w2 ⟨A2, c2, rfl, hc2, hm2, hr2, hb2⟩; obtain ⟨HS2, y0, y1, y2, y3⟩ := HSTEP.out _ _ HS1 hb2; have HR2 := Lib.hid hr2; clear hr2)
    | (go_at_call 25; refine (AR _ HS2).out.mono ?_; rintro e w3 ⟨A3, c3, rfl, hc3, hm3, hr3, hb3⟩; obtain ⟨HS3, z0, z1, z2, z3⟩ := HSTEP.out _ _ HS2 hb3; have HR3 := Lib.hid hr3; have HR23 := Lib.hid (HR2.out.below hb3); clear hr3)
    | (go_at_call 23; refine (AS _ A2 A3 c2 c3 _ _ HR23.out HR3.out hc2 hc3 hm2 hm3).out.mono ?_; rintro e w4 ⟨rfl, hb4⟩; obtain ⟨HS4, u0, u1, u2, u3⟩ := HSTEP.out _ _ HS3 hb4))
  all_goals
    go_wp2
    go_ret
    exact ⟨rfl, HS4.out.below⟩
end Go.Proofs.YtkgmcabamhpjhaaGreat.HdTermsW
