/- The program's comparison of two labels: byBoth. Conditions: none but that the lists lie in memory. -/
import Derived.Test.YtngkhcbnndkdeaaLpOrd
namespace Go.Proofs.Ytngkhcbnndkdeaa.LpBoth
open Go Go.RowKit Words AppN Less LbSpec LbText LbMem LbRef LbCmp UtOwn LpOrd

theorem at_made (w : World) (cs : Array Value) (T : TypeId) (g : Nat) (hg : g = w.heap.size) (k : Nat) (u : Value) (hu : cs[k]? = some u) : (w.alloc (.cells cs T)).cell? ⟨g, k, none⟩ = some u := by
  subst hg
  rw [World.cell?_alloc_at _ _ _ _ rfl]
  simpa using hu
theorem below_drew1 {w0 w : World} {B : Nat} (h : Below B w0 w) : Below B w0 w.drew := ⟨h.os, h.tape, h.output, h.size, h.block⟩

set_option maxHeartbeats 3200000 in
theorem byBoth_any (x y : Lab) (w : World) : Calls Try.prog 27 #[aggL x, aggL y] w fun e w' => e = .returned (.int .i64 (cmpL x y)) ∧ Below w.heap.size w w' := by
  have HN := fun w => Lib.hid (byName_any x y w)
  have HV := fun w => Lib.hid (scmp_any x.2 y.2 w)
  have HO := fun g w k0 k1 => Lib.hid (or_any (cmpS x.1 y.1) (cmpS x.2 y.2) g w k0 k1)
  rw [← cmpL_or] at HO
  unfold aggL boxed S8 at *
  obtain ⟨x1, x2⟩ := x
  obtain ⟨y1, y2⟩ := y
  simp only at HN HV HO ⊢
  generalize cmpL (x1, x2) (y1, y2) = r at *
  generalize cmpS x1 y1 = r1 at *
  generalize cmpS x2 y2 = r2 at *
  go_enter Try.func27, Try.ntmps27
  go_wp2
  go_region_law (first
    | (go_simp; go_at_call 21; ((with_reducible refine (HN _).out.mono ?_); rintro e w1 ⟨rfl, rfl⟩))
    | (go_simp; go_at_call 37; ((with_reducible refine (HV _).out.mono ?_); rintro e w1 ⟨rfl, rfl⟩))
    | (go_simp; go_at_call 40; ((refine (HO _ _ (by refine at_made _ _ _ _ ?_ _ _ ?_ <;> simp) (by refine at_made _ _ _ _ ?_ _ _ ?_ <;> simp)).out.mono ?_); rintro e w1 ⟨rfl, rfl⟩)))
  all_goals
    go_wp2
    go_ret
    refine ⟨rfl, ?_⟩
    repeat (first | exact Below.refl _ _ | refine below_drew1 ?_ | refine Below.alloc ?_ (by first | (simp; done) | (simp; omega)) _)
end Go.Proofs.Ytngkhcbnndkdeaa.LpBoth
