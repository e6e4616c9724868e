/- record.Compare, with all that it makes: draws and new blocks. No conditions. -/
import Derived.Test.YtkgmcabamhpjhaaGreatRpCmp
import Derived.Test.YtkgmcabamhpjhaaGreatHpSpec
import Derived.Sort.Grow
namespace Go.Proofs.YtkgmcabamhpjhaaGreat.HpGr
open Go Go.RowKit Words Less LbSpec LbMem LbRef LbCmp UtOwn LpOrd LpBoth RcSpec RcAll RcMem RpCmp HdSpec HpSpec
open Go.Sort (grow)

/-- Only draws and new blocks. -/
def Gr (w w' : World) : Prop := ∃ q os, w' = grow (w.drewN q) os
theorem Gr.refl (w : World) : Gr w w := ⟨0, #[], by simp [World.drewN]⟩
theorem Gr.drew {w W : World} (h : Gr w W) : Gr w W.drew := by
  obtain ⟨q, os, rfl⟩ := h
  exact ⟨q + 1, os, rfl⟩
theorem Gr.alloc {w W : World} (h : Gr w W) (o : Obj) : Gr w (W.alloc o) := by
  obtain ⟨q, os, rfl⟩ := h
  exact ⟨q, os ++ #[o], by rw [Sort.alloc_eq_grow, Sort.grow_grow]⟩
theorem Gr.below {w W : World} (h : Gr w W) : Below w.heap.size w W := by
  obtain ⟨q, os, rfl⟩ := h
  exact ⟨rfl, rfl, rfl, by simp, fun k hk => Sort.heap_grow_old _ _ hk⟩

set_option maxHeartbeats 3200000 in
/-- record.Compare, with all that it makes. -/
theorem compare_gr (w : World) (a b : RM) : Calls Tryz.prog 27 #[aggR a, aggR b] w fun e w' => e = .returned (.int .i64 (cmpR a.1 b.1)) ∧ Gr w w' := by
  have HN := fun w => Lib.hid (icmp_any a.1.time b.1.time w)
  have HV := fun w => Lib.hid (ucmp_any (a.1.seq : Int) (b.1.seq : Int) w)
  have HO := fun g w k0 k1 => Lib.hid (or_any (cmpI a.1.time b.1.time) (cmpI (a.1.seq : Int) (b.1.seq : Int)) g w k0 k1)
  rw [← cmpR_or] at HO
  unfold aggR slV S8 at *
  obtain ⟨⟨t, s, l, n⟩, A, k, c⟩ := a
  obtain ⟨⟨t1, s1, l1, n1⟩, A1, k1, c1⟩ := b
  simp only at HN HV HO ⊢
  generalize cmpR ⟨t, s, l, n⟩ ⟨t1, s1, l1, n1⟩ = r at *
  generalize cmpI t t1 = r1 at *
  generalize cmpI (s : Int) (s1 : Int) = r2 at *
  go_enter Tryz.func27, Tryz.ntmps27
  go_wp2
  go_region_law (first
    | (go_simp; go_at_call 50; ((with_reducible refine (HN _).out.mono ?_); rintro e w1 ⟨rfl, rfl⟩))
    | (go_simp; go_at_call 51; ((with_reducible refine (HV _).out.mono ?_); rintro e w1 ⟨rfl, rfl⟩))
    | (go_simp; go_at_call 49; ((refine (HO _ _ (by refine at_made _ _ _ _ ?_ _ _ ?_ <;> simp) (by refine at_made _ _ _ _ ?_ _ _ ?_ <;> simp)).out.mono ?_); rintro e w1 ⟨rfl, rfl⟩)))
  all_goals
    go_wp2
    go_ret
    refine ⟨rfl, ?_⟩
    repeat (first | exact Gr.refl _ | refine Gr.drew ?_ | refine Gr.alloc ?_ _)

end Go.Proofs.YtkgmcabamhpjhaaGreat.HpGr
