/- What each operation of FrameLinear's last statement answers, at whatever frame. No conditions but what the operands hold. -/
import Derived.Test.YtajphomdbdgmbaaDoorLinInv
import Derived.WalkKit
import Derived.Laws.BitsAllLaws
namespace Go.Proofs.YtajphomdbdgmbaaDoor.LinRun
open Go Go.RowKit Words Crc Summ LinInv

section
variable {o : Oper} {ρ : Operand → Value} {w : World}
theorem run_move {x : Operand} (hop : o.op = .move x) : (execOp ρ o).run Tryd.prog w = .ok (.value (ρ x)) w := by
  unfold execOp; rw [hop]; rfl
theorem run_assign {x : Operand} (hop : o.op = .assign x) : (execOp ρ o).run Tryd.prog w = .ok (.value (ρ x)) w := by
  unfold execOp; rw [hop]; rfl
theorem run_pick {c x y : Operand} (hop : o.op = .pick c x y) (hc : ρ c = .bool true) : (execOp ρ o).run Tryd.prog w = .ok (.value (ρ x)) w := by
  unfold execOp; rw [hop]; simp only [hc]; rfl
theorem run_call {x : Operand} (hop : o.op = .call { callee := .value (.func 9), args := #[x], argTypes := #[22] }) (hf : ρ (.func 9) = .func (.func 9) #[] #[]) : (execOp ρ o).run Tryd.prog w = .ok (.enter 9 #[ρ x]) w := by
  unfold execOp; rw [hop]
  first | rfl | (go_simp; done)
theorem run_build1 {x : Operand} {q : Part} (hop : o.op = .buildSlice 22 1 #[(0, x)]) (hx : ρ x = SV q) : (execOp ρ o).run Tryd.prog w = .ok (.value (.slice (some ⟨w.heap.size, 0, none⟩) 1 1)) (w.alloc (.cells [SV q].toArray 24)) := by
  unfold SV at *
  unfold execOp; rw [hop]
  first | rfl | (go_simp; done)
theorem run_build4 {x y z u : Operand} {q1 q2 q3 q4 : Part} (hop : o.op = .buildSlice 22 4 #[(0, x), (1, y), (2, z), (3, u)]) (h1 : ρ x = SV q1) (h2 : ρ y = SV q2) (h3 : ρ z = SV q3) (h4 : ρ u = SV q4) : (execOp ρ o).run Tryd.prog w = .ok (.value (.slice (some ⟨w.heap.size, 0, none⟩) 4 4)) (w.alloc (.cells [SV q1, SV q2, SV q3, SV q4].toArray 24)) := by
  unfold SV at *
  unfold execOp; rw [hop]
  first | rfl | (go_simp; done)
theorem run_build0 (hop : o.op = .buildSlice 24 0 #[]) : (execOp ρ o).run Tryd.prog w = .ok (.value (.slice (some ⟨w.heap.size, 0, none⟩) 0 0)) (w.alloc (.cells #[] 5)) := by
  unfold execOp; rw [hop]
  first | rfl | (go_simp; done)
theorem run_slice {x y : Operand} {A : Option Addr} {m c n : Nat} (hop : o.op = .slice 24 x none (some y) none) (hx : ρ x = .slice A m c) (hy : ρ y = .int .i64 (n : Int)) (hn : n ≤ c) : (execOp ρ o).run Tryd.prog w = .ok (.value (.slice A n c)) w := by
  have b1 : (0 : Int) ≤ (n : Int) := by omega
  have b2 : (n : Int) ≤ (c : Int) := by omega
  unfold execOp; rw [hop]
  first | rfl | (go_simp; done)
theorem run_xor {x y : Operand} {s t : Nat} (hop : o.op = .binOp .xor 25 x y 25) (hx : ρ x = U s) (hy : ρ y = U t) (hs : s < 2 ^ 32) (ht : t < 2 ^ 32) : (execOp ρ o).run Tryd.prog w = .ok (.value (U (s ^^^ t))) w := by
  have e := u32_xor_nat s t hs ht
  unfold U at *
  unfold execOp; rw [hop]
  first | rfl | (go_simp; done)
theorem run_eql {x y : Operand} {s : Nat} (hop : o.op = .binOp .eql 25 x y 25) (hx : ρ x = U s) (hy : ρ y = U s) : (execOp ρ o).run Tryd.prog w = .ok (.value (.bool true)) w := by
  unfold U at *
  unfold execOp; rw [hop]
  first | rfl | (go_simp; done)
end
end Go.Proofs.YtajphomdbdgmbaaDoor.LinRun
