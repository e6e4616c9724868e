/- The program's reading of one label: cutLabel. Conditions: a text of at most 2^30 bytes; that the library's variable that its search reads holds some number. -/
import Derived.Test.YtngkhcbnndkdeaaLpRead1
import Derived.Test.YtngkhcbnndkdeaaLpCopy
import Derived.Test.YtngkhcbnndkdeaaMl
import Derived.Laws.ResultCell
namespace Go.Proofs.Ytngkhcbnndkdeaa.LpRead2
open Go Go.RowKit Words AppN UtSpec UtShelf UtRange Less LbSpec LbText LbMem LbRef LbCmp UtOwn LpOrd LpBoth LpCan1 LpCopy LpText LpRead1 Ml

/-- What a label's reading answers. -/
def lab (r : Option (Lab × List UInt8)) : Value := match r with | none => .tuple #[.agg #[S8 [], S8 []], S8 [], .bool false] | some p => .tuple #[.agg #[S8 p.1.1, S8 p.1.2], S8 p.2, .bool true]
theorem cutS_any (t : List UInt8) (w : World) (hM : ML w) (ht : t.length ≤ 1073741824) :
    Calls Try.prog 60 #[S8 t, .string ⟨#[61, 34]⟩] w fun e w' => e = .returned (match nm t with | none => .tuple #[S8 t, S8 [], .bool false] | some p => .tuple #[S8 p.1, S8 p.2, .bool true]) ∧ ∃ n, w' = w.drewN n := by
  obtain ⟨m, hm⟩ := hM
  have h := Try.strings_Cut ⟨t.toArray⟩ ⟨#[61, 34]⟩ m w (by rw [size_len]; omega) hm
  refine Calls.mono h ?_
  rintro e w' ⟨rfl, hn⟩
  refine ⟨?_, hn⟩
  rw [show (⟨t.toArray⟩ : ByteArray).data.toList = t from rfl, show (⟨#[61, 34]⟩ : ByteArray).data.toList = [61, 34] from rfl, cut_nm]
  cases nm t with
  | none => rfl
  | some p => rfl
theorem space_any (n : List UInt8) (w : World) : Calls Try.prog 61 #[S8 n, .string ⟨#[32]⟩] w fun e w' => e = .returned (.bool (n.contains 32)) ∧ w' = w := by
  have h := Try.strings_Contains_one ⟨n.toArray⟩ 32 w
  rw [show (⟨n.toArray⟩ : ByteArray).data.toList = n from rfl, has_byte] at h
  exact h

theorem results_cell3 {fn : Func} {p u v : Tmp} {ty : TypeId} (h : fn.results = #[.cell p ty, .tmp u, .tmp v]) (tmps : Array Value) (P : Program) (w : World) :
    (results fn tmps).run P w =
      ((asAddr (tmps.getD p undef)).run P w).andThen fun a w₁ => ((loadVar ty a).run P w₁).andThen fun x w₂ => .ok (.tuple #[x, tmps.getD u undef, tmps.getD v undef]) w₂ := by
  simp only [results, h]
  simp [Sem.run_bind, Result.andThen]

set_option maxHeartbeats 3200000 in
set_option maxRecDepth 100000 in
theorem cutLabel_any (t : List UInt8) (w : World) (hM : ML w) (ht : t.length ≤ 1073741824) :
    Calls Try.prog 44 #[S8 t] w fun e w' => e = .returned (lab (oneR t)) ∧ Below w.heap.size w w' := by
  have HA : Hid (Below w.heap.size w (w.alloc (.cells #[.string ⟨#[]⟩, .string ⟨#[]⟩] 37))) := Lib.hid ((Below.refl _ w).alloc (Nat.le_refl _) _)
  have HC := Lib.hid (cutS_any t _ (hM.below HA.out) ht)
  have HBOX := Lib.hid (heap_alloc_new w (.cells #[.string ⟨#[]⟩, .string ⟨#[]⟩] 37))
  obtain ⟨r, hr⟩ : ∃ r, oneR t = r := ⟨_, rfl⟩
  rw [hr]
  unfold oneR at hr
  unfold S8
  cases hn : nm t with
  | none =>
    rw [hn] at hr HC
    simp only at hr HC
    unfold S8 at HC
    subst hr
    clear hn ht
    go_enter Try.func44, Try.ntmps44
    go_wp2_with fail
    refine HC.out.mono ?_
    rintro e w1 ⟨rfl, n, rfl⟩
    go_wp2
    (try simp only [Exit.inBlock, Exit.then])
    refine bodyPost_ret (v := .tuple #[.agg #[.string ⟨#[]⟩, .string ⟨#[]⟩], .string ⟨#[]⟩, .bool false]) ?_ rfl ⟨?_, ?_⟩
    · rw [results_cell3 rfl]
      go_simp
    · rfl
    · exact ((below_drewN HA.out n).setCell (Nat.le_refl _) _).setCell (Nat.le_refl _) _
  | some p =>
    obtain ⟨nme, rst⟩ := p
    have hlen : nme.length ≤ 1073741824 ∧ rst.length ≤ 1073741824 := by
      have h := nm_inv t hn
      have h2 := congrArg List.length h
      simp at h2
      omega
    rw [hn] at hr HC
    simp only at hr HC
    have HSP := fun w => Lib.hid (space_any nme w)
    have HCV := fun w => Lib.hid (cutValue_any rst w hlen.2)
    unfold S8 at HC HSP HCV
    obtain ⟨b, hb⟩ : ∃ b, nme.contains 32 = b := ⟨_, rfl⟩
    rw [hb] at hr
    simp only [hb] at HSP
    clear hn ht hlen hb
    cases b with
    | true =>
      rw [if_pos rfl] at hr
      subst hr
      clear HCV
      go_enter Try.func44, Try.ntmps44
      go_wp2_with fail
      refine HC.out.mono ?_
      rintro e w1 ⟨rfl, n, rfl⟩
      go_wp2_with fail
      refine (HSP _).out.mono ?_
      rintro e w2 ⟨rfl, rfl⟩
      go_wp2
      (try simp only [Exit.inBlock, Exit.then])
      refine bodyPost_ret (v := .tuple #[.agg #[.string ⟨#[]⟩, .string ⟨#[]⟩], .string ⟨#[]⟩, .bool false]) ?_ rfl ⟨?_, ?_⟩
      · rw [results_cell3 rfl]
        go_simp
      · rfl
      · exact ((below_drewN HA.out n).setCell (Nat.le_refl _) _).setCell (Nat.le_refl _) _
    | false =>
      rw [if_neg (by decide)] at hr
      obtain ⟨u, hu⟩ : ∃ u, un rst = u := ⟨_, rfl⟩
      rw [hu] at hr
      simp only [hu] at HCV
      clear hu
      have HZ : w.heap.size < (w.alloc (.cells #[.string ⟨#[]⟩, .string ⟨#[]⟩] 37)).heap.size := by simp
      cases u with
      | none =>
        simp only at hr
        subst hr
        unfold got S8 at HCV
        simp only at HCV
        go_enter Try.func44, Try.ntmps44
        go_wp2_with fail
        refine HC.out.mono ?_
        rintro e w1 ⟨rfl, n, rfl⟩
        go_wp2_with fail
        refine (HSP _).out.mono ?_
        rintro e w2 ⟨rfl, rfl⟩
        go_wp2_with fail
        refine (HCV _).out.mono ?_
        rintro e w3 ⟨rfl, hb3⟩
        have hbox : w3.heap[w.heap.size]? = some (.cells #[.string ⟨#[]⟩, .string ⟨#[]⟩] 37 (0, 0)) := (hb3.block w.heap.size HZ).trans HBOX.out
        have k0 : w3.cell? ⟨w.heap.size, 0, none⟩ = some (.string ⟨#[]⟩) := cell_of hbox rfl
        have k1 : w3.cell? ⟨w.heap.size, 1, none⟩ = some (.string ⟨#[]⟩) := cell_of hbox rfl
        have z0 : w3.frozen? ⟨w.heap.size, 0, none⟩ = false := frozen_of hbox
        have z1 : w3.frozen? ⟨w.heap.size, 1, none⟩ = false := frozen_of hbox
        have HB3 : Hid (Below w.heap.size w w3) := Lib.hid ((below_drewN HA.out n).trans (hb3.mono (Nat.le_of_lt HZ)))
        clear hb3 hbox HCV
        go_wp2
        (try simp only [Exit.inBlock, Exit.then])
        refine bodyPost_ret (v := .tuple #[.agg #[.string ⟨#[]⟩, .string ⟨#[]⟩], .string ⟨#[]⟩, .bool false]) ?_ rfl ⟨?_, ?_⟩
        · rw [results_cell3 rfl]
          go_simp
        · rfl
        · exact (HB3.out.setCell (Nat.le_refl _) _).setCell (Nat.le_refl _) _
      | some q =>
        obtain ⟨v, r2⟩ := q
        simp only at hr
        subst hr
        unfold got S8 at HCV
        simp only at HCV
        go_enter Try.func44, Try.ntmps44
        go_wp2_with fail
        refine HC.out.mono ?_
        rintro e w1 ⟨rfl, n, rfl⟩
        go_wp2_with fail
        refine (HSP _).out.mono ?_
        rintro e w2 ⟨rfl, rfl⟩
        go_wp2_with fail
        refine (HCV _).out.mono ?_
        rintro e w3 ⟨rfl, hb3⟩
        have hbox : w3.heap[w.heap.size]? = some (.cells #[.string ⟨#[]⟩, .string ⟨#[]⟩] 37 (0, 0)) := (hb3.block w.heap.size HZ).trans HBOX.out
        have k0 : w3.cell? ⟨w.heap.size, 0, none⟩ = some (.string ⟨#[]⟩) := cell_of hbox rfl
        have k1 : w3.cell? ⟨w.heap.size, 1, none⟩ = some (.string ⟨#[]⟩) := cell_of hbox rfl
        have z0 : w3.frozen? ⟨w.heap.size, 0, none⟩ = false := frozen_of hbox
        have z1 : w3.frozen? ⟨w.heap.size, 1, none⟩ = false := frozen_of hbox
        have HB3 : Hid (Below w.heap.size w w3) := Lib.hid ((below_drewN HA.out n).trans (hb3.mono (Nat.le_of_lt HZ)))
        clear hb3 hbox HCV
        go_wp2
        (try simp only [Exit.inBlock, Exit.then])
        refine bodyPost_ret (v := .tuple #[.agg #[.string ⟨nme.toArray⟩, .string ⟨v.toArray⟩], .string ⟨r2.toArray⟩, .bool true]) ?_ rfl ⟨?_, ?_⟩
        · rw [results_cell3 rfl]
          go_simp
        · rfl
        · exact (HB3.out.setCell (Nat.le_refl _) _).setCell (Nat.le_refl _) _
end Go.Proofs.Ytngkhcbnndkdeaa.LpRead2
