/- DiskCrash: for all lists of pieces whose bulk, with the other arguments', is at most 1048576 the statement's function answers true and leaves its arguments as they were. Condition: that bound. -/
import Derived.Test.YtfblekedgenacaaDkRename
import Derived.Test.YtfblekedgenacaaParts5
import Derived.StillTailTactics
namespace Go.Proofs.Ytfblekedgenacaa.diskCrash
open Go.ChangeShapes Go.WideShapes Go.ChangeAt Go.RowKit Words DkSpec DkLaws RefDisk PdDisk PdChange PdOps PdSync PdRen PdRead PdList PdApp PdRes PdSt Awake5 diskArms diskRename Ope Bulk Parts5 App

section
variable {w0 w w' : World} {K K' : Nat → Nat} {p : Nat} {d : DSt}
/-- A row of the statement's own stays while the disk changes. -/
theorem own_turned {base n : Nat} {v : Value} {xs : List Value} (h : w.ownsRow base 5 1 v n xs) (hk : ∀ q, v.ownBlock = some q → K q = 2) (ht : Turned K K' 1 w w') : w'.ownsRow base 5 1 v n xs ∧ ∀ q, v.ownBlock = some q → K' q = 2 := by
  obtain ⟨h1, h2⟩ := h
  rcases h2 with ⟨rfl, h2⟩ | ⟨g, cap, cur, rfl, h3, h4, h5⟩
  · exact ⟨⟨h1, .inl ⟨rfl, h2⟩⟩, fun q e => by cases e⟩
  · have hg := (Array.getElem?_eq_some_iff.1 h4).1
    have hk1 := hk g rfl
    refine ⟨⟨h1, .inr ⟨g, cap, cur, rfl, h3, (ht.block g hg (by rw [hk1]; decide)).trans h4, h5⟩⟩, fun q e => ?_⟩
    injection e with e
    subst e
    exact (ht.kind g hg).trans hk1
/-- An append onto it. -/
theorem St.own_append (h : St w0 w K p d) {n : Nat} {v v' : Value} {xs : List Value} (hown : w.ownsRow w0.heap.size 5 1 v n xs) (hk : ∀ q, v.ownBlock = some q → K q = 2) (hg : w.grownBy w' v.ownBlock) (hv : v'.ownBlock = v.ownBlock ∨ v'.ownBlock = some w.heap.size) :
    St w0 w' (PdSt.mark K w.heap.size 2) p d ∧ ∀ q, v'.ownBlock = some q → PdSt.mark K w.heap.size 2 q = 2 := by
  obtain ⟨M, D, L, G, Q, hp⟩ := h.disk
  have hmk : ∀ i, i < w.heap.size → PdSt.mark K w.heap.size 2 i = K i := fun i hi => if_pos hi
  have hb : ∀ i, i < w.heap.size → K i = 1 → w'.heap[i]? = w.heap[i]? := fun i hi hki => hg.block i hi (fun e => by have := hk i e.symm; omega)
  have hlt : ∀ i, i < w0.heap.size → i < w.heap.size := fun i hi => Nat.lt_of_lt_of_le hi h.turned.size
  refine ⟨⟨⟨M, D, L, G, Q, hp.keep hb hmk⟩, ⟨hg.os.trans h.turned.os, hg.tape.trans h.turned.tape, hg.output.trans h.turned.output, Nat.le_trans h.turned.size hg.size, fun i hi _ => (hg.block i (hlt i hi) (fun e => ?_)).trans (h.turned.block i hi (by decide)), fun i hi => (hmk i (hlt i hi)).trans (h.turned.kind i hi)⟩⟩, fun q e => ?_⟩
  · have := (hown.lt i e.symm).1
    omega
  · rcases hv with hv | hv
    · have hq := hv.symm.trans e
      rw [hmk q (hown.lt q hq).2]
      exact hk q hq
    · rw [e] at hv
      injection hv with hv
      exact PdSt.mark_new (by omega)
end
/-- .. and while something new is made. -/
theorem own_new {w w' : World} {K : Nat → Nat} {base n m : Nat} {v : Value} {xs : List Value} (h : w.ownsRow base 5 1 v n xs) (hk : ∀ q, v.ownBlock = some q → K q = 2) (hb : Below w.heap.size w w') : w'.ownsRow base 5 1 v n xs ∧ ∀ q, v.ownBlock = some q → PdSt.mark K w.heap.size m q = 2 := by
  obtain ⟨h1, h2⟩ := h
  rcases h2 with ⟨rfl, h2⟩ | ⟨g, cap, cur, rfl, h3, h4, h5⟩
  · exact ⟨⟨h1, .inl ⟨rfl, h2⟩⟩, fun q e => by cases e⟩
  · have hg := (Array.getElem?_eq_some_iff.1 h4).1
    refine ⟨⟨h1, .inr ⟨g, cap, cur, rfl, h3, (hb.block g hg).trans h4, h5⟩⟩, fun q e => ?_⟩
    injection e with e
    subst e
    exact (PdSt.mark_old hg).trans (hk _ rfl)
theorem own_fresh {w : World} {K : Nat → Nat} {base n : Nat} {v : Value} {xs : List Value} (h : w.ownsRow base 5 1 v n xs) : ∀ q, v.ownBlock = some q → PdSt.mark K base 2 q = 2 := fun q e => PdSt.mark_new (h.lt q e).1
def cSt (ps : List Part) (k s : Nat) : DSt := if k = 0 then fresh else fSt (all (ps.take k)) s
theorem c_app {ps : List Part} {k s : Nat} (h : k < ps.length) (hs : k = 0 → s = 0) : append nf ps[k].l (cSt ps k s) = (0, fSt (all (ps.take k) ++ ps[k].l) s) := by
  unfold cSt
  by_cases h0 : k = 0
  · subst h0
    rw [if_pos rfl, hs rfl]
    exact f0 _
  · rw [if_neg h0]
    exact f1 _ _ _
theorem c_old (ps : List Part) (k s : Nat) : (old nf (cSt ps k s).files).data.length ≤ (all (ps.take k)).length := by
  unfold cSt
  split
  · exact Nat.zero_le _
  · exact Nat.le_refl _
theorem c_few (ps : List Part) (k s : Nat) : (cSt ps k s).files.length ≤ 1000000000 := by
  unfold cSt
  split
  · exact Nat.zero_le _
  · show 1 ≤ 1000000000; omega
theorem f_small {l : List UInt8} {s m : Nat} (h : l.length ≤ m) : ∀ f ∈ (fSt l s).files, f.data.length ≤ m := by
  intro f hf
  simp [fSt] at hf
  subst hf
  exact h
def Rel (ps : List Part) (w0 : World) (p : Nat) (v sy i : Value) (wr : World) : Prop := ∃ (k s : Nat), k ≤ ps.length ∧ i = .int .i64 (k : Int) ∧ sy = .int .i64 (s : Int) ∧ Hid (k = 0 → s = 0) ∧ s ≤ (all (ps.take k)).length ∧
  Hid (∃ K, St w0 wr K p (cSt ps k s) ∧ wr.ownsRow w0.heap.size 5 1 v (all (ps.take k)).length ((all (ps.take k)).map B8) ∧ ∀ q, v.ownBlock = some q → K q = 2)
theorem info_u8 : (Try.prog.info? 5).map (fun i => (i.zero, i.size, i.bytes)) = some (some (.int .u8 0), 1, 1) := by kernel_rfl

set_option maxHeartbeats 6400000 in
set_option maxRecDepth 100000 in
theorem walk (w : World) (ps : List Part) (A : Option Addr) (c : Nat) (hc : ps.length ≤ c) (hm : c ≤ maxLen) (hr : Rd w w.heap.size A (ps.map SV)) (hg : ∀ p ∈ ps, Parts5.Good w w.heap.size p) (hb : (all ps).length + ps.length ≤ 1048576)
    (bs : List Bool) (Ab : Option Addr) (cb : Nat) (hcb : bs.length ≤ cb) (hmb : cb ≤ maxLen) (hrb : Rd w w.heap.size Ab (bs.map Value.bool)) (x : Int) (wx : (Lit.int .i64 x).wf = true) :
    Calls Try.prog 4 #[.slice A ps.length c, .slice Ab bs.length cb, .int .i64 x] w fun e w' => e = .returned (.bool true) ∧ Below w.heap.size w w' := by
  obtain ⟨hx1, hx2⟩ : -9223372036854775808 ≤ x ∧ x ≤ 9223372036854775807 := by
    simp only [Lit.wf, Bool.and_eq_true, decide_eq_true_eq] at wx
    rw [show IntKind.i64.min = -9223372036854775808 from rfl, show IntKind.i64.max = 9223372036854775807 from rfl] at wx
    exact wx
  obtain ⟨i0, hi, hz0, hz1, hz2⟩ := info_parts info_u8
  have HR := Lib.hid hr
  have HG := Lib.hid hg
  have HRB := Lib.hid hrb
  have HT := Lib.hid (Parts5.take_len ps)
  have HX := Lib.hid (And.intro hx1 hx2)
  have H0 := Lib.hid (awake_any w)
  unfold maxLen at hm hmb
  clear hr hg hrb wx
  go_enter Try.func4, Try.ntmps4
  go_wp2_with fail
  refine H0.out.mono ?_
  rintro e w1 ⟨rfl, hb1⟩
  have HB1 := Lib.hid hb1
  have H1 := Lib.hid (new_any w1 (fun _ => 0) 1)
  clear hb1 H0
  go_wp2_with fail
  refine H1.out.mono ?_
  rintro e w2 ⟨p, K2, rfl, _, hd2, ht2⟩
  have S2 := Lib.hid (St.first hd2 ht2)
  clear hd2 ht2 H1
  go_wp2
  go_loopw [8, 9, 10] (fun v sy i wr => Rel ps w1 p v sy i wr) (fun _ _ i _ => ps.length - (intOf i).toNat)
  case atStart => exact ⟨0, 0, by omega, rfl, rfl, Lib.hid (fun _ => rfl), Nat.zero_le _, Lib.hid ⟨K2, S2.out, by simpa [all] using World.ownsRow_nil w2 w1.heap.size 5 1, fun q e => by cases e⟩⟩
  case round =>
    obtain ⟨k, s, hk, rfl, rfl, hs0, hsl, hst⟩ := hrel
    obtain ⟨K, hs, hown, hkv⟩ := hst.out
    have SS := Lib.hid hs
    have HO := Lib.hid hown
    have HKV := Lib.hid hkv
    clear hst hs hown hkv S2
    by_cases hlt : k < ps.length
    · obtain ⟨b, off, rfl, hbb, hcell⟩ := HR.out (by simp; omega)
      have hcx : wr.cell? ⟨b, off + k, none⟩ = some (SV ps[k]) := by
        have hb2 : Below w.heap.size w wr := HB1.out.trans (SS.out.below.mono HB1.out.size)
        exact (hb2.cell (p := ⟨b, off + k, none⟩) hbb).trans (hcell k _ (by simp [hlt]))
      have hgk := HG.out ps[k] (List.getElem_mem hlt)
      have hsn := all_snoc hlt
      have ht1 := HT.out (k + 1)
      rw [hsn, List.length_append] at ht1
      have hca := c_app hlt hs0.out
      have hco := c_old ps k s
      have hcn : cSt ps (k + 1) = fun s' => fSt (all (ps.take k) ++ ps[k].l) s' := by
        funext s'
        unfold cSt
        rw [if_neg (by omega), hsn]
      have HCN := Lib.hid hcn
      have HSN := Lib.hid hsn
      generalize all (ps.take k) = l at *
      generalize hpk : ps[k] = q at *
      obtain ⟨qA, qc, q⟩ := q
      unfold SV at hcx
      obtain ⟨hg1, hg2, hg3⟩ := hgk
      simp only at hcx hg1 hg2 hg3 ht1 hca
      have RQ := Lib.hid ((hg1.below HB1.out).more HB1.out.size)
      have H2 := Lib.hid (append_any _ _ 1 p _ nf q qA qc SS.out.disk (by decide) (c_few ps k s) (by omega) (SS.out.rd RQ.out).1 (by simpa using (SS.out.rd RQ.out).2))
      rw [hca] at H2
      clear hcell hsn hg1 hg2 hg3 hca hco hcn hpk
      go_wp2_with fail
      refine H2.out.mono ?_
      rintro e w3 ⟨rfl, K3, hd3, ht3⟩
      have S3 := Lib.hid (SS.out.step hd3 ht3)
      have HO3 := Lib.hid (own_turned HO.out HKV.out ht3)
      have hcx3 : w3.cell? ⟨b, off + k, none⟩ = some (.slice qA q.length qc) := by
        rw [← hcx]
        have hbl := SS.out.below
        have hbl3 := S3.out.below
        have hlt1 : b < w1.heap.size := Nat.lt_of_lt_of_le hbb HB1.out.size
        exact (cell_of (hbl3.block b hlt1)).trans (cell_of (hbl.block b hlt1)).symm
      clear hd3 ht3 H2 hcx
      go_wp2_with (at_builtin; refine wpList_append_rd _ rfl (.tmp 31) (.tmp 35) 30 rfl w1.heap.size 5 i0 (.int .u8 0) 1 Try.underlying30 hi hz0 hz1 hz2 rfl _ _ _ rfl HO3.out.1 _ qA q.length qc (q.map B8) rfl (by simp) (S3.out.rd RQ.out).1 (Words.one8 q) ?c1 ?c2 S3.out.turned.size ?_)
      case c1 => unfold maxLen; omega
      case c2 => omega
      intro v4 w4 hown4 hg4 hv4
      have S4 := Lib.hid (St.own_append S3.out HO3.out.1 HO3.out.2 hg4 hv4)
      have HO4 : Hid (w4.ownsRow w1.heap.size 5 1 v4 (l ++ q).length ((l ++ q).map B8)) := Lib.hid (by simpa using hown4)
      obtain ⟨A4, c4, rfl, _⟩ := RefTake.own_rd HO4.out
      have hll : s ≤ (l ++ q).length := by simp; omega
      have HEND : Hid (∀ w5 K5 s5, s5 ≤ (l ++ q).length → St w1 w5 K5 p (fSt (l ++ q) s5) → (w5.ownsRow w1.heap.size 5 1 (.slice A4 (l ++ q).length c4) (l ++ q).length ((l ++ q).map B8) ∧ ∀ qq, (Value.slice A4 (l ++ q).length c4).ownBlock = some qq → K5 qq = 2) → Rel ps w1 p (.slice A4 (l ++ q).length c4) (.int .i64 (s5 : Int)) (.int .i64 ((k : Int) + 1)) w5) := Lib.hid (fun w5 K5 s5 h1 h2 h3 =>
        ⟨k + 1, s5, by omega, by simp, rfl, Lib.hid (fun h => by omega), by rw [HSN.out]; exact h1, Lib.hid ⟨K5, by rw [HCN.out]; exact h2, by rw [HSN.out]; exact h3.1, h3.2⟩⟩)
      have H5 := Lib.hid (sync_any _ _ 1 p _ nf S4.out.1.disk (by decide))
      rw [f2] at H5
      clear hown4 hg4 hv4 HCN HSN hcx3
      generalize hL : l ++ q = L at *
      by_cases hkb : k < bs.length
      · obtain ⟨bb, offb, rfl, hbbb, hcellb⟩ := HRB.out (by simp; omega)
        have hcb4 : w4.cell? ⟨bb, offb + k, none⟩ = some (.bool bs[k]) := by
          have hb2 : Below w.heap.size w w4 := HB1.out.trans (S4.out.1.below.mono HB1.out.size)
          exact (hb2.cell (p := ⟨bb, offb + k, none⟩) hbbb).trans (hcellb k _ (by simp [hkb]))
        generalize bs[k] = bk at *
        clear hcellb
        cases bk with
        | true =>
          go_wp2_with fail
          refine H5.out.mono ?_
          rintro e w5 ⟨rfl, K5, hd5, ht5⟩
          have S5 := Lib.hid (S4.out.1.step hd5 ht5)
          have HO5 := Lib.hid (own_turned HO4.out S4.out.2 ht5)
          clear hd5 ht5 H5
          go_wp2
          go_roundw
          case rel => exact HEND.out _ _ L.length (Nat.le_refl _) S5.out HO5.out
          case measure => simp [intOf]; omega
        | false =>
          go_wp2
          go_roundw
          case rel => exact HEND.out _ _ s hll S4.out.1 ⟨HO4.out, S4.out.2⟩
          case measure => simp [intOf]; omega
      · go_wp2
        go_roundw
        case rel => exact HEND.out _ _ s hll S4.out.1 ⟨HO4.out, S4.out.2⟩
        case measure => simp [intOf]; omega
    · obtain rfl : k = ps.length := by omega
      by_cases hz : ps.length = 0
      · have hcz : cSt ps ps.length s = fresh := by unfold cSt; rw [if_pos hz]
        have S5 := Lib.hid SS.out
        rw [hcz] at S5
        have H5 := Lib.hid (sync_any _ _ 1 p _ nf S5.out.disk (by decide))
        rw [f3] at H5
        have he0 : ((ps.length : Int) == 0) = true := beq_iff_eq.2 (by omega)
        clear hcz hsl hs0 SS HO HKV
        go_wp2_with fail
        refine H5.out.mono ?_
        rintro e w5 ⟨rfl, K5, hd5, ht5⟩
        have S6 := Lib.hid (S5.out.step hd5 ht5)
        clear hd5 ht5 H5
        go_wp2
        go_ret
        exact ⟨rfl, HB1.out.trans (S6.out.below.mono HB1.out.size)⟩
      · have hcz : cSt ps ps.length s = fSt (all ps) s := by unfold cSt; rw [if_neg hz, List.take_length]
        rw [List.take_length] at HO hsl
        have S5 := Lib.hid SS.out
        rw [hcz] at S5
        have he0 : ((ps.length : Int) == 0) = false := beq_eq_false_iff_ne.2 (by omega)
        have hLb : (all ps).length ≤ 1048576 := by omega
        generalize all ps = L at *
        obtain ⟨M, hM⟩ : ∃ M, min L.length (s + x.toNat) = M := ⟨_, rfl⟩
        have h7 := (f7 L.length s x hsl).symm
        rw [hM] at h7
        have hML : M ≤ L.length := by rw [← hM]; exact Nat.min_le_left _ _
        obtain ⟨L1, hL1⟩ : ∃ L1, L.take M = L1 := ⟨_, rfl⟩
        have hL1l : L1.length = M := by rw [← hL1]; simp; omega
        obtain ⟨A8, c8, rfl, h81, h82, _⟩ := RefTake.own_rd HO.out
        have S6 := Lib.hid (S5.out.lit (.cells #[.int .i64 x] 3) 0)
        have O6 := Lib.hid (own_new (m := 0) HO.out HKV.out ((Below.refl _ wr).alloc (Nat.le_refl _) (.cells #[.int .i64 x] 3)))
        have H6 := Lib.hid (restart_any _ _ 1 p _ [x] (some ⟨wr.heap.size, 0, none⟩) 1 S6.out.disk (by show 1 ≤ 1000000000; omega) (lit_rd wr #[.int .i64 x] 3 (0, 0)) (fun b off e h => lit_kind (by decide) b off e h) (fun y hy => by simp at hy; subst hy; exact HX.out) (by simp) (by unfold maxLen; omega))
        rw [f5, hM, hL1] at H6
        have HML := Lib.hid hML
        have HLL := Lib.hid hL1l
        have HL1 := Lib.hid hL1
        unfold maxLen at h82
        clear hcz hs0 SS HO HKV hM hL1
        go_wp2_with fail
        refine H6.out.mono ?_
        rintro e w7 ⟨rfl, K7, hd7, ht7⟩
        have S7 := Lib.hid (S6.out.step hd7 ht7)
        have O7 := Lib.hid (own_turned O6.out.1 O6.out.2 ht7)
        have H7 := Lib.hid (read_any _ _ 1 p _ nf S7.out.disk (by decide) (f_small (by omega)))
        rw [f4] at H7
        clear hd7 ht7 H6
        go_wp2_with fail
        refine H7.out.mono ?_
        unfold RdPost
        dsimp only
        rintro e w9 ⟨v9, rfl, hown9, hb9⟩
        have S9 := Lib.hid (S7.out.new hb9 2)
        have O9 := Lib.hid (own_new (m := 2) O7.out.1 O7.out.2 hb9)
        have Q9 := Lib.hid (And.intro hown9 (own_fresh (K := K7) hown9))
        obtain ⟨A9, c9, rfl, _, _, hrd9, _⟩ := RefTake.own_rd hown9
        obtain ⟨A8', c8', hv8, _, _, hrd8, _⟩ := RefTake.own_rd O9.out.1
        injection hv8 with hA8 _ hc8
        subst hA8 hc8
        have s9 := run_str (s := L1) w9.drew A9 M c9 HLL.out.symm hrd9
        have s8 : (convert 30 9 (.slice A8 M c8)).run Try.prog w9.drew = .ok (.string ⟨L1.toArray⟩) w9.drew := run_str (s := L1) w9.drew A8 M c8 HLL.out.symm (by rw [← HL1.out, List.map_take]; exact hrd8.take M)
        have hee : (L1 != L1) = false := by simp
        have hM8 : M ≤ c8 := by omega
        clear hown9 hb9 hrd9 hrd8 H7
        go_wp2
        refine wp_region_still_lit (by kernel_rfl) (by kernel_rfl) ?_
        iterate 11 (refine wpStill_step (fun K hK => ?_); go_simp; refine hK _ ?_; clear hK K)
        refine wpStill_nil ?_
        have hd9 : Below w9.heap.size w9 w9.drew := (Below.refl _ w9).drew
        have S9d := Lib.hid (S9.out.new hd9 0)
        have Q9d := Lib.hid (own_new (m := 0) Q9.out.1 Q9.out.2 hd9)
        have hl10 : Below w9.drew.heap.size w9.drew (w9.drew.alloc (.cells #[.int .i64 0] 3)) := (Below.refl _ _).alloc (Nat.le_refl _) _
        have S10 := Lib.hid (S9d.out.lit (.cells #[.int .i64 0] 3) 0)
        have Q10 := Lib.hid (own_new (m := 0) Q9d.out.1 Q9d.out.2 hl10)
        have H10 := Lib.hid (restart_any _ _ 1 p _ [0] (some ⟨w9.drew.heap.size, 0, none⟩) 1 S10.out.disk (by show 1 ≤ 1000000000; omega) (lit_rd w9.drew #[.int .i64 0] 3 (0, 0)) (fun b off e h => lit_kind (by decide) b off e h) (by decide) (by decide) (by unfold maxLen; omega))
        rw [show restart [0] (fSt L1 M) = fSt L1 M by rw [← HLL.out]; exact f6 L1] at H10
        clear hd9 hl10 s8 s9
        go_wp2_with fail
        refine H10.out.mono ?_
        rintro e w11 ⟨rfl, K11, hd11, ht11⟩
        have S11 := Lib.hid (S10.out.step hd11 ht11)
        have Q11 := Lib.hid (own_turned Q10.out.1 Q10.out.2 ht11)
        have H11 := Lib.hid (read_any _ _ 1 p _ nf S11.out.disk (by decide) (f_small (by have := HLL.out; omega)))
        rw [f4] at H11
        clear hd11 ht11 H10
        go_wp2_with fail
        refine H11.out.mono ?_
        unfold RdPost
        dsimp only
        rintro e w12 ⟨v12, rfl, hown12, hb12⟩
        have S12 := Lib.hid (S11.out.new hb12 0)
        have Q12 := Lib.hid (own_new (m := 0) Q11.out.1 Q11.out.2 hb12)
        obtain ⟨A12, c12, rfl, _, _, hrd12, _⟩ := RefTake.own_rd hown12
        obtain ⟨A9', c9', hv9, _, _, hrd9', _⟩ := RefTake.own_rd Q12.out.1
        injection hv9 with hA9 _ hc9
        subst hA9 hc9
        have s12 := run_str (s := L1) w12 A12 M c12 HLL.out.symm hrd12
        have s9 := run_str (s := L1) w12 A9 M c9 HLL.out.symm hrd9'
        have hef : (L1 == L1) = true := by simp
        clear hown12 hb12 hrd12 hrd9' H11
        go_wp2
        go_ret
        exact ⟨rfl, HB1.out.trans (S12.out.below.mono HB1.out.size)⟩
theorem own : ownKnob Try.prog.godebug = none := by kernel_rfl
theorem laid : laidOutB Try.prog = true := by kernel_rfl
theorem allRead : (Try.f4.params.toList.all fun t => Try.prog.readableRec t && decide (t < Try.prog.types.size)) = true := by kernel_rfl
set_option maxRecDepth 100000 in
theorem contract (H : Type) (enc : TypeId × Value → H) (W : World) (base : Nat) (args : Array Value) (ds gs : List (DataW H)) (before : List MemPlace)
    (hval : ∀ (j : Nat) t v, Try.f4.params[j]? = some t → args[j]? = some v → Value.okWide Try.prog W .any base t v)
    (hW : DataW.Whole enc Try.prog Try.f4.params.toList Rows.diskCrashSpec.vars false W args.toList ds gs before) (hk : Rows.uptoSmall H (ds ++ gs) = true) :
    Calls Try.prog 4 args W fun e W' => ∃ v, e = .returned v ∧ Rows.diskCrashSpec.post enc Try.prog Try.f4 false true false false W args v W' := by
  have hW' := hW
  obtain ⟨p, q, hA0, hV, rfl, hfz, hnd⟩ := hW
  obtain ⟨rfl, rfl⟩ := trodVars_none hV
  have hlt : ∀ x ∈ p, x.block < W.heap.size := fun x hx => hW'.lt x (by simp [hx])
  have hA : DataW.TrodAll enc Try.prog W 0 (fun _ => true) true Try.f4.params.toList args.toList ds p := hA0
  rw [Try.params4] at hA hval
  obtain ⟨v0, vs0, d0, ds0, p0, q0, hargs, rfl, rfl, h0, r0⟩ := trodAll_cons hA
  obtain ⟨v1, vs1, d1, ds1, p1, q1, rfl, rfl, rfl, h1, r1⟩ := trodAll_cons r0
  obtain ⟨v2, vs2, d2, ds2, p2, q2, rfl, rfl, rfl, h2, r2⟩ := trodAll_cons r1
  obtain ⟨rfl, rfl, rfl⟩ := trodAll_nil r2
  obtain rfl : args = #[v0, v1, v2] := by cases args; simp_all
  have hkb : Rows.uptoBulkAll ([d0, d1, d2] ++ []) ≤ 1048576 := of_decide_eq_true hk
  obtain ⟨A0, l0, c0, rfl, hl0, hm0, hr0, hg0, hd0⟩ := open_u8ss Try.underlying40 Try.underlying30 Try.underlying5 (by kernel_rfl) (by kernel_rfl) (hval 0 40 v0 rfl rfl) h0 (fun x hx => hlt x (by simp [hx]))
  have hb0 : (all l0).length + l0.length ≤ 1048576 := by have h := bulk_parts hd0; simp only [List.append_nil, Rows.uptoBulkAll] at hkb; omega
  obtain ⟨A1, l1, c1, rfl, hl1, hm1, hr1⟩ := open_bools Try.underlying41 Try.underlying4 (by kernel_rfl) (hval 1 41 v1 rfl rfl) h1
  obtain ⟨a2, rfl, rfl, rfl, w2⟩ := open_int Try.underlying3 (hval 2 3 v2 rfl rfl) h2
  refine (walk W l0 A0 c0 hl0 hm0 hr0 hg0 hb0 l1 A1 c1 hl1 hm1 hr1 a2 w2).mono fun e W' ⟨he, hb⟩ => ?_
  subst he
  exact ⟨_, rfl, law_post laid (fun t ht => by have h := List.all_eq_true.1 allRead t ht; rw [Bool.and_eq_true, decide_eq_true_eq] at h; exact h) rfl (by kernel_rfl) Try.underlying4 rfl hW' hb⟩
set_option maxRecDepth 100000 in
theorem lifted (os : Os) (started : os.Started) (H : Type) (enc : TypeId × Value → H) (F : Stop.Interp) :
    ReturnsInHanded {} Try.checked os 4 .any ((Rows.OpenSpec.upto Rows.diskCrashSpec).pre6 enc Try.prog Try.f4 Rows.diskCrashUptoRow.domain false) (((Rows.OpenSpec.upto Rows.diskCrashSpec).at F).post enc Try.prog Try.f4 false true false false) := by
  refine returnsInHanded_of_cond (C := Try.checked) (s := Rows.OpenSpec.upto Rows.diskCrashSpec) (k := Rows.uptoSmall) rfl own started (by kernel_rfl) Try.func4
    (OpenSpec.witness (enc := enc) (C := Try.checked) (s := Rows.OpenSpec.upto Rows.diskCrashSpec) (k := Rows.uptoSmall) rfl false ⟨#[], #[.slice none 0 0, .slice none 0 0, .int .i64 0], []⟩ 8 (by kernel_rfl) (by kernel_rfl) (by kernel_rfl)
      (x := ([.nil, .nil, .lit (.int .i64 0)], [], [])) (by kernel_rfl) rfl (by kernel_rfl)) ?_
  intro W base args ds gs before hval hW _ hk _
  exact contract H enc W base args ds gs before hval hW hk
theorem over : Rows.diskCrashUptoRow.holds Try.pinned (Rows.OpenSpec.upto Rows.diskCrashSpec) :=
  OpenClaim.holds_of_cond 4 Try.f4 rfl rfl rfl rfl rfl rfl rfl ⟨rfl, rfl, rfl, rfl, rfl⟩ rfl rfl rfl rfl rfl (by kernel_rfl) Try.func4 (by kernel_rfl)
    (of_decide_eq_true (by kernel_rfl)) (by unfold Func.isWrapper; first | (rw [if_pos (by decide +kernel)]; kernel_rfl) | (rw [if_neg (by decide +kernel)]; exact ⟨rfl, rfl⟩))
    (fun os started H enc _ F => lifted os started H enc F)
theorem proved : Rows.DiskCrashUptoSaid := over

end Go.Proofs.Ytfblekedgenacaa.diskCrash
