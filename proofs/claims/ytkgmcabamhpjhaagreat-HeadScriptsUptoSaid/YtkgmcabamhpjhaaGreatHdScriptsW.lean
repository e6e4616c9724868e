/- HeadScripts, walked over the contracts of head's calls. Condition: the script is below 2^20 bytes. -/
import Derived.Test.YtkgmcabamhpjhaaGreatHdBoth
import Derived.Test.YtkgmcabamhpjhaaGreatHdOpen
import Derived.Test.YtkgmcabamhpjhaaGreatHdSpoil
import Derived.Test.YtkgmcabamhpjhaaGreatHdCopied
import Derived.Deep.RegionHeld3
import Derived.Deep.RegionWith
namespace Go.Proofs.YtkgmcabamhpjhaaGreat.HdScriptsW
open Go Go.RowKit Words AppN Less LbSpec LbMem LbRef RcSpec RcAll RcMem RcRef LbOpen RcOpen HdOpen HdSpec HdRm HdMem HdKm HdLaw HdRef HdAdd HdFind HdTakesW HdBoth HdSpoil HdCopied UtOwn Km

def SRel (HeadR : World → (Nat → Nat) → Nat → Nat → HSt → Prop) (M : HdBoth.Mode) (w0 : World) (n : Nat) (vi : Value) (wr : World) : Prop := ∃ (i : Nat) (K : Nat → Nat) (S : HSt), i ≤ n ∧ vi = .int .i64 (i : Int) ∧ Hid (HInv HeadR M wr K S) ∧ Hid (RInv M wr K S) ∧ Hid (Mo (fun _ => 0) K (fun x => x ≠ 0) w0 wr)
theorem drew_same (w : World) : Below w.heap.size w w.drew := ⟨rfl, rfl, rfl, Nat.le_refl _, fun _ _ => rfl⟩
/-- What copied makes, by numbers. -/
theorem res_copied {w w' : World} {K : Nat → Nat} {ms : List RM} {v : Value} (h : ArN w ms v w') : Res (kmark K w.heap.size 3) 3 ms v w' :=
  ⟨⟨HdSort.own_monoN h.own (Nat.zero_le _), h.fits, fun m hm => HdSort.own_monoN (h.each m hm) (Nat.zero_le _), h.away, h.apart⟩, fun q hq => kmark_new (h.own.lt q hq).1, fun q ⟨m, hm, hq⟩ => kmark_new ((h.each m hm).lt q hq).1⟩
theorem few_labels {ms : List RM} {n : Nat} (h : totalR ms ≤ n) : ∀ m ∈ ms, m.1.labels.length ≤ n := fun m hm => by
  obtain ⟨a, b, rfl⟩ := List.append_of_mem hm
  rw [total_append, show m :: b = [m] ++ b from rfl, total_append] at h
  have : totalR [m] = sizeR m.1 := by simp [totalR]
  have h2 : m.1.labels.length ≤ sizeR m.1 := by unfold sizeR; omega
  omega
theorem total_recs {a b : List RM} (h : recsOf a = recsOf b) : totalR a = totalR b := by
  have e : ∀ l : List RM, totalR l = ((recsOf l).map sizeR).sum := fun l => by simp [totalR, recsOf]; rfl
  rw [e, e, h]

theorem own_rd {w : World} {base n : Nat} {e : TypeId} {v : Value} {xs : List Value} (h : w.ownsRow base e 1 v n xs) : ∃ A c, v = .slice A n c ∧ n ≤ c ∧ c ≤ maxLen ∧ Rd w w.heap.size A xs ∧ ∀ b off, A = some ⟨b, off, none⟩ → base ≤ b ∧ b < w.heap.size := by
  have hl := h.1
  rcases h.2 with ⟨rfl, rfl⟩ | ⟨g, cap, cur, rfl, hb, hg, h1, h2, h3, h4⟩
  · exact ⟨none, 0, rfl, by omega, by unfold maxLen; omega, fun hp => by omega, fun b off e => by cases e⟩
  · have hgl : g < w.heap.size := (Array.getElem?_eq_some_iff.1 hg).1
    refine ⟨some ⟨g, 0, none⟩, cap, rfl, h1, h2, fun _ => ⟨g, 0, rfl, hgl, fun j u hu => ?_⟩, fun b off e => ?_⟩
    · have hc := h.cells (g := g) rfl j u hu
      rwa [add_off] at hc
    · injection e with e
      injection e with e
      subst e
      exact ⟨hb, hgl⟩
/-- What holds beside the places found. -/
def F1 (HeadR : World → (Nat → Nat) → Nat → Nat → HSt → Prop) (M : HdBoth.Mode) (wB : World) (KB : Nat → Nat) (S : HSt) (fl : List UInt64) (A : Option Addr) (_c : Nat) (w : World) : Prop := ∃ K, HInv HeadR M w K S ∧ RInv M w K S ∧ Mo KB K (fun x => x ≠ 0) wB w ∧ fl.length ≤ maxLen ∧ Rd w w.heap.size A (fl.map B64) ∧ (∀ b off, A = some ⟨b, off, .none⟩ → 0 < fl.length → K b = 3)
/-- What holds beside what copied made: both heads, the blocks, the records of the number 3. -/
def Pk (HeadR : World → (Nat → Nat) → Nat → Nat → HSt → Prop) (M : HdBoth.Mode) (wB : World) (KB : Nat → Nat) (S1 S2 : HSt) (ms1 : List RM) (v : Value) (w : World) : Prop := ∃ K, HInv HeadR M w K S1 ∧ RInv M w K S2 ∧ Mo KB K (fun x => x ≠ 0) wB w ∧ Res K 3 ms1 v w
section
variable {HeadR : World → (Nat → Nat) → Nat → Nat → HSt → Prop} {M : HdBoth.Mode} {wB w w' : World} {KB : Nat → Nat} {S S1 S2 : HSt} {ms ms1 : List RM} {v : Value} {A A1 : Option Addr} {n c c1 : Nat}
theorem pk_copied (P : Hed HeadR) (hh : HInv HeadR M wB KB S) (hr : RInv M wB KB S) (h : ArN wB ms1 v w) : Pk HeadR M wB KB S S ms1 v w :=
  ⟨_, hinv_mo P hh (Mo.new (S := fun _ => False) h.below 3) (fun h => h), rinv_mo hr (Mo.new (S := fun _ => False) h.below 3) (fun h => h) (fun h => h), Mo.new h.below 3, res_copied h⟩
theorem pk_val (h : Pk HeadR M wB KB S1 S2 ms1 v w) : ∃ A c, v = .slice A ms1.length c := by
  obtain ⟨K, _, _, _, h⟩ := h
  obtain ⟨A, c, e, _, _⟩ := h.rl
  exact ⟨A, c, e⟩
theorem pk_mo (h : Pk HeadR M wB KB S1 S2 ms1 v w) : ∃ K, Mo KB K (fun x => x ≠ 0) wB w := by
  obtain ⟨K, _, _, h, _⟩ := h
  exact ⟨K, h⟩
theorem pk_below (P : Hed HeadR) (h : Pk HeadR M wB KB S1 S2 ms1 v w) (hb : Below w.heap.size w w') : Pk HeadR M wB KB S1 S2 ms1 v w' := by
  obtain ⟨K, h1, h2, h3, h4⟩ := h
  have hm : Mo K K (fun _ => False) w w' := Mo.same hb
  exact ⟨K, hinv_mo P h1 hm (fun h => h), rinv_mo h2 hm (fun h => h) (fun h => h), h3.trans (Mo.same hb), h4.mo hm (fun h => h)⟩
theorem pk_hadd (P : Hed HeadR) (h : Pk HeadR M wB KB S S2 ms1 (.slice A1 ms1.length c1) w) (hz : totalR ms1 ≤ 2097152) :
    Calls Tryz.prog 11 #[hv M, .slice A1 ms1.length c1] w fun e w' => e = .returned (.int .i64 (err M S (recsOf ms1) : Int)) ∧ Pk HeadR M wB KB (nxt M S (recsOf ms1)) S2 ms1 (.slice A1 ms1.length c1) w' := by
  obtain ⟨K, h1, h2, h3, h4⟩ := h
  obtain ⟨A, c, e, hl, hi⟩ := h4.rl
  cases e
  refine (hadd P h1 hl (hi.widen (by rintro q rfl; decide)) hz).mono ?_
  rintro e w' ⟨rfl, K', g1, g2⟩
  exact ⟨rfl, K', g1, rinv_mo h2 g2 (by decide) (by decide), h3.trans (g2.widen (S' := fun x => x ≠ 0) (fun x h => by intro h0; cases h.symm.trans h0)), h4.mo g2 (by decide)⟩
theorem pk_radd (P : Hed HeadR) (hl : Rl wB A ms.length c ms) (hi : Lies KB (fun x => x = 0) A ms) (hn : ms.length ≤ 1099511627776) (h : Pk HeadR M wB KB S1 S ms1 v w) :
    Calls Tryz.prog 12 #[rv M, .slice A ms.length c] w fun e w' => e = .returned (.int .i64 (err M S (recsOf ms) : Int)) ∧ Pk HeadR M wB KB S1 (nxt M S (recsOf ms)) ms1 v w' := by
  obtain ⟨K, h1, h2, h3, h4⟩ := h
  obtain ⟨hl', hi'⟩ := rl_mo hl hi h3 (by rintro q rfl; simp)
  refine (radd h2 hl' hi' hn).mono ?_
  rintro e w' ⟨rfl, K', g1, g2⟩
  exact ⟨rfl, K', hinv_mo P h1 g2 (by decide), g1, h3.trans (g2.widen (S' := fun x => x ≠ 0) (fun x h => by intro h0; cases h.symm.trans h0)), h4.mo g2 (by decide)⟩
theorem pk_same (P : Hed HeadR) (he : recsOf ms1 = recsOf ms) (hl : Rl wB A ms.length c ms) (hi : Lies KB (fun x => x = 0) A ms) (h : Pk HeadR M wB KB S1 S2 ms1 (.slice A1 ms1.length c1) w) :
    Calls Tryz.prog 13 #[.slice A1 ms1.length c1, .slice A ms.length c] w fun e w' => e = .returned (.bool true) ∧ Pk HeadR M wB KB S1 S2 ms1 (.slice A1 ms1.length c1) w' := by
  have h0 := h
  obtain ⟨K, h1, h2, h3, h4⟩ := h
  obtain ⟨hl', hi'⟩ := rl_mo hl hi h3 (by rintro q rfl; simp)
  obtain ⟨A', c', e, hl1, _⟩ := h4.rl
  cases e
  refine (rsamea_any w ms1 ms A1 A ms1.length ms.length c1 c hl1 hl').mono ?_
  rintro e w' ⟨rfl, hb⟩
  rw [he, eqA_self]
  exact ⟨rfl, pk_below P h0 hb⟩
theorem pk_spoil (P : Hed HeadR) (hz : totalR ms1 ≤ 1048576) (h : Pk HeadR M wB KB S1 S2 ms1 v w) :
    Calls Tryz.prog 14 #[v] w fun e w' => e = .returned (.tuple #[]) ∧ Pk HeadR M wB KB S1 S2 [] (.slice .none 0 0) w' := by
  obtain ⟨K, h1, h2, h3, h4⟩ := h
  refine (spoil_any w K 3 ms1 v h4 (fun m hm => Nat.le_trans (few_labels hz m hm) (by decide)) (by have := len_total ms1; omega)).mono ?_
  rintro e w' ⟨rfl, g⟩
  exact ⟨rfl, K, hinv_mo P h1 g (by decide), rinv_mo h2 g (by decide) (by decide), h3.trans (g.widen (S' := fun x => x ≠ 0) (fun x h => by intro h0; cases h.symm.trans h0)), res_nil K 3 w'⟩
theorem f_below (P : Hed HeadR) {fl : List UInt64} (h : F1 HeadR M wB KB S fl A c w) (hb : Below w.heap.size w w') : F1 HeadR M wB KB S fl A c w' := by
  obtain ⟨K, h1, h2, h3, h4, h5, h6⟩ := h
  have hm : Mo K K (fun _ => False) w w' := Mo.same hb
  exact ⟨K, hinv_mo P h1 hm (fun h => h), rinv_mo h2 hm (fun h => h) (fun h => h), h3.trans (Mo.same hb), h4, (rd_mo hm h5 (fun _ _ _ _ h => h)).1, h6⟩
theorem f_find (P : Hed HeadR) {wx : World} {t : List UInt8} (hh : HInv HeadR M wB KB S) (hr : RInv M wB KB S) (ht : t.length ≤ maxLen) (hb : Below wB.heap.size wB wx) :
    Calls Tryz.prog 18 #[hv M, .string ⟨t.toArray⟩] wx fun e w' => ∃ A c, e = .returned (.slice A (HdSpec.find (lst M S) t).length c) ∧ F1 HeadR M wB KB S (HdSpec.find (lst M S) t) A c w' := by
  have hm0 : Mo KB KB (fun _ => False) wB wx := Mo.same hb
  refine (hfind P (hinv_mo P hh hm0 (fun h => h)) t ht).mono ?_
  rintro e w' ⟨A, c, K', rfl, h1, h2, h3, h4, h5, h6⟩
  exact ⟨A, c, rfl, K', h5, rinv_mo (rinv_mo hr hm0 (fun h => h) (fun h => h)) h6 (by decide) (by decide), Mo.trans (Mo.same hb) (h6.widen (S' := fun x => x ≠ 0) (fun x h => by intro h0; cases h.symm.trans h0)), Nat.le_trans h1 h2, h3, h4⟩
theorem f_all (P : Hed HeadR) {fl : List UInt64} (h : F1 HeadR M wB KB S fl A c w) :
    Calls Tryz.prog 16 #[rv M] w fun e w' => ∃ A2 c2 ms2, e = .returned (.slice A2 ms2.length c2) ∧ recsOf ms2 = lst M S ∧ Rl w' A2 ms2.length c2 ms2 ∧ F1 HeadR M wB KB S fl A c w' := by
  have h0 := h
  obtain ⟨K, h1, h2, h3, h4, h5, h6⟩ := h
  refine (rall h2).mono ?_
  rintro e w' ⟨A2, c2, ms2, rfl, hrec, hrl, _, hb⟩
  exact ⟨A2, c2, ms2, rfl, hrec, hrl, f_below P h0 hb⟩
theorem f_rfind (P : Hed HeadR) {fl : List UInt64} {t : List UInt8} {A2 : Option Addr} {c2 : Nat} {ms2 : List RM} (h : F1 HeadR M wB KB S fl A c w) (hl : Rl w A2 ms2.length c2 ms2) (hrec : recsOf ms2 = lst M S) (hl1 : (lst M S).length ≤ 65536) (hl2 : ∀ r ∈ lst M S, sizeR r ≤ 1048576) (ht : t.length ≤ maxLen) :
    Calls Tryz.prog 19 #[.slice A2 ms2.length c2, .string ⟨t.toArray⟩] w fun e w' => ∃ A3 c3, e = .returned (.slice A3 (HdSpec.find (lst M S) t).length c3) ∧ Rd w' w'.heap.size A3 ((HdSpec.find (lst M S) t).map B64) ∧ F1 HeadR M wB KB S fl A c w' := by
  have hn : ms2.length = (lst M S).length := by rw [← hrec]; simp [recsOf]
  refine (rfind_any w ms2 A2 ms2.length c2 t hl (fun m hm => Nat.le_trans (hl2 _ (by rw [← hrec]; exact List.mem_map_of_mem hm)) (by decide)) (by omega) ht).mono ?_
  rintro e w' ⟨v, rfl, ho, hb⟩
  rw [hrec] at ho
  obtain ⟨A3, c3, rfl, _, _, hrd, _⟩ := own_rd ho
  exact ⟨A3, c3, rfl, hrd, f_below P h hb⟩
theorem f_same (P : Hed HeadR) {fl : List UInt64} {A3 : Option Addr} {c3 : Nat} (h : F1 HeadR M wB KB S fl A c w) (hr : Rd w w.heap.size A3 (fl.map B64)) :
    Calls Tryz.prog 17 #[.slice A fl.length c, .slice A3 fl.length c3] w fun e w' => e = .returned (.bool true) ∧ F1 HeadR M wB KB S fl A c w' := by
  have h0 := h
  obtain ⟨K, h1, h2, h3, h4, h5, h6⟩ := h
  refine (Need.same_eq fl A A3 fl.length fl.length c c3 w _ _ rfl rfl h5 hr h4).mono ?_
  rintro e w' ⟨rfl, nq, rfl⟩
  exact ⟨rfl, f_below P h0 ⟨rfl, rfl, rfl, Nat.le_refl _, fun _ _ => rfl⟩⟩
end

set_option maxHeartbeats 12800000 in
set_option maxRecDepth 100000 in
theorem scripts_walk {HeadR : World → (Nat → Nat) → Nat → Nat → HSt → Prop} (P : Hed HeadR) (w : World) (l : List HOp) (A : Option Addr) (c : Nat) (h1 : l.length ≤ c) (h2 : c ≤ maxLen) (hr : Rd w w.heap.size A (flatO l)) (hok : ∀ o ∈ l, OkO w o) (hz : totalO l ≤ 1048576) (none_ : Bool) :
    Calls Tryz.prog 3 #[.slice A l.length c, .bool none_] w fun e w' => e = .returned (.bool true) ∧ Below w.heap.size w w' := by
  have HR := Lib.hid hr
  have HOK := Lib.hid hok
  have HZ := Lib.hid hz
  have HA := Lib.hid (HdAwake.awake_any P w)
  unfold maxLen at h2
  clear hr hok hz
  go_enter Tryz.func3, Tryz.ntmps3
  go_wp2_with fail
  refine HA.out.mono ?_
  rintro e w1 ⟨rfl, hb1⟩
  have HB1 := Lib.hid hb1
  have C1 := Lib.hid (P.new w1 (fun _ => 0) 1)
  clear hb1 HA
  go_wp2_with fail
  refine C1.out.mono ?_
  rintro e w2 ⟨p, K2, rfl, hr2, hm2⟩
  have HM2 := Lib.hid (hm2.widen (S' := fun x => x ≠ 0) (fun _ h => h.elim))
  have HP2 := Lib.hid hr2
  have C2 := Lib.hid (rnew_any w2 K2 2)
  clear C1 hr2 hm2
  go_wp2_with fail
  refine C2.out.mono ?_
  rintro e w3 ⟨q, K3, rfl, hr3, hm3⟩
  have HM3 := Lib.hid (HM2.out.trans (hm3.widen (S' := fun x => x ≠ 0) (fun _ h => h.elim)))
  have HP3 := Lib.hid (P.mo HP2.out hm3 (fun h => h))
  have HQ3 := Lib.hid hr3
  clear C2 hr3 hm3 HM2 HP2
  cases none_
  case' false =>
    obtain ⟨M, E5, E6, HS⟩ : ∃ M, Hid (hv M = .pointer (some ⟨p, 0, .none⟩)) ∧ Hid (rv M = .pointer (some ⟨q, 0, .none⟩)) ∧ Hid (SRel HeadR M w1 l.length (.int .i64 0) w3) := ⟨.some (p, q), Lib.hid rfl, Lib.hid rfl, Lib.hid ⟨0, K3, HdSpec.new, Nat.zero_le _, rfl, HP3, HQ3, HM3⟩⟩
  case' true =>
    obtain ⟨M, E5, E6, HS⟩ : ∃ M, Hid (hv M = .pointer .none) ∧ Hid (rv M = .pointer .none) ∧ Hid (SRel HeadR M w1 l.length (.int .i64 0) w3) := ⟨.none, Lib.hid rfl, Lib.hid rfl, Lib.hid ⟨0, K3, HdSpec.new, Nat.zero_le _, rfl, Lib.hid trivial, Lib.hid trivial, HM3⟩⟩
  all_goals
    clear HP3 HQ3 HM3
    go_wp2
    go_loopw [7] (fun vi wr => SRel HeadR M w1 l.length vi wr) (fun vi _ => l.length - (intOf vi).toNat)
    case atStart => exact HS.out
    case round =>
      clear HS
      obtain ⟨i, K, S, hi, rfl, HH, HRI, HM⟩ := hrel
      have HBW : Hid (Below w.heap.size w wr) := Lib.hid (HB1.out.trans ((HM.out.below (Nat.le_refl _) (fun i _ => by simp)).mono HB1.out.size))
      by_cases hlt : i < l.length
      · obtain ⟨b1, o1, rfl, hbb, hc⟩ := HR.out (by rw [flatO_len]; omega)
        obtain ⟨q0, q1, q2⟩ := cellsO hc hlt
        have k0 := (HBW.out.cell (p := ⟨b1, o1 + i * 3, .none⟩) hbb).trans q0
        have k1 := (HBW.out.cell (p := ⟨b1, o1 + i * 3 + 1, .none⟩) hbb).trans q1
        have k2 := (HBW.out.cell (p := ⟨b1, o1 + i * 3 + 2, .none⟩) hbb).trans q2
        obtain ⟨hrlo, hto, _⟩ := HOK.out _ (List.getElem_mem hlt)
        have hso : sizeO l[i] ≤ 1048576 := Nat.le_trans (size_op (List.getElem_mem hlt)) HZ.out
        generalize l[i] = o at *
        obtain ⟨kd, tm, ms, Ao, co⟩ := o
        unfold sizeO at hso
        simp only at k0 k1 k2 hrlo hto hso
        have hrlr := hrlo.below HBW.out
        have hlies : Lies K (fun x => x = 0) Ao ms := Lies.of_below hrlo (fun j hj => (HM.out.keep j (Nat.lt_of_lt_of_le hj HB1.out.size) (by simp)).2)
        have hmB : Mo K (kmark K wr.heap.size 0) (fun _ => False) wr (wr.alloc (.cells #[.int .i64 kd, .string ⟨tm.toArray⟩, .slice Ao ms.length co] 30)) := Mo.new ((Below.refl _ wr).alloc (Nat.le_refl _) _) 0
        obtain ⟨hrlB, hliB⟩ := rl_mo hrlr hlies hmB (fun _ _ h => h)
        have HRLB := Lib.hid hrlB
        have HLIB := Lib.hid hliB
        have HHB := Lib.hid (hinv_mo P HH.out hmB (fun h => h))
        have HRB := Lib.hid (rinv_mo HRI.out hmB (fun h => h) (fun h => h))
        have HMB := Lib.hid (HM.out.trans (hmB.widen (S' := fun x => x ≠ 0) (fun _ h => h.elim)))
        have hbox := heap_alloc_new wr (.cells #[.int .i64 kd, .string ⟨tm.toArray⟩, .slice Ao ms.length co] 30)
        have hKB : kmark K wr.heap.size 0 wr.heap.size = 0 := kmark_new (Nat.le_refl _)
        have hszB : wr.heap.size < (wr.alloc (.cells #[.int .i64 kd, .string ⟨tm.toArray⟩, .slice Ao ms.length co] 30)).heap.size := by simp
        have g0 := HdRef.cell_of_heap (j := 0) hbox rfl
        have g1 := HdRef.cell_of_heap (j := 1) hbox rfl
        have g2 := HdRef.cell_of_heap (j := 2) hbox rfl
        generalize hKBe : kmark K wr.heap.size 0 = KB at *
        generalize hwB : wr.alloc (.cells #[.int .i64 kd, .string ⟨tm.toArray⟩, .slice Ao ms.length co] 30) = wB at *
        have HBOX : Hid (∀ K' w' (T : Nat → Prop), Mo KB K' T wB w' → ¬ T 0 → w'.cell? ⟨wr.heap.size, 1, .none⟩ = some (.string ⟨tm.toArray⟩) ∧ w'.cell? ⟨wr.heap.size, 2, .none⟩ = some (.slice Ao ms.length co) ∧ Rl w' Ao ms.length co ms ∧ Lies K' (fun x => x = 0) Ao ms) := Lib.hid (fun K' w' T hm hT => by
          have h1 := (hm.keep _ hszB (by rw [hKB]; exact hT)).1.trans hbox
          obtain ⟨h3, h4⟩ := rl_mo HRLB.out HLIB.out hm (by rintro q rfl; exact hT)
          exact ⟨HdRef.cell_of_heap (j := 1) h1 rfl, HdRef.cell_of_heap (j := 2) h1 rfl, h3, h4⟩)
        have HWB := Lib.hid hwB
        have hml : ms.length ≤ 1048576 := Nat.le_trans (len_total ms) (by omega)
        clear hc q0 q1 q2 hrlo hrlr hlies hmB hrlB hliB hbox hKB hszB hKBe HH HRI HM HBW
        subst hwB
        by_cases hk1 : kd = 1
        · subst hk1
          have htot : totalR ms ≤ 1048576 := by omega
          have hlb := few_labels (n := 1048576) htot
          have C1 := Lib.hid (copied_any _ ms Ao ms.length co HRLB.out (by omega) (fun m hm => Nat.le_trans (hlb m hm) (by decide)))
          have HTOT := Lib.hid htot
          clear hlb htot
          go_wp2_with fail
          refine C1.out.mono ?_
          rintro e u1 ⟨v1, ms1, rfl, hrec1, har1⟩
          have HP0 := Lib.hid (pk_copied P HHB.out HRB.out har1)
          obtain ⟨A1, c1, rfl⟩ := pk_val HP0.out
          have ht1 : totalR ms1 = totalR ms := total_recs hrec1
          have HT1 : Hid (totalR ms1 ≤ 1048576) := Lib.hid (by rw [ht1]; exact HTOT.out)
          have ca := fun wx (hb : Below u1.heap.size u1 wx) => pk_hadd P (pk_below P HP0.out hb) (Nat.le_trans HT1.out (by decide))
          rw [E5.out, hrec1] at ca
          have cb := fun S1 w' h => pk_radd (HeadR := HeadR) (M := M) (S1 := S1) (S := S) (ms1 := ms1) (v := .slice A1 ms1.length c1) (w := w') P HRLB.out HLIB.out (show ms.length ≤ 1099511627776 by omega) h
          rw [E6.out] at cb
          have CC := Lib.hid (fun S1 S2 w' h => pk_same (HeadR := HeadR) (M := M) (S1 := S1) (S2 := S2) (ms1 := ms1) (A1 := A1) (c1 := c1) (w := w') P hrec1 HRLB.out HLIB.out h)
          have CD := Lib.hid (fun S1 S2 w' h => pk_spoil (HeadR := HeadR) (M := M) (wB := wr.alloc (.cells #[.int .i64 1, .string ⟨tm.toArray⟩, .slice Ao ms.length co] 30)) (KB := KB) (S1 := S1) (S2 := S2) (ms1 := ms1) (v := .slice A1 ms1.length c1) (w := w') P HT1.out h)
          have CE := Lib.hid (fun S1 S2 w' h => pk_mo (HeadR := HeadR) (M := M) (wB := wr.alloc (.cells #[.int .i64 1, .string ⟨tm.toArray⟩, .slice Ao ms.length co] 30)) (KB := KB) (S1 := S1) (S2 := S2) (ms1 := ms1) (v := .slice A1 ms1.length c1) (w := w') h)
          generalize err M S (recsOf ms) = en at ca cb
          generalize nxt M S (recsOf ms) = SN at ca cb
          have CA := Lib.hid ca
          have CB := Lib.hid cb
          have hne : ((en : Int) != (en : Int)) = false := by simp
          obtain ⟨k1', hm1'⟩ := CE.out _ _ _ HP0.out
          obtain ⟨_, d1, _, _⟩ := HBOX.out k1' u1 _ hm1' (by simp)
          clear ca cb hm1' har1 C1 HTOT ht1
          go_wp2_with fail
          go_region_held3 (fun w' => w'.cell? ⟨wr.heap.size, 2, .none⟩ = some (.slice Ao ms.length co)) (first | go_keep | assumption) (first
            | (go_at_call 11; refine (CA.out _ (drew_same _)).mono ?_; rintro e w5 ⟨rfl, hp5⟩; obtain ⟨k5, hm5⟩ := CE.out _ _ _ hp5; obtain ⟨_, b5, _, _⟩ := HBOX.out k5 w5 _ hm5 (by simp))
            | (go_at_call 12; refine (CB.out _ _ hp5).mono ?_; rintro e w6 ⟨rfl, hp6⟩; obtain ⟨k6, hm6⟩ := CE.out _ _ _ hp6; obtain ⟨_, b6, _, _⟩ := HBOX.out k6 w6 _ hm6 (by simp))
            | (go_at_call 13; refine (CC.out _ _ _ hp6).mono ?_; rintro e u3 ⟨rfl, hp7⟩; obtain ⟨k7, hm7⟩ := CE.out _ _ _ hp7; obtain ⟨_, b7, _, _⟩ := HBOX.out k7 u3 _ hm7 (by simp)))
          all_goals
            have CSP := Lib.hid (CD.out _ _ _ hp7)
            clear hm5 hp5 hm6 hp6 hm7 hp7 CA CB CC d1 b5 b6 b7
            go_wp2_with fail
            refine CSP.out.mono ?_
            rintro e u4 ⟨rfl, K4, hh4, hr4, hm4, _⟩
            have HH4 := Lib.hid hh4
            have HR4 := Lib.hid hr4
            have HM4 := Lib.hid (HMB.out.trans hm4)
            clear CSP CD CE hh4 hr4 hm4
            have cl := hlen P HH4.out
            rw [E5.out] at cl
            have CL := Lib.hid cl
            clear cl
            go_wp2_with fail
            refine CL.out.mono ?_
            rintro e u1 ⟨rfl, KL, hh1, hm1⟩
            have HHL := Lib.hid hh1
            have HRL := Lib.hid (rinv_mo HR4.out hm1 (by decide) (by decide))
            have HML := Lib.hid (HM4.out.trans (hm1.widen (S' := fun x => x ≠ 0) (fun x h => by intro h0; cases h.symm.trans h0)))
            have ca := rall HRL.out
            rw [E6.out] at ca
            have CA := Lib.hid ca
            clear ca hh1 hm1 CL
            go_wp2_with fail
            refine CA.out.mono ?_
            rintro e u2 ⟨A2, c2, ms2, rfl, hrec, _, _, hb2⟩
            have hlen2 : ms2.length = (lst M (SN)).length := by rw [← hrec]; simp [recsOf]
            have HN : Hid (SRel HeadR M w1 l.length (.int .i64 ((i : Int) + 1)) u2) := Lib.hid ⟨i + 1, KL, SN, by omega, by push_cast; rfl, Lib.hid (hinv_mo P HHL.out (Mo.same (S := fun _ => False) hb2) (fun h => h)), Lib.hid (rinv_mo HRL.out (Mo.same (S := fun _ => False) hb2) (fun h => h) (fun h => h)), Lib.hid (HML.out.trans (Mo.same hb2))⟩
            clear CA hrec hb2 HHL HRL HML
            rw [hlen2]
            clear hlen2
            go_wp2
            exact ⟨by simpa using HN.out, by simp [intOf]; omega⟩
        by_cases hk2 : kd = 2
        · subst hk2
          obtain ⟨hl1, hl2⟩ := lst_small HRB.out
          have c1 := hall P HHB.out
          rw [E5.out] at c1
          have C1 := Lib.hid c1
          clear c1
          go_wp2_with fail
          refine C1.out.mono ?_
          rintro e u1 ⟨v1, ms1, K1, rfl, hrec1, hres1, hh1, hm1⟩
          have HH1 := Lib.hid hh1
          have HR1 := Lib.hid (rinv_mo HRB.out hm1 (by decide) (by decide))
          have HM1 := Lib.hid (HMB.out.trans (hm1.widen (S' := fun x => x ≠ 0) (fun x h => by intro h0; cases h.symm.trans h0)))
          have HRES1 := Lib.hid hres1
          have HREC1 := Lib.hid hrec1
          obtain ⟨A1, c1, rfl, _, _⟩ := hres1.rl
          have c2 := rall HR1.out
          rw [E6.out] at c2
          have C2 := Lib.hid c2
          clear c2 C1 hh1 hm1 hres1
          go_wp2_with fail
          refine C2.out.mono ?_
          rintro e u2 ⟨A2, c2, ms2, rfl, hrec2, hrl2, hli2, hb2⟩
          have hm2 : Mo K1 (kmark K1 u1.heap.size 0) (fun _ => False) u1 u2 := Mo.new hb2 0
          obtain ⟨K2, hK2⟩ : ∃ K2, K2 = kmark K1 u1.heap.size 0 := ⟨_, rfl⟩
          rw [← hK2] at hm2
          clear hK2 hb2 hli2
          have HR2 := Lib.hid (rinv_mo HR1.out hm2 (fun h => h) (fun h => h))
          have hres12 := HRES1.out.mo hm2 (by decide)
          obtain ⟨A1', c1', e1, hrl1, _⟩ := hres12.rl
          cases e1
          have HRES2 := Lib.hid hres12
          have CS := Lib.hid (rsamea_any u2 ms1 ms2 A1 A2 ms1.length ms2.length c1 c2 hrl1 hrl2)
          rw [HREC1.out, hrec2, eqA_self] at CS
          have HH2 := Lib.hid (hinv_mo P HH1.out hm2 (by decide))
          have HM2 := Lib.hid (HM1.out.trans (hm2.widen (S' := fun x => x ≠ 0) (fun x h => by first | exact h.elim | (intro h0; cases h.symm.trans h0))))
          clear C2 hm2 hres12 hrl1 HRES1 HR1 HH1 HM1
          go_wp2_with fail
          refine CS.out.mono ?_
          rintro e u3 ⟨rfl, hb3⟩
          have hm3 : Mo K2 K2 (fun _ => False) u2 u3 := Mo.same hb3
          have hres3 := HRES2.out.mo hm3 (fun h => h)
          have HH3 := Lib.hid (hinv_mo P HH2.out hm3 (fun h => h))
          have HR3 := Lib.hid (rinv_mo HR2.out hm3 (fun h => h) (fun h => h))
          have HM3 := Lib.hid (HM2.out.trans (hm3.widen (S' := fun x => x ≠ 0) (fun _ h => h.elim)))
          have hsz : ∀ m ∈ ms1, m.1.labels.length ≤ 1099511627776 := fun m hm => by
            have h1 : m.1 ∈ lst M S := by rw [← hrec1]; exact List.mem_map_of_mem hm
            have h2 := hl2 _ h1
            unfold sizeR at h2
            omega
          have hln : ms1.length ≤ 1099511627776 := by
            have h1 : ms1.length = (lst M S).length := by rw [← hrec1]; simp [recsOf]
            omega
          have CSP := Lib.hid (spoil_any u3 K2 3 ms1 _ hres3 hsz hln)
          clear CS hb3 hm3 hres3 HRES2 HH2 HR2 HM2 hsz hln hrec1 hrec2 HREC1 hl1 hl2
          go_wp2_with fail
          refine CSP.out.mono ?_
          rintro e u4 ⟨rfl, hm4⟩
          have HH4 := Lib.hid (hinv_mo P HH3.out hm4 (by decide))
          have HR4 := Lib.hid (rinv_mo HR3.out hm4 (by decide) (by decide))
          have HM4 := Lib.hid (HM3.out.trans (hm4.widen (S' := fun x => x ≠ 0) (fun x h => by intro h0; cases h.symm.trans h0)))
          clear CSP hm4 HH3 HR3 HM3

          have cl := hlen P HH4.out
          rw [E5.out] at cl
          have CL := Lib.hid cl
          clear cl
          go_wp2_with fail
          refine CL.out.mono ?_
          rintro e u1 ⟨rfl, KL, hh1, hm1⟩
          have HHL := Lib.hid hh1
          have HRL := Lib.hid (rinv_mo HR4.out hm1 (by decide) (by decide))
          have HML := Lib.hid (HM4.out.trans (hm1.widen (S' := fun x => x ≠ 0) (fun x h => by intro h0; cases h.symm.trans h0)))
          have ca := rall HRL.out
          rw [E6.out] at ca
          have CA := Lib.hid ca
          clear ca hh1 hm1 CL
          go_wp2_with fail
          refine CA.out.mono ?_
          rintro e u2 ⟨A2, c2, ms2, rfl, hrec, _, _, hb2⟩
          have hlen2 : ms2.length = (lst M (S)).length := by rw [← hrec]; simp [recsOf]
          have HN : Hid (SRel HeadR M w1 l.length (.int .i64 ((i : Int) + 1)) u2) := Lib.hid ⟨i + 1, KL, S, by omega, by push_cast; rfl, Lib.hid (hinv_mo P HHL.out (Mo.same (S := fun _ => False) hb2) (fun h => h)), Lib.hid (rinv_mo HRL.out (Mo.same (S := fun _ => False) hb2) (fun h => h) (fun h => h)), Lib.hid (HML.out.trans (Mo.same hb2))⟩
          clear CA hrec hb2 HHL HRL HML
          rw [hlen2]
          clear hlen2
          go_wp2
          exact ⟨by simpa using HN.out, by simp [intOf]; omega⟩
        by_cases hk3 : kd = 3
        · subst hk3
          obtain ⟨hl1, hl2⟩ := lst_small HRB.out
          have cf := fun wx hb => f_find P (wx := wx) (t := tm) HHB.out HRB.out hto hb
          rw [E5.out] at cf
          have CF := Lib.hid cf
          have ca := fun A c w' h => f_all (HeadR := HeadR) (M := M) (wB := wr.alloc (.cells #[.int .i64 3, .string ⟨tm.toArray⟩, .slice Ao ms.length co] 30)) (KB := KB) (S := S) (fl := HdSpec.find (lst M S) tm) (A := A) (c := c) (w := w') P h
          rw [E6.out] at ca
          have CAL := Lib.hid ca
          have CRF := Lib.hid (fun A c A2 c2 ms2 w' h hl hrec => f_rfind (HeadR := HeadR) (M := M) (wB := wr.alloc (.cells #[.int .i64 3, .string ⟨tm.toArray⟩, .slice Ao ms.length co] 30)) (KB := KB) (S := S) (fl := HdSpec.find (lst M S) tm) (t := tm) (A := A) (c := c) (A2 := A2) (c2 := c2) (ms2 := ms2) (w := w') P h hl hrec hl1 hl2 hto)
          have CSM := Lib.hid (fun A c A3 c3 w' h hr => f_same (HeadR := HeadR) (M := M) (wB := wr.alloc (.cells #[.int .i64 3, .string ⟨tm.toArray⟩, .slice Ao ms.length co] 30)) (KB := KB) (S := S) (fl := HdSpec.find (lst M S) tm) (A := A) (c := c) (A3 := A3) (c3 := c3) (w := w') P h hr)
          have CE : Hid (∀ A c w', F1 HeadR M (wr.alloc (.cells #[.int .i64 3, .string ⟨tm.toArray⟩, .slice Ao ms.length co] 30)) KB S (HdSpec.find (lst M S) tm) A c w' → w'.cell? ⟨wr.heap.size, 1, .none⟩ = some (.string ⟨tm.toArray⟩)) := Lib.hid (fun A c w' h => by
            obtain ⟨K, _, _, hm, _⟩ := h
            exact (HBOX.out K w' _ hm (by simp)).1)
          clear cf ca hl1 hl2
          go_wp2_with fail
          go_region_held3 (fun w' => w'.cell? ⟨wr.heap.size, 1, .none⟩ = some (.string ⟨tm.toArray⟩)) (first | go_keep | assumption) (first
            | (go_at_call 18; refine (CF.out _ (drew_same _)).mono ?_; rintro e w5 ⟨A5, c5, rfl, hp5⟩; have b5 := CE.out _ _ _ hp5)
            | (go_at_call 16; refine (CAL.out _ _ _ hp5).mono ?_; rintro e w6 ⟨A6, c6, ms6, rfl, hrec6, hrl6, hp6⟩; have b6 := CE.out _ _ _ hp6)
            | (go_at_call 19; refine (CRF.out _ _ _ _ _ _ hp6 hrl6 hrec6).mono ?_; rintro e w7 ⟨A7, c7, rfl, hrd7, hp7⟩; have b7 := CE.out _ _ _ hp7)
            | (go_at_call 17; refine (CSM.out _ _ _ _ _ hp7 hrd7).mono ?_; rintro e w8 ⟨rfl, hp8⟩; have b8 := CE.out _ _ _ hp8))
          all_goals
            obtain ⟨K8, hh8, hr8, hm8, _⟩ := hp8
            have HH8 := Lib.hid hh8
            have HR8 := Lib.hid hr8
            have HM8 := Lib.hid (HMB.out.trans hm8)
            clear CF CAL CRF CSM CE hp5 hp6 hp7 hrl6 hrec6 hrd7 b5 b6 b7 b8 hh8 hr8 hm8
            have cl := hlen P HH8.out
            rw [E5.out] at cl
            have CL := Lib.hid cl
            clear cl
            go_wp2_with fail
            refine CL.out.mono ?_
            rintro e u1 ⟨rfl, KL, hh1, hm1⟩
            have HHL := Lib.hid hh1
            have HRL := Lib.hid (rinv_mo HR8.out hm1 (by decide) (by decide))
            have HML := Lib.hid (HM8.out.trans (hm1.widen (S' := fun x => x ≠ 0) (fun x h => by intro h0; cases h.symm.trans h0)))
            have ca := rall HRL.out
            rw [E6.out] at ca
            have CA := Lib.hid ca
            clear ca hh1 hm1 CL
            go_wp2_with fail
            refine CA.out.mono ?_
            rintro e u2 ⟨A2, c2, ms2, rfl, hrec, _, _, hb2⟩
            have hlen2 : ms2.length = (lst M (S)).length := by rw [← hrec]; simp [recsOf]
            have HN : Hid (SRel HeadR M w1 l.length (.int .i64 ((i : Int) + 1)) u2) := Lib.hid ⟨i + 1, KL, S, by omega, by push_cast; rfl, Lib.hid (hinv_mo P HHL.out (Mo.same (S := fun _ => False) hb2) (fun h => h)), Lib.hid (rinv_mo HRL.out (Mo.same (S := fun _ => False) hb2) (fun h => h) (fun h => h)), Lib.hid (HML.out.trans (Mo.same hb2))⟩
            clear CA hrec hb2 HHL HRL HML
            rw [hlen2]
            clear hlen2
            go_wp2
            exact ⟨by simpa using HN.out, by simp [intOf]; omega⟩
        by_cases hk4 : kd = 4
        · subst hk4
          obtain ⟨hl1, hl2⟩ := lst_small HRB.out
          have c1 := htake P HHB.out
          rw [E5.out] at c1
          have C1 := Lib.hid c1
          clear c1
          go_wp2_with fail
          refine C1.out.mono ?_
          rintro e u1 ⟨v1, ms1, K1, rfl, hrec1, hres1, hh1, hm1⟩
          have HH1 := Lib.hid hh1
          have HR1 := Lib.hid (rinv_mo HRB.out hm1 (by decide) (by decide))
          have HM1 := Lib.hid (HMB.out.trans (hm1.widen (S' := fun x => x ≠ 0) (fun x h => by intro h0; cases h.symm.trans h0)))
          have HRES1 := Lib.hid hres1
          have HREC1 := Lib.hid hrec1
          obtain ⟨A1, c1, rfl, _, _⟩ := hres1.rl
          have c2 := rtake HR1.out
          rw [E6.out] at c2
          have C2 := Lib.hid c2
          clear c2 C1 hh1 hm1 hres1
          go_wp2_with fail
          refine C2.out.mono ?_
          rintro e u2 ⟨A2, c2, ms2, rfl, K2, hrec2, hrl2, hli2, hr2, hm2⟩
          have HR2 := Lib.hid hr2
          clear hr2 hli2
          have hres12 := HRES1.out.mo hm2 (by decide)
          obtain ⟨A1', c1', e1, hrl1, _⟩ := hres12.rl
          cases e1
          have HRES2 := Lib.hid hres12
          have CS := Lib.hid (rsamea_any u2 ms1 ms2 A1 A2 ms1.length ms2.length c1 c2 hrl1 hrl2)
          rw [HREC1.out, hrec2, eqA_self] at CS
          have HH2 := Lib.hid (hinv_mo P HH1.out hm2 (by decide))
          have HM2 := Lib.hid (HM1.out.trans (hm2.widen (S' := fun x => x ≠ 0) (fun x h => by first | exact h.elim | (intro h0; cases h.symm.trans h0))))
          clear C2 hm2 hres12 hrl1 HRES1 HR1 HH1 HM1
          go_wp2_with fail
          refine CS.out.mono ?_
          rintro e u3 ⟨rfl, hb3⟩
          have hm3 : Mo K2 K2 (fun _ => False) u2 u3 := Mo.same hb3
          have hres3 := HRES2.out.mo hm3 (fun h => h)
          have HH3 := Lib.hid (hinv_mo P HH2.out hm3 (fun h => h))
          have HR3 := Lib.hid (rinv_mo HR2.out hm3 (fun h => h) (fun h => h))
          have HM3 := Lib.hid (HM2.out.trans (hm3.widen (S' := fun x => x ≠ 0) (fun _ h => h.elim)))
          have hsz : ∀ m ∈ ms1, m.1.labels.length ≤ 1099511627776 := fun m hm => by
            have h1 : m.1 ∈ lst M S := by rw [← hrec1]; exact List.mem_map_of_mem hm
            have h2 := hl2 _ h1
            unfold sizeR at h2
            omega
          have hln : ms1.length ≤ 1099511627776 := by
            have h1 : ms1.length = (lst M S).length := by rw [← hrec1]; simp [recsOf]
            omega
          have CSP := Lib.hid (spoil_any u3 K2 3 ms1 _ hres3 hsz hln)
          clear CS hb3 hm3 hres3 HRES2 HH2 HR2 HM2 hsz hln hrec1 hrec2 HREC1 hl1 hl2
          go_wp2_with fail
          refine CSP.out.mono ?_
          rintro e u4 ⟨rfl, hm4⟩
          have HH4 := Lib.hid (hinv_mo P HH3.out hm4 (by decide))
          have HR4 := Lib.hid (rinv_mo HR3.out hm4 (by decide) (by decide))
          have HM4 := Lib.hid (HM3.out.trans (hm4.widen (S' := fun x => x ≠ 0) (fun x h => by intro h0; cases h.symm.trans h0)))
          clear CSP hm4 HH3 HR3 HM3

          have cl := hlen P HH4.out
          rw [E5.out] at cl
          have CL := Lib.hid cl
          clear cl
          go_wp2_with fail
          refine CL.out.mono ?_
          rintro e u1 ⟨rfl, KL, hh1, hm1⟩
          have HHL := Lib.hid hh1
          have HRL := Lib.hid (rinv_mo HR4.out hm1 (by decide) (by decide))
          have HML := Lib.hid (HM4.out.trans (hm1.widen (S' := fun x => x ≠ 0) (fun x h => by intro h0; cases h.symm.trans h0)))
          have ca := rall HRL.out
          rw [E6.out] at ca
          have CA := Lib.hid ca
          clear ca hh1 hm1 CL
          go_wp2_with fail
          refine CA.out.mono ?_
          rintro e u2 ⟨A2, c2, ms2, rfl, hrec, _, _, hb2⟩
          have hlen2 : ms2.length = (lst M (tkn M S)).length := by rw [← hrec]; simp [recsOf]
          have HN : Hid (SRel HeadR M w1 l.length (.int .i64 ((i : Int) + 1)) u2) := Lib.hid ⟨i + 1, KL, tkn M S, by omega, by push_cast; rfl, Lib.hid (hinv_mo P HHL.out (Mo.same (S := fun _ => False) hb2) (fun h => h)), Lib.hid (rinv_mo HRL.out (Mo.same (S := fun _ => False) hb2) (fun h => h) (fun h => h)), Lib.hid (HML.out.trans (Mo.same hb2))⟩
          clear CA hrec hb2 HHL HRL HML
          rw [hlen2]
          clear hlen2
          go_wp2
          exact ⟨by simpa using HN.out, by simp [intOf]; omega⟩

        have cl := hlen P HHB.out
        rw [E5.out] at cl
        have CL := Lib.hid cl
        clear cl
        go_wp2_with fail
        refine CL.out.mono ?_
        rintro e u1 ⟨rfl, KL, hh1, hm1⟩
        have HHL := Lib.hid hh1
        have HRL := Lib.hid (rinv_mo HRB.out hm1 (by decide) (by decide))
        have HML := Lib.hid (HMB.out.trans (hm1.widen (S' := fun x => x ≠ 0) (fun x h => by intro h0; cases h.symm.trans h0)))
        have ca := rall HRL.out
        rw [E6.out] at ca
        have CA := Lib.hid ca
        clear ca hh1 hm1 CL
        go_wp2_with fail
        refine CA.out.mono ?_
        rintro e u2 ⟨A2, c2, ms2, rfl, hrec, _, _, hb2⟩
        have hlen2 : ms2.length = (lst M (S)).length := by rw [← hrec]; simp [recsOf]
        have HN : Hid (SRel HeadR M w1 l.length (.int .i64 ((i : Int) + 1)) u2) := Lib.hid ⟨i + 1, KL, S, by omega, by push_cast; rfl, Lib.hid (hinv_mo P HHL.out (Mo.same (S := fun _ => False) hb2) (fun h => h)), Lib.hid (rinv_mo HRL.out (Mo.same (S := fun _ => False) hb2) (fun h => h) (fun h => h)), Lib.hid (HML.out.trans (Mo.same hb2))⟩
        clear CA hrec hb2 HHL HRL HML
        rw [hlen2]
        clear hlen2
        go_wp2
        exact ⟨by simpa using HN.out, by simp [intOf]; omega⟩
      · obtain rfl : i = l.length := by omega
        go_wp2
        go_ret
        exact ⟨rfl, HBW.out⟩
end Go.Proofs.YtkgmcabamhpjhaaGreat.HdScriptsW
