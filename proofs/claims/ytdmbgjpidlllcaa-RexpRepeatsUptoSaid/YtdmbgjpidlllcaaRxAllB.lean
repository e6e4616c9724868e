/- The contract of the document's class. Conditions: the parser lies in memory and may go on. · The contract of the document's alt at every text: its contracts at shorter texts, rune by rune. Conditions: the parser lies in memory and may go on. -/
import Derived.Test.YtdmbgjpidlllcaaRxClassP
namespace Go.Proofs.Ytdmbgjpidlllcaa.RxClass
open Go Go.RowKit Words AppN Km Mo_ RxSpec RxEq RxMem RxPeek RxIn RxEsc RxMbr RxClean RxNode RxPost RxRowP RxRow RxAlt RxItemP RxItem RxAtom RxClassP

structure Cf (w0 w : World) (K0 K : Nat → Nat) (o p : Nat) (S : Sl) (rs : List Nat) (q : PSt) (ms : List NM) (v vs : Value) (zs : List Int) : Prop where
  rp : RP w K o p S rs q ms v
  own : w.ownsRow w0.heap.size 21 1 vs zs.length (zs.map I32)
  kind : ∀ b, vs.ownBlock = some b → K b = o + 1
  mo : Mo K0 K (fun x => x = o) w0 w
section
variable {w0 w w' : World} {K0 K K' : Nat → Nat} {o p : Nat} {S : Sl} {rs : List Nat} {q q' : PSt} {ms ms' : List NM} {v v' vs : Value} {zs xs : List Int}
theorem Cf.start (h : RP w K o p S rs q ms v) (hm : Mo K0 K (fun x => x = o) w0 w) : Cf w0 w K0 K o p S rs q ms v (.slice none 0 0) [] := ⟨h, World.ownsRow_nil _ _ _ _, (fun _ h => by cases h), hm⟩
theorem Cf.call (h : Cf w0 w K0 K o p S rs q ms v vs zs) (hr : RP w' K' o p S rs q' ms' v') (hm : Mo K K' (fun x => x = o) w w') : Cf w0 w' K0 K' o p S rs q' ms' v' vs zs := by
  obtain ⟨h1, h2⟩ := own_mo (m := o + 1) h.own h.kind hm (by omega)
  exact ⟨hr, h1, h2, h.mo.trans hm⟩
theorem Cf.below (h : Cf w0 w K0 K o p S rs q ms v vs zs) (hb : Below w.heap.size w w') : Cf w0 w' K0 K o p S rs q ms v vs zs := h.call (h.rp.below hb) (Mo.same hb)
theorem Cf.app (h : Cf w0 w K0 K o p S rs q ms v vs zs) {n : Nat} {v2 : Value} (hn : xs.length = n) (hown : w'.ownsRow w0.heap.size 21 1 v2 (zs.length + n) (zs.map I32 ++ xs.map I32)) (hg : w.grownBy w' vs.ownBlock) (hat : v2.ownBlock = vs.ownBlock ∨ v2.ownBlock = some w.heap.size) :
    Cf w0 w' K0 (kmark K w.heap.size (o + 1)) o p S rs q ms v v2 (zs ++ xs) := by
  have hmo : Mo K (kmark K w.heap.size (o + 1)) (fun y => y = o + 1) w w' := ⟨hg.os, hg.tape, hg.output, hg.size, fun i hi hk => ⟨hg.block i hi (fun e => hk (h.kind i e.symm)), kmark_old hi⟩⟩
  refine ⟨h.rp.moT hmo fun _ h => h, by rw [List.length_append, List.map_append, hn]; exact hown, fun b hb => ?_, ⟨hmo.os.trans h.mo.os, hmo.tape.trans h.mo.tape, hmo.output.trans h.mo.output, Nat.le_trans h.mo.size hg.size, fun i hi hk => ?_⟩⟩
  · rcases hat with e | e
    · rw [e] at hb
      rw [kmark_old (h.own.lt b hb).2]
      exact h.kind b hb
    · rw [e] at hb
      injection hb with hb
      exact kmark_new (by omega)
  · have hi2 : i < w.heap.size := Nat.lt_of_lt_of_le hi h.mo.size
    obtain ⟨a1, a2⟩ := h.mo.keep i hi hk
    exact ⟨(hg.block i hi2 (fun e => by have := (h.own.lt i e.symm).1; omega)).trans a1, (kmark_old hi2).trans a2⟩
end
theorem i32_ones (l : List Int) : ∀ u ∈ l.map I32, u.oneCell' = true := fun u hu => by obtain ⟨c, _, rfl⟩ := List.mem_map.1 hu; rfl
theorem ClSt.len {rs : List Nat} {a0 : Nat} {q q' : PSt} {zs : List Int} {first : Bool} (h : ClSt rs a0 q q' zs first) (hl : rs.length ≤ 1000) : zs.length ≤ 8016 ∧ q'.at_ ≤ rs.length + 2 := by
  rcases h with ⟨set, h⟩ | ⟨_, h⟩
  · have h1 := h.len; have h2 := h.here
    have : zs.length = set.length := by rw [h.vals]; simp [casts]
    omega
  · have h1 := h.len; have h2 := h.here; omega
theorem own_rd {w : World} {base : Nat} {A : Option Addr} {n c : Nat} {e : TypeId} {xs : List Value} (h : w.ownsRow base e 1 (.slice A n c) n xs) : Rd w w.heap.size A xs ∧ n ≤ c ∧ c ≤ maxLen := by
  rcases h.2 with ⟨e1, h2⟩ | ⟨g, cap, cur, e1, hb, hg, h1, h2, h3, h4⟩
  · injection e1 with e1 e2 e3
    subst e1 e2 e3
    have : xs = [] := List.eq_nil_of_length_eq_zero (by have := h.1; omega)
    subst this
    exact ⟨Rd.nil_, Nat.le_refl _, Nat.zero_le _⟩
  · injection e1 with e1 e2 e3
    subst e1 e3
    refine ⟨fun _ => ⟨g, 0, rfl, (Array.getElem?_eq_some_iff.1 hg).1, fun j u hu => ?_⟩, h1, h2⟩
    have := h.cells (g := g) rfl j u hu
    rwa [add_off] at this
theorem own_sd {w w' : World} {K : Nat → Nat} {o : Nat} {A : Option Addr} {n c : Nat} {e : TypeId} {xs : List Value} (h : w'.ownsRow w.heap.size e 1 (.slice A n c) n xs) (hn : xs.length = n) : Sd w' (kmark K w.heap.size (o + 2)) o (A, n, c) xs := by
  obtain ⟨h1, h2, h3⟩ := own_rd h
  refine ⟨hn.symm, h2, h3, h1, fun b off e hx => ?_⟩
  simp only at e
  subst e
  rcases h.2 with ⟨e1, _⟩ | ⟨g, cap, cur, e1, hb, _⟩
  · injection e1 with e1; cases e1
  · injection e1 with e1
    injection e1 with e1
    injection e1 with e1 _
    subst e1
    rw [kmark_new hb]
    exact ⟨by omega, by omega⟩
def okHead (first : Bool) (rest : List Nat) : Prop := ¬ (first = false ∧ hd rest 93 = true)
def CRel (W : World) (K : Nat → Nat) (o p : Nat) (S : Sl) (rs : List Nat) (a0 : Nat) (q : PSt) (ms : List NM) (v v4 v5 : Value) (wr : World) : Prop :=
  ∃ (K' : Nat → Nat) (q' : PSt) (zs : List Int) (first : Bool), v5 = .bool first ∧ Hid (Cf W wr K K' o p S rs q' ms v v4 zs) ∧ Hid (ClSt rs a0 q q' zs first)
/-- What is answered where a fault was found. -/
theorem class_bad {w w' : World} {K K' : Nat → Nat} {o p : Nat} {S : Sl} {rs : List Nat} {q q' : PSt} {ms : List NM} {v : Value} {ans : Res} (hr : RP w' K' o p S rs q' ms v) (hm : Mo K K' (fun x => x = o) w w') (hd : q'.deep = q.deep) (hh : q'.at_ ≤ rs.length + 3) (hb : q'.bad = true) (ha : ans = none) : NPost w K o p S rs 0 q ms ans (.returned (.int .i64 0)) w' :=
  ⟨0, K', q', ms, v, rfl, hr, hm, ⟨hh, hd, by omega, (fun p' k' r' hx => by rw [ha] at hx; cases hx), fun _ => hb⟩⟩
theorem cls_eq (rs : List Nat) : cls rs = match classL [] true (if hd rs 94 then rs.tail else rs) with
    | none => none
    | some (set, r1) => some (.set (clean set (hd rs 94)), r1) := rfl
set_option maxHeartbeats 25600000 in
set_option maxRecDepth 100000 in
/-- Behind the first ^, if there is one. -/
theorem class_of {S : Sl} {rs : List Nat} : ClassC S rs := by
  intro w K o p q ms v hr hp
  obtain ⟨i0, hi, hz0, hz1, hz2'⟩ := info_i32
  have hlen := hp.len
  have hfew := hp.few
  have hhere := hp.here
  have HP := Lib.hid hp
  have HR := Lib.hid hr
  obtain ⟨ans, hans⟩ : ∃ ans, ((cls (rs.drop q.at_)).map fun x => ((x.1, 0, x.2) : Pat × Nat × List Nat)) = ans := ⟨_, rfl⟩
  rw [hans]
  have HANS := Lib.hid hans
  clear hr hp hans
  by_cases hnot : pkz rs q = 94
  case' pos =>
    obtain ⟨nt, hnt⟩ : ∃ nt : Bool, nt = true := ⟨_, rfl⟩
    have HNT := Lib.hid hnt
    clear hnt
    obtain ⟨_, hh94⟩ := pkz_hd (rs := rs) (q := q) (c := 94) (by omega)
    have ht94 := hd_tail hh94
    rw [List.length_tail, List.length_drop] at ht94
    have HCL : Hid (ans = match classL [] true (rs.drop (q.at_ + 1)) with
      | none => none
      | some (set, r1) => some (.set (clean set nt), 0, r1)) := Lib.hid (by
      rw [HNT.out, ← HANS.out, cls_eq, hh94, if_pos rfl, drop_tail]
      cases classL [] true (rs.drop (q.at_ + 1)) with
      | none => rfl
      | some x => rfl)
    have hq1 : q.at_ + 1 ≤ rs.length := by omega
    have HIS := is_yes HR.out (by omega) 94 hnot
    have HQ : Hid (({ q with at_ := q.at_ + 1 } : PSt) = { q with at_ := q.at_ + 1, bad := false }) := Lib.hid (by rw [← HP.out.good])
    clear hnot hh94 ht94
    go_enter Try.func49, Try.ntmps49
    go_wp2_with fail
    refine HIS.mono ?_
    rintro _ w1 ⟨rfl, hr1, hm1⟩
    obtain ⟨a0, ha0⟩ : ∃ a0, a0 = q.at_ + 1 := ⟨_, rfl⟩
    have hr1 : RP w1 K o p S rs { q with at_ := a0, bad := false } ms v := by rw [ha0, ← HQ.out]; exact hr1
    rw [← ha0] at hq1 HCL
    have hag : q.at_ ≤ a0 := by omega
  case' neg =>
    obtain ⟨nt, hnt⟩ : ∃ nt : Bool, nt = false := ⟨_, rfl⟩
    have HNT := Lib.hid hnt
    clear hnt
    have hh94 := pkz_no (rs := rs) (q := q) (c := 94) HP.out.good (by omega)
    have HCL : Hid (ans = match classL [] true (rs.drop q.at_) with
      | none => none
      | some (set, r1) => some (.set (clean set nt), 0, r1)) := Lib.hid (by
      rw [HNT.out, ← HANS.out, cls_eq, hh94, if_neg (by simp)]
      cases classL [] true (rs.drop q.at_) with
      | none => rfl
      | some x => rfl)
    have hq1 : q.at_ ≤ rs.length := hhere
    have HIS := is_no HR.out (by omega) 94 hnot
    have HQ : Hid (q = { q with at_ := q.at_, bad := false }) := Lib.hid (by rw [← HP.out.good])
    clear hnot hh94
    go_enter Try.func49, Try.ntmps49
    go_wp2_with fail
    refine HIS.mono ?_
    rintro _ w1 ⟨rfl, hb1⟩
    have hr1 := HR.out.below hb1
    have hm1 : Mo K K (fun x => x = o) w w1 := Mo.same hb1
    obtain ⟨a0, ha0⟩ : ∃ a0, a0 = q.at_ := ⟨_, rfl⟩
    have hr1 : RP w1 K o p S rs { q with at_ := a0, bad := false } ms v := by rw [ha0, ← HQ.out]; exact hr1
    rw [← ha0] at hq1 HCL
    have hag : q.at_ ≤ a0 := by omega
    clear hb1
  all_goals
    have HST : Hid (Cf w w1 K K o p S rs { q with at_ := a0, bad := false } ms v (.slice none 0 0) []) := Lib.hid (Cf.start hr1 hm1)
    have HG0 : Hid (ClG rs a0 q { q with at_ := a0, bad := false } [] [] true) := Lib.hid ⟨rfl, hq1, rfl, rfl, rfl, (fun x hx => by cases hx), rfl, Nat.le_refl _, Nat.zero_le _⟩
    clear HIS HR HQ hr1 hm1 ha0
    go_wp2
    go_loopw [4, 5] (fun v4 v5 wr => CRel w K o p S rs a0 q ms v v4 v5 wr) (fun v _ _ => 9000 - lenOf v)
    case atStart => exact ⟨K, _, [], true, rfl, HST, Lib.hid (.inl ⟨[], HG0.out⟩)⟩
    case round =>
      clear HST HG0
      obtain ⟨K', q', zs, first, rfl, HF, HS⟩ := hrel
      obtain ⟨A4, c4, rfl⟩ := own_sl HF.out.own
      obtain ⟨hzl, hat'⟩ := ClSt.len HS.out hlen
      rcases HS.out with ⟨set, hG⟩ | ⟨rfl, hB⟩
      case inr =>
        have hbad := hB.bad
        have hd' := hB.deep
        have HIS := is_no HF.out.rp (by omega) 93 (by rw [pkz_bad hbad]; decide)
        have HNONE : Hid (ans = none) := Lib.hid (by rw [HCL.out, hB.none_])
        clear hB HS
        go_wp2_with fail
        refine HIS.mono ?_
        rintro _ w3 ⟨rfl, hb3⟩
        have HFC := Lib.hid (HF.out.below hb3)
        clear hb3 HIS HF
        obtain ⟨c0, c1, c2, c3, c4', c5⟩ := HFC.out.rp.cells
        rw [hbad] at c5
        have f5 := HFC.out.rp.frozen 5
        have H9 := Lib.hid (HFC.out.rp.poke 5 (.bool true) { q' with bad := true } (by unfold pcells; simp))
        have HRES := Lib.hid (class_bad (q := q) (ans := ans) H9.out (HFC.out.mo.trans (HFC.out.rp.pokeMo 5 (.bool true))) hd' (by simp only; omega) rfl HNONE.out)
        clear H9 HFC
        go_wp2
        go_ret
        exact HRES.out
      have HG := Lib.hid hG
      clear hG
      by_cases hc : first = false ∧ hd (rs.drop q'.at_) 93 = true
      case pos =>
        obtain ⟨rfl, h93⟩ := hc
        have hp93 : pkz rs q' = 93 := by
          cases hd0 : rs.drop q'.at_ with
          | nil => rw [hd0] at h93; cases h93
          | cons r t =>
            obtain ⟨e, _, _⟩ := pkz_cons HG.out.good hd0
            rw [hd0, hd_cons] at h93
            rw [e]; simp at h93; omega
        have hsame := HG.out.same
        rw [classL_eq set false (rs.drop q'.at_), if_pos (by rw [h93]; rfl)] at hsame
        have HAN : Hid (ans = some (.set (clean set nt), 0, rs.drop (q'.at_ + 1))) := Lib.hid (by rw [HCL.out, hsame]; simp only; rw [drop_tail])
        have ht := hd_tail h93
        rw [List.length_tail, List.length_drop] at ht
        have hon := HG.out.on
        have hgd := HG.out.good
        have hdp := HG.out.deep
        have hmt := HG.out.most
        have hv := HG.out.vals
        have HSM : Hid (∀ x ∈ set, x ≤ 1114111) := Lib.hid HG.out.small
        subst hv
        have hcl : (casts set).length = set.length := by simp [casts]
        have HIS := is_yes HF.out.rp (by omega) 93 hp93
        have hsl : set.length ≤ 100000 := by omega
        have HCI : Hid (∀ l : List Nat, (casts l).map I32 = l.map R32) := Lib.hid fun l => (r32_i32 l).symm
        rw [hcl] at HF ⊢
        clear h93 hp93 hsame hcl HS HG
        go_wp2_with fail
        refine HIS.mono ?_
        rintro _ w2 ⟨rfl, hr2, hm2⟩
        have hF2 := HF.out.call hr2 hm2
        have ho2 := hF2.own
        rw [show (casts set).length = set.length by simp [casts], HCI.out] at ho2
        obtain ⟨hrd2, hle2, hcm2⟩ := own_rd ho2
        have HCA := clean_any w2 A4 c4 set nt hrd2 hle2 hcm2 hsl HSM.out
        have HF2 := Lib.hid hF2
        rw [HNT.out] at HCA HAN
        clear hr2 hm2 HIS HF hF2 ho2 hrd2
        go_wp2_with fail
        refine HCA.mono ?_
        rintro _ w3 ⟨v3, rfl, hown3, hb3⟩
        obtain ⟨A9, c9, hv9⟩ := own_sl hown3
        subst hv9
        have hmo3 : ∀ T, Mo K' (kmark K' w2.heap.size (o + 2)) T w2 w3 := fun T => Mo.new hb3 (o + 2)
        have hsd3 := own_sd (K := K') (o := o) hown3 (by simp)
        rw [← HCI.out] at hsd3
        have HND := leaf_end (q := q) (ans := ans) (kind := 2) (zs := casts _) (HF2.out.rp.moT (hmo3 (fun _ => False)) fun _ h => h.elim) (HF2.out.mo.trans (hmo3 _)) (by rw [show (casts _).length = _ from List.length_map _]; exact hsd3) (by omega) (fun ms2 h2 =>
          leaf_ok HP.out (by omega) HAN.out (by simp only [emit]; rfl) h2 hgd hdp hmt (by simp only; omega) (by simp only) (by simp only; omega))
        rw [show ∀ l, (casts l).length = l.length from fun l => List.length_map _] at HND
        clear hown3 hb3 hsd3 HCA HF2
        go_wp2_with fail
        refine HND.mono ?_
        rintro _ w9 ⟨rfl, hres⟩
        have HRES := Lib.hid hres
        clear hres HND
        go_wp2
        go_ret
        exact HRES.out
      cases first with
      | true =>
        have HC : Hid (okHead _ (rs.drop q'.at_)) := Lib.hid hc
        have HFB := HF
        clear hc
        clear HF
        obtain ⟨c0, c1, c2, c3, c4', c5⟩ := HFB.out.rp.cells
        rw [HG.out.good] at c5
        have HPK := peek_any HFB.out.rp (by omega)
        by_cases hnil : rs.drop q'.at_ = []
        · rw [pkz_nil hnil] at HPK
          have HNONE : Hid (ans = none) := Lib.hid (by
            have h := HG.out.open_ HC.out
            rw [hnil] at h
            rw [HCL.out, h]; rfl)
          have hd' := HG.out.deep
          clear hnil HG HS
          go_wp2_with fail
          refine HPK.mono ?_
          rintro _ w3 ⟨rfl, hb3⟩
          have HFC := Lib.hid (HFB.out.below hb3)
          clear hb3 HPK HFB c0 c1 c2 c3 c4' c5
          obtain ⟨c0, c1, c2, c3, c4', c5⟩ := HFC.out.rp.cells
          have f5 := HFC.out.rp.frozen 5
          have H9 := Lib.hid (HFC.out.rp.poke 5 (.bool true) { q' with bad := true } (by unfold pcells; simp))
          have HRES := Lib.hid (class_bad (q := q) (ans := ans) H9.out (HFC.out.mo.trans (HFC.out.rp.pokeMo 5 (.bool true))) hd' (by simp only; omega) rfl HNONE.out)
          clear H9 HFC
          go_wp2
          go_ret
          exact HRES.out
        obtain ⟨r, t, hrt⟩ : ∃ r t, rs.drop q'.at_ = r :: t := by
          cases h : rs.drop q'.at_ with
          | nil => exact absurd h hnil
          | cons r t => exact ⟨r, t, rfl⟩
        rw [(pkz_cons HG.out.good hrt).1] at HPK
        have dr : ((r : Int) == -1) = false := by simp only [beq_eq_false_iff_ne, ne_eq]; omega
        clear hnil hrt
        go_wp2_with fail
        refine HPK.mono ?_
        rintro _ w3 ⟨rfl, hb3⟩
        have HFC := Lib.hid (HFB.out.below hb3)
        clear hb3 HPK HFB c0 c1 c2 c3 c4' c5
        have hgood := HG.out.good
        have hh' := HG.out.here
        have HM := member_any HFC.out.rp hgood hh' hlen
        go_wp2_with fail
        refine HM.mono ?_
        rintro _ w5 ⟨A1, c1, zs1, K5, at1, b1, rfl, hs1, hr5, hm5, hat1, hz2, hz8, hyes, hno⟩
        have HFD := Lib.hid (HFC.out.call hr5 hm5)
        have HS1 := Lib.hid hs1
        have HYES := Lib.hid hyes
        have HNO := Lib.hid hno
        clear hs1 hr5 hm5 hyes hno HM HFC
        by_cases e45 : pkz rs { q' with at_ := at1, bad := b1 } = 45
        · obtain ⟨hb1, hh45⟩ := pkz_hd (rs := rs) (q := { q' with at_ := at1, bad := b1 }) (c := 45) (by omega)
          simp only at hb1 hh45
          have HMEM : Hid (∃ m r1, member (rs.drop q'.at_) = some (m, r1) ∧ rs.drop at1 = r1 ∧ zs1 = casts m ∧ at1 ≤ rs.length) := Lib.hid (by
            cases hd0 : member (rs.drop q'.at_) with
            | none => have := HNO.out hd0; rw [this] at hb1; cases hb1
            | some y => obtain ⟨m, r1⟩ := y; obtain ⟨y1, _, y3, y4⟩ := HYES.out m r1 hd0; exact ⟨m, r1, rfl, y4, y1, y3⟩)
          obtain ⟨m1, r1, hm1', hr1', hzm1, hat1'⟩ := HMEM.out
          rw [hr1'] at hh45
          have ht45 := hd_tail hh45
          rw [← hr1', List.length_tail, List.length_drop] at ht45
          have HMT : Hid (rs.drop (at1 + 1) = r1.tail) := Lib.hid (by rw [← hr1', drop_tail])
          have HBAR := Lib.hid hh45
          have HM1' := Lib.hid hm1'
          have HR1' := Lib.hid hr1'
          have HZM := Lib.hid hzm1
          have HIS := is_yes HFD.out.rp (by simp only; omega) 45 e45
          clear hh45 hm1' hr1' hzm1 HYES HNO HMEM e45
          go_wp2_with fail
          refine HIS.mono ?_
          rintro _ w6 ⟨rfl, hr6, hm6⟩
          have HFE := Lib.hid (HFD.out.call hr6 hm6)
          have HS6 := Lib.hid (HS1.out.mo hm6)
          clear hr6 hm6 HIS HFD HS1
          have HM := member_any HFE.out.rp hb1 (by simp only; omega) hlen
          simp only [HMT.out] at HM
          go_wp2_with fail
          refine HM.mono ?_
          rintro _ w8 ⟨A2, c2, zs2, K8, at2, b2, rfl, hs2, hr8, hm8, hat2, hz22, hz28, hyes2, hno2⟩
          have HF8 := Lib.hid (HFE.out.call hr8 hm8)
          have HS8 := HS6.out.mo hm8
          have HTWO : Hid (∀ bad : Bool, (bad = true ↔ (zs1.length ≠ 2 ∨ zs2.length ≠ 2 ∨ zs1.getD 0 0 ≠ zs1.getD 1 0 ∨ zs2.getD 0 0 ≠ zs2.getD 1 0 ∨ zs2.getD 0 0 < zs1.getD 0 0)) → ClSt rs a0 q { q' with at_ := at2, bad := b2 || bad } (zs ++ [zs1.getD 0 0, zs2.getD 0 0]) false) := Lib.hid fun bad hb =>
            HG.out.two (q1 := { q' with at_ := at1, bad := b1 }) hlen HP.out.runes HC.out HM1'.out HZM.out HR1'.out (by simp only; omega) HBAR.out hat2 hz22 hyes2 hno2 hb rfl
          obtain ⟨g1, o1, eA1, hg1, hcs1⟩ := HS8.rd (by simp; omega)
          obtain ⟨g2, o2, eA2, hg2, hcs2⟩ := hs2.rd (by simp; omega)
          have hk1 := (HS8.kind g1 o1 eA1 (by simp; omega)).1
          have hk2 := (hs2.kind g2 o2 eA2 (by simp; omega)).1
          simp only at eA1 eA2
          subst eA1
          subst eA2
          have hpk := HF8.out.rp.pk
          have hg1p : g1 ≠ p := fun e => hk1 (by rw [e]; exact hpk)
          have hg2p : g2 ≠ p := fun e => hk2 (by rw [e]; exact hpk)
          have gI : ∀ (l : List Int) (j : Nat), j < l.length → (l.map I32)[j]? = some (.int .i32 (l.getD j 0)) := fun l j hj => by
            rw [List.getElem?_map, List.getD_eq_getElem?_getD, List.getElem?_eq_getElem hj]; rfl
          have x0c := hcs1 0 _ (gI zs1 0 (by omega))
          have x1c := hcs1 1 _ (gI zs1 1 (by omega))
          have y0c := hcs2 0 _ (gI zs2 0 (by omega))
          have y1c := hcs2 1 _ (gI zs2 1 (by omega))
          rw [Nat.add_zero] at x0c y0c
          clear hs2 hr8 hm8 hyes2 hno2 HM HFE HS6 HS8 hcs1 hcs2 hk1 hk2 gI hpk HG HZM HM1' HR1' HBAR HMT HC
          generalize zs1.getD 0 0 = x0 at *
          generalize zs1.getD 1 0 = x1 at *
          generalize zs2.getD 0 0 = y0 at *
          generalize zs2.getD 1 0 = y1 at *
          generalize zs1.length = n1 at *
          generalize zs2.length = n2 at *
          have p1n : 0 < n1 := by omega
          have p2n : 0 < n2 := by omega
          clear hz2 hz8 hz22 hz28
          by_cases k1 : n1 = 2
          case neg =>
            have j1 : ((n1 : Int) != 2) = true := by simp only [bne_iff_ne, ne_eq]; omega
            have hst := HTWO.out true (by simp only [true_iff]; omega)
            rw [Bool.or_true] at hst
            have HST := Lib.hid hst
            clear hst HTWO k1
            obtain ⟨c0, c1', c2', c3, c4', c5⟩ := HF8.out.rp.cells
            have f5 := HF8.out.rp.frozen 5
            have HFY : ∀ n, Cf w ((w8.drewN n).setCell ⟨p, 5, none⟩ (.bool true)) K K8 o p S rs { q' with at_ := at2, bad := true } ms v (.slice A4 zs.length c4) zs := fun n => (HF8.out.below (below_drewN (Below.refl _ _) n)).call ((HF8.out.below (below_drewN (Below.refl _ _) n)).rp.poke 5 (.bool true) { q' with at_ := at2, bad := true } (by unfold pcells; simp)) ((HF8.out.below (below_drewN (Below.refl _ _) n)).rp.pokeMo 5 (.bool true))
            have HFX : ∀ n, Hid (Cf w (((w8.drewN n).setCell ⟨p, 5, none⟩ (.bool true)).drew.alloc (.cells #[.int .i32 x0, .int .i32 y0] 21)) K K8 o p S rs { q' with at_ := at2, bad := true } ms v (.slice A4 zs.length c4) zs) := fun n => Lib.hid ((HFY n).below ⟨rfl, rfl, rfl, by rw [World.size_alloc]; exact Nat.le_succ _, fun i hi => heap_alloc_old _ _ hi⟩)
            have HRM : ∀ n, Hid (Rd (((w8.drewN n).setCell ⟨p, 5, none⟩ (.bool true)).drew.alloc (.cells #[.int .i32 x0, .int .i32 y0] 21)) (((w8.drewN n).setCell ⟨p, 5, none⟩ (.bool true)).drew.alloc (.cells #[.int .i32 x0, .int .i32 y0] 21)).heap.size (some ⟨w8.heap.size, 0, none⟩) ([x0, y0].map I32)) := fun n => Lib.hid (by
              have h := Rd.made' ((w8.drewN n).setCell ⟨p, 5, none⟩ (.bool true)).drew #[.int .i32 x0, .int .i32 y0] 21
              rw [show ((w8.drewN n).setCell ⟨p, 5, none⟩ (.bool true)).drew.heap.size = w8.heap.size by show ((w8.drewN n).setCell ⟨p, 5, none⟩ (.bool true)).heap.size = _; rw [World.size_setCell]; rfl] at h
              exact h)
            have hsz8 := HF8.out.mo.size
            clear HFY
            go_wp2
            go_quiet (fail)
            go_wp2
            go_region
            go_wp2_with (at_builtin; refine wpList_append_rd _ rfl (.tmp 79) (.tmp 80) 31 rfl w.heap.size 1 21 i0 (.int .i32 0) 4 Try.underlying31 hi hz0 hz1 hz2' rfl (by decide) _ _ _ rfl (HFX _).out.own _ (some ⟨w8.heap.size, 0, none⟩) 2 2 ([x0, y0].map I32) rfl rfl (HRM _).out (i32_ones _) ?c3 ?c4 ?c5 ?_)
            case c3 => unfold maxLen; omega
            case c4 => omega
            case c5 => simp; omega
            intro v9 w9 hown9 hg9 hat9
            have HF9 := Lib.hid ((HFX _).out.app (xs := [x0, y0]) rfl hown9 hg9 (by first | exact hat9 | simpa using hat9))
            obtain ⟨A9, c9, hv9⟩ := own_sl hown9
            subst hv9
            have hmz : 9000 - lenOf (.slice A9 (zs.length + 2) c9) < 9000 - lenOf (.slice A4 zs.length c4) := by simp [lenOf]; omega
            clear hown9 hg9 hat9 HFX HRM HF8
            go_wp2
            exact ⟨⟨_, _, zs ++ [x0, y0], false, rfl, HF9, HST⟩, hmz⟩
          by_cases k2 : n2 = 2
          case neg =>
            have j1 : ((n1 : Int) != 2) = false := by simp only [bne_eq_false_iff_eq]; omega
            have j2 : ((n2 : Int) != 2) = true := by simp only [bne_iff_ne, ne_eq]; omega
            obtain rfl := k1
            have hst := HTWO.out true (by simp only [true_iff]; omega)
            rw [Bool.or_true] at hst
            have HST := Lib.hid hst
            clear hst HTWO k2
            obtain ⟨c0, c1', c2', c3, c4', c5⟩ := HF8.out.rp.cells
            have f5 := HF8.out.rp.frozen 5
            have HFY : ∀ n, Cf w ((w8.drewN n).setCell ⟨p, 5, none⟩ (.bool true)) K K8 o p S rs { q' with at_ := at2, bad := true } ms v (.slice A4 zs.length c4) zs := fun n => (HF8.out.below (below_drewN (Below.refl _ _) n)).call ((HF8.out.below (below_drewN (Below.refl _ _) n)).rp.poke 5 (.bool true) { q' with at_ := at2, bad := true } (by unfold pcells; simp)) ((HF8.out.below (below_drewN (Below.refl _ _) n)).rp.pokeMo 5 (.bool true))
            have HFX : ∀ n, Hid (Cf w (((w8.drewN n).setCell ⟨p, 5, none⟩ (.bool true)).drew.alloc (.cells #[.int .i32 x0, .int .i32 y0] 21)) K K8 o p S rs { q' with at_ := at2, bad := true } ms v (.slice A4 zs.length c4) zs) := fun n => Lib.hid ((HFY n).below ⟨rfl, rfl, rfl, by rw [World.size_alloc]; exact Nat.le_succ _, fun i hi => heap_alloc_old _ _ hi⟩)
            have HRM : ∀ n, Hid (Rd (((w8.drewN n).setCell ⟨p, 5, none⟩ (.bool true)).drew.alloc (.cells #[.int .i32 x0, .int .i32 y0] 21)) (((w8.drewN n).setCell ⟨p, 5, none⟩ (.bool true)).drew.alloc (.cells #[.int .i32 x0, .int .i32 y0] 21)).heap.size (some ⟨w8.heap.size, 0, none⟩) ([x0, y0].map I32)) := fun n => Lib.hid (by
              have h := Rd.made' ((w8.drewN n).setCell ⟨p, 5, none⟩ (.bool true)).drew #[.int .i32 x0, .int .i32 y0] 21
              rw [show ((w8.drewN n).setCell ⟨p, 5, none⟩ (.bool true)).drew.heap.size = w8.heap.size by show ((w8.drewN n).setCell ⟨p, 5, none⟩ (.bool true)).heap.size = _; rw [World.size_setCell]; rfl] at h
              exact h)
            have hsz8 := HF8.out.mo.size
            clear HFY
            go_wp2
            go_quiet (fail)
            go_wp2
            go_region
            go_wp2_with (at_builtin; refine wpList_append_rd _ rfl (.tmp 79) (.tmp 80) 31 rfl w.heap.size 1 21 i0 (.int .i32 0) 4 Try.underlying31 hi hz0 hz1 hz2' rfl (by decide) _ _ _ rfl (HFX _).out.own _ (some ⟨w8.heap.size, 0, none⟩) 2 2 ([x0, y0].map I32) rfl rfl (HRM _).out (i32_ones _) ?c3 ?c4 ?c5 ?_)
            case c3 => unfold maxLen; omega
            case c4 => omega
            case c5 => simp; omega
            intro v9 w9 hown9 hg9 hat9
            have HF9 := Lib.hid ((HFX _).out.app (xs := [x0, y0]) rfl hown9 hg9 (by first | exact hat9 | simpa using hat9))
            obtain ⟨A9, c9, hv9⟩ := own_sl hown9
            subst hv9
            have hmz : 9000 - lenOf (.slice A9 (zs.length + 2) c9) < 9000 - lenOf (.slice A4 zs.length c4) := by simp [lenOf]; omega
            clear hown9 hg9 hat9 HFX HRM HF8
            go_wp2
            exact ⟨⟨_, _, zs ++ [x0, y0], false, rfl, HF9, HST⟩, hmz⟩
          by_cases k3 : x0 = x1
          case neg =>
            have j3 : (x0 != x1) = true := by simp only [bne_iff_ne, ne_eq]; omega
            obtain ⟨rfl, rfl⟩ : n1 = 2 ∧ n2 = 2 := ⟨k1, k2⟩
            have hst := HTWO.out true (by simp only [true_iff]; omega)
            rw [Bool.or_true] at hst
            have HST := Lib.hid hst
            clear hst HTWO k3
            obtain ⟨c0, c1', c2', c3, c4', c5⟩ := HF8.out.rp.cells
            have f5 := HF8.out.rp.frozen 5
            have HFY : ∀ n, Cf w ((w8.drewN n).setCell ⟨p, 5, none⟩ (.bool true)) K K8 o p S rs { q' with at_ := at2, bad := true } ms v (.slice A4 zs.length c4) zs := fun n => (HF8.out.below (below_drewN (Below.refl _ _) n)).call ((HF8.out.below (below_drewN (Below.refl _ _) n)).rp.poke 5 (.bool true) { q' with at_ := at2, bad := true } (by unfold pcells; simp)) ((HF8.out.below (below_drewN (Below.refl _ _) n)).rp.pokeMo 5 (.bool true))
            have HFX : ∀ n, Hid (Cf w (((w8.drewN n).setCell ⟨p, 5, none⟩ (.bool true)).drew.alloc (.cells #[.int .i32 x0, .int .i32 y0] 21)) K K8 o p S rs { q' with at_ := at2, bad := true } ms v (.slice A4 zs.length c4) zs) := fun n => Lib.hid ((HFY n).below ⟨rfl, rfl, rfl, by rw [World.size_alloc]; exact Nat.le_succ _, fun i hi => heap_alloc_old _ _ hi⟩)
            have HRM : ∀ n, Hid (Rd (((w8.drewN n).setCell ⟨p, 5, none⟩ (.bool true)).drew.alloc (.cells #[.int .i32 x0, .int .i32 y0] 21)) (((w8.drewN n).setCell ⟨p, 5, none⟩ (.bool true)).drew.alloc (.cells #[.int .i32 x0, .int .i32 y0] 21)).heap.size (some ⟨w8.heap.size, 0, none⟩) ([x0, y0].map I32)) := fun n => Lib.hid (by
              have h := Rd.made' ((w8.drewN n).setCell ⟨p, 5, none⟩ (.bool true)).drew #[.int .i32 x0, .int .i32 y0] 21
              rw [show ((w8.drewN n).setCell ⟨p, 5, none⟩ (.bool true)).drew.heap.size = w8.heap.size by show ((w8.drewN n).setCell ⟨p, 5, none⟩ (.bool true)).heap.size = _; rw [World.size_setCell]; rfl] at h
              exact h)
            have hsz8 := HF8.out.mo.size
            clear HFY
            go_wp2
            go_quiet (fail)
            go_wp2
            go_region
            go_wp2_with (at_builtin; refine wpList_append_rd _ rfl (.tmp 79) (.tmp 80) 31 rfl w.heap.size 1 21 i0 (.int .i32 0) 4 Try.underlying31 hi hz0 hz1 hz2' rfl (by decide) _ _ _ rfl (HFX _).out.own _ (some ⟨w8.heap.size, 0, none⟩) 2 2 ([x0, y0].map I32) rfl rfl (HRM _).out (i32_ones _) ?c3 ?c4 ?c5 ?_)
            case c3 => unfold maxLen; omega
            case c4 => omega
            case c5 => simp; omega
            intro v9 w9 hown9 hg9 hat9
            have HF9 := Lib.hid ((HFX _).out.app (xs := [x0, y0]) rfl hown9 hg9 (by first | exact hat9 | simpa using hat9))
            obtain ⟨A9, c9, hv9⟩ := own_sl hown9
            subst hv9
            have hmz : 9000 - lenOf (.slice A9 (zs.length + 2) c9) < 9000 - lenOf (.slice A4 zs.length c4) := by simp [lenOf]; omega
            clear hown9 hg9 hat9 HFX HRM HF8
            go_wp2
            exact ⟨⟨_, _, zs ++ [x0, y0], false, rfl, HF9, HST⟩, hmz⟩
          by_cases k4 : y0 = y1
          case neg =>
            have j3 : (x0 != x1) = false := by simp only [bne_eq_false_iff_eq]; omega
            have j4 : (y0 != y1) = true := by simp only [bne_iff_ne, ne_eq]; omega
            obtain ⟨rfl, rfl⟩ : n1 = 2 ∧ n2 = 2 := ⟨k1, k2⟩
            have hst := HTWO.out true (by simp only [true_iff]; omega)
            rw [Bool.or_true] at hst
            have HST := Lib.hid hst
            clear hst HTWO k3 k4
            obtain ⟨c0, c1', c2', c3, c4', c5⟩ := HF8.out.rp.cells
            have f5 := HF8.out.rp.frozen 5
            have HFY : ∀ n, Cf w ((w8.drewN n).setCell ⟨p, 5, none⟩ (.bool true)) K K8 o p S rs { q' with at_ := at2, bad := true } ms v (.slice A4 zs.length c4) zs := fun n => (HF8.out.below (below_drewN (Below.refl _ _) n)).call ((HF8.out.below (below_drewN (Below.refl _ _) n)).rp.poke 5 (.bool true) { q' with at_ := at2, bad := true } (by unfold pcells; simp)) ((HF8.out.below (below_drewN (Below.refl _ _) n)).rp.pokeMo 5 (.bool true))
            have HFX : ∀ n, Hid (Cf w (((w8.drewN n).setCell ⟨p, 5, none⟩ (.bool true)).drew.alloc (.cells #[.int .i32 x0, .int .i32 y0] 21)) K K8 o p S rs { q' with at_ := at2, bad := true } ms v (.slice A4 zs.length c4) zs) := fun n => Lib.hid ((HFY n).below ⟨rfl, rfl, rfl, by rw [World.size_alloc]; exact Nat.le_succ _, fun i hi => heap_alloc_old _ _ hi⟩)
            have HRM : ∀ n, Hid (Rd (((w8.drewN n).setCell ⟨p, 5, none⟩ (.bool true)).drew.alloc (.cells #[.int .i32 x0, .int .i32 y0] 21)) (((w8.drewN n).setCell ⟨p, 5, none⟩ (.bool true)).drew.alloc (.cells #[.int .i32 x0, .int .i32 y0] 21)).heap.size (some ⟨w8.heap.size, 0, none⟩) ([x0, y0].map I32)) := fun n => Lib.hid (by
              have h := Rd.made' ((w8.drewN n).setCell ⟨p, 5, none⟩ (.bool true)).drew #[.int .i32 x0, .int .i32 y0] 21
              rw [show ((w8.drewN n).setCell ⟨p, 5, none⟩ (.bool true)).drew.heap.size = w8.heap.size by show ((w8.drewN n).setCell ⟨p, 5, none⟩ (.bool true)).heap.size = _; rw [World.size_setCell]; rfl] at h
              exact h)
            have hsz8 := HF8.out.mo.size
            clear HFY
            go_wp2
            go_quiet (fail)
            go_wp2
            go_region
            go_wp2_with (at_builtin; refine wpList_append_rd _ rfl (.tmp 79) (.tmp 80) 31 rfl w.heap.size 1 21 i0 (.int .i32 0) 4 Try.underlying31 hi hz0 hz1 hz2' rfl (by decide) _ _ _ rfl (HFX _).out.own _ (some ⟨w8.heap.size, 0, none⟩) 2 2 ([x0, y0].map I32) rfl rfl (HRM _).out (i32_ones _) ?c3 ?c4 ?c5 ?_)
            case c3 => unfold maxLen; omega
            case c4 => omega
            case c5 => simp; omega
            intro v9 w9 hown9 hg9 hat9
            have HF9 := Lib.hid ((HFX _).out.app (xs := [x0, y0]) rfl hown9 hg9 (by first | exact hat9 | simpa using hat9))
            obtain ⟨A9, c9, hv9⟩ := own_sl hown9
            subst hv9
            have hmz : 9000 - lenOf (.slice A9 (zs.length + 2) c9) < 9000 - lenOf (.slice A4 zs.length c4) := by simp [lenOf]; omega
            clear hown9 hg9 hat9 HFX HRM HF8
            go_wp2
            exact ⟨⟨_, _, zs ++ [x0, y0], false, rfl, HF9, HST⟩, hmz⟩
          have j3 : (x0 != x1) = false := by simp only [bne_eq_false_iff_eq]; omega
          have j4 : (y0 != y1) = false := by simp only [bne_eq_false_iff_eq]; omega
          obtain ⟨rfl, rfl⟩ : n1 = 2 ∧ n2 = 2 := ⟨k1, k2⟩
          by_cases k5 : y0 < x0
          case pos =>
            have j5 : decide (y0 < x0) = true := decide_eq_true k5
            have hst := HTWO.out true (by simp only [true_iff]; omega)
            rw [Bool.or_true] at hst
            have HST := Lib.hid hst
            clear hst HTWO k3 k4 k5
            obtain ⟨c0, c1', c2', c3, c4', c5⟩ := HF8.out.rp.cells
            have f5 := HF8.out.rp.frozen 5
            have HFY : ∀ n, Cf w ((w8.drewN n).setCell ⟨p, 5, none⟩ (.bool true)) K K8 o p S rs { q' with at_ := at2, bad := true } ms v (.slice A4 zs.length c4) zs := fun n => (HF8.out.below (below_drewN (Below.refl _ _) n)).call ((HF8.out.below (below_drewN (Below.refl _ _) n)).rp.poke 5 (.bool true) { q' with at_ := at2, bad := true } (by unfold pcells; simp)) ((HF8.out.below (below_drewN (Below.refl _ _) n)).rp.pokeMo 5 (.bool true))
            have HFX : ∀ n, Hid (Cf w (((w8.drewN n).setCell ⟨p, 5, none⟩ (.bool true)).drew.alloc (.cells #[.int .i32 x0, .int .i32 y0] 21)) K K8 o p S rs { q' with at_ := at2, bad := true } ms v (.slice A4 zs.length c4) zs) := fun n => Lib.hid ((HFY n).below ⟨rfl, rfl, rfl, by rw [World.size_alloc]; exact Nat.le_succ _, fun i hi => heap_alloc_old _ _ hi⟩)
            have HRM : ∀ n, Hid (Rd (((w8.drewN n).setCell ⟨p, 5, none⟩ (.bool true)).drew.alloc (.cells #[.int .i32 x0, .int .i32 y0] 21)) (((w8.drewN n).setCell ⟨p, 5, none⟩ (.bool true)).drew.alloc (.cells #[.int .i32 x0, .int .i32 y0] 21)).heap.size (some ⟨w8.heap.size, 0, none⟩) ([x0, y0].map I32)) := fun n => Lib.hid (by
              have h := Rd.made' ((w8.drewN n).setCell ⟨p, 5, none⟩ (.bool true)).drew #[.int .i32 x0, .int .i32 y0] 21
              rw [show ((w8.drewN n).setCell ⟨p, 5, none⟩ (.bool true)).drew.heap.size = w8.heap.size by show ((w8.drewN n).setCell ⟨p, 5, none⟩ (.bool true)).heap.size = _; rw [World.size_setCell]; rfl] at h
              exact h)
            have hsz8 := HF8.out.mo.size
            clear HFY
            go_wp2
            go_quiet (fail)
            go_wp2
            go_region
            go_wp2_with (at_builtin; refine wpList_append_rd _ rfl (.tmp 79) (.tmp 80) 31 rfl w.heap.size 1 21 i0 (.int .i32 0) 4 Try.underlying31 hi hz0 hz1 hz2' rfl (by decide) _ _ _ rfl (HFX _).out.own _ (some ⟨w8.heap.size, 0, none⟩) 2 2 ([x0, y0].map I32) rfl rfl (HRM _).out (i32_ones _) ?c3 ?c4 ?c5 ?_)
            case c3 => unfold maxLen; omega
            case c4 => omega
            case c5 => simp; omega
            intro v9 w9 hown9 hg9 hat9
            have HF9 := Lib.hid ((HFX _).out.app (xs := [x0, y0]) rfl hown9 hg9 (by first | exact hat9 | simpa using hat9))
            obtain ⟨A9, c9, hv9⟩ := own_sl hown9
            subst hv9
            have hmz : 9000 - lenOf (.slice A9 (zs.length + 2) c9) < 9000 - lenOf (.slice A4 zs.length c4) := by simp [lenOf]; omega
            clear hown9 hg9 hat9 HFX HRM HF8
            go_wp2
            exact ⟨⟨_, _, zs ++ [x0, y0], false, rfl, HF9, HST⟩, hmz⟩
          have j5 : decide (y0 < x0) = false := decide_eq_false k5
          have hst := HTWO.out false (by simp only [Bool.false_eq_true, false_iff]; omega)
          rw [Bool.or_false] at hst
          have HST := Lib.hid hst
          clear hst HTWO k3 k4 k5
          have HFX : ∀ n, Hid (Cf w ((w8.drewN n).alloc (.cells #[.int .i32 x0, .int .i32 y0] 21)) K K8 o p S rs { q' with at_ := at2, bad := b2 } ms v (.slice A4 zs.length c4) zs) := fun n => Lib.hid (HF8.out.below ((below_drewN (Below.refl _ _) n).alloc (Nat.le_refl _) _))
          have HRM : ∀ n, Hid (Rd ((w8.drewN n).alloc (.cells #[.int .i32 x0, .int .i32 y0] 21)) ((w8.drewN n).alloc (.cells #[.int .i32 x0, .int .i32 y0] 21)).heap.size (some ⟨w8.heap.size, 0, none⟩) ([x0, y0].map I32)) := fun n => Lib.hid (Rd.made' (w8.drewN n) #[.int .i32 x0, .int .i32 y0] 21)
          have hsz8 := HF8.out.mo.size
          go_wp2
          go_quiet (fail)
          go_wp2
          go_region
          go_wp2_with (at_builtin; refine wpList_append_rd _ rfl (.tmp 79) (.tmp 80) 31 rfl w.heap.size 1 21 i0 (.int .i32 0) 4 Try.underlying31 hi hz0 hz1 hz2' rfl (by decide) _ _ _ rfl (HFX _).out.own _ (some ⟨w8.heap.size, 0, none⟩) 2 2 ([x0, y0].map I32) rfl rfl (HRM _).out (i32_ones _) ?c3 ?c4 ?c5 ?_)
          case c3 => unfold maxLen; omega
          case c4 => omega
          case c5 => simp; omega
          intro v9 w9 hown9 hg9 hat9
          have HF9 := Lib.hid ((HFX _).out.app (xs := [x0, y0]) rfl hown9 hg9 (by first | exact hat9 | simpa using hat9))
          obtain ⟨A9, c9, hv9⟩ := own_sl hown9
          subst hv9
          have hmz : 9000 - lenOf (.slice A9 (zs.length + 2) c9) < 9000 - lenOf (.slice A4 zs.length c4) := by simp [lenOf]; omega
          clear hown9 hg9 hat9 HFX HRM HF8
          go_wp2
          exact ⟨⟨_, _, zs ++ [x0, y0], false, rfl, HF9, HST⟩, hmz⟩
        · have HIS := is_no HFD.out.rp (by simp only; omega) 45 e45
          have HST2 : Hid (ClSt rs a0 q { q' with at_ := at1, bad := b1 } (zs ++ zs1) false) := Lib.hid (HG.out.one hlen HP.out.runes HC.out rfl rfl hat1 hz8 HYES.out HNO.out (fun hb => pkz_no (rs := rs) (q := { q' with at_ := at1, bad := b1 }) (c := 45) hb e45))
          go_wp2_with fail
          refine HIS.mono ?_
          rintro _ w6 ⟨rfl, hb6⟩
          have HFE := Lib.hid (HFD.out.below hb6)
          have HR6 := Lib.hid ((HS1.out.rd.below hb6).more hb6.size)
          clear hb6 HIS HFD
          have hsz6 := HFE.out.mo.size
          go_wp2_with (at_builtin; refine wpList_append_rd _ rfl (.tmp 79) (.tmp 80) 31 rfl w.heap.size 1 21 i0 (.int .i32 0) 4 Try.underlying31 hi hz0 hz1 hz2' rfl (by decide) _ _ _ rfl HFE.out.own _ A1 zs1.length c1 (zs1.map I32) rfl (by simp) HR6.out (i32_ones _) ?c3 ?c4 ?c5 ?_)
          case c3 => unfold maxLen; omega
          case c4 => omega
          case c5 => omega
          intro v7 w7 hown7 hg7 hat7
          have HF7 := Lib.hid (HFE.out.app rfl hown7 hg7 hat7)
          obtain ⟨A7, c7, hv7⟩ := own_sl hown7
          subst hv7
          have hmz : 9000 - lenOf (.slice A7 (zs.length + zs1.length) c7) < 9000 - lenOf (.slice A4 zs.length c4) := by simp [lenOf]; omega
          clear hown7 hg7 hat7 HFE HR6 HS1
          go_wp2
          exact ⟨⟨_, _, zs ++ zs1, false, rfl, HF7, HST2⟩, hmz⟩
      | false =>
        have h93 : hd (rs.drop q'.at_) 93 = false := by
          cases h : hd (rs.drop q'.at_) 93 with
          | false => rfl
          | true => exact absurd ⟨rfl, h⟩ hc
        have hp93 : pkz rs q' ≠ 93 := fun h => by
          have := (pkz_hd (rs := rs) (q := q') (c := 93) (by omega)).2
          rw [this] at h93; cases h93
        have HIS := is_no HF.out.rp (by omega) 93 hp93
        have HC : Hid (okHead _ (rs.drop q'.at_)) := Lib.hid hc
        clear h93 hp93 hc
        go_wp2_with fail
        refine HIS.mono ?_
        rintro _ w2 ⟨rfl, hb2⟩
        have HFB := Lib.hid (HF.out.below hb2)
        clear hb2 HIS HF
        obtain ⟨c0, c1, c2, c3, c4', c5⟩ := HFB.out.rp.cells
        rw [HG.out.good] at c5
        have HPK := peek_any HFB.out.rp (by omega)
        by_cases hnil : rs.drop q'.at_ = []
        · rw [pkz_nil hnil] at HPK
          have HNONE : Hid (ans = none) := Lib.hid (by
            have h := HG.out.open_ HC.out
            rw [hnil] at h
            rw [HCL.out, h]; rfl)
          have hd' := HG.out.deep
          clear hnil HG HS
          go_wp2_with fail
          refine HPK.mono ?_
          rintro _ w3 ⟨rfl, hb3⟩
          have HFC := Lib.hid (HFB.out.below hb3)
          clear hb3 HPK HFB c0 c1 c2 c3 c4' c5
          obtain ⟨c0, c1, c2, c3, c4', c5⟩ := HFC.out.rp.cells
          have f5 := HFC.out.rp.frozen 5
          have H9 := Lib.hid (HFC.out.rp.poke 5 (.bool true) { q' with bad := true } (by unfold pcells; simp))
          have HRES := Lib.hid (class_bad (q := q) (ans := ans) H9.out (HFC.out.mo.trans (HFC.out.rp.pokeMo 5 (.bool true))) hd' (by simp only; omega) rfl HNONE.out)
          clear H9 HFC
          go_wp2
          go_ret
          exact HRES.out
        obtain ⟨r, t, hrt⟩ : ∃ r t, rs.drop q'.at_ = r :: t := by
          cases h : rs.drop q'.at_ with
          | nil => exact absurd h hnil
          | cons r t => exact ⟨r, t, rfl⟩
        rw [(pkz_cons HG.out.good hrt).1] at HPK
        have dr : ((r : Int) == -1) = false := by simp only [beq_eq_false_iff_ne, ne_eq]; omega
        clear hnil hrt
        go_wp2_with fail
        refine HPK.mono ?_
        rintro _ w3 ⟨rfl, hb3⟩
        have HFC := Lib.hid (HFB.out.below hb3)
        clear hb3 HPK HFB c0 c1 c2 c3 c4' c5
        have hgood := HG.out.good
        have hh' := HG.out.here
        have HM := member_any HFC.out.rp hgood hh' hlen
        go_wp2_with fail
        refine HM.mono ?_
        rintro _ w5 ⟨A1, c1, zs1, K5, at1, b1, rfl, hs1, hr5, hm5, hat1, hz2, hz8, hyes, hno⟩
        have HFD := Lib.hid (HFC.out.call hr5 hm5)
        have HS1 := Lib.hid hs1
        have HYES := Lib.hid hyes
        have HNO := Lib.hid hno
        clear hs1 hr5 hm5 hyes hno HM HFC
        by_cases e45 : pkz rs { q' with at_ := at1, bad := b1 } = 45
        · obtain ⟨hb1, hh45⟩ := pkz_hd (rs := rs) (q := { q' with at_ := at1, bad := b1 }) (c := 45) (by omega)
          simp only at hb1 hh45
          have HMEM : Hid (∃ m r1, member (rs.drop q'.at_) = some (m, r1) ∧ rs.drop at1 = r1 ∧ zs1 = casts m ∧ at1 ≤ rs.length) := Lib.hid (by
            cases hd0 : member (rs.drop q'.at_) with
            | none => have := HNO.out hd0; rw [this] at hb1; cases hb1
            | some y => obtain ⟨m, r1⟩ := y; obtain ⟨y1, _, y3, y4⟩ := HYES.out m r1 hd0; exact ⟨m, r1, rfl, y4, y1, y3⟩)
          obtain ⟨m1, r1, hm1', hr1', hzm1, hat1'⟩ := HMEM.out
          rw [hr1'] at hh45
          have ht45 := hd_tail hh45
          rw [← hr1', List.length_tail, List.length_drop] at ht45
          have HMT : Hid (rs.drop (at1 + 1) = r1.tail) := Lib.hid (by rw [← hr1', drop_tail])
          have HBAR := Lib.hid hh45
          have HM1' := Lib.hid hm1'
          have HR1' := Lib.hid hr1'
          have HZM := Lib.hid hzm1
          have HIS := is_yes HFD.out.rp (by simp only; omega) 45 e45
          clear hh45 hm1' hr1' hzm1 HYES HNO HMEM e45
          go_wp2_with fail
          refine HIS.mono ?_
          rintro _ w6 ⟨rfl, hr6, hm6⟩
          have HFE := Lib.hid (HFD.out.call hr6 hm6)
          have HS6 := Lib.hid (HS1.out.mo hm6)
          clear hr6 hm6 HIS HFD HS1
          have HM := member_any HFE.out.rp hb1 (by simp only; omega) hlen
          simp only [HMT.out] at HM
          go_wp2_with fail
          refine HM.mono ?_
          rintro _ w8 ⟨A2, c2, zs2, K8, at2, b2, rfl, hs2, hr8, hm8, hat2, hz22, hz28, hyes2, hno2⟩
          have HF8 := Lib.hid (HFE.out.call hr8 hm8)
          have HS8 := HS6.out.mo hm8
          have HTWO : Hid (∀ bad : Bool, (bad = true ↔ (zs1.length ≠ 2 ∨ zs2.length ≠ 2 ∨ zs1.getD 0 0 ≠ zs1.getD 1 0 ∨ zs2.getD 0 0 ≠ zs2.getD 1 0 ∨ zs2.getD 0 0 < zs1.getD 0 0)) → ClSt rs a0 q { q' with at_ := at2, bad := b2 || bad } (zs ++ [zs1.getD 0 0, zs2.getD 0 0]) false) := Lib.hid fun bad hb =>
            HG.out.two (q1 := { q' with at_ := at1, bad := b1 }) hlen HP.out.runes HC.out HM1'.out HZM.out HR1'.out (by simp only; omega) HBAR.out hat2 hz22 hyes2 hno2 hb rfl
          obtain ⟨g1, o1, eA1, hg1, hcs1⟩ := HS8.rd (by simp; omega)
          obtain ⟨g2, o2, eA2, hg2, hcs2⟩ := hs2.rd (by simp; omega)
          have hk1 := (HS8.kind g1 o1 eA1 (by simp; omega)).1
          have hk2 := (hs2.kind g2 o2 eA2 (by simp; omega)).1
          simp only at eA1 eA2
          subst eA1
          subst eA2
          have hpk := HF8.out.rp.pk
          have hg1p : g1 ≠ p := fun e => hk1 (by rw [e]; exact hpk)
          have hg2p : g2 ≠ p := fun e => hk2 (by rw [e]; exact hpk)
          have gI : ∀ (l : List Int) (j : Nat), j < l.length → (l.map I32)[j]? = some (.int .i32 (l.getD j 0)) := fun l j hj => by
            rw [List.getElem?_map, List.getD_eq_getElem?_getD, List.getElem?_eq_getElem hj]; rfl
          have x0c := hcs1 0 _ (gI zs1 0 (by omega))
          have x1c := hcs1 1 _ (gI zs1 1 (by omega))
          have y0c := hcs2 0 _ (gI zs2 0 (by omega))
          have y1c := hcs2 1 _ (gI zs2 1 (by omega))
          rw [Nat.add_zero] at x0c y0c
          clear hs2 hr8 hm8 hyes2 hno2 HM HFE HS6 HS8 hcs1 hcs2 hk1 hk2 gI hpk HG HZM HM1' HR1' HBAR HMT HC
          generalize zs1.getD 0 0 = x0 at *
          generalize zs1.getD 1 0 = x1 at *
          generalize zs2.getD 0 0 = y0 at *
          generalize zs2.getD 1 0 = y1 at *
          generalize zs1.length = n1 at *
          generalize zs2.length = n2 at *
          have p1n : 0 < n1 := by omega
          have p2n : 0 < n2 := by omega
          clear hz2 hz8 hz22 hz28
          by_cases k1 : n1 = 2
          case neg =>
            have j1 : ((n1 : Int) != 2) = true := by simp only [bne_iff_ne, ne_eq]; omega
            have hst := HTWO.out true (by simp only [true_iff]; omega)
            rw [Bool.or_true] at hst
            have HST := Lib.hid hst
            clear hst HTWO k1
            obtain ⟨c0, c1', c2', c3, c4', c5⟩ := HF8.out.rp.cells
            have f5 := HF8.out.rp.frozen 5
            have HFY : ∀ n, Cf w ((w8.drewN n).setCell ⟨p, 5, none⟩ (.bool true)) K K8 o p S rs { q' with at_ := at2, bad := true } ms v (.slice A4 zs.length c4) zs := fun n => (HF8.out.below (below_drewN (Below.refl _ _) n)).call ((HF8.out.below (below_drewN (Below.refl _ _) n)).rp.poke 5 (.bool true) { q' with at_ := at2, bad := true } (by unfold pcells; simp)) ((HF8.out.below (below_drewN (Below.refl _ _) n)).rp.pokeMo 5 (.bool true))
            have HFX : ∀ n, Hid (Cf w (((w8.drewN n).setCell ⟨p, 5, none⟩ (.bool true)).drew.alloc (.cells #[.int .i32 x0, .int .i32 y0] 21)) K K8 o p S rs { q' with at_ := at2, bad := true } ms v (.slice A4 zs.length c4) zs) := fun n => Lib.hid ((HFY n).below ⟨rfl, rfl, rfl, by rw [World.size_alloc]; exact Nat.le_succ _, fun i hi => heap_alloc_old _ _ hi⟩)
            have HRM : ∀ n, Hid (Rd (((w8.drewN n).setCell ⟨p, 5, none⟩ (.bool true)).drew.alloc (.cells #[.int .i32 x0, .int .i32 y0] 21)) (((w8.drewN n).setCell ⟨p, 5, none⟩ (.bool true)).drew.alloc (.cells #[.int .i32 x0, .int .i32 y0] 21)).heap.size (some ⟨w8.heap.size, 0, none⟩) ([x0, y0].map I32)) := fun n => Lib.hid (by
              have h := Rd.made' ((w8.drewN n).setCell ⟨p, 5, none⟩ (.bool true)).drew #[.int .i32 x0, .int .i32 y0] 21
              rw [show ((w8.drewN n).setCell ⟨p, 5, none⟩ (.bool true)).drew.heap.size = w8.heap.size by show ((w8.drewN n).setCell ⟨p, 5, none⟩ (.bool true)).heap.size = _; rw [World.size_setCell]; rfl] at h
              exact h)
            have hsz8 := HF8.out.mo.size
            clear HFY
            go_wp2
            go_quiet (fail)
            go_wp2
            go_region
            go_wp2_with (at_builtin; refine wpList_append_rd _ rfl (.tmp 79) (.tmp 80) 31 rfl w.heap.size 1 21 i0 (.int .i32 0) 4 Try.underlying31 hi hz0 hz1 hz2' rfl (by decide) _ _ _ rfl (HFX _).out.own _ (some ⟨w8.heap.size, 0, none⟩) 2 2 ([x0, y0].map I32) rfl rfl (HRM _).out (i32_ones _) ?c3 ?c4 ?c5 ?_)
            case c3 => unfold maxLen; omega
            case c4 => omega
            case c5 => simp; omega
            intro v9 w9 hown9 hg9 hat9
            have HF9 := Lib.hid ((HFX _).out.app (xs := [x0, y0]) rfl hown9 hg9 (by first | exact hat9 | simpa using hat9))
            obtain ⟨A9, c9, hv9⟩ := own_sl hown9
            subst hv9
            have hmz : 9000 - lenOf (.slice A9 (zs.length + 2) c9) < 9000 - lenOf (.slice A4 zs.length c4) := by simp [lenOf]; omega
            clear hown9 hg9 hat9 HFX HRM HF8
            go_wp2
            exact ⟨⟨_, _, zs ++ [x0, y0], false, rfl, HF9, HST⟩, hmz⟩
          by_cases k2 : n2 = 2
          case neg =>
            have j1 : ((n1 : Int) != 2) = false := by simp only [bne_eq_false_iff_eq]; omega
            have j2 : ((n2 : Int) != 2) = true := by simp only [bne_iff_ne, ne_eq]; omega
            obtain rfl := k1
            have hst := HTWO.out true (by simp only [true_iff]; omega)
            rw [Bool.or_true] at hst
            have HST := Lib.hid hst
            clear hst HTWO k2
            obtain ⟨c0, c1', c2', c3, c4', c5⟩ := HF8.out.rp.cells
            have f5 := HF8.out.rp.frozen 5
            have HFY : ∀ n, Cf w ((w8.drewN n).setCell ⟨p, 5, none⟩ (.bool true)) K K8 o p S rs { q' with at_ := at2, bad := true } ms v (.slice A4 zs.length c4) zs := fun n => (HF8.out.below (below_drewN (Below.refl _ _) n)).call ((HF8.out.below (below_drewN (Below.refl _ _) n)).rp.poke 5 (.bool true) { q' with at_ := at2, bad := true } (by unfold pcells; simp)) ((HF8.out.below (below_drewN (Below.refl _ _) n)).rp.pokeMo 5 (.bool true))
            have HFX : ∀ n, Hid (Cf w (((w8.drewN n).setCell ⟨p, 5, none⟩ (.bool true)).drew.alloc (.cells #[.int .i32 x0, .int .i32 y0] 21)) K K8 o p S rs { q' with at_ := at2, bad := true } ms v (.slice A4 zs.length c4) zs) := fun n => Lib.hid ((HFY n).below ⟨rfl, rfl, rfl, by rw [World.size_alloc]; exact Nat.le_succ _, fun i hi => heap_alloc_old _ _ hi⟩)
            have HRM : ∀ n, Hid (Rd (((w8.drewN n).setCell ⟨p, 5, none⟩ (.bool true)).drew.alloc (.cells #[.int .i32 x0, .int .i32 y0] 21)) (((w8.drewN n).setCell ⟨p, 5, none⟩ (.bool true)).drew.alloc (.cells #[.int .i32 x0, .int .i32 y0] 21)).heap.size (some ⟨w8.heap.size, 0, none⟩) ([x0, y0].map I32)) := fun n => Lib.hid (by
              have h := Rd.made' ((w8.drewN n).setCell ⟨p, 5, none⟩ (.bool true)).drew #[.int .i32 x0, .int .i32 y0] 21
              rw [show ((w8.drewN n).setCell ⟨p, 5, none⟩ (.bool true)).drew.heap.size = w8.heap.size by show ((w8.drewN n).setCell ⟨p, 5, none⟩ (.bool true)).heap.size = _; rw [World.size_setCell]; rfl] at h
              exact h)
            have hsz8 := HF8.out.mo.size
            clear HFY
            go_wp2
            go_quiet (fail)
            go_wp2
            go_region
            go_wp2_with (at_builtin; refine wpList_append_rd _ rfl (.tmp 79) (.tmp 80) 31 rfl w.heap.size 1 21 i0 (.int .i32 0) 4 Try.underlying31 hi hz0 hz1 hz2' rfl (by decide) _ _ _ rfl (HFX _).out.own _ (some ⟨w8.heap.size, 0, none⟩) 2 2 ([x0, y0].map I32) rfl rfl (HRM _).out (i32_ones _) ?c3 ?c4 ?c5 ?_)
            case c3 => unfold maxLen; omega
            case c4 => omega
            case c5 => simp; omega
            intro v9 w9 hown9 hg9 hat9
            have HF9 := Lib.hid ((HFX _).out.app (xs := [x0, y0]) rfl hown9 hg9 (by first | exact hat9 | simpa using hat9))
            obtain ⟨A9, c9, hv9⟩ := own_sl hown9
            subst hv9
            have hmz : 9000 - lenOf (.slice A9 (zs.length + 2) c9) < 9000 - lenOf (.slice A4 zs.length c4) := by simp [lenOf]; omega
            clear hown9 hg9 hat9 HFX HRM HF8
            go_wp2
            exact ⟨⟨_, _, zs ++ [x0, y0], false, rfl, HF9, HST⟩, hmz⟩
          by_cases k3 : x0 = x1
          case neg =>
            have j3 : (x0 != x1) = true := by simp only [bne_iff_ne, ne_eq]; omega
            obtain ⟨rfl, rfl⟩ : n1 = 2 ∧ n2 = 2 := ⟨k1, k2⟩
            have hst := HTWO.out true (by simp only [true_iff]; omega)
            rw [Bool.or_true] at hst
            have HST := Lib.hid hst
            clear hst HTWO k3
            obtain ⟨c0, c1', c2', c3, c4', c5⟩ := HF8.out.rp.cells
            have f5 := HF8.out.rp.frozen 5
            have HFY : ∀ n, Cf w ((w8.drewN n).setCell ⟨p, 5, none⟩ (.bool true)) K K8 o p S rs { q' with at_ := at2, bad := true } ms v (.slice A4 zs.length c4) zs := fun n => (HF8.out.below (below_drewN (Below.refl _ _) n)).call ((HF8.out.below (below_drewN (Below.refl _ _) n)).rp.poke 5 (.bool true) { q' with at_ := at2, bad := true } (by unfold pcells; simp)) ((HF8.out.below (below_drewN (Below.refl _ _) n)).rp.pokeMo 5 (.bool true))
            have HFX : ∀ n, Hid (Cf w (((w8.drewN n).setCell ⟨p, 5, none⟩ (.bool true)).drew.alloc (.cells #[.int .i32 x0, .int .i32 y0] 21)) K K8 o p S rs { q' with at_ := at2, bad := true } ms v (.slice A4 zs.length c4) zs) := fun n => Lib.hid ((HFY n).below ⟨rfl, rfl, rfl, by rw [World.size_alloc]; exact Nat.le_succ _, fun i hi => heap_alloc_old _ _ hi⟩)
            have HRM : ∀ n, Hid (Rd (((w8.drewN n).setCell ⟨p, 5, none⟩ (.bool true)).drew.alloc (.cells #[.int .i32 x0, .int .i32 y0] 21)) (((w8.drewN n).setCell ⟨p, 5, none⟩ (.bool true)).drew.alloc (.cells #[.int .i32 x0, .int .i32 y0] 21)).heap.size (some ⟨w8.heap.size, 0, none⟩) ([x0, y0].map I32)) := fun n => Lib.hid (by
              have h := Rd.made' ((w8.drewN n).setCell ⟨p, 5, none⟩ (.bool true)).drew #[.int .i32 x0, .int .i32 y0] 21
              rw [show ((w8.drewN n).setCell ⟨p, 5, none⟩ (.bool true)).drew.heap.size = w8.heap.size by show ((w8.drewN n).setCell ⟨p, 5, none⟩ (.bool true)).heap.size = _; rw [World.size_setCell]; rfl] at h
              exact h)
            have hsz8 := HF8.out.mo.size
            clear HFY
            go_wp2
            go_quiet (fail)
            go_wp2
            go_region
            go_wp2_with (at_builtin; refine wpList_append_rd _ rfl (.tmp 79) (.tmp 80) 31 rfl w.heap.size 1 21 i0 (.int .i32 0) 4 Try.underlying31 hi hz0 hz1 hz2' rfl (by decide) _ _ _ rfl (HFX _).out.own _ (some ⟨w8.heap.size, 0, none⟩) 2 2 ([x0, y0].map I32) rfl rfl (HRM _).out (i32_ones _) ?c3 ?c4 ?c5 ?_)
            case c3 => unfold maxLen; omega
            case c4 => omega
            case c5 => simp; omega
            intro v9 w9 hown9 hg9 hat9
            have HF9 := Lib.hid ((HFX _).out.app (xs := [x0, y0]) rfl hown9 hg9 (by first | exact hat9 | simpa using hat9))
            obtain ⟨A9, c9, hv9⟩ := own_sl hown9
            subst hv9
            have hmz : 9000 - lenOf (.slice A9 (zs.length + 2) c9) < 9000 - lenOf (.slice A4 zs.length c4) := by simp [lenOf]; omega
            clear hown9 hg9 hat9 HFX HRM HF8
            go_wp2
            exact ⟨⟨_, _, zs ++ [x0, y0], false, rfl, HF9, HST⟩, hmz⟩
          by_cases k4 : y0 = y1
          case neg =>
            have j3 : (x0 != x1) = false := by simp only [bne_eq_false_iff_eq]; omega
            have j4 : (y0 != y1) = true := by simp only [bne_iff_ne, ne_eq]; omega
            obtain ⟨rfl, rfl⟩ : n1 = 2 ∧ n2 = 2 := ⟨k1, k2⟩
            have hst := HTWO.out true (by simp only [true_iff]; omega)
            rw [Bool.or_true] at hst
            have HST := Lib.hid hst
            clear hst HTWO k3 k4
            obtain ⟨c0, c1', c2', c3, c4', c5⟩ := HF8.out.rp.cells
            have f5 := HF8.out.rp.frozen 5
            have HFY : ∀ n, Cf w ((w8.drewN n).setCell ⟨p, 5, none⟩ (.bool true)) K K8 o p S rs { q' with at_ := at2, bad := true } ms v (.slice A4 zs.length c4) zs := fun n => (HF8.out.below (below_drewN (Below.refl _ _) n)).call ((HF8.out.below (below_drewN (Below.refl _ _) n)).rp.poke 5 (.bool true) { q' with at_ := at2, bad := true } (by unfold pcells; simp)) ((HF8.out.below (below_drewN (Below.refl _ _) n)).rp.pokeMo 5 (.bool true))
            have HFX : ∀ n, Hid (Cf w (((w8.drewN n).setCell ⟨p, 5, none⟩ (.bool true)).drew.alloc (.cells #[.int .i32 x0, .int .i32 y0] 21)) K K8 o p S rs { q' with at_ := at2, bad := true } ms v (.slice A4 zs.length c4) zs) := fun n => Lib.hid ((HFY n).below ⟨rfl, rfl, rfl, by rw [World.size_alloc]; exact Nat.le_succ _, fun i hi => heap_alloc_old _ _ hi⟩)
            have HRM : ∀ n, Hid (Rd (((w8.drewN n).setCell ⟨p, 5, none⟩ (.bool true)).drew.alloc (.cells #[.int .i32 x0, .int .i32 y0] 21)) (((w8.drewN n).setCell ⟨p, 5, none⟩ (.bool true)).drew.alloc (.cells #[.int .i32 x0, .int .i32 y0] 21)).heap.size (some ⟨w8.heap.size, 0, none⟩) ([x0, y0].map I32)) := fun n => Lib.hid (by
              have h := Rd.made' ((w8.drewN n).setCell ⟨p, 5, none⟩ (.bool true)).drew #[.int .i32 x0, .int .i32 y0] 21
              rw [show ((w8.drewN n).setCell ⟨p, 5, none⟩ (.bool true)).drew.heap.size = w8.heap.size by show ((w8.drewN n).setCell ⟨p, 5, none⟩ (.bool true)).heap.size = _; rw [World.size_setCell]; rfl] at h
              exact h)
            have hsz8 := HF8.out.mo.size
            clear HFY
            go_wp2
            go_quiet (fail)
            go_wp2
            go_region
            go_wp2_with (at_builtin; refine wpList_append_rd _ rfl (.tmp 79) (.tmp 80) 31 rfl w.heap.size 1 21 i0 (.int .i32 0) 4 Try.underlying31 hi hz0 hz1 hz2' rfl (by decide) _ _ _ rfl (HFX _).out.own _ (some ⟨w8.heap.size, 0, none⟩) 2 2 ([x0, y0].map I32) rfl rfl (HRM _).out (i32_ones _) ?c3 ?c4 ?c5 ?_)
            case c3 => unfold maxLen; omega
            case c4 => omega
            case c5 => simp; omega
            intro v9 w9 hown9 hg9 hat9
            have HF9 := Lib.hid ((HFX _).out.app (xs := [x0, y0]) rfl hown9 hg9 (by first | exact hat9 | simpa using hat9))
            obtain ⟨A9, c9, hv9⟩ := own_sl hown9
            subst hv9
            have hmz : 9000 - lenOf (.slice A9 (zs.length + 2) c9) < 9000 - lenOf (.slice A4 zs.length c4) := by simp [lenOf]; omega
            clear hown9 hg9 hat9 HFX HRM HF8
            go_wp2
            exact ⟨⟨_, _, zs ++ [x0, y0], false, rfl, HF9, HST⟩, hmz⟩
          have j3 : (x0 != x1) = false := by simp only [bne_eq_false_iff_eq]; omega
          have j4 : (y0 != y1) = false := by simp only [bne_eq_false_iff_eq]; omega
          obtain ⟨rfl, rfl⟩ : n1 = 2 ∧ n2 = 2 := ⟨k1, k2⟩
          by_cases k5 : y0 < x0
          case pos =>
            have j5 : decide (y0 < x0) = true := decide_eq_true k5
            have hst := HTWO.out true (by simp only [true_iff]; omega)
            rw [Bool.or_true] at hst
            have HST := Lib.hid hst
            clear hst HTWO k3 k4 k5
            obtain ⟨c0, c1', c2', c3, c4', c5⟩ := HF8.out.rp.cells
            have f5 := HF8.out.rp.frozen 5
            have HFY : ∀ n, Cf w ((w8.drewN n).setCell ⟨p, 5, none⟩ (.bool true)) K K8 o p S rs { q' with at_ := at2, bad := true } ms v (.slice A4 zs.length c4) zs := fun n => (HF8.out.below (below_drewN (Below.refl _ _) n)).call ((HF8.out.below (below_drewN (Below.refl _ _) n)).rp.poke 5 (.bool true) { q' with at_ := at2, bad := true } (by unfold pcells; simp)) ((HF8.out.below (below_drewN (Below.refl _ _) n)).rp.pokeMo 5 (.bool true))
            have HFX : ∀ n, Hid (Cf w (((w8.drewN n).setCell ⟨p, 5, none⟩ (.bool true)).drew.alloc (.cells #[.int .i32 x0, .int .i32 y0] 21)) K K8 o p S rs { q' with at_ := at2, bad := true } ms v (.slice A4 zs.length c4) zs) := fun n => Lib.hid ((HFY n).below ⟨rfl, rfl, rfl, by rw [World.size_alloc]; exact Nat.le_succ _, fun i hi => heap_alloc_old _ _ hi⟩)
            have HRM : ∀ n, Hid (Rd (((w8.drewN n).setCell ⟨p, 5, none⟩ (.bool true)).drew.alloc (.cells #[.int .i32 x0, .int .i32 y0] 21)) (((w8.drewN n).setCell ⟨p, 5, none⟩ (.bool true)).drew.alloc (.cells #[.int .i32 x0, .int .i32 y0] 21)).heap.size (some ⟨w8.heap.size, 0, none⟩) ([x0, y0].map I32)) := fun n => Lib.hid (by
              have h := Rd.made' ((w8.drewN n).setCell ⟨p, 5, none⟩ (.bool true)).drew #[.int .i32 x0, .int .i32 y0] 21
              rw [show ((w8.drewN n).setCell ⟨p, 5, none⟩ (.bool true)).drew.heap.size = w8.heap.size by show ((w8.drewN n).setCell ⟨p, 5, none⟩ (.bool true)).heap.size = _; rw [World.size_setCell]; rfl] at h
              exact h)
            have hsz8 := HF8.out.mo.size
            clear HFY
            go_wp2
            go_quiet (fail)
            go_wp2
            go_region
            go_wp2_with (at_builtin; refine wpList_append_rd _ rfl (.tmp 79) (.tmp 80) 31 rfl w.heap.size 1 21 i0 (.int .i32 0) 4 Try.underlying31 hi hz0 hz1 hz2' rfl (by decide) _ _ _ rfl (HFX _).out.own _ (some ⟨w8.heap.size, 0, none⟩) 2 2 ([x0, y0].map I32) rfl rfl (HRM _).out (i32_ones _) ?c3 ?c4 ?c5 ?_)
            case c3 => unfold maxLen; omega
            case c4 => omega
            case c5 => simp; omega
            intro v9 w9 hown9 hg9 hat9
            have HF9 := Lib.hid ((HFX _).out.app (xs := [x0, y0]) rfl hown9 hg9 (by first | exact hat9 | simpa using hat9))
            obtain ⟨A9, c9, hv9⟩ := own_sl hown9
            subst hv9
            have hmz : 9000 - lenOf (.slice A9 (zs.length + 2) c9) < 9000 - lenOf (.slice A4 zs.length c4) := by simp [lenOf]; omega
            clear hown9 hg9 hat9 HFX HRM HF8
            go_wp2
            exact ⟨⟨_, _, zs ++ [x0, y0], false, rfl, HF9, HST⟩, hmz⟩
          have j5 : decide (y0 < x0) = false := decide_eq_false k5
          have hst := HTWO.out false (by simp only [Bool.false_eq_true, false_iff]; omega)
          rw [Bool.or_false] at hst
          have HST := Lib.hid hst
          clear hst HTWO k3 k4 k5
          have HFX : ∀ n, Hid (Cf w ((w8.drewN n).alloc (.cells #[.int .i32 x0, .int .i32 y0] 21)) K K8 o p S rs { q' with at_ := at2, bad := b2 } ms v (.slice A4 zs.length c4) zs) := fun n => Lib.hid (HF8.out.below ((below_drewN (Below.refl _ _) n).alloc (Nat.le_refl _) _))
          have HRM : ∀ n, Hid (Rd ((w8.drewN n).alloc (.cells #[.int .i32 x0, .int .i32 y0] 21)) ((w8.drewN n).alloc (.cells #[.int .i32 x0, .int .i32 y0] 21)).heap.size (some ⟨w8.heap.size, 0, none⟩) ([x0, y0].map I32)) := fun n => Lib.hid (Rd.made' (w8.drewN n) #[.int .i32 x0, .int .i32 y0] 21)
          have hsz8 := HF8.out.mo.size
          go_wp2
          go_quiet (fail)
          go_wp2
          go_region
          go_wp2_with (at_builtin; refine wpList_append_rd _ rfl (.tmp 79) (.tmp 80) 31 rfl w.heap.size 1 21 i0 (.int .i32 0) 4 Try.underlying31 hi hz0 hz1 hz2' rfl (by decide) _ _ _ rfl (HFX _).out.own _ (some ⟨w8.heap.size, 0, none⟩) 2 2 ([x0, y0].map I32) rfl rfl (HRM _).out (i32_ones _) ?c3 ?c4 ?c5 ?_)
          case c3 => unfold maxLen; omega
          case c4 => omega
          case c5 => simp; omega
          intro v9 w9 hown9 hg9 hat9
          have HF9 := Lib.hid ((HFX _).out.app (xs := [x0, y0]) rfl hown9 hg9 (by first | exact hat9 | simpa using hat9))
          obtain ⟨A9, c9, hv9⟩ := own_sl hown9
          subst hv9
          have hmz : 9000 - lenOf (.slice A9 (zs.length + 2) c9) < 9000 - lenOf (.slice A4 zs.length c4) := by simp [lenOf]; omega
          clear hown9 hg9 hat9 HFX HRM HF8
          go_wp2
          exact ⟨⟨_, _, zs ++ [x0, y0], false, rfl, HF9, HST⟩, hmz⟩
        · have HIS := is_no HFD.out.rp (by simp only; omega) 45 e45
          have HST2 : Hid (ClSt rs a0 q { q' with at_ := at1, bad := b1 } (zs ++ zs1) false) := Lib.hid (HG.out.one hlen HP.out.runes HC.out rfl rfl hat1 hz8 HYES.out HNO.out (fun hb => pkz_no (rs := rs) (q := { q' with at_ := at1, bad := b1 }) (c := 45) hb e45))
          go_wp2_with fail
          refine HIS.mono ?_
          rintro _ w6 ⟨rfl, hb6⟩
          have HFE := Lib.hid (HFD.out.below hb6)
          have HR6 := Lib.hid ((HS1.out.rd.below hb6).more hb6.size)
          clear hb6 HIS HFD
          have hsz6 := HFE.out.mo.size
          go_wp2_with (at_builtin; refine wpList_append_rd _ rfl (.tmp 79) (.tmp 80) 31 rfl w.heap.size 1 21 i0 (.int .i32 0) 4 Try.underlying31 hi hz0 hz1 hz2' rfl (by decide) _ _ _ rfl HFE.out.own _ A1 zs1.length c1 (zs1.map I32) rfl (by simp) HR6.out (i32_ones _) ?c3 ?c4 ?c5 ?_)
          case c3 => unfold maxLen; omega
          case c4 => omega
          case c5 => omega
          intro v7 w7 hown7 hg7 hat7
          have HF7 := Lib.hid (HFE.out.app rfl hown7 hg7 hat7)
          obtain ⟨A7, c7, hv7⟩ := own_sl hown7
          subst hv7
          have hmz : 9000 - lenOf (.slice A7 (zs.length + zs1.length) c7) < 9000 - lenOf (.slice A4 zs.length c4) := by simp [lenOf]; omega
          clear hown7 hg7 hat7 HFE HR6 HS1
          go_wp2
          exact ⟨⟨_, _, zs ++ zs1, false, rfl, HF7, HST2⟩, hmz⟩
end Go.Proofs.Ytdmbgjpidlllcaa.RxClass

namespace Go.Proofs.Ytdmbgjpidlllcaa.RxAll
open Go Go.RowKit Words AppN Km Mo_ RxSpec RxEq RxMem RxNode RxPost RxRow RxAlt RxItem RxAtom RxClass

theorem atom_zero {S : Sl} {rs : List Nat} : AtomC S rs 0 := by
  intro w K o p q ms v _ _ hN hlt
  omega
theorem alt_all {S : Sl} {rs : List Nat} : ∀ N, AltC' S rs N
  | 0 => alt_of (row_of (item_of atom_zero))
  | N + 1 => alt_of (row_of (item_of (atom_of (alt_all N) class_of)))
theorem alt_any {S : Sl} {rs : List Nat} {w : World} {K : Nat → Nat} {o p : Nat} {q : PSt} {ms : List NM} {v : Value} (hr : RP w K o p S rs q ms v) (hp : Pre rs q ms) :
    Calls Try.prog 21 #[.pointer (some ⟨p, 0, none⟩)] w (NPost w K o p S rs 2 q ms (altS (rs.drop q.at_))) :=
  alt_all (rs.length - q.at_) w K o p q ms v hr hp (Nat.le_refl _)
end Go.Proofs.Ytdmbgjpidlllcaa.RxAll

