/- The contract of the program's member. Conditions: the reader lies in memory; its runes are ones that UTF-8 has bytes for. -/
import Derived.Test.YtdmbgjpidlllcaaRqEsc
import Derived.Test.YtdmbgjpidlllcaaPlains
namespace Go.Proofs.Ytdmbgjpidlllcaa.RqMbr
open Go Go.RowKit Words AppN Km Mo_ RxSpec RxEq RxMem RxEsc RqPlain RqMem RqNeed RqTimes RqCont RqEsc RegD

section
variable {P : Program} {md : Region.Mode} {ops : Array Oper} {Q : Exit → Act → World → Prop} {S : World → Prop} {dep : Nat → Bool}
/-- One alone may come up, and it is wanted. -/
theorem wpAnyD_oneW {j : Nat} {o : Oper} {f : Nat} {L : Array Bool} {a : Act} {w : World} (hr : Region.ready md ops L = [j]) (hd : dep j = false) (hi : ops[j]? = some o) (hw : Region.wanted o (yielded ops a.tmps) = true)
    (h : ∀ K : Act → World → Prop, Hid (∀ a' w', S w' → wpAnyD P md ops Q S dep f (L.setIfInBounds j true) a' w' → K a' w') → o.wp P a w K Q) : wpAnyD P md ops Q S dep (f + 1) L a w :=
  ⟨fun h0 => (by rw [hr] at h0; cases h0), fun k hk => by
    obtain rfl : k = j := by rw [hr] at hk; simpa using hk
    exact ⟨fun e => (by rw [hd] at e; cases e), fun _ => by
      unfold wpOp
      simp only [hi, hw, if_true]
      exact .inl (h _ (Lib.hid fun _ _ h1 h2 => ⟨h1, h2⟩))⟩⟩
end
theorem one_iff {m : List Nat} : one m = true ↔ ∃ a, m = [a, a] := by
  unfold one
  constructor
  · intro h
    rw [Bool.and_eq_true, decide_eq_true_eq] at h
    obtain ⟨h1, h2⟩ := h
    match m, h1 with
    | [a, b], _ =>
      have h2 : (a == b) = true := h2
      obtain rfl : a = b := by simpa using h2
      exact ⟨a, rfl⟩
  · rintro ⟨a, rfl⟩
    simp
theorem fromTo_one {a b : Nat} : fromTo [a, a] [b, b] = if a ≤ b then some [a, b] else none := by
  unfold fromTo
  simp
theorem fromTo_no {m k : List Nat} (h : one m = false ∨ one k = false) : fromTo m k = none := by
  unfold fromTo
  rw [if_neg]
  rintro ⟨h1, h2, h3, h4, _⟩
  rcases h with h | h
  · have : one m = true := by unfold one; rw [decide_eq_true h1, h3]; simp
    rw [this] at h; cases h
  · have : one k = true := by unfold one; rw [decide_eq_true h2, h4]; simp
    rw [this] at h; cases h
section
variable {κ B : Nat} {w w' : World} {K K' : Nat → Nat} {o p : Nat} {s s' : Sl} {rs rs' : List Nat} {op dp op' dp' : Nat} {ms : List NM} {v : Value}
theorem CP.of {K1 : Nat → Nat} {w1 : World} {ans : Option (List Nat × List Nat)} {e : Ending} (hm : Mo K K1 (fun x => x = o) w w1) (h : CP κ B K1 o p op dp ms v w1 ans e w') : CP κ B K o p op dp ms v w ans e w' := by
  revert h
  cases ans with
  | none => exact fun h => FP.of hm h
  | some x =>
    obtain ⟨m, r1⟩ := x
    rintro ⟨A, c, s', K', h1, h2, h3, h4⟩
    exact ⟨A, c, s', K', h1, h2, hm.trans h3, RxClean.own_monoA h4.own hm.size, h4.kind⟩
theorem rest_sc {m r1 : List Nat} (hr : ∀ r ∈ rs, UtSpec.sc r) (h : RxSpec.member rs = some (m, r1)) : ∀ r ∈ r1, UtSpec.sc r := by
  cases rs with
  | nil => cases h
  | cons a t =>
    have ht : ∀ r ∈ t, UtSpec.sc r := fun r h => hr r (List.mem_cons_of_mem _ h)
    rw [member_cons] at h
    split at h
    · cases t with
      | nil => cases h
      | cons b t =>
        have key : r1 = t := by
          rw [esc_cons] at h
          repeat' split at h
          all_goals first | (cases h; done) | (simp only [Option.some.injEq, Prod.mk.injEq] at h; exact h.2.symm)
        subst key
        exact fun r h => ht r (List.mem_cons_of_mem _ h)
    split at h
    · cases h
    · cases h; exact ht
set_option maxHeartbeats 12800000 in
set_option maxRecDepth 100000 in
theorem member_any (hκ : κ ≠ o) (h : RQ B w K o p s rs op dp ms v) (hr : ∀ r ∈ rs, UtSpec.sc r) : Calls Try.prog 52 #[.pointer (some ⟨p, 0, none⟩)] w (CP κ B K o p op dp ms v w (piece rs)) := by
  obtain ⟨ans, ha⟩ : ∃ ans, piece rs = ans := ⟨_, rfl⟩
  rw [ha]
  unfold piece at ha
  have HC := part_any (κ := κ) h hr
  cases hm1 : RxSpec.member rs with
  | none =>
    rw [hm1] at HC ha
    subst ha
    unfold CP at HC ⊢
    simp only at HC ⊢
    clear h hr hm1
    go_enter Try.func52, Try.ntmps52
    go_wp2_with fail
    refine HC.mono ?_
    rintro _ w1 ⟨rfl, h1⟩
    exact ⟨rfl, rfl, h1⟩
  | some x =>
    obtain ⟨m, r1⟩ := x
    have HR := Lib.hid (rest_sc hr hm1)
    rw [hm1] at HC ha
    unfold CP at HC
    simp only at HC ha
    have HA := Lib.hid ha
    clear h hr hm1 ha
    go_enter Try.func52, Try.ntmps52
    go_wp2_with fail
    refine HC.mono ?_
    rintro _ w1 ⟨A, c, s1, K1, rfl, hq1, hmo1, hsq⟩
    have HM1 := Lib.hid hmo1
    have HS1 := Lib.hid hsq
    clear HC hmo1 hsq
    by_cases h45 : hd r1 45 = true
    case neg =>
      have h45' : hd r1 45 = false := by simpa using h45
      have HS := skip_no hq1 45 h45'
      have HA := HA.out
      rw [if_neg h45] at HA
      have HQ := Lib.hid hq1
      subst HA
      clear h45 h45' hq1 HR
      go_wp2_with fail
      refine HS.mono ?_
      rintro _ w2 ⟨rfl, hw2⟩
      subst hw2
      clear HS
      go_wp2
      go_ret
      exact ⟨A, c, s1, K1, rfl, HQ.out, HM1.out, HS1.out⟩
    case pos =>
      obtain ⟨t, rfl, ht⟩ := hd_yes h45
      have HS := skip_yes 45 hq1
      have HA := HA.out
      rw [if_pos h45] at HA
      simp only [List.tail_cons] at HA
      have HR := Lib.hid (fun x (hx : x ∈ t) => HR.out x (List.mem_cons_of_mem _ hx))
      have HA := Lib.hid HA
      clear h45 ht hq1
      go_wp2_with fail
      refine HS.mono ?_
      rintro _ w2 ⟨rfl, s2, hq2, hm2⟩
      have HC2 := part_any (κ := κ) hq2 HR.out
      have HM2 := Lib.hid (HM1.out.trans hm2)
      have HS2 := Lib.hid (HS1.out.mo hm2 hκ)
      clear HS hq2 hm2 HM1 HS1
      have HA := HA.out
      cases hk1 : RxSpec.member t with
      | none =>
        rw [hk1] at HC2 HA
        simp only at HA
        subst HA
        unfold CP at HC2 ⊢
        simp only at HC2 ⊢
        clear hk1
        go_wp2_with fail
        refine HC2.mono ?_
        rintro _ w3 ⟨rfl, h3⟩
        exact ⟨rfl, FP.of HM2.out ⟨rfl, h3⟩⟩
      | some y =>
        obtain ⟨k, r2⟩ := y
        rw [hk1] at HC2 HA
        unfold CP at HC2
        simp only at HC2 HA
        have HA := Lib.hid HA
        clear hk1 HR
        go_wp2_with fail
        refine HC2.mono ?_
        rintro _ w3 ⟨A3, c3, s3, K3, rfl, hq3, hm3, hsq3⟩
        have HM3 := Lib.hid (HM2.out.trans hm3)
        have HSM := Lib.hid (HS2.out.mo hm3 hκ)
        have HSK := Lib.hid hsq3
        have HQ3 := Lib.hid hq3
        clear HC2 hm3 hsq3 hq3 HM2 HS2
        have HIM : ∀ wz, Below w3.heap.size w3 wz → Hid (Calls Try.prog 60 #[.slice A m.length c] wz fun e w' => e = .returned (.bool (one m)) ∧ ∃ n, w' = wz.drewN n) := fun wz hb => Lib.hid (isRune_any wz A c m (HSM.out.mo (Mo.same hb) hκ).rd.1)
        have HIK : ∀ wz, Below w3.heap.size w3 wz → Hid (Calls Try.prog 60 #[.slice A3 k.length c3] wz fun e w' => e = .returned (.bool (one k)) ∧ ∃ n, w' = wz.drewN n) := fun wz hb => Lib.hid (isRune_any wz A3 c3 k (HSK.out.mo (Mo.same hb) hκ).rd.1)
        have hdn : ∀ n, Below w3.heap.size w3 (w3.drewN n) := fun n => RxPeek.below_drewN (Below.refl _ _) n
        have HHA := HA.out
        have HS1 : Hid (Below w3.heap.size w3 w3.drew) := Lib.hid (hdn 1)
        clear HA HR
        cases hom : one m with
        | false =>
          rw [fromTo_no (.inl hom)] at HHA
          subst HHA
          simp only [hom] at HIM
          have HCM : ∀ w9, Below w3.heap.size w3 w9 → True := fun _ _ => trivial
          have HCK : ∀ w9, Below w3.heap.size w3 w9 → True := fun _ _ => trivial
          clear hom HIK HSM HSK HQ3
          unfold CP
          simp only
          go_wp2_with fail
          refine wp_region_D (fun j => j == 15) (fun w' => Below w3.heap.size w3 w') (by kernel_rfl) ?_
          refine wpAnyD_take (i := 0) (v := ?_) rfl (by kernel_rfl) (fun _ _ _ h => h) (Or.inl ⟨by kernel_rfl, ?_⟩) (by first | exact HS1.out | exact HS2.out | exact HS3.out) ?_
          rotate_left
          · intro w9 h9
            have y0 := HCM w9 h9
            have y1 := HCK w9 h9
            first | (go_simp; with_reducible rfl) | go_simp
          try simp only [Act.put, List.setIfInBounds_toArray]
          refine wpAnyD_oneW (j := 1) (by kernel_rfl) rfl rfl (by kernel_rfl) (fun KK hKK => ?_)
          go_simp
          with_reducible refine (HIM _ HS1.out).out.mono ?_
          rintro e wy ⟨rfl, hwy⟩
          have HS2 : Hid (Below w3.heap.size w3 wy) := Lib.hid (by obtain ⟨ny, rfl⟩ := hwy; exact RxPeek.below_drewN HS1.out ny)
          clear hwy
          refine hKK.out _ _ HS2.out ?_
          clear hKK KK
          try simp only [Act.put, List.setIfInBounds_toArray, List.set_cons_zero, List.set_cons_succ]
          refine wpAnyD_take (i := 2) (v := ?_) rfl (by kernel_rfl) (fun _ _ _ h => h) (Or.inl ⟨by kernel_rfl, ?_⟩) (by first | exact HS1.out | exact HS2.out | exact HS3.out) ?_
          rotate_left
          · intro w9 h9
            have y0 := HCM w9 h9
            have y1 := HCK w9 h9
            first | (go_simp; with_reducible rfl) | go_simp
          try simp only [Act.put, List.setIfInBounds_toArray]
          refine wpAnyD_take (i := 3) (v := undef) rfl (by kernel_rfl) (fun _ _ _ h => h) (Or.inr ⟨by kernel_rfl, rfl⟩) (by first | exact HS1.out | exact HS2.out | exact HS3.out) ?_
          try simp only [Act.put]
          refine wpAnyD_take (i := 4) (v := undef) rfl (by kernel_rfl) (fun _ _ _ h => h) (Or.inr ⟨by kernel_rfl, rfl⟩) (by first | exact HS1.out | exact HS2.out | exact HS3.out) ?_
          try simp only [Act.put]
          refine wpAnyD_take (i := 5) (v := ?_) rfl (by kernel_rfl) (fun _ _ _ h => h) (Or.inl ⟨by kernel_rfl, ?_⟩) (by first | exact HS1.out | exact HS2.out | exact HS3.out) ?_
          rotate_left
          · intro w9 h9
            have y0 := HCM w9 h9
            have y1 := HCK w9 h9
            first | (go_simp; with_reducible rfl) | go_simp
          try simp only [Act.put]
          refine wpAnyD_take (i := 6) (v := ?_) rfl (by kernel_rfl) (fun _ _ _ h => h) (Or.inl ⟨by kernel_rfl, ?_⟩) (by first | exact HS1.out | exact HS2.out | exact HS3.out) ?_
          rotate_left
          · intro w9 h9
            have y0 := HCM w9 h9
            have y1 := HCK w9 h9
            first | (go_simp; with_reducible rfl) | go_simp
          try simp only [Act.put]
          refine wpAnyD_take (i := 7) (v := undef) rfl (by kernel_rfl) (fun _ _ _ h => h) (Or.inr ⟨by kernel_rfl, rfl⟩) (by first | exact HS1.out | exact HS2.out | exact HS3.out) ?_
          try simp only [Act.put]
          refine wpAnyD_take (i := 8) (v := undef) rfl (by kernel_rfl) (fun _ _ _ h => h) (Or.inr ⟨by kernel_rfl, rfl⟩) (by first | exact HS1.out | exact HS2.out | exact HS3.out) ?_
          try simp only [Act.put]
          refine wpAnyD_take (i := 9) (v := undef) rfl (by kernel_rfl) (fun _ _ _ h => h) (Or.inr ⟨by kernel_rfl, rfl⟩) (by first | exact HS1.out | exact HS2.out | exact HS3.out) ?_
          try simp only [Act.put]
          refine wpAnyD_take (i := 10) (v := undef) rfl (by kernel_rfl) (fun _ _ _ h => h) (Or.inr ⟨by kernel_rfl, rfl⟩) (by first | exact HS1.out | exact HS2.out | exact HS3.out) ?_
          try simp only [Act.put]
          refine wpAnyD_take (i := 11) (v := undef) rfl (by kernel_rfl) (fun _ _ _ h => h) (Or.inr ⟨by kernel_rfl, rfl⟩) (by first | exact HS1.out | exact HS2.out | exact HS3.out) ?_
          try simp only [Act.put]
          refine wpAnyD_take (i := 12) (v := undef) rfl (by kernel_rfl) (fun _ _ _ h => h) (Or.inr ⟨by kernel_rfl, rfl⟩) (by first | exact HS1.out | exact HS2.out | exact HS3.out) ?_
          try simp only [Act.put]
          refine wpAnyD_take (i := 13) (v := undef) rfl (by kernel_rfl) (fun _ _ _ h => h) (Or.inr ⟨by kernel_rfl, rfl⟩) (by first | exact HS1.out | exact HS2.out | exact HS3.out) ?_
          try simp only [Act.put]
          refine wpAnyD_take (i := 14) (v := ?_) rfl (by kernel_rfl) (fun _ _ _ h => h) (Or.inl ⟨by kernel_rfl, ?_⟩) (by first | exact HS1.out | exact HS2.out | exact HS3.out) ?_
          rotate_left
          · intro w9 h9
            have y0 := HCM w9 h9
            have y1 := HCK w9 h9
            first | (go_simp; with_reducible rfl) | go_simp
          try simp only [Act.put]
          refine wpAnyD_dep (j := 15) (by kernel_rfl) rfl rfl rfl (fun KK hKK => ?_)
          go_simp
          with_reducible refine (need_no _).mono ?_
          rintro e wy ⟨rfl, hwy⟩
          subst hwy
          exact ⟨rfl, rfl, K3, HM3.out.trans (Mo.same HS2.out)⟩
        | true =>
          simp only [hom] at HIM
          cases hok : one k with
          | false =>
            rw [fromTo_no (.inr hok)] at HHA
            subst HHA
            simp only [hok] at HIK
            have HCM : ∀ w9, Below w3.heap.size w3 w9 → True := fun _ _ => trivial
            have HCK : ∀ w9, Below w3.heap.size w3 w9 → True := fun _ _ => trivial
            clear hom hok HSM HSK HQ3
            unfold CP
            simp only
            go_wp2_with fail
            refine wp_region_D (fun j => j == 15) (fun w' => Below w3.heap.size w3 w') (by kernel_rfl) ?_
            refine wpAnyD_take (i := 0) (v := ?_) rfl (by kernel_rfl) (fun _ _ _ h => h) (Or.inl ⟨by kernel_rfl, ?_⟩) (by first | exact HS1.out | exact HS2.out | exact HS3.out) ?_
            rotate_left
            · intro w9 h9
              have y0 := HCM w9 h9
              have y1 := HCK w9 h9
              first | (go_simp; with_reducible rfl) | go_simp
            try simp only [Act.put, List.setIfInBounds_toArray]
            refine wpAnyD_oneW (j := 1) (by kernel_rfl) rfl rfl (by kernel_rfl) (fun KK hKK => ?_)
            go_simp
            with_reducible refine (HIM _ HS1.out).out.mono ?_
            rintro e wy ⟨rfl, hwy⟩
            have HS2 : Hid (Below w3.heap.size w3 wy) := Lib.hid (by obtain ⟨ny, rfl⟩ := hwy; exact RxPeek.below_drewN HS1.out ny)
            clear hwy
            refine hKK.out _ _ HS2.out ?_
            clear hKK KK
            try simp only [Act.put, List.setIfInBounds_toArray, List.set_cons_zero, List.set_cons_succ]
            refine wpAnyD_take (i := 2) (v := ?_) rfl (by kernel_rfl) (fun _ _ _ h => h) (Or.inl ⟨by kernel_rfl, ?_⟩) (by first | exact HS1.out | exact HS2.out | exact HS3.out) ?_
            rotate_left
            · intro w9 h9
              have y0 := HCM w9 h9
              have y1 := HCK w9 h9
              first | (go_simp; with_reducible rfl) | go_simp
            try simp only [Act.put, List.setIfInBounds_toArray]
            refine wpAnyD_take (i := 3) (v := ?_) rfl (by kernel_rfl) (fun _ _ _ h => h) (Or.inl ⟨by kernel_rfl, ?_⟩) (by first | exact HS1.out | exact HS2.out | exact HS3.out) ?_
            rotate_left
            · intro w9 h9
              have y0 := HCM w9 h9
              have y1 := HCK w9 h9
              first | (go_simp; with_reducible rfl) | go_simp
            try simp only [Act.put]
            refine wpAnyD_oneW (j := 4) (by kernel_rfl) rfl rfl (by kernel_rfl) (fun KK hKK => ?_)
            go_simp
            with_reducible refine (HIK _ HS2.out).out.mono ?_
            rintro e wy ⟨rfl, hwy⟩
            have HS3 : Hid (Below w3.heap.size w3 wy) := Lib.hid (by obtain ⟨ny, rfl⟩ := hwy; exact RxPeek.below_drewN HS2.out ny)
            clear hwy
            refine hKK.out _ _ HS3.out ?_
            clear hKK KK
            try simp only [Act.put, List.setIfInBounds_toArray, List.set_cons_zero, List.set_cons_succ]
            refine wpAnyD_take (i := 5) (v := ?_) rfl (by kernel_rfl) (fun _ _ _ h => h) (Or.inl ⟨by kernel_rfl, ?_⟩) (by first | exact HS1.out | exact HS2.out | exact HS3.out) ?_
            rotate_left
            · intro w9 h9
              have y0 := HCM w9 h9
              have y1 := HCK w9 h9
              first | (go_simp; with_reducible rfl) | go_simp
            try simp only [Act.put, List.setIfInBounds_toArray]
            refine wpAnyD_take (i := 6) (v := ?_) rfl (by kernel_rfl) (fun _ _ _ h => h) (Or.inl ⟨by kernel_rfl, ?_⟩) (by first | exact HS1.out | exact HS2.out | exact HS3.out) ?_
            rotate_left
            · intro w9 h9
              have y0 := HCM w9 h9
              have y1 := HCK w9 h9
              first | (go_simp; with_reducible rfl) | go_simp
            try simp only [Act.put]
            refine wpAnyD_take (i := 7) (v := undef) rfl (by kernel_rfl) (fun _ _ _ h => h) (Or.inr ⟨by kernel_rfl, rfl⟩) (by first | exact HS1.out | exact HS2.out | exact HS3.out) ?_
            try simp only [Act.put]
            refine wpAnyD_take (i := 8) (v := undef) rfl (by kernel_rfl) (fun _ _ _ h => h) (Or.inr ⟨by kernel_rfl, rfl⟩) (by first | exact HS1.out | exact HS2.out | exact HS3.out) ?_
            try simp only [Act.put]
            refine wpAnyD_take (i := 9) (v := undef) rfl (by kernel_rfl) (fun _ _ _ h => h) (Or.inr ⟨by kernel_rfl, rfl⟩) (by first | exact HS1.out | exact HS2.out | exact HS3.out) ?_
            try simp only [Act.put]
            refine wpAnyD_take (i := 10) (v := undef) rfl (by kernel_rfl) (fun _ _ _ h => h) (Or.inr ⟨by kernel_rfl, rfl⟩) (by first | exact HS1.out | exact HS2.out | exact HS3.out) ?_
            try simp only [Act.put]
            refine wpAnyD_take (i := 11) (v := undef) rfl (by kernel_rfl) (fun _ _ _ h => h) (Or.inr ⟨by kernel_rfl, rfl⟩) (by first | exact HS1.out | exact HS2.out | exact HS3.out) ?_
            try simp only [Act.put]
            refine wpAnyD_take (i := 12) (v := undef) rfl (by kernel_rfl) (fun _ _ _ h => h) (Or.inr ⟨by kernel_rfl, rfl⟩) (by first | exact HS1.out | exact HS2.out | exact HS3.out) ?_
            try simp only [Act.put]
            refine wpAnyD_take (i := 13) (v := undef) rfl (by kernel_rfl) (fun _ _ _ h => h) (Or.inr ⟨by kernel_rfl, rfl⟩) (by first | exact HS1.out | exact HS2.out | exact HS3.out) ?_
            try simp only [Act.put]
            refine wpAnyD_take (i := 14) (v := ?_) rfl (by kernel_rfl) (fun _ _ _ h => h) (Or.inl ⟨by kernel_rfl, ?_⟩) (by first | exact HS1.out | exact HS2.out | exact HS3.out) ?_
            rotate_left
            · intro w9 h9
              have y0 := HCM w9 h9
              have y1 := HCK w9 h9
              first | (go_simp; with_reducible rfl) | go_simp
            try simp only [Act.put]
            refine wpAnyD_dep (j := 15) (by kernel_rfl) rfl rfl rfl (fun KK hKK => ?_)
            go_simp
            with_reducible refine (need_no _).mono ?_
            rintro e wy ⟨rfl, hwy⟩
            subst hwy
            exact ⟨rfl, rfl, K3, HM3.out.trans (Mo.same HS3.out)⟩
          | true =>
            simp only [hok] at HIK
            obtain ⟨a, rfl⟩ := one_iff.1 hom
            obtain ⟨b, rfl⟩ := one_iff.1 hok
            rw [fromTo_one] at HHA
            obtain ⟨g, off, eA, hgb, hcm⟩ := HSM.out.rd.1 (by simp)
            obtain ⟨g3, off3, eA3, hgb3, hck⟩ := HSK.out.rd.1 (by simp)
            skip
            subst eA eA3
            have HCM : ∀ w9, Below w3.heap.size w3 w9 → w9.cell? ⟨g, off, none⟩ = some (.int .i32 (a : Int)) := fun w9 hb => by
              obtain ⟨g', off', e', _, hc⟩ := (HSM.out.mo (Mo.same hb) hκ).rd.1 (by simp)
              skip
              injection e' with e'
              injection e' with e1 e2
              subst e1 e2
              exact hc 0 _ rfl
            have HCK : ∀ w9, Below w3.heap.size w3 w9 → w9.cell? ⟨g3, off3, none⟩ = some (.int .i32 (b : Int)) := fun w9 hb => by
              obtain ⟨g', off', e', _, hc⟩ := (HSK.out.mo (Mo.same hb) hκ).rd.1 (by simp)
              skip
              injection e' with e'
              injection e' with e1 e2
              subst e1 e2
              exact hc 0 _ rfl
            clear hcm hck hom hok
            simp only [List.length_cons, List.length_nil, Nat.zero_add, Nat.reduceAdd] at HIM HIK ⊢
            by_cases hab : a ≤ b
            · rw [if_pos hab] at HHA
              subst HHA
              have d1 : decide ((a : Int) ≤ (b : Int)) = true := decide_eq_true (by omega)
              have d2 : decide (a ≤ b) = true := decide_eq_true hab
              have y0 := HCM w3 (Below.refl _ _)
              have y1 := HCK w3 (Below.refl _ _)
              clear HSM HSK hab
              go_wp2_with fail
              go_quiet (first | (go_at_call 60; first | with_reducible exact Calls.quiet_of (HIM _ (hdn _)).out | with_reducible exact Calls.quiet_of (HIK _ (hdn _)).out) | (go_at_call 18; with_reducible exact Calls.quiet_of_same (need_ok _)))
              have HQ4 := Lib.hid (HQ3.out.below (hdn nq))
              have HM4 := Lib.hid (HM3.out.trans (Mo.same (hdn nq)))
              have z0 := HCM (w3.drewN nq) (hdn nq)
              have z1 := HCK (w3.drewN nq) (hdn nq)
              clear HIM HIK HQ3 HM3 HCM HCK y0 y1
              go_wp2_with fail
              have hsz4 := (hdn nq).size
              clear hdn
              generalize w3.drewN nq = w4 at *
              have HCC : ∀ w9, Below w4.heap.size w4 w9 → w9.cell? ⟨g, off, none⟩ = some (.int .i32 (a : Int)) ∧ w9.cell? ⟨g3, off3, none⟩ = some (.int .i32 (b : Int)) := fun w9 hb => ⟨RxHas.cell_up hb (p := ⟨g, off, none⟩) (Nat.lt_of_lt_of_le hgb hsz4) z0, RxHas.cell_up hb (p := ⟨g3, off3, none⟩) (Nat.lt_of_lt_of_le hgb3 hsz4) z1⟩
              have HS5 : Hid (Below w4.heap.size w4 w4.drew) := Lib.hid (RxPeek.below_drewN (Below.refl _ _) 1)
              have HS6 : Hid (Below w4.heap.size w4 (w4.drew.alloc (.cells #[.int .i32 (a : Int), .int .i32 (b : Int)] 21))) := Lib.hid (HS5.out.alloc (Nat.le_refl _) _)
              refine wp_region_D (fun j => false) (fun w' => Below w4.heap.size w4 w') (by kernel_rfl) ?_
              refine wpAnyD_take (i := 0) (v := ?_) rfl (by kernel_rfl) (fun _ _ _ h => h) (Or.inl ⟨by kernel_rfl, ?_⟩) (by first | exact HS5.out | exact HS6.out) ?_
              rotate_left
              · intro w9 h9
                obtain ⟨y0, y1⟩ := HCC w9 h9
                first | (go_simp; with_reducible rfl) | go_simp
              try simp only [Act.put, List.setIfInBounds_toArray]
              refine wpAnyD_take (i := 1) (v := ?_) rfl (by kernel_rfl) (fun _ _ _ h => h) (Or.inl ⟨by kernel_rfl, ?_⟩) (by first | exact HS5.out | exact HS6.out) ?_
              rotate_left
              · intro w9 h9
                obtain ⟨y0, y1⟩ := HCC w9 h9
                first | (go_simp; with_reducible rfl) | go_simp
              try simp only [Act.put]
              refine wpAnyD_take (i := 2) (v := ?_) rfl (by kernel_rfl) (fun _ _ _ h => h) (Or.inl ⟨by kernel_rfl, ?_⟩) (by first | exact HS5.out | exact HS6.out) ?_
              rotate_left
              · intro w9 h9
                obtain ⟨y0, y1⟩ := HCC w9 h9
                first | (go_simp; with_reducible rfl) | go_simp
              try simp only [Act.put]
              refine wpAnyD_take (i := 3) (v := ?_) rfl (by kernel_rfl) (fun _ _ _ h => h) (Or.inl ⟨by kernel_rfl, ?_⟩) (by first | exact HS5.out | exact HS6.out) ?_
              rotate_left
              · intro w9 h9
                obtain ⟨y0, y1⟩ := HCC w9 h9
                first | (go_simp; with_reducible rfl) | go_simp
              try simp only [Act.put]
              refine wpAnyD_take (i := 4) (v := ?_) rfl (by kernel_rfl) (fun _ _ _ h => h) (Or.inl ⟨by kernel_rfl, ?_⟩) (by first | exact HS5.out | exact HS6.out) ?_
              rotate_left
              · intro w9 h9
                obtain ⟨y0, y1⟩ := HCC w9 h9
                first | (go_simp; with_reducible rfl) | go_simp
              try simp only [Act.put]
              refine wpAnyD_take (i := 5) (v := ?_) rfl (by kernel_rfl) (fun _ _ _ h => h) (Or.inl ⟨by kernel_rfl, ?_⟩) (by first | exact HS5.out | exact HS6.out) ?_
              rotate_left
              · intro w9 h9
                obtain ⟨y0, y1⟩ := HCC w9 h9
                first | (go_simp; with_reducible rfl) | go_simp
              try simp only [Act.put]
              refine wpAnyD_one (j := 6) (by kernel_rfl) rfl rfl rfl (fun KK hKK => ?_)
              go_simp
              refine hKK.out _ _ HS6.out ?_
              clear hKK KK
              try simp only [Act.put, List.setIfInBounds_toArray, List.set_cons_zero, List.set_cons_succ]
              refine wpAnyD_one (j := 7) (by kernel_rfl) rfl rfl rfl (fun KK hKK => ?_)
              go_simp
              refine hKK.out _ _ HS6.out ?_
              clear hKK KK
              try simp only [Act.put, List.setIfInBounds_toArray, List.set_cons_zero, List.set_cons_succ]
              refine ⟨by kernel_rfl, ?_⟩
              go_wp2
              go_ret
              have h9 := CP.of (κ := κ) HM4.out (lit_end (κ := κ) [a, b] (by simp) (HQ4.out.below HS5.out) (Mo.same HS5.out) _ rfl)
              exact h9
            · rw [if_neg hab] at HHA
              subst HHA
              have d1 : decide ((a : Int) ≤ (b : Int)) = false := decide_eq_false (by omega)
              have d2 : decide (a ≤ b) = false := decide_eq_false hab
              clear HSM HSK HQ3 hab
              go_wp2_with fail
              refine wp_region_D (fun j => j == 15) (fun w' => Below w3.heap.size w3 w') (by kernel_rfl) ?_
              refine wpAnyD_take (i := 0) (v := ?_) rfl (by kernel_rfl) (fun _ _ _ h => h) (Or.inl ⟨by kernel_rfl, ?_⟩) (by first | exact HS1.out | exact HS2.out | exact HS3.out) ?_
              rotate_left
              · intro w9 h9
                have y0 := HCM w9 h9
                have y1 := HCK w9 h9
                first | (go_simp; with_reducible rfl) | go_simp
              try simp only [Act.put, List.setIfInBounds_toArray]
              refine wpAnyD_oneW (j := 1) (by kernel_rfl) rfl rfl (by kernel_rfl) (fun KK hKK => ?_)
              go_simp
              with_reducible refine (HIM _ HS1.out).out.mono ?_
              rintro e wy ⟨rfl, hwy⟩
              have HS2 : Hid (Below w3.heap.size w3 wy) := Lib.hid (by obtain ⟨ny, rfl⟩ := hwy; exact RxPeek.below_drewN HS1.out ny)
              clear hwy
              refine hKK.out _ _ HS2.out ?_
              clear hKK KK
              try simp only [Act.put, List.setIfInBounds_toArray, List.set_cons_zero, List.set_cons_succ]
              refine wpAnyD_take (i := 2) (v := ?_) rfl (by kernel_rfl) (fun _ _ _ h => h) (Or.inl ⟨by kernel_rfl, ?_⟩) (by first | exact HS1.out | exact HS2.out | exact HS3.out) ?_
              rotate_left
              · intro w9 h9
                have y0 := HCM w9 h9
                have y1 := HCK w9 h9
                first | (go_simp; with_reducible rfl) | go_simp
              try simp only [Act.put, List.setIfInBounds_toArray]
              refine wpAnyD_take (i := 3) (v := ?_) rfl (by kernel_rfl) (fun _ _ _ h => h) (Or.inl ⟨by kernel_rfl, ?_⟩) (by first | exact HS1.out | exact HS2.out | exact HS3.out) ?_
              rotate_left
              · intro w9 h9
                have y0 := HCM w9 h9
                have y1 := HCK w9 h9
                first | (go_simp; with_reducible rfl) | go_simp
              try simp only [Act.put]
              refine wpAnyD_oneW (j := 4) (by kernel_rfl) rfl rfl (by kernel_rfl) (fun KK hKK => ?_)
              go_simp
              with_reducible refine (HIK _ HS2.out).out.mono ?_
              rintro e wy ⟨rfl, hwy⟩
              have HS3 : Hid (Below w3.heap.size w3 wy) := Lib.hid (by obtain ⟨ny, rfl⟩ := hwy; exact RxPeek.below_drewN HS2.out ny)
              clear hwy
              refine hKK.out _ _ HS3.out ?_
              clear hKK KK
              try simp only [Act.put, List.setIfInBounds_toArray, List.set_cons_zero, List.set_cons_succ]
              refine wpAnyD_take (i := 5) (v := ?_) rfl (by kernel_rfl) (fun _ _ _ h => h) (Or.inl ⟨by kernel_rfl, ?_⟩) (by first | exact HS1.out | exact HS2.out | exact HS3.out) ?_
              rotate_left
              · intro w9 h9
                have y0 := HCM w9 h9
                have y1 := HCK w9 h9
                first | (go_simp; with_reducible rfl) | go_simp
              try simp only [Act.put, List.setIfInBounds_toArray]
              refine wpAnyD_take (i := 6) (v := ?_) rfl (by kernel_rfl) (fun _ _ _ h => h) (Or.inl ⟨by kernel_rfl, ?_⟩) (by first | exact HS1.out | exact HS2.out | exact HS3.out) ?_
              rotate_left
              · intro w9 h9
                have y0 := HCM w9 h9
                have y1 := HCK w9 h9
                first | (go_simp; with_reducible rfl) | go_simp
              try simp only [Act.put]
              refine wpAnyD_take (i := 7) (v := ?_) rfl (by kernel_rfl) (fun _ _ _ h => h) (Or.inl ⟨by kernel_rfl, ?_⟩) (by first | exact HS1.out | exact HS2.out | exact HS3.out) ?_
              rotate_left
              · intro w9 h9
                have y0 := HCM w9 h9
                have y1 := HCK w9 h9
                first | (go_simp; with_reducible rfl) | go_simp
              try simp only [Act.put]
              refine wpAnyD_take (i := 8) (v := ?_) rfl (by kernel_rfl) (fun _ _ _ h => h) (Or.inl ⟨by kernel_rfl, ?_⟩) (by first | exact HS1.out | exact HS2.out | exact HS3.out) ?_
              rotate_left
              · intro w9 h9
                have y0 := HCM w9 h9
                have y1 := HCK w9 h9
                first | (go_simp; with_reducible rfl) | go_simp
              try simp only [Act.put]
              refine wpAnyD_take (i := 9) (v := ?_) rfl (by kernel_rfl) (fun _ _ _ h => h) (Or.inl ⟨by kernel_rfl, ?_⟩) (by first | exact HS1.out | exact HS2.out | exact HS3.out) ?_
              rotate_left
              · intro w9 h9
                have y0 := HCM w9 h9
                have y1 := HCK w9 h9
                first | (go_simp; with_reducible rfl) | go_simp
              try simp only [Act.put]
              refine wpAnyD_take (i := 10) (v := ?_) rfl (by kernel_rfl) (fun _ _ _ h => h) (Or.inl ⟨by kernel_rfl, ?_⟩) (by first | exact HS1.out | exact HS2.out | exact HS3.out) ?_
              rotate_left
              · intro w9 h9
                have y0 := HCM w9 h9
                have y1 := HCK w9 h9
                first | (go_simp; with_reducible rfl) | go_simp
              try simp only [Act.put]
              refine wpAnyD_take (i := 11) (v := ?_) rfl (by kernel_rfl) (fun _ _ _ h => h) (Or.inl ⟨by kernel_rfl, ?_⟩) (by first | exact HS1.out | exact HS2.out | exact HS3.out) ?_
              rotate_left
              · intro w9 h9
                have y0 := HCM w9 h9
                have y1 := HCK w9 h9
                first | (go_simp; with_reducible rfl) | go_simp
              try simp only [Act.put]
              refine wpAnyD_take (i := 12) (v := ?_) rfl (by kernel_rfl) (fun _ _ _ h => h) (Or.inl ⟨by kernel_rfl, ?_⟩) (by first | exact HS1.out | exact HS2.out | exact HS3.out) ?_
              rotate_left
              · intro w9 h9
                have y0 := HCM w9 h9
                have y1 := HCK w9 h9
                first | (go_simp; with_reducible rfl) | go_simp
              try simp only [Act.put]
              refine wpAnyD_take (i := 13) (v := ?_) rfl (by kernel_rfl) (fun _ _ _ h => h) (Or.inl ⟨by kernel_rfl, ?_⟩) (by first | exact HS1.out | exact HS2.out | exact HS3.out) ?_
              rotate_left
              · intro w9 h9
                have y0 := HCM w9 h9
                have y1 := HCK w9 h9
                first | (go_simp; with_reducible rfl) | go_simp
              try simp only [Act.put]
              refine wpAnyD_take (i := 14) (v := ?_) rfl (by kernel_rfl) (fun _ _ _ h => h) (Or.inl ⟨by kernel_rfl, ?_⟩) (by first | exact HS1.out | exact HS2.out | exact HS3.out) ?_
              rotate_left
              · intro w9 h9
                have y0 := HCM w9 h9
                have y1 := HCK w9 h9
                first | (go_simp; with_reducible rfl) | go_simp
              try simp only [Act.put]
              refine wpAnyD_dep (j := 15) (by kernel_rfl) rfl rfl rfl (fun KK hKK => ?_)
              go_simp
              with_reducible refine (need_no _).mono ?_
              rintro e wy ⟨rfl, hwy⟩
              subst hwy
              exact ⟨rfl, rfl, K3, HM3.out.trans (Mo.same HS3.out)⟩
end
end Go.Proofs.Ytdmbgjpidlllcaa.RqMbr
