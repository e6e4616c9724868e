/- UtfJoins: for every two texts (of bulk at most 1048576) and every place the statement's function answers true and leaves its arguments as they were. -/
import Derived.Test.YtdfokldckgiiiaaUtAwake
import Derived.Test.YtdfokldckgiiiaaUtOne
import Derived.Test.YtdfokldckgiiiaaBulk
import Derived.Test.YtdfokldckgiiiaaOpen
import Derived.ChangeMaps5
namespace Go.Proofs.Ytdfokldckgiiiaa.utfJoins
open Go Go.ChangeShapes Go.WideShapes Go.ChangeAt Go.RowKit Words UtSpec UtShelf UtSmall UtRange UtFold UtOwn UtAwake UtOne Ope Bulk
open Go.ChangeMaps (open_string)

theorem app_list (a b : ByteArray) : (a ++ b).data.toList = a.data.toList ++ b.data.toList := by simp
theorem app_size (a b : ByteArray) : (a ++ b).size = a.size + b.size := ByteArray.size_append

set_option maxHeartbeats 1600000 in
set_option maxRecDepth 100000 in
theorem walk_no (w : World) (s : ByteArray) (hs : s.size ≤ maxLen) (hb : s.size ≤ 1048576) (t : ByteArray) (ht : t.size ≤ maxLen) (hbt : t.size ≤ 1048576) (at_ : Int) (h : (vals s.data.toList && vals t.data.toList) = false) :
    Calls Try.prog 6 #[.string s, .string t, .int .i64 at_] w fun e w' => e = .returned (.bool true) ∧ Below w.heap.size w w' := by
  have e2 : s.data.toList.length = s.size := by simp
  have e3 : t.data.toList.length = t.size := by simp
  have hfl := fold_len s.data.toList
  have hgl := fold_len t.data.toList
  have HA := Lib.hid (awake_any w)
  obtain ⟨F, hF⟩ : ∃ F, fold s.data.toList = F := ⟨_, rfl⟩
  obtain ⟨G, hG⟩ : ∃ G, fold t.data.toList = G := ⟨_, rfl⟩
  have f1 : vals (F ++ G) = true := by rw [← hF, ← hG]; exact vals_folds _ _
  rw [hF] at hfl
  rw [hG] at hgl
  have hsF : (⟨F.toArray⟩ : ByteArray).size = F.length := by show F.toArray.size = _; simp
  have hsG : (⟨G.toArray⟩ : ByteArray).size = G.length := by show G.toArray.size = _; simp
  have HF := fun w => Lib.hid (fold_at s w F (by omega) hF (by omega))
  have HG := fun w => Lib.hid (fold_at t w G (by omega) hG (by omega))
  have HV := fun w => Lib.hid (valid_at (⟨F.toArray⟩ ++ ⟨G.toArray⟩) w true (by rw [app_size]; unfold maxLen; omega) (by rw [app_list]; exact f1))
  have hbF : (⟨F.toArray⟩ : ByteArray).size ≤ 10000000 := by omega
  have hbG : (⟨G.toArray⟩ : ByteArray).size ≤ 10000000 := by omega
  obtain ⟨FS, hFS⟩ : ∃ FS : ByteArray, ⟨F.toArray⟩ = FS := ⟨_, rfl⟩
  obtain ⟨GS, hGS⟩ : ∃ GS : ByteArray, ⟨G.toArray⟩ = GS := ⟨_, rfl⟩
  rw [hFS] at HF HV hbF
  rw [hGS] at HG HV hbG
  have HS := fun w => Lib.hid (valid_any s w hs)
  have HT := fun w => Lib.hid (valid_any t w ht)
  clear hF hG f1 hfl hgl hsF hsG e2 e3 hFS hGS
  cases hvs : vals s.data.toList with
  | false =>
    rw [hvs] at HS
    clear hvs h
    go_enter Try.func6, Try.ntmps6
    go_wp2_with fail
    refine HA.out.mono ?_
    rintro e w1 ⟨rfl, hb1⟩
    have HB1 := Lib.hid hb1
    clear hb1 HA
    go_wp2_with fail
    refine (HS _).out.mono ?_
    rintro e w2 ⟨rfl, hb2⟩
    have HB2 := Lib.hid (below_step HB1.out hb2)
    clear hb2
    go_wp2_with fail
    refine (HF _).out.mono ?_
    rintro e w3 ⟨rfl, hb3⟩
    have HB3 := Lib.hid (below_step HB2.out hb3)
    clear hb3
    go_wp2_with fail
    refine (HG _).out.mono ?_
    rintro e w4 ⟨rfl, hb4⟩
    have HB4 := Lib.hid (below_step HB3.out hb4)
    clear hb4
    go_wp2_with fail
    refine (HV _).out.mono ?_
    rintro e w5 ⟨rfl, hb5⟩
    have HB5 := Lib.hid (below_step HB4.out hb5)
    clear hb5
    go_wp2
    go_ret
    exact ⟨rfl, HB5.out⟩
  | true =>
    rw [hvs] at HS h
    rw [Bool.true_and] at h
    rw [h] at HT
    clear hvs h
    go_enter Try.func6, Try.ntmps6
    go_wp2_with fail
    refine HA.out.mono ?_
    rintro e w1 ⟨rfl, hb1⟩
    have HB1 := Lib.hid hb1
    clear hb1 HA
    go_wp2_with fail
    refine (HS _).out.mono ?_
    rintro e w2 ⟨rfl, hb2⟩
    have HB2 := Lib.hid (below_step HB1.out hb2)
    clear hb2
    go_wp2_with fail
    refine (HT _).out.mono ?_
    rintro e w6 ⟨rfl, hb6⟩
    have HB6 := Lib.hid (below_step HB2.out hb6)
    clear hb6
    go_wp2_with fail
    refine (HF _).out.mono ?_
    rintro e w3 ⟨rfl, hb3⟩
    have HB3 := Lib.hid (below_step HB6.out hb3)
    clear hb3
    go_wp2_with fail
    refine (HG _).out.mono ?_
    rintro e w4 ⟨rfl, hb4⟩
    have HB4 := Lib.hid (below_step HB3.out hb4)
    clear hb4
    go_wp2_with fail
    refine (HV _).out.mono ?_
    rintro e w5 ⟨rfl, hb5⟩
    have HB5 := Lib.hid (below_step HB4.out hb5)
    clear hb5
    go_wp2
    go_ret
    exact ⟨rfl, HB5.out⟩

theorem place_of (x : Int) (n : Nat) : ∃ k : Nat, (IntKind.u64.wrap x).tmod ((n : Int) + 1) = (k : Int) ∧ k ≤ n := by
  rw [IntKind.wrap_u64]
  have h0 : 0 ≤ x % 18446744073709551616 := Int.emod_nonneg _ (by omega)
  generalize x % 18446744073709551616 = y at *
  rw [Int.tmod_eq_emod_of_nonneg h0]
  have h1 := Int.emod_nonneg y (show (n : Int) + 1 ≠ 0 by omega)
  have h2 := Int.emod_lt_of_pos y (show (0 : Int) < (n : Int) + 1 by omega)
  exact ⟨(y % ((n : Int) + 1)).toNat, by omega, by omega⟩

set_option maxHeartbeats 6400000 in
set_option maxRecDepth 100000 in
theorem walk_yes (w : World) (s : ByteArray) (hs : s.size ≤ maxLen) (hb : s.size ≤ 1048576) (t : ByteArray) (ht : t.size ≤ maxLen) (hbt : t.size ≤ 1048576) (at_ : Int) (wa : (Lit.int .i64 at_).wf = true) (hvs : vals s.data.toList = true) (hvt : vals t.data.toList = true) :
    Calls Try.prog 6 #[.string s, .string t, .int .i64 at_] w fun e w' => e = .returned (.bool true) ∧ Below w.heap.size w w' := by
  obtain ⟨ha0, ha1⟩ := bounds_i64 wa
  clear wa
  have e2 : s.data.toList.length = s.size := by simp
  have e3 : t.data.toList.length = t.size := by simp
  have hfl := fold_len s.data.toList
  have hgl := fold_len t.data.toList
  obtain ⟨j1, j2, j3⟩ := vals_join hvs hvt
  have HA := Lib.hid (awake_any w)
  obtain ⟨F, hF⟩ : ∃ F, fold s.data.toList = F := ⟨_, rfl⟩
  obtain ⟨G, hG⟩ : ∃ G, fold t.data.toList = G := ⟨_, rfl⟩
  obtain ⟨C, hC⟩ : ∃ C, cnt s.data.toList = C := ⟨_, rfl⟩
  obtain ⟨D, hD⟩ : ∃ D, cnt t.data.toList = D := ⟨_, rfl⟩
  have hCl : C ≤ s.size := by rw [← hC, ← e2]; exact runes_len _
  have hDl : D ≤ t.size := by rw [← hD, ← e3]; exact runes_len _
  rw [hF] at hfl j3
  rw [hG] at hgl j3
  rw [hC, hD] at j2
  have HF := fun w => Lib.hid (fold_at s w F (by omega) hF (by omega))
  have HG := fun w => Lib.hid (fold_at t w G (by omega) hG (by omega))
  have HC := fun w => Lib.hid (count_at s w C hs hC)
  have HD := fun w => Lib.hid (count_at t w D ht hD)
  have HVS := fun w => Lib.hid (valid_at s w true hs hvs)
  have HVT := fun w => Lib.hid (valid_at t w true ht hvt)
  have HVJ := fun w => Lib.hid (valid_at (s ++ t) w true (by rw [app_size]; unfold maxLen; omega) (by rw [app_list]; exact j1))
  have HCJ := fun w => Lib.hid (count_at (s ++ t) w (C + D) (by rw [app_size]; unfold maxLen; omega) (by rw [app_list]; exact j2))
  have HFJ := fun w => Lib.hid (fold_at (s ++ t) w (F ++ G) (by rw [app_size]; omega) (by rw [app_list]; exact j3) (by rw [List.length_append]; omega))
  have hJ : (⟨(F ++ G).toArray⟩ : ByteArray) = ⟨F.toArray⟩ ++ ⟨G.toArray⟩ := by
    apply ByteArray.ext
    simp
  have hsF : (⟨F.toArray⟩ : ByteArray).size ≤ 10000000 := by show F.toArray.size ≤ _; simp; omega
  have hsG : (⟨G.toArray⟩ : ByteArray).size ≤ 10000000 := by show G.toArray.size ≤ _; simp; omega
  obtain ⟨FS, hFS⟩ : ∃ FS : ByteArray, ⟨F.toArray⟩ = FS := ⟨_, rfl⟩
  obtain ⟨GS, hGS⟩ : ∃ GS : ByteArray, ⟨G.toArray⟩ = GS := ⟨_, rfl⟩
  rw [hFS] at HF hJ hsF
  rw [hGS] at HG hJ hsG
  rw [hJ] at HFJ
  have HCUT := Lib.hid (fun k (hk : k ≤ s.data.toList.length) W hW => vals_cut hvs (k := k) hk W hW)
  have HAT := Lib.hid (And.intro ha0 ha1)
  have HCJ' : ∀ w, Hid (Calls Try.prog 11 #[.string (s ++ t)] w fun e w' => e = .returned (.int .i64 ((C : Int) + (D : Int))) ∧ Below w.heap.size w w') := fun w => Lib.hid (by
    have h := (HCJ w).out
    rwa [show ((C + D : Nat) : Int) = (C : Int) + (D : Int) by simp] at h)
  have hCD : (((C : Int) + (D : Int)) != (C : Int) + (D : Int)) = false := bne_self_eq_false _
  clear hF hG hC hD j1 j2 j3 hfl hgl hFS hGS hJ hvs hvt ha0 ha1 HCJ e2 e3
  obtain ⟨k, hk, hks⟩ := place_of at_ s.size
  clear HAT
  go_enter Try.func6, Try.ntmps6
  go_wp2_with fail
  refine HA.out.mono ?_
  rintro e w1 ⟨rfl, hb1⟩
  have HB1 := Lib.hid hb1
  clear hb1 HA
  go_wp2_with fail
  refine (HVS _).out.mono ?_
  rintro e w2 ⟨rfl, hb2⟩
  have HB2 := Lib.hid (below_step HB1.out hb2)
  clear hb2
  go_wp2_with fail
  refine (HVT _).out.mono ?_
  rintro e w3 ⟨rfl, hb3⟩
  have HB3 := Lib.hid (below_step HB2.out hb3)
  clear hb3
  go_wp2_with fail
  refine (HVJ _).out.mono ?_
  rintro e w4 ⟨rfl, hb4⟩
  have HB4 := Lib.hid (below_step HB3.out hb4)
  clear hb4
  go_wp2_with fail
  refine (HCJ' _).out.mono ?_
  rintro e w5 ⟨rfl, hb5⟩
  have HB5 := Lib.hid (below_step HB4.out hb5)
  clear hb5
  go_wp2_with fail
  refine (HC _).out.mono ?_
  rintro e w6 ⟨rfl, hb6⟩
  have HB6 := Lib.hid (below_step HB5.out hb6)
  clear hb6
  go_wp2_with fail
  refine (HD _).out.mono ?_
  rintro e w7 ⟨rfl, hb7⟩
  have HB7 := Lib.hid (below_step HB6.out hb7)
  clear hb7
  go_wp2_with fail
  refine (HFJ _).out.mono ?_
  rintro e w8 ⟨rfl, hb8⟩
  have HB8 := Lib.hid (below_step HB7.out hb8)
  clear hb8
  go_wp2_with fail
  refine (HF _).out.mono ?_
  rintro e w9 ⟨rfl, hb9⟩
  have HB9 := Lib.hid (below_step HB8.out hb9)
  clear hb9
  go_wp2_with fail
  refine (HG _).out.mono ?_
  rintro e w10 ⟨rfl, hb10⟩
  have HB10 := Lib.hid (below_step HB9.out hb10)
  clear hb10
  clear HC HD HVT HVJ HCJ' HFJ HF HG HB1 HB2 HB3 HB4 HB5 HB6 HB7 HB8 HB9
  by_cases hlt : k < s.size
  · obtain ⟨b, hbv⟩ : ∃ b, (s[k]'hlt).toNat = b := ⟨_, rfl⟩
    have hab : at' s.data.toList k = b := by
      rw [← hbv]
      have := at_byte (s := s) (p := 0) (k := k) (by omega)
      simpa using this.symm
    have q0 : ((k : Int) == (s.size : Int)) = false := by simp; omega
    have q1 : (k == s.size) = false := by simp; omega
    have HC2 := HCUT.out k (by simpa using hks)
    have e2 : s.data.toList.length = s.size := by simp
    rw [hab, e2, q1, Bool.false_or] at HC2
    have hbl : b < 256 := by rw [← hbv]; exact (s[k]'hlt).toNat_lt
    have key : (∃ W, W = true ∧ W = (decide (b < 128) || decide (191 < b)) ∧ decide ((b : Int) < 128) = true) ∨ (∃ W, W = true ∧ W = (decide (b < 128) || decide (191 < b)) ∧ decide ((b : Int) < 128) = false ∧ decide (191 < (b : Int)) = true) ∨
        (∃ W, W = false ∧ W = (decide (b < 128) || decide (191 < b)) ∧ decide ((b : Int) < 128) = false ∧ decide (191 < (b : Int)) = false) := by
      by_cases h1 : b < 128
      · exact .inl ⟨true, rfl, by simp [h1], by simp; omega⟩
      by_cases h2 : 191 < b
      · exact .inr (.inl ⟨true, rfl, by simp [h2], by simp; omega, by simp; omega⟩)
      · exact .inr (.inr ⟨false, rfl, by simp [h1, h2], by simp; omega, by simp; omega⟩)
    clear HCUT e2 hab q1 HVS
    rcases key with ⟨W, hW, hWW, d1⟩ | ⟨W, hW, hWW, d1, d2⟩ | ⟨W, hW, hWW, d1, d2⟩
    all_goals
      obtain ⟨c1, c2⟩ := HC2 W hWW
      subst hW
      have t1 : (s.extract 0 k).data.toList = s.data.toList.take k := by rw [Lib.extract_data]; simp
      have t2 : (s.extract k s.size).data.toList = s.data.toList.drop k := Lib.extract_to_end s k
      have z1 : (s.extract 0 k).size ≤ maxLen := by
        have h := congrArg List.length t1
        simp only [List.length_take, Array.length_toList] at h
        have h9 : (s.extract 0 k).data.size = (s.extract 0 k).size := rfl
        unfold maxLen at *
        omega
      have z2 : (s.extract k s.size).size ≤ maxLen := by
        have h := congrArg List.length t2
        simp only [List.length_drop, Array.length_toList] at h
        have h9 : (s.extract k s.size).data.size = (s.extract k s.size).size := rfl
        have h8 : s.data.size = s.size := rfl
        unfold maxLen at *
        omega
      rw [← t1] at c1
      rw [← t2] at c2
      have HX := fun w => Lib.hid (valid_at _ w _ z1 c1)
      have HY := fun w => Lib.hid (valid_at _ w _ z2 c2)
      clear t1 t2 z1 z2
      clear HC2 c1 c2 hWW
      go_wp2_with fail
      refine (HX _).out.mono ?_
      rintro e w11 ⟨rfl, hb11⟩
      have HB11 := Lib.hid (below_step HB10.out hb11)
      clear hb11
      go_wp2_with fail
      refine (HY _).out.mono ?_
      rintro e w12 ⟨rfl, hb12⟩
      have HB12 := Lib.hid (below_step HB11.out hb12)
      clear hb12
      go_wp2
      go_ret
      exact ⟨rfl, HB12.out⟩
  · obtain rfl : k = s.size := by omega
    have q0 : ((s.size : Int) == (s.size : Int)) = true := by simp
    clear HCUT hlt hks
    go_wp2_with fail
    refine (HVS _).out.mono ?_
    rintro e w11 ⟨rfl, hb11⟩
    have HB11 := Lib.hid (below_step HB10.out hb11)
    clear hb11
    have HE := fun w => Lib.hid (valid_at ByteArray.empty w true (by decide) (by decide +kernel))
    go_wp2_with fail
    refine (HE _).out.mono ?_
    rintro e w12 ⟨rfl, hb12⟩
    have HB12 := Lib.hid (below_step HB11.out hb12)
    clear hb12
    go_wp2
    go_ret
    exact ⟨rfl, HB12.out⟩

theorem walk (w : World) (s : ByteArray) (hs : s.size ≤ maxLen) (hb : s.data.toList.length ≤ 1048576) (t : ByteArray) (ht : t.size ≤ maxLen) (hbt : t.data.toList.length ≤ 1048576) (at_ : Int) (wa : (Lit.int .i64 at_).wf = true) :
    Calls Try.prog 6 #[.string s, .string t, .int .i64 at_] w fun e w' => e = .returned (.bool true) ∧ Below w.heap.size w w' := by
  have e2 : s.data.toList.length = s.size := by simp
  have e3 : t.data.toList.length = t.size := by simp
  rw [e2] at hb
  rw [e3] at hbt
  cases h : (vals s.data.toList && vals t.data.toList) with
  | false => exact walk_no w s hs hb t ht hbt at_ h
  | true =>
    rw [Bool.and_eq_true] at h
    exact walk_yes w s hs hb t ht hbt at_ wa h.1 h.2
theorem own : ownKnob Try.prog.godebug = none := by kernel_rfl
theorem laid : laidOutB Try.prog = true := by kernel_rfl
theorem allRead : (Try.f6.params.toList.all fun t => Try.prog.readableRec t && decide (t < Try.prog.types.size)) = true := by kernel_rfl
set_option maxRecDepth 100000 in
theorem contract (H : Type) (enc : TypeId × Value → H) (W : World) (base : Nat) (args : Array Value) (ds gs : List (DataW H)) (before : List MemPlace)
    (hval : ∀ (j : Nat) t v, Try.f6.params[j]? = some t → args[j]? = some v → Value.okWide Try.prog W .any base t v)
    (hW : DataW.Whole enc Try.prog Try.f6.params.toList Rows.utfJoinsSpec.vars false W args.toList ds gs before) (hk : Rows.uptoSmall H (ds ++ gs) = true) :
    Calls Try.prog 6 args W fun e W' => ∃ v, e = .returned v ∧ Rows.utfJoinsSpec.post enc Try.prog Try.f6 false true false false W args v W' := by
  have hW' := hW
  obtain ⟨p, q, hA0, hV, rfl, hfz, hnd⟩ := hW
  obtain ⟨rfl, rfl⟩ := trodVars_none hV
  have hlt : ∀ x ∈ p, x.block < W.heap.size := fun x hx => hW'.lt x (by simp [hx])
  have hA : DataW.TrodAll enc Try.prog W 0 (fun _ => true) true Try.f6.params.toList args.toList ds p := hA0
  rw [Try.params6] at hA hval
  obtain ⟨v0, vs0, d0, ds0, p0, q0, hargs, rfl, rfl, h0, r0⟩ := trodAll_cons hA
  obtain ⟨v1, vs1, d1, ds1, p1, q1, rfl, rfl, rfl, h1, r1⟩ := trodAll_cons r0
  obtain ⟨v2, vs2, d2, ds2, p2, q2, rfl, rfl, rfl, h2, r2⟩ := trodAll_cons r1
  obtain ⟨rfl, rfl, rfl⟩ := trodAll_nil r2
  obtain rfl : args = #[v0, v1, v2] := by cases args; simp_all
  have hkb : Rows.uptoBulkAll ([d0, d1, d2] ++ []) ≤ 1048576 := of_decide_eq_true hk
  obtain ⟨s0, rfl, rfl, rfl, hs0⟩ := open_string Try.underlying9 (hval 0 9 v0 rfl rfl) h0
  have hb0 : s0.data.toList.length ≤ 1048576 := by simp only [List.append_nil, Rows.uptoBulkAll, Rows.uptoBulk] at hkb; omega
  obtain ⟨s1, rfl, rfl, rfl, hs1⟩ := open_string Try.underlying9 (hval 1 9 v1 rfl rfl) h1
  have hb1 : s1.data.toList.length ≤ 1048576 := by simp only [List.append_nil, Rows.uptoBulkAll, Rows.uptoBulk] at hkb; omega
  obtain ⟨a2, rfl, rfl, rfl, w2⟩ := open_int Try.underlying3 (hval 2 3 v2 rfl rfl) h2
  refine (walk W s0 hs0 hb0 s1 hs1 hb1 a2 w2).mono fun e W' ⟨he, hb⟩ => ?_
  subst he
  exact ⟨_, rfl, law_post laid (fun t ht => by have h := List.all_eq_true.1 allRead t ht; rw [Bool.and_eq_true, decide_eq_true_eq] at h; exact h) rfl (by kernel_rfl) Try.underlying4 rfl hW' hb⟩
set_option maxRecDepth 100000 in
theorem lifted (os : Os) (started : os.Started) (H : Type) (enc : TypeId × Value → H) (F : Stop.Interp) :
    ReturnsInHanded {} Try.checked os 6 .any ((Rows.OpenSpec.upto Rows.utfJoinsSpec).pre6 enc Try.prog Try.f6 Rows.utfJoinsUptoRow.domain false) (((Rows.OpenSpec.upto Rows.utfJoinsSpec).at F).post enc Try.prog Try.f6 false true false false) := by
  refine returnsInHanded_of_cond (C := Try.checked) (s := Rows.OpenSpec.upto Rows.utfJoinsSpec) (k := Rows.uptoSmall) rfl own started (by kernel_rfl) Try.func6
    (OpenSpec.witness (enc := enc) (C := Try.checked) (s := Rows.OpenSpec.upto Rows.utfJoinsSpec) (k := Rows.uptoSmall) rfl false ⟨#[], #[.string ByteArray.empty, .string ByteArray.empty, .int .i64 0], []⟩ 8 (by kernel_rfl) (by kernel_rfl) (by kernel_rfl)
      (x := ([.lit (.string []), .lit (.string []), .lit (.int .i64 0)], [], [])) (by kernel_rfl) rfl (by kernel_rfl)) ?_
  intro W base args ds gs before hval hW _ hk _
  exact contract H enc W base args ds gs before hval hW hk
theorem over : Rows.utfJoinsUptoRow.holds Try.pinned (Rows.OpenSpec.upto Rows.utfJoinsSpec) :=
  OpenClaim.holds_of_cond 6 Try.f6 rfl rfl rfl rfl rfl rfl rfl ⟨rfl, rfl, rfl, rfl, rfl⟩ rfl rfl rfl rfl rfl (by kernel_rfl) Try.func6 (by kernel_rfl)
    (of_decide_eq_true (by kernel_rfl)) (by unfold Func.isWrapper; first | (rw [if_pos (by decide +kernel)]; kernel_rfl) | (rw [if_neg (by decide +kernel)]; exact ⟨rfl, rfl⟩))
    (fun os started H enc _ F => lifted os started H enc F)
theorem proved : Rows.UtfJoinsUptoSaid := over

end Go.Proofs.Ytdfokldckgiiiaa.utfJoins
