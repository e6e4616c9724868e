/- The program's reading of one label: escaped, cutValue. Condition: a text of at most 2^30 bytes. -/
import Derived.Test.YtngkhcbnndkdeaaLpText
import Derived.Test.YtngkhcbnndkdeaaLpCan1
import Derived.Test.YtngkhcbnndkdeaaAppendN
import Derived.Test.YtngkhcbnndkdeaaUtRange
import Derived.Deep.RegionLaw
import Derived.BigRegion
namespace Go.Proofs.Ytngkhcbnndkdeaa.LpRead1
open Go Go.RowKit Words AppN UtSpec UtShelf UtRange Less LbSpec LbText LbMem LbRef LbCmp UtOwn LpOrd LpCan1 LpText

theorem info_u8 : (Try.prog.info? 5).map (fun i => (i.zero, i.size, i.bytes)) = some (some (.int .u8 0), 1, 1) := by kernel_rfl
theorem ext_list {a b : ByteArray} (h : a.data.toList = b.data.toList) : a = b := ByteArray.ext (Array.ext' h)
theorem ext_drop {V : ByteArray} {s : List UInt8} (hV : V.data.toList = s) (k : Nat) : V.extract k V.size = ⟨(s.drop k).toArray⟩ := by
  apply ext_list
  rw [Lib.extract_to_end, hV]
theorem pre_any (V : ByteArray) (l : List UInt8) (hV : V.data.toList = l) (c : UInt8) (w : World) : Calls Try.prog 46 #[.string V, .string ⟨#[c]⟩] w fun e w' => e = .returned (.bool (decide (l.head? = some c))) ∧ w' = w := by
  refine (strings_HasPrefix V ⟨#[c]⟩ w).mono ?_
  rintro e w' ⟨rfl, rfl⟩
  rw [show (⟨#[c]⟩ : ByteArray).data.toList = [c] from rfl, hV, pre1]
  exact ⟨rfl, rfl⟩

set_option maxHeartbeats 3200000 in
theorem escaped_any (V : ByteArray) (l : List UInt8) (hV : V.data.toList = l) (w : World) :
    Calls Try.prog 71 #[.string V] w fun e w' => e = .returned (.tuple #[.int .u8 (((escd l).getD 0).toNat : Int), .bool (escd l).isSome]) ∧ w' = w := by
  have H1 := fun w => Lib.hid (pre_any V l hV 110 w)
  have H2 := fun w => Lib.hid (pre_any V l hV 34 w)
  have H3 := fun w => Lib.hid (pre_any V l hV 92 w)
  cases l with
  | nil =>
    simp only [List.head?_nil, reduceCtorEq, decide_false] at H1 H2 H3
    go_enter Try.func71, Try.ntmps71
    go_wp2_with fail
    refine (H1 _).out.mono ?_
    rintro e w1 ⟨rfl, rfl⟩
    go_wp2_with fail
    refine (H2 _).out.mono ?_
    rintro e w1 ⟨rfl, rfl⟩
    go_wp2_with fail
    refine (H3 _).out.mono ?_
    rintro e w1 ⟨rfl, rfl⟩
    go_wp2
    go_ret2
    exact ⟨rfl, rfl⟩
  | cons d t =>
    have hs : V.size = t.length + 1 := by
      have := congrArg List.length hV
      simpa using this
    have h0 : 0 < V.size := by omega
    obtain ⟨n, hn⟩ : ∃ n, (V[0]'h0).toNat = n := ⟨_, rfl⟩
    have hdn : d.toNat = n := by
      rw [← hn]
      have : V[0]'h0 = V.data.toList[0]'(by rw [hV]; simp) := rfl
      rw [this]
      simp only [hV]
      rfl
    rw [escd_cons]
    have hd := fun c => show (decide ((d :: t).head? = some c)) = decide (d = c) by simp
    simp only [hd] at H1 H2 H3
    have hi : (0 : Int) < (V.size : Int) := by omega
    clear hd hV hs
    by_cases c1 : d = 110
    · rw [decide_eq_true c1] at H1
      have hz : (if d = 34 ∨ d = 92 then some d else if d = 110 then some 10 else none) = some 10 := by subst c1; rfl
      rw [hz]
      clear hz c1 H2 H3
      go_enter Try.func71, Try.ntmps71
      go_wp2_with fail
      refine (H1 _).out.mono ?_
      rintro e w1 ⟨rfl, rfl⟩
      go_wp2
      go_ret2
      exact ⟨rfl, rfl⟩
    · rw [decide_eq_false c1] at H1
      by_cases c2 : d = 34
      · rw [decide_eq_true c2] at H2
        have hz : (if d = 34 ∨ d = 92 then some d else if d = 110 then some 10 else none) = some d := by rw [if_pos (.inl c2)]
        rw [hz]
        clear hz c1 c2 H3
        go_enter Try.func71, Try.ntmps71
        go_wp2_with fail
        refine (H1 _).out.mono ?_
        rintro e w1 ⟨rfl, rfl⟩
        go_wp2_with fail
        refine (H2 _).out.mono ?_
        rintro e w1 ⟨rfl, rfl⟩
        go_wp2
        go_ret2
        refine ⟨?_, rfl⟩
        rw [Option.getD_some, hdn]
        rfl
      · rw [decide_eq_false c2] at H2
        by_cases c3 : d = 92
        · rw [decide_eq_true c3] at H3
          have hz : (if d = 34 ∨ d = 92 then some d else if d = 110 then some 10 else none) = some d := by rw [if_pos (.inr c3)]
          rw [hz]
          clear hz c1 c2 c3
          go_enter Try.func71, Try.ntmps71
          go_wp2_with fail
          refine (H1 _).out.mono ?_
          rintro e w1 ⟨rfl, rfl⟩
          go_wp2_with fail
          refine (H2 _).out.mono ?_
          rintro e w1 ⟨rfl, rfl⟩
          go_wp2_with fail
          refine (H3 _).out.mono ?_
          rintro e w1 ⟨rfl, rfl⟩
          go_wp2
          go_ret2
          refine ⟨?_, rfl⟩
          rw [Option.getD_some, hdn]
          rfl
        · rw [decide_eq_false c3] at H3
          have hz : (if d = 34 ∨ d = 92 then some d else if d = 110 then some 10 else none) = none := by rw [if_neg (by simp [c2, c3]), if_neg c1]
          rw [hz]
          clear hz c1 c2 c3
          go_enter Try.func71, Try.ntmps71
          go_wp2_with fail
          refine (H1 _).out.mono ?_
          rintro e w1 ⟨rfl, rfl⟩
          go_wp2_with fail
          refine (H2 _).out.mono ?_
          rintro e w1 ⟨rfl, rfl⟩
          go_wp2_with fail
          refine (H3 _).out.mono ?_
          rintro e w1 ⟨rfl, rfl⟩
          go_wp2
          go_ret2
          exact ⟨rfl, rfl⟩

/-! ### cutValue -/
/-- What a reading answers: a value, what is left, and whether there is one. -/
def got (r : Option (List UInt8 × List UInt8)) : Value := match r with | none => .tuple #[S8 [], S8 [], .bool false] | some p => .tuple #[S8 p.1, S8 p.2, .bool true]
def VlRel (V : ByteArray) (s : List UInt8) (w : World) (vv vi : Value) (wr : World) : Prop :=
  ∃ (k : Nat) (acc : List UInt8), vi = .int .i64 (k : Int) ∧ k ≤ V.size ∧ acc.length ≤ k ∧ wr.ownsRow w.heap.size 5 1 vv acc.length (acc.map B8) ∧ Below w.heap.size w wr ∧ Hid (un s = (un (s.drop k)).map fun p => (acc ++ p.1, p.2))
theorem own_snoc8 {w : World} {base : Nat} {v : Value} {acc : List UInt8} {c : UInt8} (h : w.ownsRow base 5 1 v (acc.length + 1) (acc.map B8 ++ [B8 c])) : w.ownsRow base 5 1 v (acc ++ [c]).length ((acc ++ [c]).map B8) := by simpa using h

set_option maxHeartbeats 6400000 in
set_option maxRecDepth 100000 in
theorem cutValue_any (s : List UInt8) (w : World) (hs : s.length ≤ 1073741824) :
    Calls Try.prog 62 #[S8 s] w fun e w' => e = .returned (got (un s)) ∧ Below w.heap.size w w' := by
  obtain ⟨i1, gi, gz0, gz1, gz2⟩ := info_parts info_u8
  obtain ⟨V, hV⟩ : ∃ V, V = (⟨s.toArray⟩ : ByteArray) := ⟨_, rfl⟩
  have hVd : V.data.toList = s := by rw [hV]
  have hVs : V.size = s.length := by rw [hV]; exact size_len s
  have HVD := Lib.hid hVd
  have hsV : V.size ≤ 1073741824 := by omega
  have HVS := Lib.hid hVs
  unfold S8
  rw [← hV]
  clear hV hVd hVs hs
  go_enter Try.func62, Try.ntmps62
  go_wp2
  go_loopw [5, 6] (fun vv vi wr => VlRel V s w vv vi wr) (fun _ vi _ => V.size - (intOf vi).toNat)
  case atStart => exact ⟨0, [], rfl, Nat.zero_le _, Nat.zero_le _, World.ownsRow_nil .., Below.refl _ _, Lib.hid (by simp)⟩
  case round =>
    obtain ⟨k, acc, rfl, hk, hak, hown, hb, HU⟩ := hrel
    have HO := Lib.hid hown
    have HB := Lib.hid hb
    have hbase := hb.size
    obtain ⟨A, cp, hvv, hac, hcm, _⟩ := own_slice hown
    subst hvv
    have HRD := Lib.hid (Rd.of_own hown)
    clear hown hb
    by_cases hltV : k < V.size
    · have HLT : Hid (k < s.length) := Lib.hid (by have := HVS.out; omega)
      obtain ⟨c, hc⟩ : ∃ c, s[k]'(HLT.out) = c := ⟨_, rfl⟩
      obtain ⟨n, hn⟩ : ∃ n, (V[k]'hltV).toNat = n := ⟨_, rfl⟩
      have hcn : c.toNat = n := by
        rw [← hn, ← hc]
        have : V[k]'hltV = V.data.toList[k]'(by rw [HVD.out]; exact HLT.out) := rfl
        rw [this]
        simp only [HVD.out]
      have HUS := Lib.hid (by have h := HU.out; rw [List.drop_eq_getElem_cons HLT.out, hc, un_cons] at h; exact h)
      have HE := fun w => Lib.hid (escaped_any (V.extract (k + 1) V.size) (s.drop (k + 1)) (by rw [Lib.extract_to_end, HVD.out]) w)
      have HXD := Lib.hid (ext_drop HVD.out (k + 1))
      have hcv := run_bytes (P := Try.prog) wr.drew 52 9 5 Try.underlying52 Try.underlying5 Try.underlying9 A acc cp wr.heap.size HRD.out
      clear HU hc
      by_cases c1 : n = 34
      · have hc1 : c = 34 := UInt8.toNat_inj.1 (by rw [hcn, c1]; rfl)
        rw [if_pos hc1] at HUS
        have j1 : ((n : Int) == 34) = true := beq_iff_eq.2 (by omega)
        clear hc1 c1 HE
        go_wp2
        go_region
        all_goals
          go_wp2
          go_ret3
          refine ⟨?_, below_drewN HB.out 1⟩
          rw [HUS.out]
          show _ = Ending.returned (.tuple #[S8 (acc ++ []), S8 (s.drop (k + 1)), .bool true])
          rw [List.append_nil]
          unfold S8
          rw [← HXD.out]
          rfl
      · have hc1 : ¬ c = 34 := fun h => c1 (by rw [← hcn, h]; rfl)
        rw [if_neg hc1] at HUS
        have j1 : ((n : Int) == 34) = false := beq_eq_false_iff_ne.2 (by omega)
        clear hc1 c1 hcv HXD HRD
        by_cases c2 : n = 10
        · have hc2 : c = 10 := UInt8.toNat_inj.1 (by rw [hcn, c2]; rfl)
          rw [if_pos hc2] at HUS
          have j2 : ((n : Int) == 10) = true := beq_iff_eq.2 (by omega)
          clear hc2 c2 HE
          go_wp2
          go_ret3
          refine ⟨?_, HB.out⟩
          rw [HUS.out]
          rfl
        · have hc2 : ¬ c = 10 := fun h => c2 (by rw [← hcn, h]; rfl)
          rw [if_neg hc2] at HUS
          have j2 : ((n : Int) == 10) = false := beq_eq_false_iff_ne.2 (by omega)
          clear hc2 c2
          by_cases c3 : n = 92
          · have hc3 : c = 92 := UInt8.toNat_inj.1 (by rw [hcn, c3]; rfl)
            rw [if_pos hc3] at HUS
            have j3 : ((n : Int) == 92) = true := beq_iff_eq.2 (by omega)
            clear hc3 c3
            have b1 : (k : Int) + 1 ≤ (V.size : Int) := by omega
            have b0 : (0 : Int) ≤ (k : Int) + 1 := by omega
            have hlen : ∀ x, escd (s.drop (k + 1)) = some x → k + 2 ≤ V.size := by
              intro x hx
              rcases Nat.lt_or_ge (k + 1) s.length with h | h
              · have := HVS.out; omega
              · rw [List.drop_eq_nil_of_le h] at hx
                cases hx
            obtain ⟨e, he⟩ : ∃ e, escd (s.drop (k + 1)) = e := ⟨_, rfl⟩
            rw [he] at HUS hlen
            simp only [he] at HE
            have HL := Lib.hid hlen
            clear he hlen
            cases e with
            | none =>
              simp only [Option.getD_none, Option.isSome_none] at HE
              go_wp2_with fail
              refine (HE _).out.mono ?_
              rintro e w1 ⟨rfl, rfl⟩
              go_wp2
              go_ret3
              refine ⟨?_, HB.out⟩
              rw [HUS.out]
              rfl
            | some x =>
              simp only [Option.getD_some, Option.isSome_some] at HE
              have HU2 : Hid (un s = (un (s.drop (k + 2))).map fun p => ((acc ++ [x]) ++ p.1, p.2)) := Lib.hid (by
                rw [HUS.out]
                simp only []
                rw [List.drop_drop, Option.map_map]
                congr 1
                funext p
                simp)
              have hk2 := HL.out x rfl
              clear HUS HL
              go_wp2_with fail
              refine (HE _).out.mono ?_
              rintro e w1 ⟨rfl, rfl⟩
              clear HE
              go_wp2_with (at_builtin; refine wpList_append_rd _ rfl (.tmp 42) (.tmp 44) 52 rfl w.heap.size 1 5 i1 (.int .u8 0) 1 Try.underlying52 gi gz0 gz1 gz2 rfl (by omega) _ _ _ rfl (HO.out.alloc _) (w1.heap.size + 1) (some ⟨w1.heap.size, 0, none⟩) 1 1 [.int .u8 (x.toNat : Int)] rfl rfl (Rd.made w1 #[.int .u8 (x.toNat : Int)] 5) ?f1 ?f2 ?f3 ?f4 ?_)
              case f1 => intro u hu; simp at hu; subst hu; rfl
              case f2 => unfold maxLen; omega
              case f3 => omega
              case f4 => simp; omega
              intro v' w2 hown2 hg _
              have HO2 := Lib.hid (own_snoc8 hown2)
              have HB2 := Lib.hid (below_appw HO.out HB.out hg)
              clear hown2 hg HO HB
              go_wp2
              go_roundw
              case rel => exact ⟨k + 2, acc ++ [x], by go_num, hk2, by simp; omega, HO2.out, HB2.out, HU2⟩
              case measure => simp [intOf]; omega
          · have hc3 : ¬ c = 92 := fun h => c3 (by rw [← hcn, h]; rfl)
            rw [if_neg hc3] at HUS
            have j3 : ((n : Int) == 92) = false := beq_eq_false_iff_ne.2 (by omega)
            have HU2 : Hid (un s = (un (s.drop (k + 1))).map fun p => ((acc ++ [c]) ++ p.1, p.2)) := Lib.hid (by
              rw [HUS.out, Option.map_map]
              congr 1
              funext p
              simp)
            have HCN := Lib.hid hcn
            clear hc3 c3 HE HUS hcn
            go_wp2_with (at_builtin; refine wpList_append_rd _ rfl (.tmp 42) (.tmp 44) 52 rfl w.heap.size 1 5 i1 (.int .u8 0) 1 Try.underlying52 gi gz0 gz1 gz2 rfl (by omega) _ _ _ rfl (HO.out.alloc _) (wr.heap.size + 1) (some ⟨wr.heap.size, 0, none⟩) 1 1 [.int .u8 (n : Int)] rfl rfl (Rd.made wr #[.int .u8 (n : Int)] 5) ?f1 ?f2 ?f3 ?f4 ?_)
            case f1 => intro u hu; simp at hu; subst hu; rfl
            case f2 => unfold maxLen; omega
            case f3 => omega
            case f4 => simp; omega
            intro v' w2 hown2 hg _
            have HO2 := Lib.hid (own_snoc8 (c := c) (by unfold B8 at hown2 ⊢; rw [HCN.out]; exact hown2))
            have HB2 := Lib.hid (below_appw HO.out HB.out hg)
            clear hown2 hg HO HB
            go_wp2
            go_roundw
            case rel => exact ⟨k + 1, acc ++ [c], by go_num, by omega, by simp; omega, HO2.out, HB2.out, HU2⟩
            case measure => simp [intOf]; omega
    · have HE : Hid (un s = none) := Lib.hid (by rw [HU.out, List.drop_eq_nil_of_le (by have := HVS.out; omega)]; rfl)
      clear HU
      go_wp2
      go_ret3
      refine ⟨?_, HB.out⟩
      rw [HE.out]
      rfl
end Go.Proofs.Ytngkhcbnndkdeaa.LpRead1
