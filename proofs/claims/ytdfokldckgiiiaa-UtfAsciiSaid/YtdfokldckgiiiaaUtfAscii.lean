/- UtfAscii: for all bytes and every place the statement's function answers true and leaves its arguments as they were. No conditions. -/
import Derived.Test.YtdfokldckgiiiaaUtAwake
import Derived.Test.YtdfokldckgiiiaaBulk
import Derived.Test.YtdfokldckgiiiaaOpen
import Derived.SizedLaws
import Derived.Deep.RegionHeld3
import Derived.StillTailTactics
import Derived.IntWalk
import Derived.Deep.OwnRows
namespace Go.Proofs.Ytdfokldckgiiiaa.utfAscii
open Go Go.ChangeShapes Go.WideShapes Go.ChangeAt Go.RowKit Words App UtSpec UtShelf UtSmall UtRange UtFold UtOwn UtAwake Ope Bulk

theorem info_u8 : (Try.prog.info? 5).map (fun i => (i.zero, i.size, i.bytes)) = some (some (.int .u8 0), 1, 1) := by kernel_rfl
theorem weigh_len1 {H : Type} {P : Program} {k : IntKind} {d : DataW H} {zs : List Int} {t e : TypeId} (ht : P.underlying t = some (.slice e)) (hb : 1 ≤ P.bytesOf e) (h : Lits k d zs) (hw : (d.weights P t).all (· ≤ reachBytes) = true) : zs.length ≤ 140737488351232 := by
  rcases h with ⟨rfl, rfl⟩ | ⟨sp, rfl⟩
  · simp
  · rw [DataW.weights, ht] at hw
    simp only [List.all_cons, Bool.and_eq_true, decide_eq_true_eq] at hw
    have h1 := hw.1
    simp only [lits, List.length_map, reachBytes] at h1
    have : zs.length * 1 ≤ (zs.length + sp.length) * P.bytesOf e := Nat.mul_le_mul (by omega) hb
    omega
theorem place_of (x : Int) (n : Nat) : ∃ k : Nat, (IntKind.u64.wrap x).tmod ((n : Int) + 1) = (k : Int) ∧ k ≤ n := by
  rw [IntKind.wrap_u64]
  have h0 : 0 ≤ x % 18446744073709551616 := Int.emod_nonneg _ (by omega)
  generalize x % 18446744073709551616 = y at *
  rw [Int.tmod_eq_emod_of_nonneg h0]
  have h1 := Int.emod_nonneg y (show (n : Int) + 1 ≠ 0 by omega)
  have h2 := Int.emod_lt_of_pos y (show (0 : Int) < (n : Int) + 1 by omega)
  exact ⟨(y % ((n : Int) + 1)).toNat, by omega, by omega⟩
/-- 'string(b)', the length by a name. -/
theorem run_str {s : List UInt8} {B : Nat} (w : World) (A : Option Addr) (n c : Nat) (hn : n = s.length) (hr : Rd w B A (s.map B8)) : (convert 34 9 (.slice A n c)).run Try.prog w = .ok (.string ⟨s.toArray⟩) w := by
  subst hn
  exact run_bytes w 34 9 5 Try.underlying34 Try.underlying5 Try.underlying9 A s c B hr

def m7 (x : UInt8) : UInt8 := UInt8.ofNat (x.toNat % 128)
theorem m7_nat (x : UInt8) : (m7 x).toNat = x.toNat % 128 := toNat_ofNat (by omega)
theorem low_nat {x : UInt8} (h : x.toNat < 128) : (low x).toNat = smallN x.toNat := toNat_ofNat (by have := smallN_ascii h; omega)
/-- No block is both. -/
def Apart (a b : Value) : Prop := ∀ g, a.ownBlock = some g → b.ownBlock = some g → False
theorem Apart.ne {a b : Value} (h : Apart a b) : a.ownBlock = none ∨ a.ownBlock ≠ b.ownBlock := by
  cases e : a.ownBlock with
  | none => exact .inl rfl
  | some g => exact .inr fun e2 => h g e e2.symm
theorem Apart.sym {a b : Value} (h : Apart a b) : Apart b a := fun g h1 h2 => h g h2 h1
theorem Apart.grown {w : World} {a a' b : Value} {base n : Nat} {e : TypeId} {xs : List Value} (h : Apart a b) (hb : w.ownsRow base e 1 b n xs) (ha : a'.ownBlock = a.ownBlock ∨ a'.ownBlock = some (w.heap.size + 1)) : Apart a' b := by
  intro g h1 h2
  rcases ha with ha | ha
  · exact h g (ha ▸ h1) h2
  · have := (hb.lt g h2).2
    rw [h1] at ha
    injection ha with ha
    omega
def SS (l : List UInt8) (k : Nat) : List UInt8 := (l.take k).map m7
def TT (l : List UInt8) (k : Nat) : List UInt8 := (SS l k).map low
theorem SS_next {l : List UInt8} {k : Nat} (h : k < l.length) : SS l (k + 1) = SS l k ++ [m7 l[k]] := by
  unfold SS
  rw [List.take_succ_eq_append_getElem h, List.map_append]
  rfl
theorem TT_next {l : List UInt8} {k : Nat} (h : k < l.length) : TT l (k + 1) = TT l k ++ [low (m7 l[k])] := by
  unfold TT
  rw [SS_next h, List.map_append]
  rfl
theorem SS_low (l : List UInt8) (k : Nat) : ∀ b ∈ SS l k, b.toNat < 128 := by
  intro b hb
  obtain ⟨c, _, rfl⟩ := List.mem_map.1 hb
  rw [m7_nat]
  omega
def ARel (l : List UInt8) (w : World) (vs vt vi : Value) (wr : World) : Prop :=
  ∃ k : Nat, vi = .int .i64 (k : Int) ∧ k ≤ l.length ∧ wr.ownsRow w.heap.size 5 1 vs k ((SS l k).map B8) ∧ wr.ownsRow w.heap.size 5 1 vt k ((TT l k).map B8) ∧ Apart vs vt ∧ Below w.heap.size w wr
theorem small_X {X : Nat} (h : X < 128) : small (X : Int) = (smallN X : Int) := small_nat X
theorem smallN_cap {X : Nat} (h : 65 ≤ X) (h' : X ≤ 90) : smallN X = X + 32 := by
  have e := small_nat X
  unfold small at e
  repeat' split at e
  all_goals omega
theorem smallN_no {X : Nat} (hX : X < 128) (h : X < 65 ∨ 90 < X) : smallN X = X := by
  have e := small_nat X
  unfold small at e
  repeat' split at e
  all_goals omega
theorem own_S {w : World} {base : Nat} {v : Value} {l : List UInt8} {k X : Nat} (hk : k < l.length) (hX : (m7 l[k]).toNat = X) (h : w.ownsRow base 5 1 v (k + 1) ((SS l k).map B8 ++ [.int .u8 (X : Int)])) :
    w.ownsRow base 5 1 v (k + 1) ((SS l (k + 1)).map B8) := by
  rw [SS_next hk, List.map_append]
  have : [m7 l[k]].map B8 = [.int .u8 (X : Int)] := by simp [B8, hX]
  rw [this]
  exact h
theorem own_T {w : World} {base : Nat} {v : Value} {l : List UInt8} {k Y : Nat} (hk : k < l.length) (hY : (low (m7 l[k])).toNat = Y) (h : w.ownsRow base 5 1 v (k + 1) ((TT l k).map B8 ++ [.int .u8 (Y : Int)])) :
    w.ownsRow base 5 1 v (k + 1) ((TT l (k + 1)).map B8) := by
  rw [TT_next hk, List.map_append]
  have : [low (m7 l[k])].map B8 = [.int .u8 (Y : Int)] := by simp [B8, hY]
  rw [this]
  exact h

/-- A call that changes nothing that was there keeps what holds of all worlds that do so. -/
theorem calls_keep {f : FuncId} {args : Array Value} {v : Value} {wz w : World} {C1 C2 : World → Prop} (hs : ∀ w', Below wz.heap.size wz w' → C1 w' ∧ C2 w') (hb : Below wz.heap.size wz w)
    (h : Calls Try.prog f args w fun e w' => e = .returned v ∧ Below w.heap.size w w') : Calls Try.prog f args w fun e w' => e = .returned v ∧ Hid (Below wz.heap.size wz w') ∧ C1 w' ∧ C2 w' :=
  h.mono fun _ _ ⟨he, h2⟩ => ⟨he, Lib.hid (below_step hb h2), hs _ (below_step hb h2)⟩

set_option maxHeartbeats 6400000 in
set_option maxRecDepth 100000 in
theorem walk (w : World) (l : List UInt8) (A : Option Addr) (c : Nat) (hc : l.length ≤ c) (hm : c ≤ maxLen) (hr : Rd w w.heap.size A (l.map B8)) (hlen : l.length ≤ 140737488351232) (at_ : Int) (_wa : (Lit.int .i64 at_).wf = true) :
    Calls Try.prog 7 #[.slice A l.length c, .int .i64 at_] w fun e w' => e = .returned (.bool true) ∧ Below w.heap.size w w' := by
  obtain ⟨i1, gi, gz0, gz1, gz2⟩ := info_parts info_u8
  have HA := Lib.hid (awake_any w)
  have HR := Lib.hid hr
  have HSM := fun X q w h0 h1 hb => Lib.hid (small_at X q w h0 h1 hb)
  unfold maxLen at hm
  clear _wa hr
  go_enter Try.func7, Try.ntmps7
  go_wp2_with fail
  refine HA.out.mono ?_
  rintro e w1 ⟨rfl, hb1⟩
  have HB1 := Lib.hid hb1
  clear hb1 HA
  go_wp2
  go_loopw [5, 6, 7] (fun vs vt vi wr => ARel l w vs vt vi wr) (fun _ _ vi _ => l.length - (intOf vi).toNat)
  case atStart => exact ⟨0, rfl, Nat.zero_le _, World.ownsRow_nil .., World.ownsRow_nil .., (fun g h => by cases h), HB1.out⟩
  case round =>
    obtain ⟨k, rfl, hk, hS, hT, hap, hb⟩ := hrel
    clear HB1
    by_cases hlt : k < l.length
    · obtain ⟨bb, off, rfl, hbb, hcell⟩ := HR.out (by simp; omega)
      obtain ⟨x, hx⟩ : ∃ x, (l[k]).toNat = x := ⟨_, rfl⟩
      have hcw : wr.cell? ⟨bb, off + k, none⟩ = some (.int .u8 (x : Int)) := by
        rw [hb.cell (p := ⟨bb, off + k, none⟩) hbb, cell8 hcell hlt, hx]
      obtain ⟨X, hX⟩ : ∃ X, x % 128 = X := ⟨_, rfl⟩
      have hX1 : (x : Int) % 128 = (X : Int) := by omega
      have hXl : X < 128 := by omega
      have hmX : (m7 l[k]).toNat = X := by rw [m7_nat, hx, hX]
      obtain ⟨Y, hY⟩ : ∃ Y, smallN X = Y := ⟨_, rfl⟩
      have hlY : (low (m7 l[k])).toNat = Y := by rw [low_nat (by omega), hmX, hY]
      have hYl : Y < 128 := by rw [← hY]; exact smallN_ascii hXl
      have HS1 := fun w3 v3 => Lib.hid (own_S (w := w3) (base := w.heap.size) (v := v3) hlt hmX)
      have HT1 := fun w3 v3 => Lib.hid (own_T (w := w3) (base := w.heap.size) (v := v3) hlt hlY)
      have HSm := fun w => HSM (X : Int) (Y : Int) w (by omega) (by omega) (by rw [small_nat, hY])
      have key : (decide ((65 : Int) ≤ X) = true ∧ decide ((X : Int) ≤ 90) = true ∧ Hid ((X : Int) + 32 = (Y : Int))) ∨ (decide ((65 : Int) ≤ X) = true ∧ decide ((X : Int) ≤ 90) = false ∧ Hid (X = Y)) ∨ (decide ((65 : Int) ≤ X) = false ∧ Hid (X = Y)) := by
        by_cases h1 : 65 ≤ X
        · by_cases h2 : X ≤ 90
          · exact .inl ⟨by simp; omega, by simp; omega, Lib.hid (by have := smallN_cap h1 h2; omega)⟩
          · exact .inr (.inl ⟨by simp; omega, by simp; omega, Lib.hid (by have := smallN_no hXl (.inr (by omega)); omega)⟩)
        · exact .inr (.inr ⟨by simp; omega, Lib.hid (by have := smallN_no hXl (.inl (by omega)); omega)⟩)
      have e1 : ((Y : Int) != (Y : Int)) = false := by simp
      have HCK : Hid (∀ (w3 : World) (b3 off3 : Nat), (∀ j u, ((SS l (k + 1)).map B8)[j]? = some u → w3.cell? ⟨b3, off3 + j, none⟩ = some u) → w3.cell? ⟨b3, off3 + k, none⟩ = some (.int .u8 (X : Int))) := Lib.hid (fun w3 b3 off3 h => by
        have hl : k < (SS l (k + 1)).length := by rw [SS_next hlt]; simp [SS]; omega
        have := cell8 h hl
        rw [this]
        have e : (SS l (k + 1))[k] = m7 l[k] := by simp [SS]
        rw [e, hmX])
      have HOS := Lib.hid hS
      have HOT := Lib.hid hT
      have HAP := Lib.hid hap
      have HB := Lib.hid hb
      have hbase := hb.size
      clear hcell hx hX hmX hY hlY hS hT hap hb HSM
      go_wp2_with (at_builtin; refine wpList_append_rd _ rfl (.tmp 24) (.tmp 26) 34 rfl w.heap.size 5 i1 (.int .u8 0) 1 Try.underlying34 gi gz0 gz1 gz2 rfl _ _ _ rfl (HOS.out.alloc _) (wr.heap.size + 1) (some ⟨wr.heap.size, 0, none⟩) 1 1 [.int .u8 (X : Int)] rfl rfl (Rd.made wr #[.int .u8 (X : Int)] 5) ?f1 ?f2 ?f3 ?f4 ?_)
      case f1 => intro u hu; simp at hu; subst hu; rfl
      case f2 => unfold maxLen; omega
      case f3 => omega
      case f4 => simp; omega
      intro v2 w2 hown2 hg2 hv2
      have HAP2 := Lib.hid (HAP.out.grown HOT.out hv2)
      have HOT2 := Lib.hid ((HOT.out.alloc _).kept hg2 HAP.out.sym.ne)
      have HOS2 := Lib.hid ((HS1 w2 v2).out hown2)
      have HB2 := Lib.hid (below_appw HOS.out HB.out hg2)
      have hbase2 := HB2.out.size
      clear hown2 hg2 hv2 HOS HOT HAP HB HS1
      have HK := Lib.hid e1
      clear e1
      rcases key with ⟨d1, d2, HY⟩ | ⟨d1, d2, HY⟩ | ⟨d1, HY⟩
      case' inl => have hy := HY.out
      case' inr.inl => obtain rfl : Y = X := HY.out.symm
      case' inr.inr => obtain rfl : Y = X := HY.out.symm
      all_goals
        have HONE : Hid (∀ u ∈ [Value.int .u8 (Y : Int)], u.oneCell' = true) := Lib.hid (by intro u hu; simp at hu; subst hu; rfl)
        have hmx : k + 1 ≤ maxLen := by unfold maxLen; omega
        have hby : (k + 1) * 1 ≤ 140737488355328 := by omega
        have hbs : w.heap.size ≤ (w2.alloc (.cells #[.int .u8 (Y : Int)] 5)).heap.size := by simp; omega
        have HMD := Lib.hid (Rd.made w2 #[.int .u8 (Y : Int)] 5)
        go_wp2_with (at_builtin; refine wpList_append_rd _ rfl (.tmp 36) (.tmp 38) 34 rfl w.heap.size 5 i1 (.int .u8 0) 1 Try.underlying34 gi gz0 gz1 gz2 rfl _ _ _ rfl (HOT2.out.alloc _) (w2.heap.size + 1) (some ⟨w2.heap.size, 0, none⟩) 1 1 [.int .u8 (Y : Int)] rfl rfl HMD.out HONE.out hmx hby hbs ?_)
        intro v3 w3 hown3 hg3 hv3
        have HAP3 := Lib.hid (HAP2.out.sym.grown HOS2.out hv3).sym
        have HOS3 := Lib.hid ((HOS2.out.alloc _).kept hg3 HAP2.out.ne)
        have HOT3 := Lib.hid ((HT1 w3 v3).out hown3)
        have HB3 := Lib.hid (below_appw HOT2.out HB2.out hg3)
        obtain ⟨A3, c3, rfl, h31, h32, _⟩ := own_slice HOS3.out
        obtain ⟨b3, off3, rfl, hb3, hc3⟩ := Rd.of_own HOS3.out (by rw [SS_next hlt]; simp)
        have hck := HCK.out w3 b3 off3 hc3
        have HSM3 := Lib.hid (HSm w3).out
        have e1 := HK.out
        unfold maxLen at h32
        clear hown3 hg3 hv3 hc3 HOT2 HOS2 HAP2 HB2 HCK HSm HK HT1 HMD HONE hcw
        go_wp2_with fail
        refine HSM3.out.mono ?_
        rintro e w' ⟨rfl, rfl⟩
        go_wp2
        go_roundw
        case rel => exact ⟨k + 1, by go_num, by omega, HOS3.out, HOT3.out, HAP3.out, HB3.out⟩
        case measure => simp [intOf]; omega
    · obtain rfl : k = l.length := by omega
      have hal := SS_low l l.length
      obtain ⟨a1, a2, a3⟩ := ascii_all hal
      have hTT : TT l l.length = fold (SS l l.length) := by rw [a3]; rfl
      have hSl : (SS l l.length).length = l.length := by simp [SS]
      obtain ⟨kk, hkk, hkn⟩ := place_of at_ l.length
      obtain ⟨o1, o2⟩ := ascii_odd hal kk (by omega)
      have hTl : (TT l l.length).length = l.length := by simp [TT, SS]
      rw [hTT] at hT hTl
      generalize hSS : SS l l.length = S at *
      generalize hFF : fold S = T at *
      rw [hSl] at a2 o2
      have hsz : (⟨S.toArray⟩ : ByteArray).size = S.length := by show S.toArray.size = _; simp
      have HV := fun w => Lib.hid (valid_at ⟨S.toArray⟩ w true (by unfold maxLen; omega) (by simpa using a1))
      have HC := fun w => Lib.hid (count_at ⟨S.toArray⟩ w l.length (by unfold maxLen; omega) (by simpa using a2))
      have HF := fun w => Lib.hid (fold_at ⟨S.toArray⟩ w T (by omega) (by simpa using hFF) (by omega))
      obtain ⟨O, hO⟩ : ∃ O : ByteArray, O = ((⟨(S.take kk).toArray⟩ : ByteArray) ++ ⟨#[128]⟩) ++ ⟨(S.drop kk).toArray⟩ := ⟨_, rfl⟩
      have hOl : O.data.toList = S.take kk ++ (128 :: S.drop kk) := by rw [hO]; simp
      have hOs : O.size ≤ 140737488351300 := by
        have h := congrArg List.length hOl
        simp only [Array.length_toList, List.length_append, List.length_cons, List.length_take, List.length_drop] at h
        have h9 : O.data.size = O.size := rfl
        omega
      have HVO := fun w => Lib.hid (valid_at O w false (by unfold maxLen; omega) (by rw [hOl]; exact o1))
      have HCO := fun w => Lib.hid (count_at O w (l.length + 1) (by unfold maxLen; omega) (by rw [hOl]; exact o2))
      obtain ⟨As, cs, rfl, hs1, hs2, _⟩ := own_slice hS
      obtain ⟨At, ct, rfl, ht1, ht2, _⟩ := own_slice hT
      have HRS := Lib.hid (Rd.of_own hS)
      have HRT := Lib.hid (Rd.of_own hT)
      have HB := Lib.hid hb
      clear hal a1 a2 a3 hTT o1 o2 hSS hFF hsz hOl hS hT hap hb hlt HSM HR
      unfold maxLen at hs2 ht2
      have ewr : IntKind.i64.wrap ((l.length : Int) + 1) = (l.length : Int) + 1 := IntWalk.i64_in _ (by omega)
      have eeq : (((l.length : Int) + 1) == ((l.length : Int) + 1)) = true := by simp
      by_cases hck : cs = kk
      · obtain rfl : kk = cs := hck.symm
        have hkl : (kk : Int) ≤ (l.length : Int) := by omega
        have hkc : (kk : Int) ≤ (kk : Int) := by omega
        have q1 := run_str (s := S.take kk) wr.drew As kk kk (by simp; omega) (HRS.out.drew.more (Nat.le_refl _) |> fun h => by rw [List.map_take]; exact h.take kk)
        have z1 : ¬ 9223372036854775807 < kk + 1 := by omega
        have z2 : ¬ 9223372036854775807 < kk + 1 + (l.length - kk) := by omega
        have q2 := run_str (s := S.drop kk) wr.drew (if kk = kk then As else As.map (·.add kk)) (l.length - kk) (kk - kk) (by simp; omega) (HRS.out.drew.more (Nat.le_refl _) |> fun h => by rw [List.map_drop]; exact h.cut (by simp; omega))
        have hO2 := hO.symm
        rw [if_pos rfl, Nat.sub_self, show l.length - kk = 0 by omega] at q2
        have HBZ : Hid (Below w.heap.size w wr.drew) := Lib.hid (HB.out.trans ⟨rfl, rfl, rfl, Nat.le_refl _, fun _ _ => rfl⟩)
        have HRSZ := Lib.hid HRS.out.drew
        have HRTZ := Lib.hid HRT.out.drew
        have HZS : wr.heap.size ≤ wr.drew.heap.size := Nat.le_refl _
        clear hO HRS HRT HB
        go_wp2
        refine wp_region_still_lit (by kernel_rfl) (by kernel_rfl) ?_
        iterate 11 (refine wpStill_step (fun K hK => ?_); go_simp; refine hK _ ?_; clear hK K)
        refine wpStill_nil ?_
        change Exit.then _ _ Exit.normal _ wr.drew
        clear q1 q2
        generalize wr.drew = wz at *
        have HSTEP : Hid (∀ w', Below wz.heap.size wz w' → (convert 34 9 (.slice As l.length kk)).run Try.prog w' = .ok (.string ⟨S.toArray⟩) w' ∧ (convert 34 9 (.slice At l.length ct)).run Try.prog w' = .ok (.string ⟨T.toArray⟩) w') := Lib.hid (fun w' hb' =>
          ⟨run_str w' As l.length kk (by omega) (HRSZ.out.below (hb'.mono (HZS))), run_str w' At l.length ct (by omega) (HRTZ.out.below (hb'.mono (HZS)))⟩)
        have HG0 : Hid (Below wz.heap.size wz wz.drew) := Lib.hid ⟨rfl, rfl, rfl, Nat.le_refl _, fun _ _ => rfl⟩
        obtain ⟨c1, c2⟩ := HSTEP.out wz.drew HG0.out
        have GV := fun w' (g : Hid (Below wz.heap.size wz w')) => Lib.hid (calls_keep HSTEP.out g.out (HV w').out)
        have GC := fun w' (g : Hid (Below wz.heap.size wz w')) => Lib.hid (calls_keep HSTEP.out g.out (HC w').out)
        have GF := fun w' (g : Hid (Below wz.heap.size wz w')) => Lib.hid (calls_keep HSTEP.out g.out (HF w').out)
        have GVO := fun w' (g : Hid (Below wz.heap.size wz w')) => Lib.hid (calls_keep HSTEP.out g.out (HVO w').out)
        have GCO := fun w' (g : Hid (Below wz.heap.size wz w')) => Lib.hid (calls_keep HSTEP.out g.out (HCO w').out)
        clear HV HC HF HVO HCO HRSZ HRTZ
        have e1 : (T == T) = true := by simp
        go_wp2
        all_goals
          go_region_held3 (fun w' => Hid (Below wz.heap.size wz w') ∧ (convert 34 9 (.slice As l.length kk)).run Try.prog w' = .ok (.string ⟨S.toArray⟩) w' ∧ (convert 34 9 (.slice At l.length ct)).run Try.prog w' = .ok (.string ⟨T.toArray⟩) w') (first | assumption | go_keep) (first
            | (go_at_call 10; ((with_reducible refine (GV _ (by assumption)).out.mono ?_); rintro e w' ⟨rfl, g', x1, x2⟩))
            | (go_at_call 10; ((with_reducible refine (GVO _ (by assumption)).out.mono ?_); rintro e w' ⟨rfl, g', x1, x2⟩))
            | (go_at_call 11; ((with_reducible refine (GC _ (by assumption)).out.mono ?_); rintro e w' ⟨rfl, g', x1, x2⟩))
            | (go_at_call 11; ((with_reducible refine (GCO _ (by assumption)).out.mono ?_); rintro e w' ⟨rfl, g', x1, x2⟩))
            | (go_at_call 12; ((with_reducible refine (GF _ (by assumption)).out.mono ?_); rintro e w' ⟨rfl, g', x1, x2⟩)))
          all_goals
            go_wp2
            go_ret
            exact ⟨rfl, HBZ.out.trans ((‹Hid (Below wz.heap.size wz _)›).out.mono (by have := HBZ.out.size; omega))⟩
      · have hkl : (kk : Int) ≤ (l.length : Int) := by omega
        have hkc : (kk : Int) ≤ (cs : Int) := by omega
        have q1 := run_str (s := S.take kk) wr.drew As kk cs (by simp; omega) (HRS.out.drew.more (Nat.le_refl _) |> fun h => by rw [List.map_take]; exact h.take kk)
        have z1 : ¬ 9223372036854775807 < kk + 1 := by omega
        have z2 : ¬ 9223372036854775807 < kk + 1 + (l.length - kk) := by omega
        have q2 := run_str (s := S.drop kk) wr.drew (if cs = kk then As else As.map (·.add kk)) (l.length - kk) (cs - kk) (by simp; omega) (HRS.out.drew.more (Nat.le_refl _) |> fun h => by rw [List.map_drop]; exact h.cut (by simp; omega))
        have hO2 := hO.symm
        rw [if_neg hck] at q2
        have HBZ : Hid (Below w.heap.size w wr.drew) := Lib.hid (HB.out.trans ⟨rfl, rfl, rfl, Nat.le_refl _, fun _ _ => rfl⟩)
        have HRSZ := Lib.hid HRS.out.drew
        have HRTZ := Lib.hid HRT.out.drew
        have HZS : wr.heap.size ≤ wr.drew.heap.size := Nat.le_refl _
        clear hO HRS HRT HB
        go_wp2
        refine wp_region_still_lit (by kernel_rfl) (by kernel_rfl) ?_
        iterate 11 (refine wpStill_step (fun K hK => ?_); go_simp; refine hK _ ?_; clear hK K)
        refine wpStill_nil ?_
        change Exit.then _ _ Exit.normal _ wr.drew
        clear q1 q2
        generalize wr.drew = wz at *
        have HSTEP : Hid (∀ w', Below wz.heap.size wz w' → (convert 34 9 (.slice As l.length cs)).run Try.prog w' = .ok (.string ⟨S.toArray⟩) w' ∧ (convert 34 9 (.slice At l.length ct)).run Try.prog w' = .ok (.string ⟨T.toArray⟩) w') := Lib.hid (fun w' hb' =>
          ⟨run_str w' As l.length cs (by omega) (HRSZ.out.below (hb'.mono (HZS))), run_str w' At l.length ct (by omega) (HRTZ.out.below (hb'.mono (HZS)))⟩)
        have HG0 : Hid (Below wz.heap.size wz wz.drew) := Lib.hid ⟨rfl, rfl, rfl, Nat.le_refl _, fun _ _ => rfl⟩
        obtain ⟨c1, c2⟩ := HSTEP.out wz.drew HG0.out
        have GV := fun w' (g : Hid (Below wz.heap.size wz w')) => Lib.hid (calls_keep HSTEP.out g.out (HV w').out)
        have GC := fun w' (g : Hid (Below wz.heap.size wz w')) => Lib.hid (calls_keep HSTEP.out g.out (HC w').out)
        have GF := fun w' (g : Hid (Below wz.heap.size wz w')) => Lib.hid (calls_keep HSTEP.out g.out (HF w').out)
        have GVO := fun w' (g : Hid (Below wz.heap.size wz w')) => Lib.hid (calls_keep HSTEP.out g.out (HVO w').out)
        have GCO := fun w' (g : Hid (Below wz.heap.size wz w')) => Lib.hid (calls_keep HSTEP.out g.out (HCO w').out)
        clear HV HC HF HVO HCO HRSZ HRTZ
        have e1 : (T == T) = true := by simp
        go_wp2
        all_goals
          go_region_held3 (fun w' => Hid (Below wz.heap.size wz w') ∧ (convert 34 9 (.slice As l.length cs)).run Try.prog w' = .ok (.string ⟨S.toArray⟩) w' ∧ (convert 34 9 (.slice At l.length ct)).run Try.prog w' = .ok (.string ⟨T.toArray⟩) w') (first | assumption | go_keep) (first
            | (go_at_call 10; ((with_reducible refine (GV _ (by assumption)).out.mono ?_); rintro e w' ⟨rfl, g', x1, x2⟩))
            | (go_at_call 10; ((with_reducible refine (GVO _ (by assumption)).out.mono ?_); rintro e w' ⟨rfl, g', x1, x2⟩))
            | (go_at_call 11; ((with_reducible refine (GC _ (by assumption)).out.mono ?_); rintro e w' ⟨rfl, g', x1, x2⟩))
            | (go_at_call 11; ((with_reducible refine (GCO _ (by assumption)).out.mono ?_); rintro e w' ⟨rfl, g', x1, x2⟩))
            | (go_at_call 12; ((with_reducible refine (GF _ (by assumption)).out.mono ?_); rintro e w' ⟨rfl, g', x1, x2⟩)))
          all_goals
            go_wp2
            go_ret
            exact ⟨rfl, HBZ.out.trans ((‹Hid (Below wz.heap.size wz _)›).out.mono (by have := HBZ.out.size; omega))⟩
theorem own : ownKnob Try.prog.godebug = none := by kernel_rfl
theorem laid : laidOutB Try.prog = true := by kernel_rfl
theorem allRead : (Try.f7.params.toList.all fun t => Try.prog.readableRec t && decide (t < Try.prog.types.size)) = true := by kernel_rfl
set_option maxRecDepth 100000 in
theorem contract (H : Type) (enc : TypeId × Value → H) (W : World) (base : Nat) (args : Array Value) (ds gs : List (DataW H)) (before : List MemPlace)
    (hval : ∀ (j : Nat) t v, Try.f7.params[j]? = some t → args[j]? = some v → Value.okWide Try.prog W .any base t v)
    (hW : DataW.Whole enc Try.prog Try.f7.params.toList Rows.utfAsciiSpec.vars false W args.toList ds gs before) (hwt : (DataW.weightsEach Try.prog (Try.f7.params.toList ++ Rows.utfAsciiSpec.plain.varTypes Try.prog) (ds ++ gs)).all (· ≤ reachBytes) = true) :
    Calls Try.prog 7 args W fun e W' => ∃ v, e = .returned v ∧ Rows.utfAsciiSpec.post enc Try.prog Try.f7 false true false false W args v W' := by
  have hW' := hW
  obtain ⟨p, q, hA0, hV, rfl, hfz, hnd⟩ := hW
  obtain ⟨rfl, rfl⟩ := trodVars_none hV
  have hlt : ∀ x ∈ p, x.block < W.heap.size := fun x hx => hW'.lt x (by simp [hx])
  have hA : DataW.TrodAll enc Try.prog W 0 (fun _ => true) true Try.f7.params.toList args.toList ds p := hA0
  rw [Try.params7] at hA hval
  obtain ⟨v0, vs0, d0, ds0, p0, q0, hargs, rfl, rfl, h0, r0⟩ := trodAll_cons hA
  obtain ⟨v1, vs1, d1, ds1, p1, q1, rfl, rfl, rfl, h1, r1⟩ := trodAll_cons r0
  obtain ⟨rfl, rfl, rfl⟩ := trodAll_nil r1
  obtain rfl : args = #[v0, v1] := by cases args; simp_all
  rw [Try.params7] at hwt
  obtain ⟨y0, z0⟩ := weigh_cons hwt
  obtain ⟨y1, z1⟩ := weigh_cons z0
  obtain ⟨A0, l0, c0, rfl, hl0, hm0, hr0, hd0⟩ := open_u8s Try.underlying34 Try.underlying5 (by kernel_rfl) (hval 0 34 v0 rfl rfl) h0 (fun x hx => hlt x (by simp [hx]))
  have hb0 : l0.length ≤ 140737488351232 := by have h := weigh_len1 Try.underlying34 (by decide +kernel) hd0 y0; rwa [List.length_map] at h
  obtain ⟨a1, rfl, rfl, rfl, w1⟩ := open_int Try.underlying3 (hval 1 3 v1 rfl rfl) h1
  refine (walk W l0 A0 c0 hl0 hm0 hr0 hb0 a1 w1).mono fun e W' ⟨he, hb⟩ => ?_
  subst he
  exact ⟨_, rfl, law_post laid (fun t ht => by have h := List.all_eq_true.1 allRead t ht; rw [Bool.and_eq_true, decide_eq_true_eq] at h; exact h) rfl (by kernel_rfl) Try.underlying4 rfl hW' hb⟩
set_option maxRecDepth 100000 in
theorem lifted (os : Os) (started : os.Started) (H : Type) (enc : TypeId × Value → H) :
    ReturnsInHanded {} Try.checked os 7 .any (Rows.utfAsciiSpec.pre6 enc Try.prog Try.f7 Rows.utfAsciiRow.domain false) (Rows.utfAsciiSpec.post enc Try.prog Try.f7 false true false false) := by
  refine returnsInHanded_of_change_sized (C := Try.checked) own started (by kernel_rfl) Try.func7
    (ChangeSpec.witness6 (enc := enc) (C := Try.checked) false ⟨#[], #[.slice none 0 0, .int .i64 0], []⟩ 8 (by kernel_rfl) (by kernel_rfl) (by kernel_rfl) (by kernel_rfl)) ?_
  intro W base args ds gs before hval hW _ hwt _
  exact contract H enc W base args ds gs before hval hW hwt
theorem over : Rows.utfAsciiRow.holds Try.pinned (OpenSpec.ofChange Rows.utfAsciiSpec) :=
  OpenClaim.holds_of_wide 7 Try.f7 rfl rfl rfl rfl rfl rfl rfl ⟨rfl, rfl, rfl, rfl, rfl⟩ rfl rfl rfl rfl rfl (by kernel_rfl) Try.func7 (by kernel_rfl)
    (of_decide_eq_true (by kernel_rfl)) (by unfold Func.isWrapper; first | (rw [if_pos (by decide +kernel)]; kernel_rfl) | (rw [if_neg (by decide +kernel)]; exact ⟨rfl, rfl⟩))
    (fun os started H enc _ => lifted os started H enc)
theorem proved : Rows.UtfAsciiSaid := over

end Go.Proofs.Ytdfokldckgiiiaa.utfAscii
