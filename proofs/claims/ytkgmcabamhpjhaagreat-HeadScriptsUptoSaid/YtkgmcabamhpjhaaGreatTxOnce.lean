/- The contract of the document's Once: each text once, in order, in new memory. Condition: the list has at most 2^43 texts. -/
import Derived.Test.YtkgmcabamhpjhaaGreatTxSames
import Derived.Test.YtkgmcabamhpjhaaGreatBase
namespace Go.Proofs.YtkgmcabamhpjhaaGreat.TxOnce
open Go Go.RowKit Words App Less TxSame UtOwn

def LRel (l : List (List UInt8)) (w : World) (vo vi : Value) (wr : World) : Prop :=
  ∃ k : Nat, k ≤ l.length ∧ vi = .int .i64 (k : Int) ∧ wr.ownsRow w.heap.size 9 1 vo (once (l.take k)).length ((once (l.take k)).map S8) ∧ Hid (Below w.heap.size w wr)
def PRel (o : List (List UInt8)) (x : List UInt8) (w : World) (vo vi : Value) (wr : World) : Prop :=
  ∃ j : Nat, j ≤ pos x o ∧ vi = .int .i64 (j : Int) ∧ wr.ownsRow w.heap.size 9 1 vo o.length (o.map S8) ∧ Hid (Below w.heap.size w wr)
theorem own_drewN {w : World} {base n : Nat} {e : TypeId} {v : Value} {xs : List Value} (h : w.ownsRow base e 1 v n xs) (k : Nat) : (w.drewN k).ownsRow base e 1 v n xs := h
theorem put_own {w : World} {base p N : Nat} {v : Value} {x : List UInt8} {o : List (List UInt8)} (hp : p ≤ o.length) (he : ins x o = o.take p ++ x :: o.drop p)
    (h : w.ownsRow base 9 1 v N ((o.map S8).take p ++ (.string ⟨x.toArray⟩) :: (o.map S8).drop p)) (hN : N = o.length + 1) : w.ownsRow base 9 1 v (ins x o).length ((ins x o).map S8) := by
  have e1 : (ins x o).length = N := by rw [hN, he, List.length_append, List.length_cons, List.length_take, List.length_drop]; omega
  have e2 : (ins x o).map S8 = (o.map S8).take p ++ (.string ⟨x.toArray⟩) :: (o.map S8).drop p := by
    rw [he, List.map_append, List.map_cons, List.map_take, List.map_drop]
    simp [S8]
  rw [e1, e2]
  exact h
def OPost (l : List (List UInt8)) (w : World) (e : Ending) (w' : World) : Prop :=
  ∃ v, e = .returned v ∧ w'.ownsRow w.heap.size 9 1 v (once l).length ((once l).map S8) ∧ Below w.heap.size w w'

set_option maxHeartbeats 6400000 in
set_option maxRecDepth 100000 in
theorem once_any (w : World) (l : List (List UInt8)) (A : Option Addr) (c : Nat) (h1 : Rd w w.heap.size A (l.map S8)) (_hm : l.length ≤ c) (_hc1 : c ≤ maxLen) (hl : l.length ≤ 8796093022208) :
    Calls Tryz.prog 44 #[.slice A l.length c] w (OPost l w) := by
  obtain ⟨i1, gi, gz0, gz1, gz2⟩ := info_parts info_str
  have H1 := Lib.hid h1
  unfold maxLen at _hc1
  clear h1
  go_enter Tryz.func44, Tryz.ntmps44
  go_wp2
  go_loopw [3, 4] (fun vo vi wr => LRel l w vo vi wr) (fun _ vi _ => l.length - (intOf vi).toNat)
  case atStart => exact ⟨0, Nat.zero_le _, rfl, World.ownsRow_nil .., Lib.hid (Below.refl _ _)⟩
  case round =>
    obtain ⟨k, hk, rfl, hown, HB⟩ := hrel
    by_cases hlt : k < l.length
    · obtain ⟨b1, o1, rfl, hbb, hc⟩ := H1.out (by simp; omega)
      have k1 := cellS hc hlt
      have HON := Lib.hid (once_take hlt)
      have hol := once_length (l.take k)
      have htl : (l.take k).length ≤ k := List.length_take_le _ _
      generalize l[k] = x at *
      generalize once (l.take k) = o at *
      have HX := Lib.hid (ins_pos x o)
      have hpl := pos_le x o
      have HPB := Lib.hid (pos_before x o)
      have HPA := Lib.hid (pos_at x o)
      have HK1 := Lib.hid k1
      have HO := Lib.hid hown
      clear hc k1 hown
      obtain ⟨wo, rfl⟩ : ∃ wo : World, wo = wr := ⟨_, rfl⟩
      go_wp2
      go_loopw [5] (fun vi wr => PRel o x w _ vi wr) (fun vi _ => o.length - (intOf vi).toNat)
      case atStart => exact ⟨0, Nat.zero_le _, rfl, HO.out, HB⟩
      case round =>
        obtain ⟨j, hj, rfl, hown, HB2⟩ := hrel
        have k1 : wr.cell? ⟨b1, o1 + k, none⟩ = some (.string ⟨x.toArray⟩) := (HB2.out.cell (p := ⟨b1, o1 + k, none⟩) hbb).trans HK1.out
        obtain ⟨Ao, co, rfl, ho1, ho2, _⟩ := own_slice hown
        have HRo := Lib.hid (Rd.of_own hown)
        have HO2 := Lib.hid hown
        unfold maxLen at ho2
        clear hown HO
        by_cases hjp : j < pos x o
        · have hjl : j < o.length := by omega
          have hls := HPB.out j hjl hjp
          obtain ⟨b2, o2, rfl, _, hd⟩ := HRo.out (by simp; omega)
          have k2 := cellS hd hjl
          generalize o[j] = y at *
          have e2 : Op.bytesLess y x = true := by rw [less_is]; exact hls
          clear hd hls
          go_wp2
          go_quiet (fail)
          go_wp2
          go_roundw
          case rel => exact ⟨j + 1, by omega, by go_num, own_drewN HO2.out _, Lib.hid (below_drewN HB2.out _)⟩
          case measure => simp [intOf]; omega
        · obtain rfl : j = pos x o := by omega
          have HI0 := HX.out
          have hmS : (o.map S8).length = o.length := List.length_map _
          by_cases hin : o[pos x o]? = some x
          · have hpo : pos x o < o.length := (List.getElem?_eq_some_iff.1 hin).1
            have hox : o[pos x o] = x := (List.getElem?_eq_some_iff.1 hin).2
            rw [if_pos hin] at HI0
            have HI := Lib.hid HI0
            obtain ⟨b2, o2, rfl, _, hd⟩ := HRo.out (by rw [hmS]; omega)
            have k2 := cellS hd hpo
            rw [hox] at k2
            have e2 : Op.bytesLess x x = false := by rw [less_is]; exact less_irrefl x
            have e3 : (x == x) = true := by simp
            generalize pos x o = p at *
            clear hd HI0 hin hox hmS HX HPB HPA
            go_wp2
            go_quiet (fail)
            go_wp2
            go_quiet (fail)
            go_wp2
            go_roundw
            case rel => exact ⟨k + 1, by omega, by go_num, by rw [HON.out, HI.out]; exact own_drewN HO2.out _, Lib.hid (below_drewN HB2.out _)⟩
            case measure => simp [intOf]; omega
          · rw [if_neg hin] at HI0
            have HI := Lib.hid HI0
            have HNE : Hid (∀ (h : pos x o < o.length), (o[pos x o] == x) = false ∧ less o[pos x o] x = false) := Lib.hid (fun h => ⟨beq_eq_false_iff_ne.2 (fun e => hin (by rw [List.getElem?_eq_getElem h, e])), HPA.out h⟩)
            obtain ⟨p, hp⟩ : ∃ p, pos x o = p := ⟨_, rfl⟩
            have HPA2 : Hid (∀ h : p < o.length, less (o[p]'h) x = false) := Lib.hid (fun h => by subst hp; exact HPA.out h)
            rw [hp] at HI hin hpl
            have HIN := Lib.hid hin
            have F1 : Hid (((o.map S8).take p).length = p) := Lib.hid (by rw [List.length_take, hmS]; omega)
            have FON : Hid (∀ u ∈ (o.map S8).take p, u.oneCell' = true) := Lib.hid (fun u hu => oneS o u (List.mem_of_mem_take hu))
            have FX2 : Hid (∀ u ∈ (o.map S8).drop p, u.oneCell' = true) := Lib.hid (fun u hu => oneS o u (List.mem_of_mem_drop hu))
            have FX1 : Hid (∀ u ∈ [Value.string ⟨x.toArray⟩], u.oneCell' = true) := Lib.hid (by intro u hu; simp at hu; subst hu; rfl)
            have F2 : 0 + p ≤ maxLen := by unfold maxLen; omega
            have F3 : (0 + p) * 16 ≤ 140737488355328 := by omega
            have F5 : p + 1 ≤ maxLen := by unfold maxLen; omega
            have F6 : (p + 1) * 16 ≤ 140737488355328 := by omega
            have HMS := Lib.hid hmS
            rw [hp]
            clear hin HI0 HX HPB HPA hp hjp hj hmS
            rcases Nat.lt_or_ge p o.length with hlo | hge
            · have F7 : Hid (((o.map S8).drop p).length = o.length - p) := Lib.hid (by rw [List.length_drop, HMS.out])
              have F8 : p + 1 + (o.length - p) ≤ maxLen := by unfold maxLen; omega
              have F9 : (p + 1 + (o.length - p)) * 16 ≤ 140737488355328 := by omega
              have hcp : ¬ co = p := by omega
              obtain ⟨b2, o2, rfl, _, hd⟩ := HRo.out (by rw [HMS.out]; omega)
              have k2 := cellS hd hlo
              have hne : (o[p] == x) = false := beq_eq_false_iff_ne.2 (fun e => HIN.out (by rw [List.getElem?_eq_getElem hlo, e]))
              have e2 : Op.bytesLess o[p] x = false := by rw [less_is]; exact HPA2.out hlo
              generalize o[p] = y at *
              clear hd
              go_wp2
              go_quiet (fail)
              go_wp2
              go_quiet (fail)
              go_wp2_with (at_builtin; refine wpList_append_rd _ rfl (.tmp 45) (.tmp 48) 49 rfl wr.heap.size 9 i1 (.string ByteArray.empty) 16 Tryz.underlying49 gi gz0 gz1 gz2 rfl (.slice none 0 0) 0 [] rfl (World.ownsRow_nil ..) wr.heap.size _ p co ((o.map S8).take p) rfl F1.out ((HRo.out.drewN _).take _) FON.out F2 F3 (Nat.le_refl _) ?_)
              intro v1 w1 hown1 hg1 _
              have HO1 := Lib.hid hown1
              have HR1 := Lib.hid ((HRo.out.drewN _).grown hg1 (Nat.le_refl _) (fun g h => by cases h))
              have HB1 := Lib.hid ((below_drewN HB2.out _).grown hg1 HB2.out.size (fun g h => by cases h))
              have hs1 : wr.heap.size ≤ w1.heap.size := hg1.size
              have k3 : w1.cell? ⟨b1, o1 + k, none⟩ = some (.string ⟨x.toArray⟩) := (HB1.out.cell (p := ⟨b1, o1 + k, none⟩) hbb).trans HK1.out
              have HM := Lib.hid (Rd.made w1 #[.string ⟨x.toArray⟩] 9)
              have hsz1 : wr.heap.size ≤ (w1.alloc (.cells #[.string ⟨x.toArray⟩] 9)).heap.size := by simp; omega
              clear hown1 hg1
              go_wp2_with (at_builtin; refine wpList_append_rd _ rfl (.tmp 50) (.tmp 55) 49 rfl wr.heap.size 9 i1 (.string ByteArray.empty) 16 Tryz.underlying49 gi gz0 gz1 gz2 rfl _ _ _ rfl (HO1.out.alloc _) (w1.heap.size + 1) (some ⟨w1.heap.size, 0, none⟩) 1 1 [.string ⟨x.toArray⟩] rfl rfl HM.out FX1.out F5 F6 hsz1 ?_)
              intro v2 w2 hown2 hg2 _
              have HO2b := Lib.hid hown2
              have HR2 := Lib.hid ((HR1.out.alloc hs1 _).grown hg2 hsz1 (own_lt HO1.out))
              have HB2b := Lib.hid ((HB1.out.alloc HB1.out.size _).grown hg2 (by have := HB1.out.size; simp; omega) (fun g h => by have := own_lt HO1.out g h; have := HB2.out.size; omega))
              have hs2 : wr.heap.size ≤ w2.heap.size := by have := hg2.size; omega
              clear hown2 hg2 k3 HM HO1 HR1 HB1
              have HRC := Lib.hid (by have h := HR2.out.cut (k := p) (cap := co) (by rw [HMS.out]; exact ho1); rw [if_neg hcp] at h; simpa [add_off] using h)
              go_wp2_with (at_builtin; refine wpList_append_rd _ rfl (.tmp 57) (.tmp 60) 49 rfl wr.heap.size 9 i1 (.string ByteArray.empty) 16 Tryz.underlying49 gi gz0 gz1 gz2 rfl _ _ _ rfl HO2b.out wr.heap.size (some ⟨b2, o2 + p, none⟩) (o.length - p) (co - p) ((o.map S8).drop p) rfl F7.out HRC.out FX2.out F8 F9 hs2 ?_)
              intro v3 w3 hown3 hg3 _
              have HO3 := Lib.hid (own_mono (put_own hpl HI.out hown3 (by omega)) HB2.out.size)
              have HB3 := Lib.hid (HB2b.out.grown hg3 HB2b.out.size (fun g h => by have := own_lt HO2b.out g h; have := HB2.out.size; omega))
              clear hown3 hg3 HO2b HR2 HB2b HRC
              go_wp2
              go_roundw
              case rel => exact ⟨k + 1, by omega, by go_num, by rw [HON.out]; exact HO3.out, HB3⟩
              case measure => simp [intOf]; omega
            · have F7 : Hid (((o.map S8).drop p).length = 0) := Lib.hid (by rw [List.length_drop, HMS.out]; omega)
              have hd1 : decide (p < o.length) = false := by simp; omega
              have hd2 : decide ((p : Int) < (o.length : Int)) = false := by simp; omega
              have F8 : p + 1 + 0 ≤ maxLen := by unfold maxLen; omega
              have F9 : (p + 1 + 0) * 16 ≤ 140737488355328 := by omega
              by_cases hcp : co = p
              · obtain rfl : p = co := hcp.symm
                go_wp2
                go_quiet (fail)
                go_wp2
                go_quiet (fail)
                go_wp2_with (at_builtin; refine wpList_append_rd _ rfl (.tmp 45) (.tmp 48) 49 rfl wr.heap.size 9 i1 (.string ByteArray.empty) 16 Tryz.underlying49 gi gz0 gz1 gz2 rfl (.slice none 0 0) 0 [] rfl (World.ownsRow_nil ..) wr.heap.size _ p p ((o.map S8).take p) rfl F1.out ((HRo.out.drewN _).take _) FON.out F2 F3 (Nat.le_refl _) ?_)
                intro v1 w1 hown1 hg1 _
                have HO1 := Lib.hid hown1
                have HR1 := Lib.hid ((HRo.out.drewN _).grown hg1 (Nat.le_refl _) (fun g h => by cases h))
                have HB1 := Lib.hid ((below_drewN HB2.out _).grown hg1 HB2.out.size (fun g h => by cases h))
                have hs1 : wr.heap.size ≤ w1.heap.size := hg1.size
                have k3 : w1.cell? ⟨b1, o1 + k, none⟩ = some (.string ⟨x.toArray⟩) := (HB1.out.cell (p := ⟨b1, o1 + k, none⟩) hbb).trans HK1.out
                have HM := Lib.hid (Rd.made w1 #[.string ⟨x.toArray⟩] 9)
                have hsz1 : wr.heap.size ≤ (w1.alloc (.cells #[.string ⟨x.toArray⟩] 9)).heap.size := by simp; omega
                clear hown1 hg1
                go_wp2_with (at_builtin; refine wpList_append_rd _ rfl (.tmp 50) (.tmp 55) 49 rfl wr.heap.size 9 i1 (.string ByteArray.empty) 16 Tryz.underlying49 gi gz0 gz1 gz2 rfl _ _ _ rfl (HO1.out.alloc _) (w1.heap.size + 1) (some ⟨w1.heap.size, 0, none⟩) 1 1 [.string ⟨x.toArray⟩] rfl rfl HM.out FX1.out F5 F6 hsz1 ?_)
                intro v2 w2 hown2 hg2 _
                have HO2b := Lib.hid hown2
                have HR2 := Lib.hid ((HR1.out.alloc hs1 _).grown hg2 hsz1 (own_lt HO1.out))
                have HB2b := Lib.hid ((HB1.out.alloc HB1.out.size _).grown hg2 (by have := HB1.out.size; simp; omega) (fun g h => by have := own_lt HO1.out g h; have := HB2.out.size; omega))
                have hs2 : wr.heap.size ≤ w2.heap.size := by have := hg2.size; omega
                clear hown2 hg2 k3 HM HO1 HR1 HB1
                have HRC := Lib.hid (by have h := HR2.out.cut (k := p) (cap := p) (by rw [HMS.out]; exact ho1); rw [if_pos rfl] at h; exact h)
                go_wp2_with (at_builtin; refine wpList_append_rd _ rfl (.tmp 57) (.tmp 60) 49 rfl wr.heap.size 9 i1 (.string ByteArray.empty) 16 Tryz.underlying49 gi gz0 gz1 gz2 rfl _ _ _ rfl HO2b.out wr.heap.size Ao 0 0 ((o.map S8).drop p) rfl F7.out HRC.out FX2.out F8 F9 hs2 ?_)
                intro v3 w3 hown3 hg3 _
                have HO3 := Lib.hid (own_mono (put_own hpl HI.out hown3 (by omega)) HB2.out.size)
                have HB3 := Lib.hid (HB2b.out.grown hg3 HB2b.out.size (fun g h => by have := own_lt HO2b.out g h; have := HB2.out.size; omega))
                clear hown3 hg3 HO2b HR2 HB2b HRC
                go_wp2
                go_roundw
                case rel => exact ⟨k + 1, by omega, by go_num, by rw [HON.out]; exact HO3.out, HB3⟩
                case measure => simp [intOf]; omega
              · go_wp2
                go_quiet (fail)
                go_wp2
                go_quiet (fail)
                go_wp2_with (at_builtin; refine wpList_append_rd _ rfl (.tmp 45) (.tmp 48) 49 rfl wr.heap.size 9 i1 (.string ByteArray.empty) 16 Tryz.underlying49 gi gz0 gz1 gz2 rfl (.slice none 0 0) 0 [] rfl (World.ownsRow_nil ..) wr.heap.size _ p co ((o.map S8).take p) rfl F1.out ((HRo.out.drewN _).take _) FON.out F2 F3 (Nat.le_refl _) ?_)
                intro v1 w1 hown1 hg1 _
                have HO1 := Lib.hid hown1
                have HR1 := Lib.hid ((HRo.out.drewN _).grown hg1 (Nat.le_refl _) (fun g h => by cases h))
                have HB1 := Lib.hid ((below_drewN HB2.out _).grown hg1 HB2.out.size (fun g h => by cases h))
                have hs1 : wr.heap.size ≤ w1.heap.size := hg1.size
                have k3 : w1.cell? ⟨b1, o1 + k, none⟩ = some (.string ⟨x.toArray⟩) := (HB1.out.cell (p := ⟨b1, o1 + k, none⟩) hbb).trans HK1.out
                have HM := Lib.hid (Rd.made w1 #[.string ⟨x.toArray⟩] 9)
                have hsz1 : wr.heap.size ≤ (w1.alloc (.cells #[.string ⟨x.toArray⟩] 9)).heap.size := by simp; omega
                clear hown1 hg1
                go_wp2_with (at_builtin; refine wpList_append_rd _ rfl (.tmp 50) (.tmp 55) 49 rfl wr.heap.size 9 i1 (.string ByteArray.empty) 16 Tryz.underlying49 gi gz0 gz1 gz2 rfl _ _ _ rfl (HO1.out.alloc _) (w1.heap.size + 1) (some ⟨w1.heap.size, 0, none⟩) 1 1 [.string ⟨x.toArray⟩] rfl rfl HM.out FX1.out F5 F6 hsz1 ?_)
                intro v2 w2 hown2 hg2 _
                have HO2b := Lib.hid hown2
                have HR2 := Lib.hid ((HR1.out.alloc hs1 _).grown hg2 hsz1 (own_lt HO1.out))
                have HB2b := Lib.hid ((HB1.out.alloc HB1.out.size _).grown hg2 (by have := HB1.out.size; simp; omega) (fun g h => by have := own_lt HO1.out g h; have := HB2.out.size; omega))
                have hs2 : wr.heap.size ≤ w2.heap.size := by have := hg2.size; omega
                clear hown2 hg2 k3 HM HO1 HR1 HB1
                have HRC := Lib.hid (by have h := HR2.out.cut (k := p) (cap := co) (by rw [HMS.out]; exact ho1); rw [if_neg hcp] at h; exact h)
                go_wp2_with (at_builtin; refine wpList_append_rd _ rfl (.tmp 57) (.tmp 60) 49 rfl wr.heap.size 9 i1 (.string ByteArray.empty) 16 Tryz.underlying49 gi gz0 gz1 gz2 rfl _ _ _ rfl HO2b.out wr.heap.size (Ao.map (·.add p)) 0 (co - p) ((o.map S8).drop p) rfl F7.out HRC.out FX2.out F8 F9 hs2 ?_)
                intro v3 w3 hown3 hg3 _
                have HO3 := Lib.hid (own_mono (put_own hpl HI.out hown3 (by omega)) HB2.out.size)
                have HB3 := Lib.hid (HB2b.out.grown hg3 HB2b.out.size (fun g h => by have := own_lt HO2b.out g h; have := HB2.out.size; omega))
                clear hown3 hg3 HO2b HR2 HB2b HRC
                go_wp2
                go_roundw
                case rel => exact ⟨k + 1, by omega, by go_num, by rw [HON.out]; exact HO3.out, HB3⟩
                case measure => simp [intOf]; omega
    · have hkn : k = l.length := by omega
      rw [hkn, List.take_length] at hown
      have HO := Lib.hid hown
      subst hkn
      clear hown
      go_wp2
      go_ret
      exact ⟨_, rfl, HO.out, HB.out⟩
end Go.Proofs.YtkgmcabamhpjhaaGreat.TxOnce
