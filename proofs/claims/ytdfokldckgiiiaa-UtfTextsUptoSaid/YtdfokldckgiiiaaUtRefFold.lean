/- The contract of the document's Fold: the small forms of a text's runes, as UTF-8. Condition: the text has at most 2^40 bytes. -/
import Derived.Test.YtdfokldckgiiiaaUtRunes
import Derived.Test.YtdfokldckgiiiaaUtBytes
namespace Go.Proofs.Ytdfokldckgiiiaa.UtRefFold
open Go Go.RowKit Words App UtSpec UtShelf UtSmall UtRange UtOne UtOwn UtRunes UtBytes

theorem info_u8 : (Try.prog.info? 5).map (fun i => (i.zero, i.size, i.bytes)) = some (some (.int .u8 0), 1, 1) := by kernel_rfl
def sms (R : List (Nat × Nat)) : List UInt8 := R.flatMap fun p => enc (smallN p.1)
theorem sms_len {R : List (Nat × Nat)} (h : ∀ p ∈ R, sc p.1) : (sms R).length ≤ 4 * R.length := by
  induction R with
  | nil => simp [sms]
  | cons p R ih =>
    have := enc_len (smallN_sc (h p (by simp)))
    have := ih (fun x hx => h x (by simp [hx]))
    unfold sms at *
    rw [List.flatMap_cons, List.length_append, List.length_cons]
    omega
theorem sms_snoc (R : List (Nat × Nat)) (p : Nat × Nat) : sms (R ++ [p]) = sms R ++ enc (smallN p.1) := by simp [sms]
/-- The loop over the runes: k are written. -/
def DRel (R : List (Nat × Nat)) (w1 w : World) (vb vi : Value) (wr : World) : Prop :=
  ∃ (k : Nat), vi = .int .i64 (k : Int) ∧ k ≤ R.length ∧ wr.ownsRow w1.heap.size 5 1 vb (sms (R.take k)).length ((sms (R.take k)).map B8) ∧ Below w1.heap.size w1 wr ∧ Hid (w.heap.size ≤ w1.heap.size)
theorem own_enc {w : World} {base r : Nat} {v : Value} {R : List (Nat × Nat)} {k : Nat} (hk : k < R.length) (hr : (R[k]).1 = r)
    (h : w.ownsRow base 5 1 v ((sms (R.take k)).length + (enc (smallN r)).length) ((sms (R.take k)).map B8 ++ (enc (smallN r)).map B8)) :
    w.ownsRow base 5 1 v (sms (R.take (k + 1))).length ((sms (R.take (k + 1))).map B8) := by
  rw [List.take_succ_eq_append_getElem hk, sms_snoc, hr, List.length_append, List.map_append]
  exact h

set_option maxHeartbeats 3200000 in
set_option maxRecDepth 100000 in
theorem reffold_any (s : ByteArray) (w : World) (hs : s.size ≤ 1099511627776) : Calls Try.prog 13 #[.string s] w fun e w' => e = .returned (.string ⟨(fold s.data.toList).toArray⟩) ∧ Below w.heap.size w w' := by
  obtain ⟨i1, gi, gz0, gz1, gz2⟩ := info_parts info_u8
  have HR := Lib.hid (runes_any s w hs)
  have HSC := Lib.hid (runes_sc s.data.toList)
  have HF : Hid (fold s.data.toList = sms (runes s.data.toList)) := Lib.hid rfl
  have hrl := runes_len s.data.toList
  have e2 : s.data.toList.length = s.size := by simp
  rw [e2] at hrl
  unfold RPost at HR
  rw [HF.out]
  generalize runes s.data.toList = R at *
  clear e2
  go_enter Try.func13, Try.ntmps13
  go_wp2_with fail
  refine HR.out.mono ?_
  rintro e w1 ⟨v1, rfl, hown1, hb1⟩
  obtain ⟨A, c, rfl, hAc, hcm, _⟩ := own_slice hown1
  have HRD := Lib.hid (Rd.of_own hown1)
  have HB1 := Lib.hid hb1
  have HBS := Lib.hid hb1.size
  unfold maxLen at hcm
  clear hown1 hb1 HR
  go_wp2
  go_loopw [5, 6] (fun vb vi wr => DRel R w1 w vb vi wr) (fun _ vi _ => R.length - (intOf vi).toNat)
  case atStart => exact ⟨0, rfl, Nat.zero_le _, World.ownsRow_nil .., Below.refl _ _, HBS⟩
  case round =>
    obtain ⟨k, rfl, hk, hown, hb, _⟩ := hrel
    by_cases hlt : k < R.length
    · obtain ⟨bb, off, rfl, hbb, hcell⟩ := HRD.out (by simp; omega)
      obtain ⟨r, n, hrn⟩ : ∃ r n, R[k] = (r, n) := ⟨_, _, rfl⟩
      have hcw : wr.cell? ⟨bb, off + k, none⟩ = some (.int .i32 (r : Int)) := by
        rw [hb.cell (p := ⟨bb, off + k, none⟩) hbb]
        refine hcell k _ ?_
        rw [List.getElem?_map, List.getElem?_eq_getElem hlt, hrn]
        rfl
      have hsr : sc r := by have := HSC.out _ (List.getElem_mem hlt); rw [hrn] at this; exact this
      have hq := smallN_sc hsr
      have hr1 : r ≤ 1114111 := by unfold sc at hsr; omega
      have HS := Lib.hid (fun W => refsmall_any (r : Int) W (by omega) (by omega))
      have HY := Lib.hid (fun W => bytes_any (smallN r) W hq)
      rw [small_nat] at HS
      unfold BPost at HY
      have hel := (enc_len hq).2.1
      have hsl := sms_len (R := R.take k) (fun p hp => HSC.out p (List.mem_of_mem_take hp))
      have htl : (R.take k).length ≤ k := List.length_take_le _ _
      have HOE := fun (w3 : World) v3 => Lib.hid (own_enc (r := r) (w := w3) (base := w1.heap.size) (v := v3) (R := R) hlt (by rw [hrn]))
      generalize enc (smallN r) = E at *
      generalize hN : smallN r = N at *
      generalize hD : sms (R.take k) = D at *
      have HO := Lib.hid hown
      have HB := Lib.hid hb
      have hbase := hb.size
      have HM : Hid (Rd (wr.alloc (.cells (E.map B8).toArray 5)) (wr.heap.size + 1) (some ⟨wr.heap.size, 0, none⟩) (E.map B8)) := Lib.hid (by simpa using Rd.made wr (E.map B8).toArray 5)
      clear hown hb hcell hrn hsr hq hN hD
      go_wp2_with fail
      refine (HS.out wr).mono ?_
      rintro e w' ⟨rfl, rfl⟩
      go_wp2_with fail
      refine (HY.out wr).mono ?_
      rintro e w' ⟨rfl, rfl⟩
      go_wp2_with (at_builtin; refine wpList_append_rd _ rfl (.tmp 18) (.tmp 24) 34 rfl w1.heap.size 5 i1 (.int .u8 0) 1 Try.underlying34 gi gz0 gz1 gz2 rfl _ _ _ rfl (HO.out.alloc _) (wr.heap.size + 1) (some ⟨wr.heap.size, 0, none⟩) E.length E.length (E.map B8) rfl ?f0 HM.out ?f1 ?f2 ?f3 ?f4 ?_)
      case f0 => simp
      case f1 => exact one8 E
      case f2 => unfold maxLen; omega
      case f3 => omega
      case f4 => simp; omega
      intro v' w2 hown2 hg _
      have HO2 := Lib.hid ((HOE w2 v').out hown2)
      have HB2 := Lib.hid (below_appw HO.out HB.out hg)
      clear hown2 hg HO HB HS HY HOE HM
      go_wp2
      go_roundw
      case rel => exact ⟨k + 1, by go_num, by omega, HO2.out, HB2.out, HBS⟩
      case measure => simp [intOf]; omega
    · obtain rfl : k = R.length := by omega
      rw [List.take_length] at hown
      obtain ⟨A2, c2, rfl, h21, h22, _⟩ := own_slice hown
      have hcv := run_bytes (P := Try.prog) wr 34 9 5 Try.underlying34 Try.underlying5 Try.underlying9 A2 (sms R) c2 _ (Rd.of_own hown)
      have HB := Lib.hid (HB1.out.trans (hb.mono HBS.out))
      clear hown hb HRD
      go_wp2
      go_ret
      exact ⟨rfl, HB.out⟩
end Go.Proofs.Ytdfokldckgiiiaa.UtRefFold
