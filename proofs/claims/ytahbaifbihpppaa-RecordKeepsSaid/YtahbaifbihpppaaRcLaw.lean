/- What the statements of layer 9 ask of the program ('Rcd': contracts of record's six calls), the document's Get at any place, and the statements' own 'awake'. -/
import Derived.Test.YtahbaifbihpppaaRcRefGa
namespace Go.Proofs.Ytahbaifbihpppaa.RcLaw
open Go Go.RowKit Words AppN Less LbSpec LbText LbMem LbRef LbCmp LbCanon RcSpec RcAll RcMem RcRef RcRefPut RcRefGt RcRefRd RcRefGa UtOwn

def getAt (b : List UInt8) (at_ : Int) : Nat × Rec × List UInt8 := if at_ < 0 ∨ (b.length : Int) < at_ then (1, RcSpec.none, []) else RcSpec.get (b.drop at_.toNat)
set_option maxHeartbeats 1600000 in
set_option maxRecDepth 100000 in
theorem rget_out (w : World) (b : List UInt8) (A : Option Addr) (c : Nat) (at_ : Int) (hr : Rd w w.heap.size A (b.map B8)) (hc : b.length ≤ c) (hm : c ≤ maxLen) (ho : at_ < 0 ∨ (b.length : Int) < at_) :
    Calls Try.prog 18 #[.slice A b.length c, .int .i64 at_] w (GPost (1, RcSpec.none, []) b w) := by
  have HST := Lib.hid (gst_start w)
  have h := RefGet.ref_any b A c at_ (W3 w) w.heap.size (hr.below HST.out.below) hc hm
  have e1 : Plain.getE b at_ = 1 := by unfold Plain.getE; rw [if_pos ho]
  rw [e1] at h
  have HC := Lib.hid h
  unfold W3 at HC
  obtain ⟨R, hR⟩ : ∃ R : Nat × Rec × List UInt8, (1, RcSpec.none, []) = R := ⟨_, rfl⟩
  rw [hR]
  have HE := Lib.hid hR
  have he : (1 : Nat) ≠ 0 := by decide
  clear hR
  clear h e1 ho hr
  go_enter Try.func18, Try.ntmps18
  go_wp2_with fail
  refine HC.out.mono ?_
  rintro e w1 ⟨rfl, hw1⟩
  have HS1 : Hid (GSt w 0 0 [] (.slice .none 0 0) [] w1) := Lib.hid (hw1 ▸ HST.out)
  clear hw1 HC HST
  obtain ⟨⟨a0, a1, a2, a3⟩, ⟨z0, z1, z2, z3⟩, ⟨n0, n1, n2, n3⟩⟩ := HS1.out.facts
  go_wp2
  (try simp only [Exit.inBlock, Exit.then])
  refine bodyPost_ret (v := .tuple #[.agg #[.int .i64 0, .int .u64 0, .slice .none 0 0, .string ⟨#[]⟩], .int .i64 0, .int .i64 1]) ?_ rfl (err_post (q := 1) HE.out.symm he ((((HS1.out.below.setCell (Nat.le_refl _) _).setCell (Nat.le_refl _) _).setCell (Nat.le_refl _) _).setCell (Nat.le_refl _) _))
  rw [results_cell3 rfl]
  go_simp
theorem rgetat_any (w : World) (b : List UInt8) (A : Option Addr) (c : Nat) (at_ : Int) (hr : Rd w w.heap.size A (b.map B8)) (hc : b.length ≤ c) (hm : c ≤ maxLen) :
    Calls Try.prog 18 #[.slice A b.length c, .int .i64 at_] w (GPost (getAt b at_) b w) := by
  unfold getAt
  by_cases ho : at_ < 0 ∨ (b.length : Int) < at_
  · rw [if_pos ho]
    exact rget_out w b A c at_ hr hc hm ho
  · rw [if_neg ho]
    have h := rget_any w b A c at_.toNat hr hc hm (by omega)
    rwa [show ((at_.toNat : Nat) : Int) = at_ by omega] at h

/-- The program's six calls. -/
structure Rcd : Prop where
  check : ∀ (w : World) (m : RM), Okm w m → Calls Try.prog 13 #[aggR m] w fun e w' => e = .returned (.int .i64 (check m.1 : Int)) ∧ Below w.heap.size w w'
  put : ∀ (w : World) (m : RM), Okm w m → Calls Try.prog 11 #[aggR m] w (BPost (RcAll.put m.1) w)
  get : ∀ (w : World) (b : List UInt8) (A : Option Addr) (c : Nat) (at_ : Int), -9223372036854775808 ≤ at_ → at_ ≤ 9223372036854775807 → Rd w w.heap.size A (b.map B8) → b.length ≤ c → c ≤ maxLen → Calls Try.prog 17 #[.slice A b.length c, .int .i64 at_] w (GPost (getAt b at_) b w)
  putAll : ∀ (w : World) (ms : List RM) (A : Option Addr) (n c : Nat), Rl w A n c ms → Calls Try.prog 9 #[.slice A n c] w (BPost (putAll (recsOf ms)) w)
  getAll : ∀ (w : World) (b : List UInt8) (A : Option Addr) (c : Nat), Rd w w.heap.size A (b.map B8) → b.length ≤ c → c ≤ maxLen → Calls Try.prog 19 #[.slice A b.length c] w (GaPost (getAll b) w)
  compare : ∀ (w : World) (a b : RM), Okm w a → Okm w b → Calls Try.prog 15 #[aggR a, aggR b] w fun e w' => e = .returned (.int .i64 (cmpR a.1 b.1)) ∧ Below w.heap.size w w'

/-! ### awake -/
def lb1 : List Lab := [([97], [49])]
def x0 : Rec := ⟨-1, 5, lb1, [104, 105]⟩
def bs : List UInt8 := [1, 5, 1, 1, 97, 1, 49, 2, 104, 105]
theorem aw1 : RcAll.put x0 = (0, bs) := by decide +kernel
theorem aw2 : getAt bs 0 = (0, x0, []) := by
  have h := get_put (r := x0) (check_ok.1 (by decide +kernel)) (by unfold Fits Time64 x0; simp) []
  have e : bytesR x0 ++ [] = bs := by decide +kernel
  rw [e] at h
  exact h
theorem aw3 : getAll [0, 0] = (6, []) := Prod.ext (by decide +kernel) (List.eq_nil_of_length_eq_zero (by decide +kernel))
theorem aw4 : eqR x0 x0 = true := by decide +kernel
theorem aw5 : cmpR x0 RcSpec.none = -1 := by decide +kernel
theorem okm_made (w : World) : Okm (w.alloc (.cells #[.string ⟨#[97]⟩, .string ⟨#[49]⟩] 46)) (x0, some ⟨w.heap.size, 0, .none⟩, 1, 1) := by
  refine ⟨⟨rfl, Nat.le_refl _, show 1 ≤ maxLen by unfold maxLen; omega, ?_⟩, by unfold Fits Time64 x0; simp⟩
  have := Rd.made' w #[.string ⟨#[97]⟩, .string ⟨#[49]⟩] 46
  exact this
theorem okm_zero (w : World) : Okm w (RcSpec.none, .none, 0, 0) := ⟨⟨rfl, Nat.le_refl _, show 0 ≤ maxLen by omega, Rd.nil_⟩, by unfold Fits Time64 RcSpec.none; simp⟩

set_option maxHeartbeats 3200000 in
set_option maxRecDepth 100000 in
theorem awake_any (P : Rcd) (w : World) : Calls Try.prog 8 #[] w fun e w' => e = .returned (.bool true) ∧ Below w.heap.size w w' := by
  have HW1 := Lib.hid (((Below.refl w.heap.size w).alloc (Nat.le_refl _) (.cells #[.string ⟨#[97]⟩, .string ⟨#[49]⟩] 46)))
  have HW2 := Lib.hid (HW1.out.alloc (by simp) (.cells #[.int .i64 (-1), .int .u64 5, .slice (some ⟨w.heap.size, 0, .none⟩) 1 1, .string ⟨#[104, 105]⟩] 33))
  have HOK0 := Lib.hid ((okm_made w).below ((Below.refl _ _).alloc (Nat.le_refl _) (.cells #[.int .i64 (-1), .int .u64 5, .slice (some ⟨w.heap.size, 0, .none⟩) 1 1, .string ⟨#[104, 105]⟩] 33)))
  have A1 := Lib.hid (P.put _ _ HOK0.out)
  have HX0 : Hid (((w.alloc (.cells #[.string ⟨#[97]⟩, .string ⟨#[49]⟩] 46)).alloc (.cells #[.int .i64 (-1), .int .u64 5, .slice (some ⟨w.heap.size, 0, .none⟩) 1 1, .string ⟨#[104, 105]⟩] 33)).heap[w.heap.size + 1]? = some (.cells #[.int .i64 (-1), .int .u64 5, .slice (some ⟨w.heap.size, 0, .none⟩) 1 1, .string ⟨#[104, 105]⟩] 33 (0, 0))) := Lib.hid (by
    have h := heap_alloc_new (w.alloc (.cells #[.string ⟨#[97]⟩, .string ⟨#[49]⟩] 46)) (.cells #[.int .i64 (-1), .int .u64 5, .slice (some ⟨w.heap.size, 0, .none⟩) 1 1, .string ⟨#[104, 105]⟩] 33)
    simpa using h)
  have A2 := fun w A c h h1 h2 => Lib.hid (P.get w bs A c 0 (by omega) (by omega) h h1 h2)
  rw [aw1] at A1
  rw [aw2] at A2
  have A3 := fun w A h => Lib.hid (P.getAll w [0, 0] A 2 h (Nat.le_refl _) (by unfold maxLen; omega))
  rw [aw3] at A3
  unfold BPost at A1
  unfold aggR slV S8 at A1
  go_enter Try.func8, Try.ntmps8
  go_wp2_with fail
  refine A1.out.mono ?_
  rintro e w1 ⟨v1, rfl, hown, hb1⟩
  obtain ⟨B1, c1, rfl, hc1, hm1, hrd1⟩ := own_row hown (by simp)
  have HB1 := Lib.hid (HW2.out.trans (hb1.mono HW2.out.size))
  have HOK1 := Lib.hid (HOK0.out.below hb1)
  have HX1 := Lib.hid ((hb1.block (w.heap.size + 1) (by simp)).trans HX0.out)
  have HR1 := Lib.hid hrd1
  clear hown hb1 A1 HX0 HOK0 HW1 HW2 hrd1
  go_wp2_with fail
  refine (A2 w1 B1 c1 HR1.out hc1 hm1).out.mono ?_
  rintro e w2 ⟨⟨Y, ny, cy⟩, p', rfl, hto, hown, hb2⟩
  obtain ⟨hp1, hp2⟩ := hto rfl
  obtain rfl : p' = 10 := by
    have h := congrArg List.length hp2
    rw [List.length_drop] at h
    have : bs.length = 10 := rfl
    simp at h
    omega
  obtain ⟨A9, c9, e9, hl1, hl2, hl3, _⟩ := own_lab hown
  cases e9
  have HOKY := Lib.hid (show Okm w2 (x0, Y, 1, cy) from ⟨⟨rfl, hl1, hl2, hl3⟩, HOK1.out.fits⟩)
  have HB2 := Lib.hid (HB1.out.trans (hb2.mono HB1.out.size))
  have HOK2 := Lib.hid (HOK1.out.below hb2)
  have hz1 : w.heap.size + 1 < w1.heap.size := (Array.getElem?_eq_some_iff.1 HX1.out).1
  have HX2 := Lib.hid ((hb2.block (w.heap.size + 1) hz1).trans HX1.out)
  have HR2 := Lib.hid ((HR1.out.below hb2).more hb2.size)
  clear hown hb2 A2 HX1 HOK1 HB1 hl1 hl2 hl3 HR1 hto hp1 hp2 hz1
  unfold aggR slV S8
  simp only [show x0.time = -1 from rfl, show x0.seq = 5 from rfl, show x0.line = [104, 105] from rfl]
  have HW3 := Lib.hid (((Below.refl w2.heap.size w2).alloc (Nat.le_refl _) (.cells #[.int .i64 (-1), .int .u64 5, .slice Y 1 cy, .string ⟨#[104, 105]⟩] 33)).alloc (by simp) (.cells #[.int .u8 0, .int .u8 0] 5))
  have HRZ : Hid (Rd ((w2.alloc (.cells #[.int .i64 (-1), .int .u64 5, .slice Y 1 cy, .string ⟨#[104, 105]⟩] 33)).alloc (.cells #[.int .u8 0, .int .u8 0] 5)) ((w2.alloc (.cells #[.int .i64 (-1), .int .u64 5, .slice Y 1 cy, .string ⟨#[104, 105]⟩] 33)).alloc (.cells #[.int .u8 0, .int .u8 0] 5)).heap.size (some ⟨w2.heap.size + 1, 0, .none⟩) ([0, 0].map B8)) := Lib.hid (by
    have h := Rd.made' (w2.alloc (.cells #[.int .i64 (-1), .int .u64 5, .slice Y 1 cy, .string ⟨#[104, 105]⟩] 33)) #[.int .u8 0, .int .u8 0] 5
    rw [show (w2.alloc (.cells #[.int .i64 (-1), .int .u64 5, .slice Y 1 cy, .string ⟨#[104, 105]⟩] 33)).heap.size = w2.heap.size + 1 by simp] at h
    exact h)
  have HY0 : Hid (((w2.alloc (.cells #[.int .i64 (-1), .int .u64 5, .slice Y 1 cy, .string ⟨#[104, 105]⟩] 33)).alloc (.cells #[.int .u8 0, .int .u8 0] 5)).heap[w2.heap.size]? = some (.cells #[.int .i64 (-1), .int .u64 5, .slice Y 1 cy, .string ⟨#[104, 105]⟩] 33 (0, 0))) := Lib.hid ((((Below.refl _ _).alloc (Nat.le_refl _) (.cells #[.int .u8 0, .int .u8 0] 5)).block w2.heap.size (by simp)).trans (heap_alloc_new w2 _))
  go_wp2_with fail
  refine (A3 _ _ HRZ.out).out.mono ?_
  rintro e w3 ⟨A6, c6, ms6, rfl, hms, hrl6, hb3⟩
  have HB3 := Lib.hid (HB2.out.trans ((HW3.out.trans (hb3.mono HW3.out.size)).mono HB2.out.size))
  have hb23 := HW3.out.trans (hb3.mono HW3.out.size)
  have HOK3 := Lib.hid (HOK2.out.below hb23)
  have HOKZ := Lib.hid (HOKY.out.below hb23)
  have HX3 := Lib.hid ((hb23.block (w.heap.size + 1) (Array.getElem?_eq_some_iff.1 HX2.out).1).trans HX2.out)
  have HY3 := Lib.hid ((hb3.block w2.heap.size (by simp <;> omega)).trans HY0.out)
  have HR3 := Lib.hid ((HR2.out.below hb23).more hb23.size)
  clear hb3 hb23 hms hrl6 A3 HX2 HOK2 HOKY HB2 HR2 HRZ HW3 HY0
  have q0 := box_cell (j := 0) HX3.out rfl
  have q1 := box_cell (j := 1) HX3.out rfl
  have q2 := box_cell (j := 2) HX3.out rfl
  have q3 := box_cell (j := 3) HX3.out rfl
  have r0 := box_cell (j := 0) HY3.out rfl
  have r1 := box_cell (j := 1) HY3.out rfl
  have r2 := box_cell (j := 2) HY3.out rfl
  have r3 := box_cell (j := 3) HY3.out rfl
  have hcv := run_bytes (P := Try.prog) w3 24 9 5 Try.underlying24 Try.underlying5 Try.underlying9 _ bs c1 w3.heap.size HR3.out
  have hbs : (⟨bs.toArray⟩ : ByteArray) = ⟨#[1, 5, 1, 1, 97, 1, 49, 2, 104, 105]⟩ := rfl
  simp only [hbs, show bs.length = 10 from rfl] at hcv
  clear hbs
  have hq : bs.length = 10 := rfl
  have A4 := Lib.hid (rsamer_any w3 _ _ HOK3.out HOKZ.out)
  rw [aw4] at A4
  unfold aggR slV S8 at A4
  simp only [show x0.time = -1 from rfl, show x0.seq = 5 from rfl, show x0.line = [104, 105] from rfl] at A4
  have A5 := fun w5 h => Lib.hid (P.compare w5 (x0, some ⟨w.heap.size, 0, .none⟩, 1, 1) (RcSpec.none, .none, 0, 0) h (okm_zero w5))
  simp only [aw5] at A5
  unfold aggR slV S8 at A5
  simp only [show x0.time = -1 from rfl, show x0.seq = 5 from rfl, show x0.line = [104, 105] from rfl, show RcSpec.none.time = 0 from rfl, show RcSpec.none.seq = 0 from rfl, show RcSpec.none.line = [] from rfl] at A5
  go_wp2_with fail
  refine A4.out.mono ?_
  rintro e w4 ⟨rfl, hb4⟩
  have HB4 := Lib.hid (HB3.out.trans (hb4.mono HB3.out.size))
  have HOK4 := Lib.hid (HOK3.out.below hb4)
  have HX4 := Lib.hid ((hb4.block (w.heap.size + 1) (Array.getElem?_eq_some_iff.1 HX3.out).1).trans HX3.out)
  clear hb4 A4 HX3 HY3 HOK3 HOKZ HB3 HR3 q0 q1 q2 q3 r0 r1 r2 r3
  have q0 := box_cell (j := 0) HX4.out rfl
  have q1 := box_cell (j := 1) HX4.out rfl
  have q2 := box_cell (j := 2) HX4.out rfl
  have q3 := box_cell (j := 3) HX4.out rfl
  go_wp2_with fail
  refine (A5 _ HOK4.out).out.mono ?_
  rintro e w5 ⟨rfl, hb5⟩
  have HB5 := Lib.hid (HB4.out.trans (hb5.mono HB4.out.size))
  clear hb5 A5
  go_wp2
  go_ret
  exact ⟨rfl, HB5.out⟩
end Go.Proofs.Ytahbaifbihpppaa.RcLaw
