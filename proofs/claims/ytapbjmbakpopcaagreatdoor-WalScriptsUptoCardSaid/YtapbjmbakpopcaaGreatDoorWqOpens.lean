/- The contract of the document's own Held: what a file's bytes hold, all of it in new memory. Condition: at most 2^40 bytes. · The contract of the document's own Read (of a disk): the error, or the file's bytes where they lie; the world stands. Conditions: the disk lies in memory as 'RefD' says; the name's length is at most the model's greatest. · The contract of the document's own Open. Conditions: the disk lies in memory as 'RefD' says, and what it has is within bounds. -/
import Derived.Test.YtapbjmbakpopcaaGreatDoorWqOps
import Derived.Test.YtapbjmbakpopcaaGreatDoorWpOpens
import Derived.Test.YtapbjmbakpopcaaGreatDoorWlRun
import Derived.Test.YtapbjmbakpopcaaGreatDoorReads
import Derived.Test.YtapbjmbakpopcaaGreatDoorRefOps
namespace Go.Proofs.YtapbjmbakpopcaaGreatDoor.WqHeld
open Go Go.RowKit Words WlName WlHeld WlLog Parts5 WlLaw WpPlain Reading WpPay

set_option maxHeartbeats 3200000 in
set_option maxRecDepth 100000 in
theorem held_any (l : List UInt8) (A : Option Addr) (n c : Nat) (w : World) (hn : n = l.length) (hr : Rd w w.heap.size A (l.map B8)) (hc : l.length ≤ c) (hm : c ≤ maxLen) (hl : l.length ≤ 1099511627776) :
    Calls Tryz.prog 37 #[.slice A n c] w (PyPost w (held l)) := by
  obtain ⟨i2, ei, ez0, ez1, ez2⟩ := info_parts WlRun.info_slice
  subst hn
  have HRD : Hid (∀ (wr : World) (t : Nat), Below w.heap.size w wr → Calls Tryz.prog 55 #[.slice A l.length c, .int .i64 (t : Int)] wr (ReadPost l (t : Int) wr)) := Lib.hid fun wr t hb =>
    RefRead.refr_any l A l.length c (t : Int) wr rfl ((hr.below hb).more hb.size) hc hm (by omega)
  clear hr hc hm
  go_enter Tryz.func37, Tryz.ntmps37
  go_wp2
  go_loopw [3, 4] (fun vh va wr => PRel w l vh va wr) (fun _ va _ => l.length - (intOf va).toNat)
  case atStart => exact ⟨0, _, Nat.zero_le _, rfl, rfl, Lib.hid ⟨[], at_start l, World.ownsRow_nil .., Below.refl _ _, fun q hq => by cases hq⟩⟩
  case round =>
    obtain ⟨t, vh, ht, rfl, rfl, hpr⟩ := hrel
    obtain ⟨hs, hpr⟩ := hpr
    have HP := Lib.hid hpr
    have H1 := Lib.hid (HRD.out wr t hpr.below)
    clear hpr
    have ht0 : (0 : Int) ≤ (t : Int) := by omega
    by_cases hx : rdE l (t : Int) = 0
    · obtain ⟨u, hu, htu, hul, hat⟩ := at_next HP.out.at_ hx
      have HAT := Lib.hid hat
      unfold ReadPost at H1
      rw [hu, hx] at H1
      obtain ⟨y, hy⟩ : ∃ y, rdP l (t : Int) = y := ⟨_, rfl⟩
      rw [hy] at H1 HAT
      have hcnt : hs.length ≤ t := by have h := HP.out.at_.2.1; simpa [pays] using h
      clear hat hu hx hy
      go_wp2_with fail
      refine H1.out.mono ?_
      rintro e w4 ⟨v4, rfl, hown4, hb4⟩
      obtain ⟨A4, c4, rfl, hc4, hm4, hrd4, hA4⟩ := RefTake.own_rd hown4
      have HB4 := Lib.hid (HP.out.below.trans (hb4.mono HP.out.below.size))
      have HO4 := Lib.hid (RefPut.own_keep HP.out.own hb4)
      have HPT : Hid (∀ q ∈ hs ++ [⟨A4, c4, y⟩], Pt w w4 vh q) := Lib.hid fun q hq => by
        rcases List.mem_append.1 hq with hq | hq
        · exact (HP.out.each q hq).below hb4
        · rw [List.mem_singleton.1 hq]
          refine ⟨⟨hrd4, hc4, hm4⟩, fun o j e => ⟨Nat.le_trans HP.out.below.size (hA4 o j e).1, (hA4 o j e).2.1⟩, fun o j e e2 => ?_⟩
          have h1 := (hA4 o j e).1
          have h2 := (HP.out.own.lt o e2).2
          omega
      have hs4 : w.heap.size ≤ w4.heap.size := HB4.out.size
      have HMD := Lib.hid (Rd.made w4 #[.slice A4 y.length c4] 38)
      clear hown4 hb4 hrd4 hA4 H1
      go_wp2_with (at_builtin; go_loud (refine App.wpList_append_rd _ rfl (.tmp 21) (.tmp 23) 30 rfl w.heap.size 38 i2 (.slice none 0 0) 24 Tryz.underlying30 ei ez0 ez1 ez2 rfl _ _ _ rfl (HO4.out.alloc _) (w4.heap.size + 1) (some ⟨w4.heap.size, 0, none⟩) 1 1 [.slice A4 y.length c4] rfl rfl HMD.out ?f1 ?f2 ?f3 ?f4 ?_))
      case f1 => first | rfl | (intro u hu; simp at hu; subst hu; rfl)
      case f2 => unfold maxLen; omega
      case f3 => omega
      case f4 => first | omega | (simp; omega)
      intro v6 w6 hown6 hg6 hv6
      have HPR : Hid (PR w l u (hs ++ [⟨A4, c4, y⟩]) v6 w6) := Lib.hid (by
        have hal : Below w4.heap.size w4 (w4.alloc (.cells #[.slice A4 y.length c4] 38)) := (Below.refl _ w4).alloc (Nat.le_refl _) _
        refine ⟨by rw [pays_snoc]; exact HAT.out, ?_, ?_, fun q hq => ((HPT.out q hq).below hal).grown hg6 (by simpa using hv6)⟩
        · rw [List.length_append, List.map_append]
          exact hown6
        · exact App.below_app (HO4.out.alloc _) (HB4.out.trans (hal.mono hs4)) hg6)
      clear hown6 hg6 hv6 HPT HO4 HB4 HMD HP HAT
      go_wp2
      go_roundw
      case rel => exact ⟨u, _, hul, rfl, rfl, Lib.hid ⟨_, HPR.out⟩⟩
      case measure => simp [intOf]; omega
    · have HX := Lib.hid (at_end HP.out.at_ hx)
      unfold ReadPost at H1
      obtain ⟨x, hxx⟩ : ∃ x, rdE l (t : Int) = x := ⟨_, rfl⟩
      rw [hxx] at H1 hx
      have d1 : (x != 0) = true := by simpa using hx
      obtain ⟨T, hT⟩ : ∃ T, rdT l (t : Int) = T := ⟨_, rfl⟩
      rw [hT] at H1
      clear hx hxx hT
      go_wp2_with fail
      refine H1.out.mono ?_
      rintro e w4 ⟨v4, rfl, hown4, hb4⟩
      have HB4 := Lib.hid hb4
      clear hown4 hb4 H1
      go_wp2
      go_ret
      exact ⟨vh, hs, rfl, HX.out.symm, RefPut.own_keep HP.out.own HB4.out, HP.out.below.trans (HB4.out.mono HP.out.below.size), fun q hq => (HP.out.each q hq).below HB4.out⟩
end Go.Proofs.YtapbjmbakpopcaaGreatDoor.WqHeld

namespace Go.Proofs.YtapbjmbakpopcaaGreatDoor.RefRead5
open Go Go.RowKit Words DkSpec RefDisk RefChange RefRow RefTake RefPut5 RefOps5

/-- What Read answers. -/
def RdPost (w : World) (K : Nat → Nat) (r : Nat × List UInt8) (e : Ending) (w' : World) : Prop := (∃ A c, e = .returned (.tuple #[.slice A r.2.length c, .int .i64 (r.1 : Int)]) ∧ r.2.length ≤ c ∧ c ≤ maxLen ∧ Rd w w.heap.size A (r.2.map B8) ∧ (∀ b off, A = some ⟨b, off, none⟩ → 0 < r.2.length → K b = 0)) ∧ w = w'
theorem rdpost_err {w : World} {K : Nat → Nat} {r : Nat × List UInt8} {n : Nat} {x : Int} (hr : r = (n, [])) (hx : x = (n : Int)) : RdPost w K r (.returned (.tuple #[.slice none 0 0, .int .i64 x])) w := by
  subst hr hx
  exact ⟨⟨none, 0, rfl, Nat.le_refl _, by unfold maxLen; omega, Rd.nil_, fun b off e => by cases e⟩, rfl⟩

theorem read_nil (w : World) (a : List UInt8) : Calls Tryz.prog 36 #[.pointer none, .string ⟨a.toArray⟩] w fun e w' => e = .returned (.tuple #[.slice none 0 0, .int .i64 2]) ∧ w = w' := by
  have hne := eq_nil
  go_enter Tryz.func36, Tryz.ntmps36
  go_wp2
  go_ret2
  exact ⟨rfl, rfl⟩

set_option maxHeartbeats 800000 in
theorem read_any (w : World) (K : Nat → Nat) (o p : Nat) (d : DSt) (a : List UInt8) (hd : RefD w K o p d) (ha : a.length ≤ maxLen) :
    Calls Tryz.prog 36 #[.pointer (some ⟨p, 0, none⟩), .string ⟨a.toArray⟩] w (RdPost w K (read a d)) := by
  have HNA := Lib.hid (name_list a w ha)
  have HFD := Lib.hid (find_any w K o p d a hd)
  obtain ⟨A, c, hc, hm, hp, hk, c0, c1, c2, c3, _, _, _, _, _, hf⟩ := hd
  have HFR := Lib.hid hf
  clear hk c1 c3 ha hf
  by_cases hna : nameOk a = true
  · rw [hna] at HNA
    cases hoff : d.off with
    | true =>
      have HX := Lib.hid (show read a d = (23, []) by unfold DkSpec.read refused; rw [hna, hoff]; rfl)
      rw [hoff] at c2
      clear hna hoff HFR HFD c0
      go_enter Tryz.func36, Tryz.ntmps36
      go_wp2_with fail
      refine HNA.out.mono ?_
      rintro e w1 ⟨rfl, rfl⟩
      go_wp2
      go_ret2
      exact rdpost_err HX.out rfl
    | false =>
      rw [hoff] at c2
      obtain ⟨i, b, hib⟩ : ∃ i b, place a d.files = (i, b) := ⟨_, _, rfl⟩
      have hle := place_le a d.files
      rw [hib] at HFD hle
      obtain ⟨_, hle2⟩ := hle
      simp only at hle2
      have h0 : ¬ refused a a d ≠ 0 := by unfold refused; rw [hna, hoff]; simp
      cases b with
      | false =>
        have HX := Lib.hid (show read a d = (21, []) by unfold DkSpec.read; rw [if_neg h0, hib]; rfl)
        clear hna hoff HFR c0 hib hle2 h0
        go_enter Tryz.func36, Tryz.ntmps36
        go_wp2_with fail
        refine HNA.out.mono ?_
        rintro e w1 ⟨rfl, rfl⟩
        go_wp2_with fail
        refine HFD.out.mono ?_
        rintro e w1 ⟨rfl, rfl⟩
        go_wp2
        go_ret2
        exact rdpost_err HX.out rfl
      | true =>
        have hil := (hle2 rfl).1
        obtain ⟨g, off, rfl, _, _, _, hcell⟩ := HFR.out (by omega)
        obtain ⟨_, ⟨A', c', k1, k1a, k1b, k1c, k1d⟩, _⟩ := hcell i (d.files[i]'hil) (List.getElem?_eq_getElem hil)
        have HX := Lib.hid (show read a d = (0, (d.files[i]'hil).data) by
          unfold DkSpec.read old
          rw [if_neg h0, hib]
          simp [List.getD, List.getElem?_eq_getElem hil])
        generalize (d.files[i]'hil) = f at *
        have H1 := Lib.hid k1a
        have H2 := Lib.hid k1b
        have H3 := Lib.hid k1c
        have H4 := Lib.hid k1d
        unfold maxLen at hm
        clear hna hoff hib hle2 h0 HFR hcell k1a k1b k1c k1d
        go_enter Tryz.func36, Tryz.ntmps36
        go_wp2_with fail
        refine HNA.out.mono ?_
        rintro e w1 ⟨rfl, rfl⟩
        go_wp2_with fail
        refine HFD.out.mono ?_
        rintro e w1 ⟨rfl, rfl⟩
        go_wp2
        go_ret2
        rw [HX.out]
        exact ⟨⟨A', c', rfl, H1.out, H2.out, H3.out, H4.out⟩, rfl⟩
  · have hna' : nameOk a = false := by simpa using hna
    have HX := Lib.hid (show read a d = (1, []) by unfold DkSpec.read refused; rw [hna']; rfl)
    rw [hna'] at HNA
    clear hna hna' HFR HFD c0 c2
    go_enter Tryz.func36, Tryz.ntmps36
    go_wp2_with fail
    refine HNA.out.mono ?_
    rintro e w1 ⟨rfl, rfl⟩
    go_wp2
    go_ret2
    exact rdpost_err HX.out rfl
end Go.Proofs.YtapbjmbakpopcaaGreatDoor.RefRead5

namespace Go.Proofs.YtapbjmbakpopcaaGreatDoor.WqOpen
open Go Go.RowKit Words DkSpec PdLook RefDisk PdDisk RefOps5 RefRead5 WlSpec WlName WlHeld WlLog WlMv Parts5 WlLaw WlSt WpPlain WqMv WqName WqOps WpPay WqHeld WpOpen

theorem op_err {w w' : World} {p : Nat} {r : Nat × List (List UInt8) × Option LSt} {n : Nat} {x : Int} (hr : r = (n, [], none)) (hx : x = (n : Int)) (hb : Below w.heap.size w w') : OpPost RLogR w p r (.returned (.tuple #[.pointer none, .slice none 0 0, .int .i64 x])) w' := by
  subst hr hx
  exact ⟨.pointer none, none, 0, [], rfl, rfl, ⟨rfl, Nat.le_refl _, by unfold maxLen; omega, (fun h => (by simp at h)), (fun q hq => (by cases hq))⟩, hb, rfl, (fun o j e => (by cases e)), (fun q hq => (by cases hq))⟩
/-- A log in a new block, beside what it holds. -/
theorem op_log {w0 w1 : World} {d : DSt} {p f n : Nat} {vh : Value} {hs : List Part} (h : w1.ownsRow w0.heap.size 38 1 vh hs.length (hs.map SV)) (hb : Below w0.heap.size w0 w1) (he : ∀ q ∈ hs, Pt w0 w1 vh q) (h1 : 1 ≤ f) (hn : 1 ≤ n)
    (hr : openL d (f : Int) = (0, pays hs, some ⟨f, n, false⟩)) :
    OpPost RLogR w0 p (openL d (f : Int)) (.returned (.tuple #[.pointer (some ⟨w1.heap.size, 0, none⟩), vh, .int .i64 0])) (w1.alloc (.cells #[.pointer (some ⟨p, 0, none⟩), .int .i64 (f : Int), .int .i64 (n : Int), .bool false] 53)) := by
  have hal : Below w1.heap.size w1 (w1.alloc (.cells #[.pointer (some ⟨p, 0, none⟩), .int .i64 (f : Int), .int .i64 (n : Int), .bool false] 53)) := (Below.refl _ w1).alloc (Nat.le_refl _) _
  obtain ⟨A, c, rfl, hc, hm, hrd, hA⟩ := RefTake.own_rd h
  rw [hr]
  refine ⟨_, A, c, hs, rfl, rfl, ⟨rfl, hc, hm, (hrd.below hal).more hal.size, fun q hq => ((he q hq).below hal).good⟩, hb.trans (hal.mono hb.size), w1.heap.size, rfl, hb.size, ⟨Go.heap_alloc_new _ _, h1, hn⟩, fun o j e _ => ?_, fun q hq o j e _ => ?_⟩
  · have := hA o j e
    exact ⟨this.1, by omega⟩
  · have := (he q hq).new o j e
    exact ⟨this.1, by omega⟩

section
variable (w : World) (K : Nat → Nat) (p : Nat) (d : DSt)
theorem open_low (first : Int) (h : first < 1) : Calls Tryz.prog 10 #[.pointer (some ⟨p, 0, none⟩), .int .i64 first] w (OpPost RLogR w p (openL d first)) := by
  have HX := Lib.hid (openL_out (d := d) (.inl h))
  have hne := WqMv.req_some p
  go_enter Tryz.func10, Tryz.ntmps10
  go_wp2
  go_ret3
  exact op_err HX.out rfl (Below.refl _ _)
theorem open_high (first : Int) (h : (1000000000 : Int) < first) : Calls Tryz.prog 10 #[.pointer (some ⟨p, 0, none⟩), .int .i64 first] w (OpPost RLogR w p (openL d first)) := by
  have HX := Lib.hid (openL_out (d := d) (.inr h))
  have hne := WqMv.req_some p
  have h2 : ¬ first < 1 := by omega
  have h3 : decide ((1000000000 : Int) < first) = true := decide_eq_true h
  go_enter Tryz.func10, Tryz.ntmps10
  go_wp2
  go_ret3
  exact op_err HX.out rfl (Below.refl _ _)

set_option maxHeartbeats 3200000 in
set_option maxRecDepth 100000 in
theorem open_in (f : Nat) (h1 : 1 ≤ f) (h2 : f ≤ 1000000000) (hd : RefD w K 4 p d) (hg : DkSpec.Good d) (hfit : Fit d) :
    Calls Tryz.prog 10 #[.pointer (some ⟨p, 0, none⟩), .int .i64 (f : Int)] w (OpPost RLogR w p (openL d (f : Int))) := by
  obtain ⟨i2, ei, ez0, ez1, ez2⟩ := info_parts WlRun.info_slice
  have a1 : ¬ (f : Int) < 1 := by omega
  have a2 : decide ((1000000000 : Int) < (f : Int)) = false := decide_eq_false (by omega)
  have hne := WqMv.req_some p
  have HNM : Hid (∀ (n : Nat) (wr : World), 1 ≤ n → n ≤ 1000000000 → Below w.heap.size w wr → Calls Tryz.prog 6 #[.int .i64 (n : Int)] wr fun e w' => e = .returned (.string ⟨(name n).toArray⟩) ∧ Below wr.heap.size wr w') := Lib.hid fun n wr k1 k2 _ =>
    name_ok_any wr n k1 (by unfold most; omega)
  have HRD : Hid (∀ (n : Nat) (wr : World), n ≤ 1000000000 → Below w.heap.size w wr → Calls Tryz.prog 36 #[.pointer (some ⟨p, 0, none⟩), .string ⟨(name n).toArray⟩] wr (RdPost wr K (DkSpec.read (name n) d))) := Lib.hid fun n wr k2 hb =>
    RefRead5.read_any wr K 4 p d _ (disk_grow p d hd hb) (by have := name_len32 n (by unfold most; omega); unfold maxLen; omega)
  have HPY : Hid (∀ (b : List UInt8) (A : Option Addr) (c : Nat) (wr : World), b.length ≤ tot d → Below w.heap.size w wr → Rd wr wr.heap.size A (b.map B8) → b.length ≤ c → c ≤ maxLen → Calls Tryz.prog 37 #[.slice A b.length c] wr (PyPost wr (held b))) := Lib.hid fun b A c wr hb _ hr hc hm =>
    held_any b A b.length c wr rfl hr hc hm (by have := hfit.small; omega)
  have HFL : Hid (∀ n : Nat, n ≤ 1000000000 → (DkSpec.read (name n) d).2.length ≤ tot d) := Lib.hid fun n hn => file_le hg (by unfold most; omega)
  have HLEN : Hid (∀ n : Nat, n ≤ 1000000000 → (DkSpec.read (name n) d).1 = 0 → (DkSpec.read (name n) d).2.length = lenOf (filed (name n) d.files)) := Lib.hid fun n hn h0 => read_len hg (by unfold most; omega) h0
  have HTOT : Hid (tot d ≤ 1099511627776) := Lib.hid hfit.small
  clear hd hg hfit
  go_enter Tryz.func10, Tryz.ntmps10
  go_wp2
  go_loopw [7, 8] (fun vh vn wr => ORel w d f vh vn wr) (fun _ vn _ => 1000000001 - (intOf vn).toNat)
  case atStart => exact ⟨f, _, Nat.le_refl _, by omega, rfl, rfl, Lib.hid ⟨[], World.ownsRow_nil .., Below.refl _ _, fun q hq => (by cases hq), by simp [pays], Nat.zero_le _⟩⟩
  case round =>
    obtain ⟨n, vh, hfn, hn1, rfl, rfl, hor⟩ := hrel
    obtain ⟨hs, hor⟩ := hor
    have HO := Lib.hid hor
    clear hor
    by_cases hlt : n ≤ 1000000000
    · have b1 : decide ((n : Int) ≤ 1000000000) = true := decide_eq_true (by omega)
      have H1 := Lib.hid (HNM.out n wr (by omega) hlt HO.out.below)
      have hk : 0 < most + 1 - n := by unfold most; omega
      have H2 : Hid (∀ w2, Below wr.heap.size wr w2 → Calls Tryz.prog 36 #[.pointer (some ⟨p, 0, none⟩), .string ⟨(name n).toArray⟩] w2 (RdPost w2 K (DkSpec.read (name n) d))) := Lib.hid fun w2 hb => HRD.out n w2 hlt (HO.out.below.trans (hb.mono HO.out.below.size))
      have HBAD : Hid (∀ r, (DkSpec.read (name n) d).1 = r → r ≠ 0 → r ≠ 21 → openL d (f : Int) = (r, [], none)) := Lib.hid fun r hr h0 h21 => by
        have hs := HO.out.is
        rw [scan_bad (by rw [hr]; exact h0) (by rw [hr]; exact h21) hk, hr] at hs
        exact openL_bad h1 h2 hs h0
      have HEND : Hid ((DkSpec.read (name n) d).1 = 21 → openL d (f : Int) = (0, pays hs, some ⟨f, n, false⟩)) := Lib.hid fun h21 => by
        have hs := HO.out.is
        rw [scan_end h21 hk] at hs
        rw [openL_ok h1 h2 hs]
        simp
      have HNEXT : Hid ((DkSpec.read (name n) d).1 = 0 → ∀ ps : List Part, pays ps = held (DkSpec.read (name n) d).2 → scan d (most + 1 - f) f = ((scan d (most + 1 - (n + 1)) (n + 1)).1, pays (hs ++ ps) ++ (scan d (most + 1 - (n + 1)) (n + 1)).2.1, (scan d (most + 1 - (n + 1)) (n + 1)).2.2) ∧ (hs ++ ps).length ≤ upTo d f (n + 1 - f)) := Lib.hid fun h0 ps hps => by
        have hs := HO.out.is
        rw [scan_next h0 hk, show most + 1 - n - 1 = most + 1 - (n + 1) by omega] at hs
        refine ⟨?_, ?_⟩
        · rw [hs]
          unfold pays at *
          rw [List.map_append, hps, List.append_assoc]
        · rw [show n + 1 - f = (n - f) + 1 by omega, upTo_next, show f + (n - f) = n by omega, ← HLEN.out n hlt h0, List.length_append]
          have e : ps.length = (held (DkSpec.read (name n) d).2).length := by rw [← hps]; simp [pays]
          have := held_len (DkSpec.read (name n) d).2
          have := HO.out.few
          omega
      have HUP : Hid (∀ m, upTo d f m ≤ 1099511627776) := Lib.hid fun m => Nat.le_trans (upTo_le d f m) HTOT.out
      have HFN := Lib.hid (HFL.out n hlt)
      obtain ⟨nm, hnm⟩ : ∃ nm, name n = nm := ⟨_, rfl⟩
      rw [hnm] at H1 H2 HBAD HEND HNEXT HFN
      obtain ⟨D, hD⟩ : ∃ D, DkSpec.read nm d = D := ⟨_, rfl⟩
      rw [hD] at H2 HBAD HEND HNEXT HFN
      obtain ⟨r, b⟩ := D
      simp only at HBAD HEND HNEXT HFN
      unfold RdPost at H2
      simp only at H2
      have hn0 : 1 ≤ n := by omega
      clear hnm hD hk
      by_cases hr21 : r = 21
      · have d1 : ((r : Int) == 21) = true := by simp [hr21]
        have HX := Lib.hid (HEND.out hr21)
        clear hr21 HBAD HEND HNEXT
        go_wp2_with fail
        refine H1.out.mono ?_
        rintro e w2 ⟨rfl, hb2⟩
        have HB2 := Lib.hid hb2
        have H3 := Lib.hid (H2.out w2 hb2)
        clear hb2
        go_wp2_with fail
        refine H3.out.mono ?_
        rintro e w3 ⟨⟨A3, c3, rfl, hc3, hm3, hrd3, _⟩, rfl⟩
        have HB3 := HB2
        clear hrd3 hc3 hm3 H3
        go_wp2
        go_ret3
        exact op_log (RefPut.own_keep HO.out.own HB3.out) (HO.out.below.trans (HB3.out.mono HO.out.below.size)) (fun q hq => (HO.out.each q hq).below HB3.out) h1 hn0 HX.out
      · by_cases hr0 : r = 0
        · have d1 : ((r : Int) == 21) = false := by simp [hr0]
          have d2 : ((r : Int) != 0) = false := by simp [hr0]
          have HNX := Lib.hid (HNEXT.out hr0)
          clear hr21 hr0 HBAD HEND HNEXT
          go_wp2_with fail
          refine H1.out.mono ?_
          rintro e w2 ⟨rfl, hb2⟩
          have HB2 := Lib.hid hb2
          have H3 := Lib.hid (H2.out w2 hb2)
          clear hb2
          go_wp2_with fail
          refine H3.out.mono ?_
          rintro e w3 ⟨⟨A3, c3, rfl, hc3, hm3, hrd3, _⟩, rfl⟩
          have HB3 := HB2
          have H4 := Lib.hid (HPY.out b A3 c3 _ HFN.out (HO.out.below.trans (HB3.out.mono HO.out.below.size)) hrd3 hc3 hm3)
          clear H3 hrd3
          go_wp2_with fail
          refine H4.out.mono ?_
          rintro e w4 ⟨v4, ps, rfl, hps, hown4, hb4, hpt4⟩
          obtain ⟨A4, c4, rfl, hc4, hm4, hrd4, hA4⟩ := RefTake.own_rd hown4
          have HB4 := Lib.hid (HB3.out.trans (hb4.mono HB3.out.size))
          have HBW := Lib.hid (HO.out.below.trans (HB4.out.mono HO.out.below.size))
          have HO4 := Lib.hid (RefPut.own_keep HO.out.own HB4.out)
          obtain ⟨hsc, hup⟩ := HNX.out ps hps
          have HSC := Lib.hid hsc
          have HUPL := Lib.hid hup
          have hfew : hs.length + ps.length ≤ 1099511627776 := by have := HUP.out (n + 1 - f); rw [List.length_append] at hup; omega
          have HPT : Hid (∀ q ∈ hs ++ ps, Pt w w4 vh q) := Lib.hid fun q hq => by
            rcases List.mem_append.1 hq with hq | hq
            · exact (HO.out.each q hq).below HB4.out
            · have h := hpt4 q hq
              refine ⟨h.good, fun o j e => ⟨Nat.le_trans (HO.out.below.trans (HB3.out.mono HO.out.below.size)).size (h.new o j e).1, (h.new o j e).2⟩, fun o j e e2 => ?_⟩
              have k1 := (h.new o j e).1
              have k2 := (HO.out.own.lt o e2).2
              have k3 := HB3.out.size
              omega
          have HRD4 := Lib.hid hrd4
          have hs4 : w.heap.size ≤ w4.heap.size := HBW.out.size
          clear hps hown4 hb4 hpt4 hrd4 hA4 hsc hup H4 HNX
          go_wp2_with (at_builtin; go_loud (refine App.wpList_append_rd _ rfl (.tmp 42) (.tmp 44) 30 rfl w.heap.size 38 i2 (.slice none 0 0) 24 Tryz.underlying30 ei ez0 ez1 ez2 rfl _ _ _ rfl HO4.out w4.heap.size A4 ps.length c4 (ps.map SV) rfl (by simp) HRD4.out ?f1 ?f2 ?f3 ?f4 ?_))
          case f1 => intro u hu; obtain ⟨q, _, rfl⟩ := List.mem_map.1 hu; rfl
          case f2 => unfold maxLen; omega
          case f3 => omega
          case f4 => exact hs4
          intro v6 w6 hown6 hg6 hv6
          have HOR : Hid (OR w d f (n + 1) (hs ++ ps) v6 w6) := Lib.hid (by
            refine ⟨?_, App.below_app HO4.out HBW.out hg6, fun q hq => (HPT.out q hq).grown hg6 hv6, HSC.out, HUPL.out⟩
            rw [List.length_append, List.map_append]
            exact hown6)
          clear hown6 hg6 hv6 HPT HO4 HB4 HBW HO HSC HUPL HRD4
          go_wp2
          go_roundw
          case rel => exact ⟨n + 1, _, by omega, by omega, by go_num, rfl, Lib.hid ⟨_, HOR.out⟩⟩
          case measure => simp [intOf]; omega
        · have d1 : ((r : Int) == 21) = false := beq_eq_false_iff_ne.2 (by omega)
          have d2 : ((r : Int) != 0) = true := by simp; omega
          have HX := Lib.hid (HBAD.out r rfl hr0 hr21)
          clear hr21 hr0 HBAD HEND HNEXT
          go_wp2_with fail
          refine H1.out.mono ?_
          rintro e w2 ⟨rfl, hb2⟩
          have HB2 := Lib.hid hb2
          have H3 := Lib.hid (H2.out w2 hb2)
          clear hb2
          go_wp2_with fail
          refine H3.out.mono ?_
          rintro e w3 ⟨⟨A3, c3, rfl, hc3, hm3, hrd3, _⟩, rfl⟩
          have HB3 := HB2
          clear hrd3 hc3 hm3 H3
          go_wp2
          go_ret3
          exact op_err HX.out rfl (HO.out.below.trans (HB3.out.mono HO.out.below.size))
    · have b1 : decide ((n : Int) ≤ 1000000000) = false := decide_eq_false (by omega)
      have HX : Hid (openL d (f : Int) = (3, [], none)) := Lib.hid (by
        have hs := HO.out.is
        rw [show most + 1 - n = 0 by unfold most; omega, scan] at hs
        exact openL_bad h1 h2 hs (by decide))
      clear hlt
      go_wp2
      go_ret3
      exact op_err HX.out rfl HO.out.below
theorem open_any (first : Int) (_ : In64 first) (hd : RefD w K 4 p d) (hg : DkSpec.Good d) (hfit : Fit d) :
    Calls Tryz.prog 10 #[.pointer (some ⟨p, 0, none⟩), .int .i64 first] w (OpPost RLogR w p (openL d first)) := by
  by_cases h : first < 1 ∨ (1000000000 : Int) < first
  · exact h.elim (open_low w p d first) (open_high w p d first)
  · obtain ⟨f, rfl⟩ : ∃ f : Nat, first = (f : Int) := ⟨first.toNat, by omega⟩
    exact open_in w K p d f (by omega) (by omega) hd hg hfit
end
end Go.Proofs.YtapbjmbakpopcaaGreatDoor.WqOpen

