/- The contract of payloads: what a file's bytes hold, all of it in new memory. Conditions: the table lies as the text lays it; at most 2^40 bytes. -/
import Derived.Test.YtapbjmbakpopcaaDoorWpOps
import Derived.Test.YtapbjmbakpopcaaDoorWlRun
import Derived.Test.YtapbjmbakpopcaaDoorReads
namespace Go.Proofs.YtapbjmbakpopcaaDoor.WpPay
open Go Go.RowKit Words WlName WlHeld WlLog Parts5 WlLaw WpPlain Reading

/-- A payload in new memory, apart from the list that names it. -/
structure Pt (w0 w : World) (vh : Value) (q : Part) : Prop where
  good : Parts5.Good w w.heap.size q
  new : ∀ o j, q.A = some ⟨o, j, none⟩ → w0.heap.size ≤ o ∧ o < w.heap.size
  off : ∀ o j, q.A = some ⟨o, j, none⟩ → vh.ownBlock ≠ some o
section
variable {w0 w w' : World} {vh v' : Value} {q : Part}
theorem Pt.below (h : Pt w0 w vh q) (hb : Below w.heap.size w w') : Pt w0 w' vh q :=
  ⟨⟨(h.good.1.below hb).more hb.size, h.good.2⟩, fun o j e => ⟨(h.new o j e).1, Nat.lt_of_lt_of_le (h.new o j e).2 hb.size⟩, h.off⟩
theorem Pt.grown (h : Pt w0 w vh q) (hg : w.grownBy w' vh.ownBlock) (hv : v'.ownBlock = vh.ownBlock ∨ v'.ownBlock = some w.heap.size) : Pt w0 w' v' q := by
  refine ⟨⟨(h.good.1.grownBy hg (Nat.le_refl _) (fun b off e e2 => h.off b off e e2.symm)).more hg.size, h.good.2⟩, fun o j e => ⟨(h.new o j e).1, Nat.lt_of_lt_of_le (h.new o j e).2 hg.size⟩, fun o j e => ?_⟩
  rcases hv with hv | hv
  · rw [hv]; exact h.off o j e
  · rw [hv]
    intro e2
    injection e2 with e2
    have := (h.new o j e).2
    omega
end
/-- What has been read up to place t. -/
structure PR (w0 : World) (l : List UInt8) (t : Nat) (hs : List Part) (vh : Value) (wr : World) : Prop where
  at_ : At l t (pays hs)
  own : wr.ownsRow w0.heap.size 23 1 vh hs.length (hs.map SV)
  below : Below w0.heap.size w0 wr
  each : ∀ q ∈ hs, Pt w0 wr vh q
def PRel (w0 : World) (l : List UInt8) (vh va : Value) (wr : World) : Prop := ∃ (t : Nat) (xh : Value), t ≤ l.length ∧ va = .int .i64 (t : Int) ∧ xh = vh ∧ Hid (∃ hs, PR w0 l t hs xh wr)
/-- What payloads answers. -/
def PyPost (w : World) (ls : List (List UInt8)) (e : Ending) (w' : World) : Prop :=
  ∃ (v : Value) (hs : List Part), e = .returned v ∧ pays hs = ls ∧ w'.ownsRow w.heap.size 23 1 v hs.length (hs.map SV) ∧ Below w.heap.size w w' ∧ ∀ q ∈ hs, Pt w w' v q
theorem pays_snoc (hs : List Part) (q : Part) : pays (hs ++ [q]) = pays hs ++ [q.l] := by unfold pays; rw [List.map_append]; rfl

set_option maxHeartbeats 3200000 in
set_option maxRecDepth 100000 in
theorem payloads_any (l : List UInt8) (A : Option Addr) (n c : Nat) (w : World) (hn : n = l.length) (hr : Rd w w.heap.size A (l.map B8)) (hc : l.length ≤ c) (hm : c ≤ maxLen) (hL : WlTab.Lays w w.heap.size) (hl : l.length ≤ 1099511627776) :
    Calls Tryd.prog 25 #[.slice A n c] w (PyPost w (held l)) := by
  obtain ⟨i2, ei, ez0, ez1, ez2⟩ := info_parts WlRun.info_slice
  subst hn
  have HRD : Hid (∀ (wr : World) (t : Nat), Below w.heap.size w wr → Calls Tryd.prog 37 #[.slice A l.length c, .int .i64 (t : Int)] wr (ReadPost l (t : Int) wr)) := Lib.hid fun wr t hb =>
    Read2.read_any l A l.length c (t : Int) wr rfl ((hr.below hb).more hb.size) hc hm (WpOps.lays_keep hL hb).halves
  clear hr hc hm hL
  go_enter Tryd.func25, Tryd.ntmps25
  go_wp2
  go_loopw [3, 4] (fun vh va wr => PRel w l vh va wr) (fun _ va _ => l.length - (intOf va).toNat)
  case atStart => exact ⟨0, _, Nat.zero_le _, rfl, rfl, Lib.hid ⟨[], at_start l, World.ownsRow_nil .., Below.refl _ _, fun q hq => by cases hq⟩⟩
  case round =>
    obtain ⟨t, vh, ht, rfl, rfl, hpr⟩ := hrel
    obtain ⟨hs, hpr⟩ := hpr
    have HP := Lib.hid hpr
    have H1 := Lib.hid (HRD.out wr t hpr.below)
    clear hpr
    by_cases hx : rdE l (t : Int) = 0
    · obtain ⟨u, hu, htu, hul, hat⟩ := at_next HP.out.at_ hx
      have HAT := Lib.hid hat
      unfold ReadPost at H1
      rw [hu, hx] at H1
      obtain ⟨y, hy⟩ : ∃ y, rdP l (t : Int) = y := ⟨_, rfl⟩
      rw [hy] at H1 HAT
      have hcnt : hs.length ≤ t := by have h := HP.out.at_.2.1; simpa [pays] using h
      clear hat hu hx hy
      go_wp2_with fail
      refine H1.out.mono ?_
      rintro e w4 ⟨v4, rfl, hown4, hb4⟩
      obtain ⟨A4, c4, rfl, hc4, hm4, hrd4, hA4⟩ := RefTake.own_rd hown4
      have HB4 := Lib.hid (HP.out.below.trans (hb4.mono HP.out.below.size))
      have HO4 := Lib.hid (RefPut.own_keep HP.out.own hb4)
      have HPT : Hid (∀ q ∈ hs ++ [⟨A4, c4, y⟩], Pt w w4 vh q) := Lib.hid fun q hq => by
        rcases List.mem_append.1 hq with hq | hq
        · exact (HP.out.each q hq).below hb4
        · rw [List.mem_singleton.1 hq]
          refine ⟨⟨hrd4, hc4, hm4⟩, fun o j e => ⟨Nat.le_trans HP.out.below.size (hA4 o j e).1, (hA4 o j e).2.1⟩, fun o j e e2 => ?_⟩
          have h1 := (hA4 o j e).1
          have h2 := (HP.out.own.lt o e2).2
          omega
      have hs4 : w.heap.size ≤ w4.heap.size := HB4.out.size
      have HMD := Lib.hid (Rd.made w4 #[.slice A4 y.length c4] 23)
      clear hown4 hb4 hrd4 hA4 H1
      go_wp2_with (at_builtin; go_loud (refine App.wpList_append_rd _ rfl (.tmp 18) (.tmp 20) 22 rfl w.heap.size 23 i2 (.slice none 0 0) 24 Tryd.underlying22 ei ez0 ez1 ez2 rfl _ _ _ rfl (HO4.out.alloc _) (w4.heap.size + 1) (some ⟨w4.heap.size, 0, none⟩) 1 1 [.slice A4 y.length c4] rfl rfl HMD.out ?f1 ?f2 ?f3 ?f4 ?_))
      case f1 => first | rfl | (intro u hu; simp at hu; subst hu; rfl)
      case f2 => unfold maxLen; omega
      case f3 => omega
      case f4 => first | omega | (simp; omega)
      intro v6 w6 hown6 hg6 hv6
      have HPR : Hid (PR w l u (hs ++ [⟨A4, c4, y⟩]) v6 w6) := Lib.hid (by
        have hal : Below w4.heap.size w4 (w4.alloc (.cells #[.slice A4 y.length c4] 23)) := (Below.refl _ w4).alloc (Nat.le_refl _) _
        refine ⟨by rw [pays_snoc]; exact HAT.out, ?_, ?_, fun q hq => ((HPT.out q hq).below hal).grown hg6 (by simpa using hv6)⟩
        · rw [List.length_append, List.map_append]
          exact hown6
        · exact App.below_app (HO4.out.alloc _) (HB4.out.trans (hal.mono hs4)) hg6)
      clear hown6 hg6 hv6 HPT HO4 HB4 HMD HP HAT
      go_wp2
      go_roundw
      case rel => exact ⟨u, _, hul, rfl, rfl, Lib.hid ⟨_, HPR.out⟩⟩
      case measure => simp [intOf]; omega
    · have HX := Lib.hid (at_end HP.out.at_ hx)
      unfold ReadPost at H1
      obtain ⟨x, hxx⟩ : ∃ x, rdE l (t : Int) = x := ⟨_, rfl⟩
      rw [hxx] at H1 hx
      have d1 : (x != 0) = true := by simpa using hx
      obtain ⟨T, hT⟩ : ∃ T, rdT l (t : Int) = T := ⟨_, rfl⟩
      rw [hT] at H1
      clear hx hxx hT
      go_wp2_with fail
      refine H1.out.mono ?_
      rintro e w4 ⟨v4, rfl, hown4, hb4⟩
      have HB4 := Lib.hid hb4
      clear hown4 hb4 H1
      go_wp2
      go_ret
      exact ⟨vh, hs, rfl, HX.out.symm, RefPut.own_keep HP.out.own HB4.out, HP.out.below.trans (HB4.out.mono HP.out.below.size), fun q hq => (HP.out.each q hq).below HB4.out⟩
end Go.Proofs.YtapbjmbakpopcaaDoor.WpPay
