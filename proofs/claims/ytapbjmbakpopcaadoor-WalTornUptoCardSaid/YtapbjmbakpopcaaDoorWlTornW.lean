/- WalTorn's own walk, over the contracts of the program's log. -/
import Derived.Test.YtapbjmbakpopcaaDoorWlRun
import Derived.Test.YtapbjmbakpopcaaDoorWlDrop
import Derived.Test.YtapbjmbakpopcaaDoorPdApp
import Derived.Test.YtapbjmbakpopcaaDoorFrame
import Derived.Deep.RegionHeld3
namespace Go.Proofs.YtapbjmbakpopcaaDoor.WlTornW
open Go Go.RowKit Words DkSpec PdLook RefDisk PdDisk PdOps PdRes WlSpec WlName WlHeld WlLog WlMv Parts5 WlLaw WlTot WlSt WlAwake WlRun WlDrop Framed Put RefPut

theorem dk_new {w0 w w' : World} {K : Nat → Nat} {p : Nat} {d : DSt} (h : DkSt w0 w K p d) (hb : Below w.heap.size w w') (m : Nat) : DkSt w0 w' (kmark K w.heap.size m) p d ∧ Mv K (kmark K w.heap.size m) S2 w w' := by
  have hm : Mv K (kmark K w.heap.size m) S2 w w' := Mv.new hb m
  obtain ⟨M, D, L, G, Q, hp⟩ := h.disk
  exact ⟨⟨⟨M, D, L, G, Q, hp.keep (fun i hi _ => hb.block i hi) (fun i hi => if_pos hi)⟩, h.mv.trans hm⟩, hm⟩
/-- Where the frames end. -/
def endsL (P : List (List UInt8)) : List Nat := (List.range P.length).map fun j => (frms (P.take (j + 1))).length
theorem ends_snoc (P : List (List UInt8)) (p : List UInt8) : endsL (P ++ [p]) = endsL P ++ [(frms (P ++ [p])).length] := by
  unfold endsL
  rw [List.length_append, List.length_cons, List.length_nil, List.range_succ, List.map_append, List.map_cons, List.map_nil]
  congr 1
  · refine List.map_congr_left fun j hj => ?_
    rw [List.mem_range] at hj
    rw [List.take_append_of_le_length (by omega)]
  · rw [List.take_of_length_le (by simp)]
def N64 (n : Nat) : Value := .int .i64 (n : Int)
def Sep (a b : Value) : Prop := ∀ k, a.ownBlock = some k → b.ownBlock ≠ some k
theorem sep_none {a b : Value} (h : Sep a b) : a.ownBlock = none ∨ a.ownBlock ≠ b.ownBlock := by
  cases e : a.ownBlock with
  | none => exact .inl rfl
  | some k => exact .inr fun e2 => h k e e2.symm
theorem Sep.symm {a b : Value} (h : Sep a b) : Sep b a := fun k e e2 => h k e2 e
/-- The round: i frames stand one behind the other, and their ends are known. -/
def TR (w0 : World) (pl : List Part) (i : Nat) (va ve : Value) (wr : World) : Prop :=
  Below w0.heap.size w0 wr ∧ wr.ownsRow w0.heap.size 5 1 va (frms (pays (pl.take i))).length ((frms (pays (pl.take i))).map B8) ∧ wr.ownsRow w0.heap.size 3 1 ve i ((endsL (pays (pl.take i))).map N64) ∧ Sep va ve ∧
    (∀ q ∈ pl.take i, q.l.length ≤ 65536)
def TRel (w0 : World) (pl : List Part) (va ve vi : Value) (wr : World) : Prop := ∃ (i : Nat) (xa xe : Value), i ≤ pl.length ∧ i ≤ 50 ∧ vi = .int .i64 (i : Int) ∧ xa = va ∧ xe = ve ∧ Hid (TR w0 pl i xa xe wr)
theorem whole_len : ∀ (m : Nat) (ps : List (List UInt8)), (frms (ps.take (whole m ps))).length ≤ m
  | _, [] => by simp [frms_nil]
  | m, p :: ps => by
    rw [whole]
    split
    · rw [List.take_succ_cons, frms_cons, List.length_append]
      have := whole_len (m - (frm p).length) ps
      omega
    · simp [frms_nil]
theorem frms_take_le (l : List (List UInt8)) (a : Nat) : (frms (l.take a)).length ≤ (frms l).length := by
  conv => rhs; rw [← List.take_append_drop a l, frms_append, List.length_append]
  omega
theorem whole_is {Q : List (List UInt8)} {n k : Nat} (hn : n ≤ Q.length) (hk : (frms (Q.take n)).length ≤ k) (h : n = Q.length ∨ k < (frms (Q.take (n + 1))).length) : n = whole k Q := by
  have h1 := le_whole k Q n hn hk
  have h2 := whole_le k Q
  have h3 := whole_len k Q
  rcases h with h | h
  · omega
  · rcases Nat.lt_or_ge n (whole k Q) with hlt | hge
    · have h4 := frms_take_le (Q.take (whole k Q)) (n + 1)
      rw [List.take_take, show min (n + 1) (whole k Q) = n + 1 by omega] at h4
      omega
    · omega
/-- The disk with the one file that was cut. -/
structure Torn (d : DSt) (ps : List (List UInt8)) : Prop where
  has : Has d 1 [ps]
  room : d.full = false
  left : d.left = -1
  free : ∀ j, 2 ≤ j → filed (name j) d.files = none
  small : tot d ≤ 4000000 ∧ d.files.length ≤ 1
theorem torn_disk {Q : List (List UInt8)} (hQ : ∀ p ∈ Q, p.length ≤ 65536) {k : Nat} (hk : k ≤ 4000000) : Torn (append (name 1) ((frms Q).take k) fresh).2 (Q.take (whole k Q)) := by
  obtain ⟨h1, h2, h3, h4, h5⟩ := append_look (data := (frms Q).take k) fresh_run.good (name_ok (n := 1) (by unfold most; omega)) rfl rfl
  have hg := good_append (name := name 1) (data := (frms Q).take k) fresh_run.good
  have ht := tot_append (name 1) ((frms Q).take k) fresh
  refine ⟨⟨hg, h4.trans rfl, fun i hi => ?_, ?_⟩, h2, h3.trans rfl, fun j hj => ?_, ?_⟩
  · have hi0 : i = 0 := by simpa using hi
    subst hi0
    rw [h5, if_pos rfl]
    refine ⟨_, rfl, ?_⟩
    exact held_cut k hQ
  · rw [h5, if_neg (fun e => by have := name_inj e; simp at this)]
    rfl
  · rw [h5, if_neg (fun e => by have := name_inj e; omega)]
    rfl
  · have e1 : tot fresh = 0 := rfl
    have e2 : fresh.files.length = 0 := rfl
    have e3 : ((frms Q).take k).length ≤ k := by rw [List.length_take]; omega
    omega
theorem name1 : name 1 = [119, 97, 108, 45, 49] := by decide +kernel
def NRel (w0 : World) (Q : List (List UInt8)) (k : Nat) (vn : Value) (wr : World) : Prop := ∃ n : Nat, n ≤ Q.length ∧ (frms (Q.take n)).length ≤ k ∧ vn = .int .i64 (n : Int) ∧ Hid (Below w0.heap.size w0 wr)
theorem frms_small : ∀ P : List (List UInt8), (∀ p ∈ P, p.length ≤ 65536) → (frms P).length ≤ 65550 * P.length
  | [], _ => by simp [frms_nil]
  | p :: P, h => by
    have ih := frms_small P (fun q hq => h q (by simp [hq]))
    have h1 := frm_small p (h p (by simp))
    have := h p (by simp)
    rw [frms_cons, List.length_append, List.length_cons]
    omega
theorem info_int : (Tryd.prog.info? 3).map (fun i => (i.zero, i.size, i.bytes)) = some (some (.int .i64 0), 1, 8) := by kernel_rfl

set_option maxHeartbeats 12800000 in
set_option maxRecDepth 100000 in
theorem torn_any {LogR : World → Nat → Nat → LSt → Prop} (P : Wal LogR) (w : World) (hL : WlTab.Lays w w.heap.size) (pl : List Part) (Ap : Option Addr) (cp : Nat) (hp : Ps w Ap pl.length cp pl) (cut : Int) (h64 : In64 cut)
    (mo : List UInt8) (Am : Option Addr) (cm : Nat) (hm : Rd w w.heap.size Am (mo.map B8)) (hcm : mo.length ≤ cm) (hmm : cm ≤ maxLen) (hmo : mo.length ≤ 1048576) (hb : (all pl).length + pl.length ≤ 1048576) :
    Calls Tryd.prog 5 #[.slice Ap pl.length cp, .int .i64 cut, .slice Am mo.length cm] w fun e w' => e = .returned (.bool true) ∧ Below w.heap.size w w' := by
  obtain ⟨i1, gi, gz0, gz1, gz2⟩ := info_parts Put.info_u8
  obtain ⟨i2, ei, ez0, ez1, ez2⟩ := info_parts info_int
  have HL := Lib.hid hL
  have HP := Lib.hid hp
  have HM := Lib.hid hm
  have H0 := Lib.hid (awake_any P w hL)
  have hpl : pl.length ≤ 1048576 := by omega
  clear hL hp
  go_enter Tryd.func5, Tryd.ntmps5
  go_wp2_with fail
  refine H0.out.mono ?_
  rintro e w0 ⟨rfl, hb0⟩
  have HB0 := Lib.hid hb0
  clear hb0 H0
  go_wp2
  go_loopw [7, 8, 9] (fun va ve vi wr => TRel w pl va ve vi wr) (fun _ _ vi _ => pl.length - (intOf vi).toNat)
  case atStart => exact ⟨0, _, _, Nat.zero_le _, by omega, rfl, rfl, rfl, Lib.hid ⟨HB0.out, World.ownsRow_nil .., World.ownsRow_nil .., fun k e => (by cases e), fun q hq => (by cases hq)⟩⟩
  case round =>
    obtain ⟨i, va, ve, hi, hi50, rfl, rfl, rfl, HTR⟩ := hrel
    by_cases hlt : i < pl.length ∧ i < 50
    · obtain ⟨hlt, h50⟩ := hlt
      obtain ⟨hbw, hown, hend, hsep, hsm⟩ := HTR.out
      have hargs := HP.out.below hbw
      obtain ⟨b1, o1, rfl, hb1, hc1⟩ := hargs.rd (by simp; omega)
      have k1 := hc1 i (SV pl[i]) (by rw [List.getElem?_map, List.getElem?_eq_getElem hlt]; rfl)
      have g1 := hargs.each _ (List.getElem_mem hlt)
      have HTK : Hid (pl.take (i + 1) = pl.take i ++ [pl[i]]) := Lib.hid (List.take_succ_eq_append_getElem hlt)
      obtain ⟨x, hx⟩ : ∃ x, pl[i] = x := ⟨_, rfl⟩
      rw [hx] at k1 g1 HTK
      have hpn : (pays (pl.take i)).length = i := by rw [pays_len, List.length_take]; omega
      have hfs := frms_small (pays (pl.take i)) (fun q hq => by unfold pays at hq; obtain ⟨r, h1, rfl⟩ := List.mem_map.1 hq; exact hsm r h1)
      rw [hpn] at hfs
      unfold SV at k1
      have j1 : (0 : Int) ≤ (i : Int) := by omega
      have j2 : (i : Int) < (pl.length : Int) := by omega
      have j3 : (i : Int) < 50 := by omega
      have HBW := Lib.hid hbw
      have HOWN := Lib.hid hown
      have HEND := Lib.hid hend
      have HSEP := Lib.hid hsep
      have HSM := Lib.hid hsm
      by_cases hlong : 65536 < x.l.length
      · have H4 := Lib.hid (frame_long x.l x.A x.l.length x.c wr rfl hlong)
        clear hargs hc1 hbw hown hend hsep hsm g1 hx HTR
        go_wp2_with fail
        refine H4.out.mono ?_
        rintro e w4 ⟨rfl, rfl⟩
        clear H4
        go_wp2
        go_ret
        exact ⟨rfl, HBW.out⟩
      · have H4 := Lib.hid (frame_ok x.l x.A x.l.length x.c wr rfl g1.1 g1.2.1 g1.2.2 (laid_keep HL.out hbw).halves (by omega))
        have HX : Hid (x.l.length ≤ 65536) := Lib.hid (by omega)
        have hfx := frm_small x.l HX.out
        clear hargs hc1 hbw hown hend hsep hsm g1 hx HTR
        go_wp2_with fail
        refine H4.out.mono ?_
        rintro e w4 ⟨v4, rfl, hown4, hb4⟩
        obtain ⟨A4, c4, rfl, _, hm4, hrd4⟩ := RefTake.own_rd hown4
        have HOA := Lib.hid (own_keep HOWN.out hb4)
        have HOE := Lib.hid (own_keep HEND.out hb4)
        have HB4 := Lib.hid (HBW.out.trans (hb4.mono HBW.out.size))
        have HRD4 := Lib.hid hrd4
        have HFL : Hid ((frms (pays (pl.take (i + 1)))) = frms (pays (pl.take i)) ++ frm x.l ∧ endsL (pays (pl.take (i + 1))) = endsL (pays (pl.take i)) ++ [(frms (pays (pl.take i))).length + (frm x.l).length]) := Lib.hid (by
          have e1 : pays (pl.take (i + 1)) = pays (pl.take i) ++ [x.l] := by rw [HTK.out]; unfold pays; rw [List.map_append]; rfl
          rw [e1, ends_snoc, frms_append, frms_cons, frms_nil, List.append_nil, List.length_append]
          exact ⟨rfl, rfl⟩)
        obtain ⟨F, hF⟩ : ∃ F, frms (pays (pl.take i)) = F := ⟨_, rfl⟩
        obtain ⟨y, hy⟩ : ∃ y, frm x.l = y := ⟨_, rfl⟩
        rw [hF] at hfs
        rw [hy] at hfx
        rw [hF, hy] at HFL
        rw [hF] at HOA
        rw [hy] at HRD4
        simp only [hy] at *
        have HSEP4 : Hid (∀ k, ve.ownBlock = some k → k < w4.heap.size) := Lib.hid fun k hk => ((HOE.out.lt k hk).2)
        have hs0 : w.heap.size ≤ w4.heap.size := HB4.out.size
        clear hown4 H4 hF hrd4 hb4 hy
        go_wp2_with (at_builtin; go_loud (refine App.wpList_append_rd _ rfl (.tmp 40) (.tmp 41) 23 rfl w.heap.size 5 i1 (.int .u8 0) 1 Tryd.underlying23 gi gz0 gz1 gz2 rfl _ _ _ rfl HOA.out w4.heap.size A4 y.length c4 (y.map B8) rfl (by simp) HRD4.out.1 ?f1 ?f2 ?f3 ?f4 ?_))
        case f1 => intro u hu; obtain ⟨z, _, rfl⟩ := List.mem_map.1 hu; rfl
        case f2 => unfold maxLen; omega
        case f3 => omega
        case f4 => exact hs0
        intro va5 w5 hown5 hg5 hv5
        have HOE5 := Lib.hid (HOE.out.kept hg5 (sep_none HSEP.out.symm))
        have HB5 := Lib.hid (App.below_app HOA.out HB4.out hg5)
        have HSEP5 : Hid (Sep va5 ve) := Lib.hid fun k hk e => by
          rcases hv5 with h | h
          · exact HSEP.out k (h.symm.trans hk) e
          · have h2 := h.symm.trans hk
            injection h2 with h2
            have := HSEP4.out k e
            omega
        obtain ⟨A5, c5, rfl, _, hm5, _⟩ := RefTake.own_rd hown5
        have HOA5 := Lib.hid hown5
        clear hown5 hg5 hv5 HOA HOE HSEP HSEP4 HRD4 HB4
        have hs5 : w.heap.size ≤ w5.heap.size := HB5.out.size
        have HMD := Lib.hid (Rd.made w5 #[.int .i64 ((F.length : Int) + (y.length : Int))] 3)
        go_wp2_with (at_builtin; go_loud (refine App.wpList_append_rd _ rfl (.tmp 43) (.tmp 46) 24 rfl w.heap.size 3 i2 (.int .i64 0) 8 Tryd.underlying24 ei ez0 ez1 ez2 rfl _ _ _ rfl (HOE5.out.alloc _) (w5.heap.size + 1) (some ⟨w5.heap.size, 0, none⟩) 1 1 [.int .i64 ((F.length : Int) + (y.length : Int))] rfl rfl HMD.out ?f1 ?f2 ?f3 ?f4 ?_))
        case f1 => first | rfl | (intro u hu; simp at hu; subst hu; rfl)
        case f2 => unfold maxLen; omega
        case f3 => omega
        case f4 => first | omega | (simp; omega)
        intro ve6 w6 hown6 hg6 hv6
        have HOA6 := Lib.hid ((HOA5.out.alloc (.cells #[.int .i64 ((F.length : Int) + (y.length : Int))] 3)).kept hg6 (sep_none HSEP5.out))
        have HTR6 : Hid (TR w pl (i + 1) (.slice A5 (F.length + y.length) c5) ve6 w6) := Lib.hid (by
          have hal5 : Below w5.heap.size w5 (w5.alloc (.cells #[.int .i64 ((F.length : Int) + (y.length : Int))] 3)) := (Below.refl _ w5).alloc (Nat.le_refl _) _
          obtain ⟨f1, f2⟩ := HFL.out
          refine ⟨(HB5.out.trans (hal5.mono hs5)).grown hg6 (by first | omega | (simp; omega)) (fun k hk => (HOE5.out.lt k hk).1), ?_, ?_, ?_, ?_⟩
          · rw [f1, List.length_append, List.map_append]
            exact HOA6.out
          · rw [f2, List.map_append]
            have e : List.map N64 [F.length + y.length] = [.int .i64 ((F.length : Int) + (y.length : Int))] := by simp [N64]
            rw [e]
            exact hown6
          · intro k hk e
            rcases hv6 with h | h
            · exact HSEP5.out k hk (h.symm.trans e)
            · have h2 := h.symm.trans e
              injection h2 with h2
              have := (HOA5.out.lt k hk).2
              first | omega | (simp at h2; omega)
          · rw [HTK.out]
            intro q hq
            exact (List.mem_append.1 hq).elim (HSM.out q) (fun h => by rw [List.mem_singleton.1 h]; exact HX.out))
        clear hown6 hg6 hv6 HOA6 HOE5 HOA5 HSEP5 HB5 HMD HFL
        go_wp2
        go_roundw
        case rel => exact ⟨i + 1, _, _, by omega, by omega, by go_num, rfl, rfl, HTR6⟩
        case measure => simp [intOf]; omega
    · obtain ⟨hbw, hown, hend, hsep, hsm⟩ := HTR.out
      have hpn : (pays (pl.take i)).length = i := by rw [pays_len, List.length_take]; omega
      have hQ : ∀ q ∈ pays (pl.take i), q.length ≤ 65536 := fun q hq => by unfold pays at hq; obtain ⟨r, h1, rfl⟩ := List.mem_map.1 hq; exact hsm r h1
      have hfs := frms_small _ hQ
      rw [hpn] at hfs
      have HQ := Lib.hid hQ
      obtain ⟨Aa, ca, rfl, hca, hma, hrda, _⟩ := RefTake.own_rd hown
      obtain ⟨Ae, ce, rfl, hce, hme, hrde, _⟩ := RefTake.own_rd hend
      obtain ⟨F, hF⟩ : ∃ F, frms (pays (pl.take i)) = F := ⟨_, rfl⟩
      rw [hF] at hown hfs hca hrda ⊢
      have HFF := Lib.hid hF
      have hw1 : IntKind.i64.wrap ((F.length : Int) + 1) = (F.length : Int) + 1 := by rw [IntKind.wrap_i64]; omega
      have hu1 : IntKind.u64.wrap ((F.length : Int) + 1) = (F.length : Int) + 1 := by rw [IntKind.wrap_u64]; omega
      obtain ⟨k, hk⟩ : ∃ k : Nat, (IntKind.u64.wrap cut).tmod ((F.length : Int) + 1) = (k : Int) := ⟨((IntKind.u64.wrap cut).tmod ((F.length : Int) + 1)).toNat, by
        have h0 : 0 ≤ IntKind.u64.wrap cut := by rw [IntKind.wrap_u64]; omega
        rw [Int.tmod_eq_emod_of_nonneg h0]
        have := Int.emod_nonneg (IntKind.u64.wrap cut) (show (F.length : Int) + 1 ≠ 0 by omega)
        omega⟩
      have hk2 : k ≤ F.length := by
        have h0 : 0 ≤ IntKind.u64.wrap cut := by rw [IntKind.wrap_u64]; omega
        rw [Int.tmod_eq_emod_of_nonneg h0] at hk
        have := Int.emod_lt_of_pos (IntKind.u64.wrap cut) (show 0 < (F.length : Int) + 1 by omega)
        omega
      have hwk : IntKind.i64.wrap (k : Int) = (k : Int) := by rw [IntKind.wrap_i64]; omega
      have hnz : ((F.length : Int) + 1 == 0) = false := beq_eq_false_iff_ne.2 (by omega)
      have hkc : (k : Int) ≤ (ca : Int) := by have : F.length ≤ ca := hca; omega
      have hk0 : (0 : Int) ≤ (k : Int) := by omega
      have H4 := Lib.hid (new_any wr (kmark (fun _ => 0) w.heap.size 3) 1)
      have HBW := Lib.hid hbw
      have HOWN := Lib.hid hown
      have HEND := Lib.hid hend
      have HCA := Lib.hid hca
      have HMA := Lib.hid hma
      clear hbw hown hend hsep hsm HTR hQ hF hca hma hrda hce hme hrde
      rcases Nat.lt_or_ge i pl.length with hlt2 | hlt2
      case' inl =>
        have j1 : (i : Int) < (pl.length : Int) := by omega
        have j2 : ¬ (i : Int) < 50 := by omega
        go_wp2_with fail
      case' inr =>
        have j1 : ¬ (i : Int) < (pl.length : Int) := by omega
        go_wp2_with fail
      all_goals
        refine H4.out.mono ?_
        rintro e w4 ⟨p, K4, rfl, _, hd4, ht4⟩
        have hm4 : Mv (kmark (fun _ => 0) w.heap.size 3) K4 S2 wr w4 := Mv.of (ht4 1) (.inl rfl)
        have S4 : Hid (DkSt w w4 K4 p fresh) := Lib.hid ⟨hd4, (Mv.new HBW.out 3).trans hm4⟩
        obtain ⟨o4, ko4⟩ := own_mv2 HOWN.out (fun q hq => by rw [kmark_new (HOWN.out.lt q hq).1]; unfold S2; omega) hm4
        obtain ⟨e4, ke4⟩ := own_mv2 HEND.out (fun q hq => by rw [kmark_new (HEND.out.lt q hq).1]; unfold S2; omega) hm4
        have hkl : (F.take k).length = k := by rw [List.length_take]; omega
        have H5 := Lib.hid (PdApp.append_any w4 K4 1 p fresh [119, 97, 108, 45, 49] (F.take k) Aa ca S4.out.disk (by simp) (by simp [fresh]) (by rw [hkl]; simp [old, place, fresh]; omega) (by rw [List.map_take]; exact (Rd.of_own o4).take k) (fun b off e _ => by
          have := ko4 b (by rw [e]; rfl)
          unfold S2 at this
          omega))
        rw [hkl] at H5
        have O4 := Lib.hid o4
        have KO4 := Lib.hid ko4
        have E4 := Lib.hid e4
        have KE4 := Lib.hid ke4
        clear hd4 ht4 hm4 o4 ko4 e4 ke4 H4
        go_wp2_with fail
        refine H5.out.mono ?_
        rintro e w5 ⟨rfl, K5, hd5, ht5⟩
        have hm5 : Mv K4 K5 S2 w4 w5 := Mv.of ht5 (.inl rfl)
        obtain ⟨s5, _⟩ := S4.out.turned hd5 ht5
        obtain ⟨o5, ko5⟩ := own_mv2 O4.out KO4.out hm5
        obtain ⟨e5, ke5⟩ := own_mv2 E4.out KE4.out hm5
        have S5 := Lib.hid s5
        have E5 := Lib.hid e5
        clear hd5 ht5 hm5 s5 o5 ko5 e5 ke5 H5 S4 O4 KO4 E4 KE4
        go_wp2
        go_loopw [14] (fun vn wr => NRel w5 (pays (pl.take i)) k vn wr) (fun vn _ => i - (intOf vn).toNat)
        case atStart => exact ⟨0, by rw [hpn]; exact Nat.zero_le _, by simp [frms_nil], rfl, Lib.hid (Below.refl _ _)⟩
        case round =>
          obtain ⟨n, hn, hnk, rfl, HBN⟩ := hrel
          rw [hpn] at hn
          by_cases hgo : n < i ∧ (frms ((pays (pl.take i)).take (n + 1))).length ≤ k
          · obtain ⟨hni, hmk⟩ := hgo
            obtain ⟨be, oe, rfl, hbe, hce⟩ := (Rd.of_own E5.out) (by rw [List.length_map]; unfold endsL; simp; omega)
            have kn := (HBN.out.cell (p := ⟨be, oe + n, none⟩) hbe).trans (hce n (N64 (frms ((pays (pl.take i)).take (n + 1))).length) (by rw [List.getElem?_map]; unfold endsL; rw [List.getElem?_map, List.getElem?_range (by omega)]; rfl))
            unfold N64 at kn
            have j5 : (n : Int) < (i : Int) := by omega
            have j6 : (0 : Int) ≤ (n : Int) := by omega
            obtain ⟨m, hm'⟩ : ∃ m, (frms ((pays (pl.take i)).take (n + 1))).length = m := ⟨_, rfl⟩
            rw [hm'] at kn hmk
            have HM' := Lib.hid hm'
            clear hm' hbe hce
            have j7 : (m : Int) ≤ (k : Int) := by omega
            go_wp2
            go_roundw
            case rel => exact ⟨n + 1, by omega, by rw [HM'.out]; exact hmk, by go_num, HBN⟩
            case measure => simp [intOf]; omega
          · have HW : Hid (n = whole k (pays (pl.take i))) := Lib.hid (whole_is (by omega) hnk (by omega))
            have HTN : Hid (Torn (append [119, 97, 108, 45, 49] (F.take k) fresh).2 ((pays (pl.take i)).take n)) := Lib.hid (by
              rw [← name1, ← HFF.out, HW.out]
              exact torn_disk HQ.out (by omega))
            obtain ⟨s6, m6⟩ := dk_new S5.out HBN.out 3
            have S6 := Lib.hid s6
            have H6 := Lib.hid (P.opens wr _ p _ 1 ⟨by decide, by decide⟩ S6.out.disk HTN.out.has.good ⟨by have := HTN.out.small; omega, by have := HTN.out.small; omega⟩ (laid_keep HL.out S6.out.below))
            have ho := open_has HTN.out.has (Nat.le_refl _) (by unfold most; simp)
            rw [show ((1 : Nat) : Int) = 1 from rfl] at ho
            rw [ho] at H6
            clear s6 m6 ho
            rcases Nat.lt_or_ge n i with hni | hni
            case' inl =>
              obtain ⟨be, oe, rfl, hbe, hce⟩ := (Rd.of_own E5.out) (by rw [List.length_map]; unfold endsL; simp; omega)
              have kn := (HBN.out.cell (p := ⟨be, oe + n, none⟩) hbe).trans (hce n (N64 (frms ((pays (pl.take i)).take (n + 1))).length) (by rw [List.getElem?_map]; unfold endsL; rw [List.getElem?_map, List.getElem?_range (by omega)]; rfl))
              unfold N64 at kn
              have j5 : (n : Int) < (i : Int) := by omega
              have j6 : (0 : Int) ≤ (n : Int) := by omega
              obtain ⟨m, hm'⟩ : ∃ m, (frms ((pays (pl.take i)).take (n + 1))).length = m := ⟨_, rfl⟩
              rw [hm'] at kn hgo
              have j7 : ¬ (m : Int) ≤ (k : Int) := by omega
              clear hm' hbe hce hgo
              go_wp2_with fail
            case' inr =>
              have j5 : ¬ (n : Int) < (i : Int) := by omega
              clear hgo
              go_wp2_with fail
            all_goals
              refine H6.out.mono ?_
              rintro e w7 h7
              obtain ⟨g7, A7, c7, ps7, rfl, hp7, hps7, hb7, hg7, hl7, hn7⟩ := op_some h7
              obtain ⟨s7, m7⟩ := S6.out.opened P hb7 hl7 hg7
              have T7 := Lib.hid s7
              have PK7 := Lib.hid (PsK.opened (K := kmark K5 w5.heap.size 3) hps7 hn7)
              have hp7' : pays ps7 = (pays (pl.take i)).take n := by rw [hp7]; simp
              have hl7' : ps7.length = n := by rw [← pays_len, hp7', List.length_take]; omega
              have HP7 := Lib.hid hp7'
              have HL7 := Lib.hid hl7'
              have hni2 : n ≤ i := by omega
              have hcp : (n : Int) ≤ (cp : Int) := by have := HP.out.le; omega
              have hn0 : (0 : Int) ≤ (n : Int) := by omega
              have hpt : pays ((pl.take n)) = (pays (pl.take i)).take n := by unfold pays; rw [← List.map_take, List.take_take, show min n i = n by omega]
              have HPT := Lib.hid hpt
              have H8 := Lib.hid (same_any w7 ps7 _ A7 _ _ _ c7 cp hps7 ((HP.out.below s7.below).take n (by omega)))
              rw [show decide (pays ps7 = pays (pl.take n)) = true by rw [decide_eq_true_eq, hp7', hpt]] at H8
              have HNI := Lib.hid hni2
              clear h7 hp7 hps7 hb7 hg7 hl7 hn7 s7 m7 hl7' hp7' hpt H6 S6 hni hnk
              go_wp2_with fail
              refine H8.out.mono ?_
              rintro e w8 ⟨rfl, hb8⟩
              obtain ⟨s8, m8⟩ := T7.out.new P hb8 3
              have T8 := Lib.hid s8
              have PK8 := Lib.hid (PK7.out.mv m8)
              have H9 := Lib.hid (P.number w8 p g7 _ T8.out.log (by unfold most; simp))
              rw [show ((((⟨1, 1 + [List.take n (pays (List.take i pl))].length, false⟩ : LSt)).n : Nat) : Int) = 2 by simp] at H9
              clear hb8 s8 m8 H8 T7 PK7
              go_wp2_with fail
              refine H9.out.mono ?_
              rintro e w9 ⟨rfl, hb9⟩
              obtain ⟨s9, m9⟩ := T8.out.new P hb9 3
              have T9 := Lib.hid s9
              have PK9 := Lib.hid (PK8.out.mv m9)
              clear hb9 s9 m9 H9 T8 PK8
              have hkm : ∀ o off, Am = some ⟨o, off, none⟩ → 0 < mo.length → kmark (kmark (markg (kmark K5 w5.heap.size 3) wr.heap.size g7) w7.heap.size 3) w8.heap.size 3 o ≠ 1 ∧ kmark (kmark (markg (kmark K5 w5.heap.size 3) wr.heap.size g7) w7.heap.size 3) w8.heap.size 3 o ≠ 2 := fun o off e hl => by
                obtain ⟨b', off', e', hb', _⟩ := HM.out (by simpa using hl)
                rw [e] at e'
                cases e'
                have := old_kind T9.out.mv hb'
                unfold S2 at this
                omega
              have hrm : Rd w9 w9.heap.size Am (mo.map B8) := (HM.out.below T9.out.below).more T9.out.below.size
              have H10 := Lib.hid (P.append w9 _ p g7 _ _ mo Am cm T9.out.disk T9.out.log T9.out.kg HTN.out.has.good ⟨by have := HTN.out.small; omega, by have := HTN.out.small; omega⟩ (by have := HTN.out.small; omega) (by unfold most; simp) (laid_keep HL.out T9.out.below) hrm hcm hmm hkm)
              have t12 := tot_appendL mo ⟨1, 1 + [List.take n (pays (List.take i pl))].length, false⟩ (append [119, 97, 108, 45, 49] (F.take k) fresh).2
              have HT12 : Hid (tot (appendL mo ⟨1, 1 + [List.take n (pays (List.take i pl))].length, false⟩ (append [119, 97, 108, 45, 49] (F.take k) fresh).2).2.2 ≤ 6000000 ∧ (appendL mo ⟨1, 1 + [List.take n (pays (List.take i pl))].length, false⟩ (append [119, 97, 108, 45, 49] (F.take k) fresh).2).2.2.files.length ≤ 2) := Lib.hid (by have := HTN.out.small; omega)
              clear hkm t12
              by_cases hlong : 65536 < mo.length
              · have j8 : (65536 : Int) < (mo.length : Int) := by omega
                rw [show appendL mo ⟨1, 1 + [List.take n (pays (List.take i pl))].length, false⟩ (append [119, 97, 108, 45, 49] (F.take k) fresh).2 = (4, ⟨1, 1 + [List.take n (pays (List.take i pl))].length, false⟩, (append [119, 97, 108, 45, 49] (F.take k) fresh).2) by unfold appendL; rw [if_pos hlong]] at H10
                clear hrm HT12
                go_wp2_with fail
                refine H10.out.mono ?_
                rintro e w10 h10
                obtain ⟨rfl, K10, s10, _⟩ := T9.out.step P h10
                have HBB := Lib.hid s10.below
                clear h10 s10 H10 T9 PK9
                go_wp2
                go_ret
                exact ⟨rfl, HBB.out⟩
              · obtain ⟨q1, q2⟩ := has_more HTN.out.has HTN.out.room HTN.out.left (fun j hj => HTN.out.free j (by simpa using hj)) (by unfold most; simp) (p := mo) (by omega)
                obtain ⟨D12, hD12⟩ : ∃ D12, appendL mo ⟨1, 1 + [List.take n (pays (List.take i pl))].length, false⟩ (append [119, 97, 108, 45, 49] (F.take k) fresh).2 = D12 := ⟨_, rfl⟩
                rw [hD12] at q1 q2 H10 HT12
                obtain ⟨e12, l12, d12⟩ := D12
                simp only at q1 q2 HT12
                subst q1
                have HA12 := Lib.hid q2
                clear q2 hD12 hrm hlong
                go_wp2_with fail
                refine H10.out.mono ?_
                rintro e w10 h10
                obtain ⟨rfl, K10, s10, m10⟩ := T9.out.step P h10
                have T10 := Lib.hid s10
                have PK10 := Lib.hid (PK9.out.mv m10)
                have H13 := Lib.hid (P.opens w10 K10 p _ 1 ⟨by decide, by decide⟩ T10.out.disk HA12.out.good ⟨by have := HT12.out.2; show d12.files.length ≤ _; omega, by have := HT12.out.1; show tot d12 ≤ _; omega⟩ (laid_keep HL.out T10.out.below))
                have ho := open_has HA12.out (Nat.le_refl _) (by unfold most; simp)
                rw [show ((1 : Nat) : Int) = 1 from rfl] at ho
                rw [ho] at H13
                clear h10 s10 m10 ho H10 T9 PK9
                go_wp2_with fail
                refine H13.out.mono ?_
                rintro e w13 h13
                obtain ⟨g13, A13, c13, ps13, rfl, hp13, hps13, hb13, hg13, hl13, hn13⟩ := op_some h13
                obtain ⟨s13, m13⟩ := T10.out.dk.opened P hb13 hl13 hg13
                have hp13' : pays ps13 = (pays (pl.take i)).take n ++ [mo] := by rw [hp13]; simp
                have hl13' : ps13.length = n + 1 := by have h := congrArg List.length hp13'; rw [pays_len, List.length_append, List.length_take] at h; have := HNI.out; simp at h; omega
                have hc13 := hps13.le
                have hlt13 : n < ps13.length := by omega
                have HX13 : Hid ((ps13[n]).l = mo) := Lib.hid (by
                  have h : (pays ps13)[n]? = some mo := by rw [hp13', List.getElem?_append_right (by rw [List.length_take]; omega), List.length_take]; have := HNI.out; rw [show n - min n (pays (pl.take i)).length = 0 by omega]; rfl
                  simpa [pays, hlt13] using h)
                have hsame13 : decide (pays (ps13.take n) = pays (pl.take n)) = true := by rw [decide_eq_true_eq, pays_take, hp13', HPT.out, List.take_left' (by rw [List.length_take]; have := HNI.out; omega)]
                have H14 : Hid (∀ w', Below w13.heap.size w13 w' → Calls Tryd.prog 15 #[.slice A13 n c13, .slice Ap n cp] w' fun e w'' => e = .returned (.bool true) ∧ Below w'.heap.size w' w'') := Lib.hid fun w' hb' => by
                  have h := same_any w' (ps13.take n) (pl.take n) A13 Ap n n c13 cp ((hps13.below hb').take n (by omega)) ((HP.out.below (s13.below.trans (hb'.mono s13.below.size))).take n (by have := HNI.out; omega))
                  rw [hsame13] at h
                  exact h
                have HPS13 := Lib.hid hps13
                have HB13 := Lib.hid s13.below
                have HRM := Lib.hid (show Rd w13 w13.heap.size Am (mo.map B8) from (HM.out.below s13.below).more s13.below.size)
                have i1 : ((ps13.length : Int) == (n : Int) + 1) = true := by simp; omega
                have hwn : IntKind.i64.wrap ((n : Int) + 1) = (n : Int) + 1 := by rw [IntKind.wrap_i64]; omega
                have i2 : (n : Int) ≤ (c13 : Int) := by omega
                have i3 : (n : Int) < (ps13.length : Int) := by omega
                have hbm : (mo == mo) = true := by simp
                obtain ⟨b15, o15, rfl, hb15, hc15⟩ := hps13.rd (by simp; omega)
                have k15 := hc15 n (SV ps13[n]) (by rw [List.getElem?_map, List.getElem?_eq_getElem hlt13]; rfl)
                have g15 := hps13.each _ (List.getElem_mem hlt13)
                have hxe := HX13.out
                obtain ⟨x, hx⟩ : ∃ x, ps13[n] = x := ⟨_, rfl⟩
                rw [hx] at k15 g15 hxe
                unfold SV at k15
                rw [hxe] at k15
                have HALL : Hid (∀ w14, Below w13.heap.size w13 w14 → w14.cell? ⟨b15, o15 + n, none⟩ = some (.slice x.A mo.length x.c) ∧
                    (convert 23 9 (.slice x.A mo.length x.c)).run Tryd.prog w14 = .ok (.string ⟨mo.toArray⟩) w14 ∧ (convert 23 9 (.slice Am mo.length cm)).run Tryd.prog w14 = .ok (.string ⟨mo.toArray⟩) w14) := Lib.hid fun w14 hb14 => by
                  have s15 := run_bytes (P := Tryd.prog) w14 23 9 5 Tryd.underlying23 Tryd.underlying5 Tryd.underlying9 x.A x.l x.c w13.heap.size (g15.1.below hb14)
                  rw [hxe] at s15
                  have s16 := run_bytes (P := Tryd.prog) w14 23 9 5 Tryd.underlying23 Tryd.underlying5 Tryd.underlying9 Am mo cm w13.heap.size (HRM.out.below hb14)
                  exact ⟨(hb14.cell (p := ⟨b15, o15 + n, none⟩) hb15).trans k15, s15, s16⟩
                have HBA : Hid (∀ w14, Below w13.heap.size w13 w14 → Below w.heap.size w w14) := Lib.hid fun w14 hb14 => HB13.out.trans (hb14.mono HB13.out.size)
                have HG0 : Hid (Below w13.heap.size w13 w13.drew) := Lib.hid ⟨rfl, rfl, rfl, Nat.le_refl _, fun _ _ => rfl⟩
                obtain ⟨k13, s13', t13⟩ := HALL.out w13.drew HG0.out
                have GS : ∀ w', Hid (Below w13.heap.size w13 w') → Hid (Calls Tryd.prog 15 #[.slice (some ⟨b15, o15, none⟩) n c13, .slice Ap n cp] w' fun e w'' => e = .returned (.bool true) ∧ Hid (Below w13.heap.size w13 w'') ∧ w''.cell? ⟨b15, o15 + n, none⟩ = some (.slice x.A mo.length x.c) ∧
                    (convert 23 9 (.slice x.A mo.length x.c)).run Tryd.prog w'' = .ok (.string ⟨mo.toArray⟩) w'' ∧ (convert 23 9 (.slice Am mo.length cm)).run Tryd.prog w'' = .ok (.string ⟨mo.toArray⟩) w'') := fun w' g => Lib.hid ((H14.out w' g.out).mono fun e w'' ⟨h1, h2⟩ => by
                  have hb : Below w13.heap.size w13 w'' := g.out.trans (h2.mono g.out.size)
                  exact ⟨h1, Lib.hid hb, HALL.out w'' hb⟩)
                clear h13 hp13 hp13' hps13 hb13 hg13 hl13 hn13 s13 m13 H13 T10 PK10 hl13' hb15 hc15 k15 g15 hxe hx HX13 HPS13 HRM HB13 HALL H14 hsame13 hw1 hu1 hk hwk hnz hc13 hlt13
                go_wp2_with fail
                go_region_held3 (fun w' => Hid (Below w13.heap.size w13 w') ∧ w'.cell? ⟨b15, o15 + n, none⟩ = some (.slice x.A mo.length x.c) ∧ (convert 23 9 (.slice x.A mo.length x.c)).run Tryd.prog w' = .ok (.string ⟨mo.toArray⟩) w' ∧ (convert 23 9 (.slice Am mo.length cm)).run Tryd.prog w' = .ok (.string ⟨mo.toArray⟩) w') (first | assumption | go_keep)
                  ((go_at_call 15; ((with_reducible refine (GS _ (by assumption)).out.mono ?_); rintro e w14 ⟨rfl, g14, k14, s14, t14⟩)))
                all_goals
                  go_wp2
                  go_ret
                  exact ⟨rfl, HBA.out _ (‹Hid (Below w13.heap.size w13 _)›).out⟩
end Go.Proofs.YtapbjmbakpopcaaDoor.WlTornW
