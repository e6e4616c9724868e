/- The contract of Restart. Conditions: the disk lies in memory as 'PDisk' says; at most 10^9 files; the numbers that are handed in are of 64 bits, and don't lie in the disk's own memory. -/
import Derived.Test.YtjninegpaoblfaaGreatDoorPdApps
namespace Go.Proofs.YtjninegpaoblfaaGreatDoor.PdRes
open Go Go.RowKit Go.Maps Words DkSpec PdLook RefDisk PdDisk PdChange PdOps PdSync PdRen PdRead PdApp

def cr (f : DFile) (k : Int) : DFile := { f with data := f.data.take (stays f k), synced := stays f k }
/-- Restart, k files on. -/
def keptTo : Nat → List DFile → List Int → List DFile
  | 0, l, _ => l
  | _ + 1, [], _ => []
  | i + 1, f :: r, ks => cr f (ks.headD 0) :: keptTo i r ks.tail
theorem keptTo_all : ∀ (l : List DFile) (ks : List Int), keptTo l.length l ks = kept l ks
  | [], _ => rfl
  | f :: r, ks => by rw [List.length_cons, keptTo, kept, keptTo_all r]; rfl
theorem keptTo_get : ∀ (i : Nat) (l : List DFile) (ks : List Int), (keptTo i l ks)[i]? = l[i]?
  | 0, l, _ => rfl
  | i + 1, [], _ => by simp [keptTo]
  | i + 1, f :: r, ks => by rw [keptTo, List.getElem?_cons_succ, List.getElem?_cons_succ]; exact keptTo_get i r ks.tail
theorem tail_getD (ks : List Int) (i : Nat) : ks.tail.getD i 0 = ks.getD (i + 1) 0 := by cases ks <;> simp
theorem keptTo_succ : ∀ (i : Nat) (l : List DFile) (ks : List Int), keptTo (i + 1) l ks = (keptTo i l ks).modify i (fun f => cr f (ks.getD i 0))
  | 0, [], _ => rfl
  | 0, f :: r, ks => by
    have : ks.headD 0 = ks.getD 0 0 := by cases ks <;> simp
    simp only [keptTo, List.modify_zero_cons, this]
  | i + 1, [], _ => by simp [keptTo]
  | i + 1, f :: r, ks => by
    rw [keptTo, keptTo, List.modify_succ_cons, keptTo_succ i r ks.tail, tail_getD]
theorem keptTo_names : ∀ (i : Nat) (l : List DFile) (ks : List Int), (keptTo i l ks).map (·.name) = l.map (·.name)
  | 0, _, _ => rfl
  | _ + 1, [], _ => rfl
  | i + 1, f :: r, ks => by rw [keptTo, List.map_cons, List.map_cons, keptTo_names i r]; rfl
theorem keptTo_good : ∀ (i : Nat) (l : List DFile) (ks : List Int), (∀ f ∈ l, nameOk f.name = true ∧ f.synced ≤ f.data.length) → ∀ f ∈ keptTo i l ks, nameOk f.name = true ∧ f.synced ≤ f.data.length
  | 0, _, _, h => h
  | _ + 1, [], _, h => fun f hf => by cases hf
  | i + 1, g :: r, ks, h => fun f hf => by
    rw [keptTo] at hf
    rcases List.mem_cons.1 hf with rfl | hf
    · exact ⟨(h g (by simp)).1, by simp only [cr, List.length_take, stays]; omega⟩
    · exact keptTo_good i r ks.tail (fun f hf => h f (by simp [hf])) f hf
theorem rises_names {l l' : List DFile} (h : Rises l) (hn : l'.map (·.name) = l.map (·.name)) : Rises l' := by
  have hm : (l.map (·.name)).Pairwise (fun a b => less a b = true) := List.pairwise_map.2 h
  rw [← hn] at hm
  exact List.pairwise_map.1 hm
theorem look_modify_at (g : DFile → DFile) (hg : ∀ f, (g f).name = f.name) : ∀ {l : List DFile} (_ : Rises l) (i : Nat) (f : DFile), l[i]? = some f → ∀ s', fileOf s' (l.modify i g) = if s' = f.name then some (g f) else fileOf s' l
  | [], _, i, f, h, _ => by simp at h
  | x :: r, hr, 0, f, h, s' => by
    simp at h
    subst h
    rw [List.modify_zero_cons, fileOf, hg, fileOf]
    by_cases e : s' = x.name
    · rw [if_pos e.symm, if_pos e]
    · rw [if_neg (fun e' => e e'.symm), if_neg e, if_neg (fun e' => e e'.symm)]
  | x :: r, hr, i + 1, f, h, s' => by
    have hp := List.pairwise_cons.1 hr
    rw [List.getElem?_cons_succ] at h
    rw [List.modify_succ_cons, fileOf, fileOf, look_modify_at g hg hp.2 i f h s']
    by_cases e : s' = f.name
    · rw [if_pos e, if_pos e]
      have hne : x.name ≠ s' := fun e' => by
        have := hp.1 f (List.mem_of_getElem? h)
        rw [e', e, less_irrefl] at this
        cases this
      rw [if_neg hne]
    · rw [if_neg e, if_neg e]

theorem row_cut {w : World} {v : Value} {l : List UInt8} {A : Option Addr} {c n : Nat} (h : w.ownsRow 0 5 1 v l.length (l.map B8)) (hv : v = .slice A l.length c) (hn : n ≤ l.length) : w.ownsRow 0 5 1 (.slice A n c) (l.take n).length ((l.take n).map B8) := by
  have hlen : (l.take n).length = n := by simp; omega
  rw [hlen]
  refine ⟨by simp; omega, ?_⟩
  rcases h.2 with ⟨h1, h2⟩ | ⟨g, cap, cur, h1, h2, h3, h4, h5, h6, h7⟩
  · rw [hv] at h1
    injection h1 with e1 e2 e3
    exact .inl ⟨by rw [e1, e3, show n = 0 by omega], by omega⟩
  · rw [hv] at h1
    injection h1 with e1 e2 e3
    refine .inr ⟨g, cap, cur, by rw [e1, e3], h2, h3, by omega, h5, h6, ?_⟩
    have := congrArg (List.take n) h7
    rw [List.take_take, ← List.map_take] at this
    rw [← this]
    congr 1
    omega
/-- A file's crash, in its box. -/
theorem PAt.crashed {w w' : World} {K : Nat → Nat} {o p M : Nat} {D : DataW Unit} {L : Int} {G : List UInt8 → Nat} {Q : List UInt8 → Value} {d d' : DSt} (h : PAt w K o p M D L G Q d) {f : DFile} {k : Int} {A : Option Addr} {c : Nat} (hl : fileOf f.name d.files = some f) (hv : Q f.name = .slice A f.data.length c)
    (hh : w'.heap = ((w.setCell ⟨G f.name, 1, none⟩ (.int .i64 (stays f k : Int))).setCell ⟨G f.name, 0, none⟩ (.slice A (stays f k) c)).heap) (hg : DkSpec.Good d') (hlook : ∀ s', fileOf s' d'.files = if s' = f.name then some (cr f k) else fileOf s' d.files) (h1 : d'.full = d.full) (h2 : d'.off = d.off) (h3 : d'.left = d.left) :
    PAt w' K o p M D L G (fun s' => if s' = f.name then .slice A (stays f k) c else Q s') d' := by
  obtain ⟨_, hf⟩ := h.at_ _ f hl
  have hqg : ∀ q, (Q f.name).ownBlock = some q → q ≠ G f.name := fun q e => (h.ne_q hl e).2.2 _ f hl
  have hoth : ∀ i, i ≠ G f.name → w'.heap[i]? = w.heap[i]? := fun i hi => by
    rw [hh]
    exact (heap_setCell_other _ _ i _ hi).trans (heap_setCell_other w _ i _ hi)
  have hst : stays f k ≤ f.data.length := Nat.min_le_left _ _
  have hob : ∀ q, (Value.slice A (stays f k) c).ownBlock = some q → (Q f.name).ownBlock = some q := fun q e => by
    rw [hv]
    cases A with
    | none => cases e
    | some a => exact e
  refine h.file (fun _ _ => rfl) hl ⟨?_, ?_, hf.kind, fun q e => hf.rkind q (hob q e)⟩ (fun i _ hi _ => hoth i hi) (fun q e => .inl (hob q e)) hg hlook h1 h2 h3
  · rw [hh]
    have hb1 := heap_setCell_same w (G f.name) 1 _ _ (.int .i64 (stays f k : Int)) hf.box
    exact heap_setCell_same _ (G f.name) 0 _ _ _ hb1
  · have hrow := row_cut hf.row hv hst
    exact row_same hrow (fun q e => hoth q (hqg q (hob q e)))

def I64 (k : Int) : Value := .int .i64 k
/-- The loop: k files are done. -/
def Rel (w w1 : World) (K : Nat → Nat) (o p M : Nat) (D : DataW Unit) (L : Int) (G : List UInt8 → Nat) (d : DSt) (ks : List Int) (i : Value) (wr : World) : Prop := ∃ k : Nat, k ≤ d.files.length ∧ i = .int .i64 (k : Int) ∧
  Hid (∃ Qk, PAt wr K o p M D L G Qk { d with files := keptTo k d.files ks }) ∧ Hid (Turned K K o w wr) ∧ Hid (w1.heap.size = wr.heap.size) ∧ Hid (∀ j, (∀ s f, fileOf s d.files = some f → j ≠ G s) → wr.heap[j]? = w1.heap[j]?)

set_option maxHeartbeats 3200000 in
set_option maxRecDepth 100000 in
theorem restart_any (w : World) (K : Nat → Nat) (o p : Nat) (d : DSt) (ks : List Int) (A : Option Addr) (c : Nat) (hd : PDisk w K o p d) (hn : d.files.length ≤ 1000000000)
    (hr : Rd w w.heap.size A (ks.map I64)) (hk0 : ∀ b off, A = some ⟨b, off, none⟩ → 0 < ks.length → K b ≠ o) (hks : ∀ k ∈ ks, -9223372036854775808 ≤ k ∧ k ≤ 9223372036854775807) (hc : ks.length ≤ c) (hm : c ≤ maxLen) :
    Calls Tryz.prog 17 #[.pointer (some ⟨p, 0, none⟩), .slice A ks.length c] w (MPost w K o p (restart ks d)) := by
  obtain ⟨M, D, L, G, Q, h⟩ := hd
  have HN := Lib.hid (PdList.names_any w K o p M D L G Q d h hn)
  have HH := Lib.hid h
  have HR := Lib.hid hr
  have HK0 := Lib.hid hk0
  have HKS := Lib.hid hks
  have hne := eq_nil p
  unfold maxLen at hm
  have HGD : Hid (∀ k, DkSpec.Good { d with files := keptTo k d.files ks }) := Lib.hid (fun k => ⟨rises_names h.good.1 (keptTo_names k _ _), keptTo_good k _ _ h.good.2⟩)
  have HKA := Lib.hid (keptTo_all d.files ks)
  obtain ⟨n, hnn⟩ : ∃ n, d.files.length = n := ⟨_, rfl⟩
  have hl2 : (d.files.map (·.name)).length = n := by simp [hnn]
  unfold PdList.NmPost at HN
  rw [hl2] at HN
  have HNN := Lib.hid hnn
  rw [hnn] at hn
  clear h hr hk0 hks hnn hl2
  go_enter Tryz.func17, Tryz.ntmps17
  go_wp2_with fail
  refine HN.out.mono ?_
  rintro e w1 ⟨v, rfl, hown, hb1⟩
  obtain ⟨An, cn, rfl, hcn1, hcn2, hrdn, hblk⟩ := RefTake.own_rd hown
  have HRN := Lib.hid hrdn
  have HBK := Lib.hid hblk
  have HB1 := Lib.hid hb1
  unfold maxLen at hcn2
  clear hown hrdn hblk hb1
  go_wp2
  go_loopw [12] (fun i wr => Rel w w1 K o p M D L G d ks i wr) (fun i _ => n - (intOf i).toNat)
  case atStart =>
    exact ⟨0, Nat.zero_le _, rfl, Lib.hid ⟨Q, PAt.below HH.out HB1.out⟩, Lib.hid (turned_below HB1.out), Lib.hid rfl, Lib.hid (fun _ _ => rfl)⟩
  case round =>
    obtain ⟨k, hk, rfl, hpat, hturn, hsize, hfr⟩ := hrel
    rw [HNN.out] at hk
    by_cases hlt : k < n
    · obtain ⟨Qk, hp⟩ := hpat.out
      obtain ⟨bn, offn, rfl, hbn, hcelln⟩ := HRN.out (by simp [HNN.out]; omega)
      have hge := (HBK.out bn offn rfl).1
      have hltf : k < d.files.length := by rw [HNN.out]; exact hlt
      obtain ⟨f, hf⟩ : ∃ f, d.files[k]? = some f := ⟨_, List.getElem?_eq_getElem hltf⟩
      have hG0 : ∀ s f, fileOf s d.files = some f → G s < w.heap.size := fun s f hf => lt_of (HH.out.at_ s f hf).2.box
      have k0 : wr.cell? ⟨bn, offn + k, none⟩ = some (.string ⟨f.name.toArray⟩) := by
        rw [cell_of (hfr.out bn (fun s f hf e => by have := hG0 s f hf; omega))]
        exact hcelln k (S8 f.name) (by simp [hf])
      have hrk := (HGD.out k).1
      have hfk : (keptTo k d.files ks)[k]? = some f := (keptTo_get k d.files ks).trans hf
      have hl : fileOf f.name (keptTo k d.files ks) = some f := look_mem hrk (List.mem_of_getElem? hfk)
      have hl0 : fileOf f.name d.files = some f := look_mem HH.out.good.1 (List.mem_of_getElem? hf)
      have hfs := (HH.out.good.2 f (List.mem_of_getElem? hf)).2
      have hnl : f.name.length ≤ maxLen := by have := name_len HH.out.good hl0; unfold maxLen; omega
      have hlk := look_some hp hnl hl
      unfold S8 ptr at hlk
      obtain ⟨c0, _, _⟩ := PAt.cells hp
      obtain ⟨_, hfile⟩ := hp.at_ f.name f hl
      obtain ⟨A', c', hv, _, _, _⟩ := FileAt.open_ hfile
      have hnat : ∀ x : Int, -9223372036854775808 ≤ x → x ≤ 9223372036854775807 → Hid (Calls Tryz.prog 39 #[.pointer (some ⟨G f.name, 0, none⟩), .int .i64 x] wr (CrPost wr (G f.name) A' c' (stays f x))) := fun x h1 h2 =>
        Lib.hid (crash_any wr K o (G f.name) (Qk f.name) f x hfile hfs A' c' hv h1 h2)
      have HEND : Hid (∀ w5, (∃ e, CrPost wr (G f.name) A' c' (stays f (ks.getD k 0)) e w5) → Hid (∃ Qk, PAt w5 K o p M D L G Qk { d with files := keptTo (k + 1) d.files ks }) ∧ Hid (Turned K K o w w5) ∧ Hid (w1.heap.size = w5.heap.size) ∧ Hid (∀ j, (∀ s f, fileOf s d.files = some f → j ≠ G s) → w5.heap[j]? = w1.heap[j]?)) := Lib.hid (fun w5 hcp => by
        obtain ⟨e, _, hh, ho, ht, hu⟩ := hcp
        have hoth : ∀ i, i ≠ G f.name → w5.heap[i]? = wr.heap[i]? := fun i hi => by
          rw [hh]
          exact (heap_setCell_other _ _ i _ hi).trans (heap_setCell_other wr _ i _ hi)
        have hsz : w5.heap.size = wr.heap.size := by rw [hh]; simp
        refine ⟨Lib.hid ⟨_, PAt.crashed (d' := { d with files := keptTo (k + 1) d.files ks }) hp hl hv hh (HGD.out (k + 1)) (fun s' => ?_) rfl rfl rfl⟩, Lib.hid (hturn.out.trans ⟨ho, ht, hu, by omega, fun i hi hki => hoth i (fun e => hki (by rw [e]; exact hfile.kind)), fun _ _ => rfl⟩), Lib.hid (hsize.out.trans hsz.symm), Lib.hid (fun j hj => (hoth j (hj _ f hl0)).trans (hfr.out j hj))⟩
        show fileOf s' (keptTo (k + 1) d.files ks) = _
        rw [keptTo_succ]
        exact look_modify_at (fun f => cr f (ks.getD k 0)) (fun _ => rfl) hrk k f hfk s')
      by_cases hkk : k < ks.length
      · obtain ⟨bk, offk, rfl, hbk, hcellk⟩ := HR.out (by simp; omega)
        have hgd : ks.getD k 0 = ks[k] := by simp [List.getD, hkk]
        have k1 : wr.cell? ⟨bk, offk + k, none⟩ = some (.int .i64 ks[k]) := by
          rw [cell_of (hturn.out.block bk hbk (HK0.out bk offk rfl (by omega)))]
          exact hcellk k (I64 ks[k]) (by simp [hkk])
        have hx := HKS.out _ (List.getElem_mem hkk)
        have HCR := hnat ks[k] hx.1 hx.2
        rw [hgd] at HEND
        clear hpat hturn hsize hfr hp hl hl0 hfs hnl hfile hv hnat hcelln hcellk hfk hf hrk hltf hG0 hgd hx
        generalize hxx : ks[k] = x at *
        clear hxx
        generalize f.name = nm at *
        go_wp2_with fail
        refine HCR.out.mono ?_
        rintro e w5 hcp
        obtain ⟨r1, r2, r3, r4⟩ := HEND.out w5 ⟨e, hcp⟩
        obtain ⟨rfl, _⟩ := hcp
        go_wp2
        go_round
        case rel => exact ⟨k + 1, by rw [HNN.out]; omega, by go_num, r1, r2, r3, r4⟩
        case measure => simp [intOf]; omega
      · have hgd : ks.getD k 0 = 0 := by simp [List.getD, List.getElem?_eq_none (Nat.le_of_not_lt hkk)]
        have HCR := hnat 0 (by omega) (by omega)
        rw [hgd] at HEND
        clear hpat hturn hsize hfr hp hl hl0 hfs hnl hfile hv hnat hcelln hfk hf hrk hltf hG0 hgd
        generalize f.name = nm at *
        go_wp2_with fail
        refine HCR.out.mono ?_
        rintro e w5 hcp
        obtain ⟨r1, r2, r3, r4⟩ := HEND.out w5 ⟨e, hcp⟩
        obtain ⟨rfl, _⟩ := hcp
        go_wp2
        go_round
        case rel => exact ⟨k + 1, by rw [HNN.out]; omega, by go_num, r1, r2, r3, r4⟩
        case measure => simp [intOf]; omega
    · have hkn : k = n := by omega
      subst hkn
      obtain ⟨Qk, hp⟩ := hpat.out
      rw [show keptTo k d.files ks = kept d.files ks by rw [← HNN.out]; exact HKA.out] at hp
      have HT := Lib.hid (hturn.out.trans ((turned_setCell (w := wr) (p := p) (j := 1) (u := .bool false) hp.kp).trans (turned_setCell (w := wr.setCell ⟨p, 1, none⟩ (.bool false)) (p := p) (j := 2) (u := .int .i64 (-1)) hp.kp)))
      have HS : Hid (PAt ((wr.setCell ⟨p, 1, none⟩ (.bool false)).setCell ⟨p, 2, none⟩ (.int .i64 (-1))) K o p M D (-1) G Qk (restart ks d)) := Lib.hid (by
        have hb1 := heap_setCell_same wr p 1 _ _ (.bool false) hp.struct
        refine hp.poke (b := false) (L' := -1) (heap_setCell_same _ p 2 _ _ _ hb1) (fun i hi => (heap_setCell_other _ _ i _ hi).trans (heap_setCell_other wr _ i _ hi)) rfl (by omega) (by omega) rfl (fun h => by omega) (fun _ => (by decide : (-1 : Int) < 0)) rfl)
      obtain ⟨c0, c1, c2⟩ := PAt.cells hp
      have f1 := PAt.frozen hp 1
      have f2 := PAt.frozen hp 2
      clear hpat hturn hsize hfr hp c0
      go_wp2
      go_end0
      exact ⟨rfl, K, ⟨M, D, -1, G, Qk, HS.out⟩, HT.out⟩
theorem restart_nil (w : World) (A : Option Addr) (n c : Nat) : Calls Tryz.prog 17 #[.pointer none, .slice A n c] w fun e w' => e = .returned (.tuple #[]) ∧ w = w' := by
  have hne := nil_nil
  go_enter Tryz.func17, Tryz.ntmps17
  go_wp2
  refine bodyPost_ret (results_none rfl _ _ _) rfl ?_
  exact ⟨rfl, rfl⟩
end Go.Proofs.YtjninegpaoblfaaGreatDoor.PdRes
