/- The contract of the document's Canon of labels: the canonical list in new memory, or what is wrong. Condition: none but that the list lies in memory. -/
import Derived.Test.YtkgmcabamhpjhaaGreatLbRefs
import Derived.Test.YtkgmcabamhpjhaaGreatUtRunesB
import Derived.Test.YtkgmcabamhpjhaaGreatBase
import Derived.OwnWalk
namespace Go.Proofs.YtkgmcabamhpjhaaGreat.LbCanon
open Go Go.RowKit Words AppN UtSpec Less LbSpec LbText LbMem LbRef LbCmp UtOwn UtRunes

def WAsc (l : List Lab) : Prop := l.Pairwise fun a b => less b.1 a.1 = false
theorem le_trans' {a b c : List UInt8} (h : less b a = false) (h' : less c b = false) : less c a = false := by
  cases e : less c a with
  | false => rfl
  | true =>
    by_cases e2 : a = b
    · subst e2; rw [e] at h'; cases h'
    · rcases less_total e2 with h1 | h1
      · rw [less_trans e h1] at h'; cases h'
      · rw [h1] at h; cases h
theorem wasc_put {x : Lab} : ∀ {l : List Lab}, WAsc l → WAsc (put x l)
  | [], _ => by unfold WAsc; simp [put]
  | y :: l, h => by
    unfold WAsc at h ⊢
    rw [List.pairwise_cons] at h
    rw [put]
    split
    · rename_i hy
      rw [List.pairwise_cons]
      refine ⟨fun z hz => ?_, wasc_put h.2⟩
      rcases mem_put.1 hz with rfl | hz
      · cases e : less z.1 y.1 with
        | false => rfl
        | true => have := less_trans e hy; rw [less_irrefl] at this; cases this
      · exact h.1 z hz
    · rename_i hy
      have hyx : less y.1 x.1 = false := by simpa using hy
      rw [List.pairwise_cons, List.pairwise_cons]
      refine ⟨fun z hz => ?_, h⟩
      rcases List.mem_cons.1 hz with rfl | hz
      · exact hyx
      · exact le_trans' hyx (h.1 z hz)
theorem wasc_sort (l : List Lab) : WAsc (sort l) := by
  have key : ∀ (l o : List Lab), WAsc o → WAsc (l.foldl (fun o x => put x o) o) := by
    intro l
    induction l with
    | nil => intro o h; exact h
    | cons x l ih => intro o h; exact ih _ (wasc_put h)
  exact key l [] (by unfold WAsc; simp)
theorem posL_pos (n : List UInt8) (l : List Lab) : posL n l = pos n (l.map Prod.fst) := by
  unfold posL pos
  rw [List.takeWhile_map, List.length_map]
  rfl
theorem posL_before (n : List UInt8) (o : List Lab) (k : Nat) (hk : k < o.length) (h : k < posL n o) : less (o[k]).1 n = true := by
  have := pos_before n (o.map Prod.fst) k (by simpa using hk) (by rw [← posL_pos]; exact h)
  simpa using this
theorem posL_at (n : List UInt8) (o : List Lab) (h : posL n o < o.length) : less (o[posL n o]).1 n = false := by
  have := pos_at n (o.map Prod.fst) (by rw [← posL_pos]; simpa using h)
  simp only [← posL_pos] at this
  simpa using this
theorem hit_iff {n : List UInt8} {o : List Lab} (hw : WAsc o) : n ∈ o.map Prod.fst ↔ ∃ h : posL n o < o.length, (o[posL n o]'h).1 = n := by
  constructor
  · intro hm
    obtain ⟨x, hx, rfl⟩ := List.mem_map.1 hm
    obtain ⟨j, hj, rfl⟩ := List.mem_iff_getElem.1 hx
    have hp : posL (o[j]).1 o ≤ j := by
      rcases Nat.lt_or_ge j (posL (o[j]).1 o) with h | h
      · have := posL_before (o[j]).1 o j hj h
        rw [less_irrefl] at this
        cases this
      · exact h
    refine ⟨by omega, ?_⟩
    have h1 := posL_at (o[j]).1 o (by omega)
    by_cases e : posL (o[j]).1 o = j
    · simp only [e]
    · have h2 := List.pairwise_iff_getElem.1 hw (posL (o[j]).1 o) j (by omega) hj (by omega)
      by_cases e2 : (o[posL (o[j]).1 o]'(by omega)).1 = (o[j]).1
      · exact e2
      · rcases less_total e2 with h3 | h3
        · rw [h3] at h1; cases h1
        · rw [h3] at h2; cases h2
  · rintro ⟨h, e⟩
    rw [← e]
    exact List.mem_map_of_mem (List.getElem_mem h)
theorem sort_take {l : List Lab} {i : Nat} (h : i < l.length) : sort (l.take (i + 1)) = put l[i] (sort (l.take i)) := by
  rw [List.take_succ_eq_append_getElem h, sort_snoc]
theorem dup_take {l : List Lab} {i : Nat} (h : i < l.length) : dup (l.take (i + 1)) = (dup (l.take i) || decide ((l[i]).1 ∈ (sort (l.take i)).map Prod.fst)) := by
  have hp : ((l[i]).1 ∈ (sort (l.take i)).map Prod.fst) ↔ (l[i]).1 ∈ (l.take i).map Prod.fst := ((sort_perm (l.take i)).map Prod.fst).mem_iff
  unfold dup
  rw [List.take_succ_eq_append_getElem h, List.map_append, Bool.eq_iff_iff]
  simp only [decide_eq_true_eq, Bool.or_eq_true, hp, List.map_cons, List.map_nil]
  rw [List.nodup_append]
  constructor
  · intro h1
    by_cases h2 : ((l.take i).map Prod.fst).Nodup
    · refine .inr ?_
      by_cases h3 : (l[i]).1 ∈ (l.take i).map Prod.fst
      · exact h3
      · exact absurd ⟨h2, by simp, fun a ha b hb e => h3 (by simp at hb; subst hb; rw [← e]; exact ha)⟩ h1
    · exact .inl h2
  · rintro (h1 | h1) ⟨h2, _, h3⟩
    · exact h1 h2
    · exact h3 _ h1 _ (by simp) rfl
theorem firstErr_take {l : List Lab} {i : Nat} (h : i < l.length) (h0 : firstErr (l.take i) = 0) : firstErr (l.take (i + 1)) = lerr l[i] := by
  induction l generalizing i with
  | nil => simp at h
  | cons x l ih =>
    cases i with
    | zero =>
      simp [firstErr]
      intro h
      exact h.symm
    | succ i =>
      rw [List.take_succ_cons, firstErr] at h0 ⊢
      by_cases e : lerr x = 0
      · rw [if_pos e] at h0 ⊢
        have := ih (by simpa using h) h0
        simpa using this
      · rw [if_neg e] at h0
        exact absurd h0 e
theorem firstErr_more {l : List Lab} {i : Nat} (h : firstErr (l.take i) ≠ 0) : firstErr l = firstErr (l.take i) := by
  induction l generalizing i with
  | nil => simp at h ⊢
  | cons x l ih =>
    cases i with
    | zero => simp [firstErr] at h
    | succ i =>
      rw [List.take_succ_cons, firstErr] at h ⊢
      rw [firstErr]
      by_cases e : lerr x = 0
      · rw [if_pos e] at h ⊢
        rw [if_pos e]
        exact ih h
      · rw [if_neg e, if_neg e]
theorem canon_err {l : List Lab} {i e : Nat} (h : i < l.length) (hf : l.length ≤ 16) (h0 : firstErr (l.take i) = 0) (he : lerr l[i] = e) (hn : e ≠ 0) : canon l = (e, []) := by
  have h1 := firstErr_take h h0
  have h2 := firstErr_more (l := l) (i := i + 1) (by rw [h1, he]; exact hn)
  rw [h1, he] at h2
  unfold canon
  rw [if_neg (by omega), h2, if_pos hn]

def CPost (r : Nat × List Lab) (w : World) (e : Ending) (w' : World) : Prop :=
  ∃ v, e = .returned (.tuple #[v, .int .i64 (r.1 : Int)]) ∧ w'.ownsRow w.heap.size 70 2 v r.2.length (flat r.2) ∧ Below w.heap.size w w'
theorem cpost_err {l : List Lab} {e : Nat} {w w' : World} {x : Int} (h : canon l = (e, [])) (hx : x = (e : Int)) (hb : Below w.heap.size w w') : CPost (canon l) w (.returned (.tuple #[.slice none 0 0, .int .i64 x])) w' := by
  rw [h, hx]
  exact ⟨_, rfl, World.ownsRow_nil .., hb⟩
def ORel (l : List Lab) (w : World) (vo vt vi : Value) (wr : World) : Prop :=
  ∃ i : Nat, i ≤ l.length ∧ vi = .int .i64 (i : Int) ∧ vt = .bool (dup (l.take i)) ∧ wr.ownsRow w.heap.size 70 2 vo i (flat (sort (l.take i))) ∧ Hid (firstErr (l.take i) = 0) ∧ Hid (Below w.heap.size w wr)
def PRel (o : List Lab) (n : List UInt8) (m : Nat) (w : World) (vo va : Value) (wr : World) : Prop :=
  ∃ j : Nat, j ≤ posL n o ∧ va = .int .i64 (j : Int) ∧ wr.ownsRow w.heap.size 70 2 vo m (flat o) ∧ Hid (Below w.heap.size w wr)
theorem rd_cut2 {w : World} {B : Nat} {A : Option Addr} {o : List Lab} {c k : Nat} (h : Rd w B A (flat o)) (hn : o.length ≤ c) : Rd w B (if c = k then A else A.map (·.add (k * 2))) (flat (o.drop k)) := fun hp => by
  rw [flat_len, List.length_drop] at hp
  obtain ⟨b, off, rfl, hb, hcell⟩ := h (by rw [flat_len]; omega)
  rw [if_neg (by omega)]
  refine ⟨b, off + k * 2, by simp [add_off], hb, fun j u hu => ?_⟩
  rw [← flat_drop, List.getElem?_drop] at hu
  rw [Nat.add_assoc]
  exact hcell _ u hu
theorem rd_take2 {w : World} {B : Nat} {A : Option Addr} {o : List Lab} (h : Rd w B A (flat o)) (k : Nat) : Rd w B A (flat (o.take k)) := by
  have := h.take (k * 2)
  rwa [flat_take] at this
theorem own_drewN {w : World} {base n : Nat} {e : TypeId} {s : Nat} {v : Value} {xs : List Value} (h : w.ownsRow base e s v n xs) (k : Nat) : (w.drewN k).ownsRow base e s v n xs := h
theorem own_ltN {w : World} {base n s : Nat} {e : TypeId} {v : Value} {xs : List Value} (h : w.ownsRow base e s v n xs) : ∀ k, v.ownBlock = some k → base ≤ k := fun k hk => (h.lt k hk).1
theorem own_monoN {w : World} {base base' n s : Nat} {e : TypeId} {v : Value} {xs : List Value} (h : w.ownsRow base e s v n xs) (hb : base' ≤ base) : w.ownsRow base' e s v n xs :=
  ⟨h.1, h.2.imp id fun ⟨g, cap, cur, e1, hg, r⟩ => ⟨g, cap, cur, e1, Nat.le_trans hb hg, r⟩⟩
theorem own_keepN {w w' : World} {base n s : Nat} {e : TypeId} {v : Value} {xs : List Value} (h : w.ownsRow base e s v n xs) (hb : Below w.heap.size w w') : w'.ownsRow base e s v n xs :=
  h.kept (only_of_below hb none) (by cases v.ownBlock <;> simp)

set_option maxHeartbeats 12800000 in
set_option maxRecDepth 100000 in
theorem rcanon_any (w : World) (l : List Lab) (A : Option Addr) (c m : Nat) (h : Lb w A m c l) :
    Calls Tryz.prog 56 #[.slice A m c] w (CPost (canon l) w) := by
  obtain ⟨i1, gi, gz0, gz1, gz2⟩ := info_parts info_label
  obtain ⟨rfl, hc, hm, hr⟩ := h
  unfold maxLen at hm
  have HR := Lib.hid hr
  clear hr
  by_cases hbig : 16 < l.length
  · have HE : Hid (canon l = (3, [])) := Lib.hid (by unfold canon; rw [if_pos hbig])
    go_enter Tryz.func56, Tryz.ntmps56
    go_wp2
    go_ret2
    exact cpost_err HE.out rfl (Below.refl _ _)
  have hfew : l.length ≤ 16 := by omega
  clear hbig
  go_enter Tryz.func56, Tryz.ntmps56
  go_wp2
  go_loopw [4, 5, 6] (fun vo vt vi wr => ORel l w vo vt vi wr) (fun _ _ vi _ => l.length - (intOf vi).toNat)
  case atStart => exact ⟨0, Nat.zero_le _, rfl, rfl, World.ownsRow_nil .., Lib.hid rfl, Lib.hid (Below.refl _ _)⟩
  case round =>
    obtain ⟨i, hi, rfl, rfl, hown, HF, HB⟩ := hrel
    by_cases hlt : i < l.length
    · obtain ⟨b1, o1, rfl, hbb, hcell⟩ := HR.out (by rw [flat_len]; omega)
      obtain ⟨p0, p1⟩ := cellsL hcell hlt
      have k0 : wr.cell? ⟨b1, o1 + i * 2, none⟩ = _ := (HB.out.cell (p := ⟨b1, o1 + i * 2, none⟩) hbb).trans p0
      have k1 : wr.cell? ⟨b1, o1 + i * 2 + 1, none⟩ = _ := (HB.out.cell (p := ⟨b1, o1 + i * 2 + 1, none⟩) hbb).trans p1
      have HP0 := Lib.hid p0
      have HP1 := Lib.hid p1
      have HERR : Hid (∀ e, lerr l[i] = e → e ≠ 0 → canon l = (e, [])) := Lib.hid (fun e he hn => canon_err hlt hfew HF.out he hn)
      have HF2 : Hid (lerr l[i] = 0 → firstErr (l.take (i + 1)) = 0) := Lib.hid (fun h => (firstErr_take hlt HF.out).trans h)
      have HS := Lib.hid (sort_take hlt)
      have HD0 := dup_take hlt
      have hw := wasc_sort (l.take i)
      have hsl : (sort (l.take i)).length = i := by rw [sort_length, List.length_take]; omega
      clear hcell p0 p1 HF
      unfold lerr at HERR HF2
      generalize l[i] = x at *
      obtain ⟨n, v⟩ := x
      simp only at k0 k1 HP0 HP1 HERR HF2 HS HD0
      have HN := fun wx => Lib.hid (rname_any ⟨n.toArray⟩ wx)
      simp only at HN
      obtain ⟨bn, hbn⟩ : ∃ b, nameOk n = b := ⟨_, rfl⟩
      rw [hbn] at HN HERR HF2
      have hvs : (⟨v.toArray⟩ : ByteArray).size = v.length := size_len v
      have HO := Lib.hid hown
      clear hbn hown
      cases bn with
      | false =>
        have HE : Hid (canon l = (6, [])) := Lib.hid (HERR.out 6 rfl (by decide))
        clear HERR HF2 HD0 hvs
        go_wp2_with fail
        refine (HN _).out.mono ?_
        rintro e w' ⟨rfl, rfl⟩
        go_wp2
        go_ret2
        exact cpost_err HE.out rfl HB.out
      | true =>
        simp only [if_true] at HERR HF2
        by_cases hlong : 256 < v.length
        · have HE : Hid (canon l = (4, [])) := Lib.hid (HERR.out 4 (by rw [if_pos hlong]) (by decide))
          clear HERR HF2 HD0
          go_wp2_with fail
          refine (HN _).out.mono ?_
          rintro e w' ⟨rfl, rfl⟩
          go_wp2
          go_ret2
          exact cpost_err HE.out rfl HB.out
        · rw [if_neg hlong] at HERR HF2
          have hshort : v.length ≤ 256 := by omega
          have HU := fun wx => Lib.hid (runes_any ⟨v.toArray⟩ wx (by rw [hvs]; omega))
          unfold RPost at HU
          simp only at HU
          obtain ⟨bv, hbv⟩ : ∃ b, vals v = b := ⟨_, rfl⟩
          rw [hbv] at HU HERR HF2
          clear hbv hlong
          cases bv with
          | false =>
            have HE : Hid (canon l = (8, [])) := Lib.hid (HERR.out 8 rfl (by decide))
            clear HERR HF2 HD0
            go_wp2_with fail
            refine (HN _).out.mono ?_
            rintro e w' ⟨rfl, rfl⟩
            go_wp2_with fail
            refine (HU _).out.mono ?_
            rintro e w2 ⟨v2, rfl, _, hb2⟩
            have HB2 := Lib.hid (HB.out.trans (hb2.mono HB.out.size))
            clear hb2 k0 k1
            go_wp2
            go_ret2
            exact cpost_err HE.out rfl HB2.out
          | true =>
            have HZ : Hid (firstErr (l.take (i + 1)) = 0) := Lib.hid (HF2.out rfl)
            obtain ⟨o, ho⟩ : ∃ o, sort (l.take i) = o := ⟨_, rfl⟩
            rw [ho] at HS HD0 hw hsl HO
            have hit := hit_iff (n := n) hw
            have HPB := Lib.hid (posL_before n o)
            have HPA := Lib.hid (posL_at n o)
            have HPU := put_at (n, v) o
            have hpl := posL_le n o
            obtain ⟨p, hp⟩ : ∃ p, posL n o = p := ⟨_, rfl⟩
            have HDD : Hid (dup (l.take (i + 1)) = (dup (l.take i) || decide (∃ h : p < o.length, (o[p]'h).1 = n))) := Lib.hid (by
              rw [HD0]
              subst hp
              simp only [hit])
            rw [hp] at hpl
            have HPA2 : Hid (∀ h : p < o.length, less (o[p]'h).1 n = false) := Lib.hid (by subst hp; exact HPA.out)
            have HPB2 : Hid (∀ j (h : j < o.length), j < p → less (o[j]'h).1 n = true) := Lib.hid (fun j h hj => HPB.out j h (by rw [hp]; exact hj))
            have HPU2 : Hid (flat (sort (l.take (i + 1))) = flat (o.take p) ++ ([S8 n, S8 v] ++ flat (o.drop p))) := Lib.hid (by
              rw [HS.out, HPU, flat_append]
              subst hp
              rw [flat_cons]
              rfl)
            obtain ⟨td, htd⟩ : ∃ td, dup (l.take i) = td := ⟨_, rfl⟩
            have HTD := Lib.hid htd
            rw [htd] at HDD ⊢
            have HPX := Lib.hid hp
            clear HERR HF2 HD0 hw hit HPB HPA HPU htd HS hp ho
            have HO1 := HO.out
            go_wp2_with fail
            refine (HN _).out.mono ?_
            rintro e w' ⟨rfl, rfl⟩
            go_wp2_with fail
            refine (HU _).out.mono ?_
            rintro e w2 ⟨v2, rfl, _, hb2⟩
            have HB2 := Lib.hid (HB.out.trans (hb2.mono HB.out.size))
            have HO2 := Lib.hid (own_keepN HO.out hb2)
            clear hb2 k0 k1 HO HO1 HN HU HB
            obtain ⟨wo, rfl⟩ : ∃ wo : World, wo = w2 := ⟨_, rfl⟩
            go_wp2
            go_loopw [9] (fun va wr => PRel o n i w _ va wr) (fun va _ => o.length - (intOf va).toNat)
            case atStart => exact ⟨0, Nat.zero_le _, rfl, HO2.out, HB2⟩
            case round =>
              obtain ⟨j, hj, rfl, hown, HB3⟩ := hrel
              rw [HPX.out] at hj
              have k0 : wr.cell? ⟨b1, o1 + i * 2, none⟩ = some (.string ⟨n.toArray⟩) := (HB3.out.cell (p := ⟨b1, o1 + i * 2, none⟩) hbb).trans HP0.out
              have k1 : wr.cell? ⟨b1, o1 + i * 2 + 1, none⟩ = some (.string ⟨v.toArray⟩) := (HB3.out.cell (p := ⟨b1, o1 + i * 2 + 1, none⟩) hbb).trans HP1.out
              obtain ⟨Ao, co, rfl, ho1, ho2, hrd, _⟩ := own_lab hown
              have HRo := Lib.hid hrd
              have HO3 := Lib.hid hown
              unfold maxLen at ho2
              clear hown hrd HO2
              by_cases hjp : j < p
              · have hjl : j < o.length := by omega
                have hls := HPB2.out j hjl hjp
                obtain ⟨b2, o2, rfl, _, hd⟩ := HRo.out (by rw [flat_len]; omega)
                obtain ⟨q0, _⟩ := cellsL hd hjl
                generalize (o[j]).1 = y at *
                have e2 : Op.bytesLess y n = true := by rw [less_is]; exact hls
                have hji : (j : Int) < (i : Int) := by omega
                clear hd hls
                go_wp2
                go_quiet (fail)
                go_wp2
                go_roundw
                case rel => exact ⟨j + 1, by rw [HPX.out]; omega, by go_num, own_drewN HO3.out _, Lib.hid (below_drewN HB3.out _)⟩
                case measure => simp [intOf]; omega
              · obtain rfl : j = p := by omega
                have F2 : 0 + j ≤ maxLen := by unfold maxLen; omega
                have F3 : (0 + j) * 32 ≤ 140737488355328 := by omega
                have F5 : j + 1 ≤ maxLen := by unfold maxLen; omega
                have F6 : (j + 1) * 32 ≤ 140737488355328 := by omega
                have F8 : j + 1 + (i - j) ≤ maxLen := by unfold maxLen; omega
                have F9 : (j + 1 + (i - j)) * 32 ≤ 140737488355328 := by omega
                have F1 : Hid ((flat (o.take j)).length = j * 2) := Lib.hid (by rw [flat_len, List.length_take]; omega)
                have F7 : Hid ((flat (o.drop j)).length = (i - j) * 2) := Lib.hid (by rw [flat_len, List.length_drop, hsl])
                have FX1 : Hid (∀ u ∈ [Value.string ⟨n.toArray⟩, Value.string ⟨v.toArray⟩], u.oneCell' = true) := Lib.hid (by intro u hu; simp at hu; rcases hu with rfl | rfl <;> rfl)
                have hoco : o.length ≤ co := by omega
                have hpi : j ≤ i := by omega
                have HE8 : Hid (j + 1 + (i - j) = i + 1) := Lib.hid (by omega)
                clear HPB2 hjp hj
                by_cases hin : ∃ h : j < o.length, (o[j]'h).1 = n
                · obtain ⟨hlo, hon⟩ := hin
                  have HDX : Hid (dup (l.take (i + 1)) = true) := Lib.hid (by rw [HDD.out]; simp; exact .inr ⟨hlo, hon⟩)
                  have hcp : ¬ co = j := by omega
                  have e2 : Op.bytesLess n n = false := by rw [less_is]; exact less_irrefl n
                  have e3 : (n == n) = true := by simp
                  obtain ⟨b2, o2, rfl, _, hd⟩ := HRo.out (by rw [flat_len]; omega)
                  obtain ⟨q0, _⟩ := cellsL hd hlo
                  have hji : (j : Int) < (i : Int) := by omega
                  rw [hon] at q0
                  clear hd hon HPA2
                  go_wp2
                  go_quiet (fail)
                  go_wp2
                  go_quiet (fail)
                  go_wp2_with (at_builtin; refine wpList_append_rd (v := .slice none 0 0) _ rfl (.tmp 81) (.tmp 84) 45 rfl wr.heap.size 2 70 i1 (.agg #[.string ByteArray.empty, .string ByteArray.empty]) 32 Tryz.underlying45 gi gz0 gz1 gz2 rfl (by omega) 0 [] rfl (World.ownsRow_nil ..) wr.heap.size _ j co (flat (o.take j)) rfl F1.out ((rd_take2 HRo.out j).drewN _) (flat_ones _) F2 F3 (Nat.le_refl _) ?_)
                  intro v1 w1 hown1 hg1 _
                  have HO4 := Lib.hid hown1
                  have HR1 := Lib.hid ((HRo.out.drewN _).grown hg1 (Nat.le_refl _) (fun g h => by cases h))
                  have HB4 := Lib.hid ((below_drewN HB3.out _).grown hg1 HB3.out.size (fun g h => by cases h))
                  have hs1 : wr.heap.size ≤ w1.heap.size := hg1.size
                  have k3 : w1.cell? ⟨b1, o1 + i * 2, none⟩ = some (.string ⟨n.toArray⟩) := (HB4.out.cell (p := ⟨b1, o1 + i * 2, none⟩) hbb).trans HP0.out
                  have k4 : w1.cell? ⟨b1, o1 + i * 2 + 1, none⟩ = some (.string ⟨v.toArray⟩) := (HB4.out.cell (p := ⟨b1, o1 + i * 2 + 1, none⟩) hbb).trans HP1.out
                  have HM := Lib.hid (Rd.made w1 #[.string ⟨n.toArray⟩, .string ⟨v.toArray⟩] 70)
                  have hsz1 : wr.heap.size ≤ (w1.alloc (.cells #[.string ⟨n.toArray⟩, .string ⟨v.toArray⟩] 70)).heap.size := by simp; omega
                  clear hown1 hg1 k0 k1
                  go_wp2_with (at_builtin; refine wpList_append_rd _ rfl (.tmp 86) (.tmp 91) 45 rfl wr.heap.size 2 70 i1 (.agg #[.string ByteArray.empty, .string ByteArray.empty]) 32 Tryz.underlying45 gi gz0 gz1 gz2 rfl (by omega) _ _ _ rfl (HO4.out.alloc _) (w1.heap.size + 1) (some ⟨w1.heap.size, 0, none⟩) 1 1 [.string ⟨n.toArray⟩, .string ⟨v.toArray⟩] rfl rfl HM.out FX1.out (by simpa using F5) (by simpa using F6) hsz1 ?_)
                  intro v2 w2 hown2 hg2 _
                  have HO5 := Lib.hid hown2
                  have HR2 := Lib.hid ((HR1.out.alloc hs1 _).grown hg2 hsz1 (own_ltN HO4.out))
                  have HB5 := Lib.hid ((HB4.out.alloc HB4.out.size _).grown hg2 (by have := HB4.out.size; simp; omega) (fun g h => by have := own_ltN HO4.out g h; have := HB3.out.size; omega))
                  have hs2 : wr.heap.size ≤ w2.heap.size := by have := hg2.size; omega
                  clear hown2 hg2 k3 k4 HM HO4 HR1 HB4
                  have HRC := Lib.hid (by have h := rd_cut2 (k := j) HR2.out hoco; rw [if_neg hcp] at h; simpa [add_off] using h)
                  go_wp2_with (at_builtin; refine wpList_append_rd _ rfl (.tmp 93) (.tmp 96) 45 rfl wr.heap.size 2 70 i1 (.agg #[.string ByteArray.empty, .string ByteArray.empty]) 32 Tryz.underlying45 gi gz0 gz1 gz2 rfl (by omega) _ _ _ rfl HO5.out wr.heap.size (some ⟨b2, o2 + j * 2, none⟩) (i - j) (co - j) (flat (o.drop j)) rfl F7.out HRC.out (flat_ones _) (by simpa using F8) (by simpa using F9) hs2 ?_)
                  intro v3 w3 hown3 hg3 _
                  have HO6 : Hid (w3.ownsRow w.heap.size 70 2 v3 (i + 1) (flat (sort (l.take (i + 1))))) := Lib.hid (by
                    have h := own_monoN hown3 HB3.out.size
                    rw [HPU2.out]
                    have e8 := HE8.out
                    simp only [e8] at h
                    exact h)
                  have HB6 := Lib.hid (HB5.out.grown hg3 HB5.out.size (fun g h => by have := own_ltN HO5.out g h; have := HB3.out.size; omega))
                  clear hown3 hg3 HO5 HR2 HB5 HRC
                  go_wp2
                  go_roundw
                  case rel => exact ⟨i + 1, by omega, by go_num, by rw [HDX.out], HO6.out, HZ, HB6⟩
                  case measure => simp [intOf]; omega
                · have HDX : Hid (dup (l.take (i + 1)) = td) := Lib.hid (by rw [HDD.out, decide_eq_false hin, Bool.or_false])
                  by_cases hlo : j < o.length
                  · have hcp : ¬ co = j := by omega
                    have hls := HPA2.out hlo
                    have hne : ((o[j]).1 == n) = false := beq_eq_false_iff_ne.2 (fun e => hin ⟨hlo, e⟩)
                    obtain ⟨b2, o2, rfl, _, hd⟩ := HRo.out (by rw [flat_len]; omega)
                    obtain ⟨q0, _⟩ := cellsL hd hlo
                    have hji : (j : Int) < (i : Int) := by omega
                    generalize (o[j]).1 = y at *
                    have e2 : Op.bytesLess y n = false := by rw [less_is]; exact hls
                    clear hd hls HPA2 hin
                    go_wp2
                    go_quiet (fail)
                    go_wp2
                    go_quiet (fail)
                    go_wp2_with (at_builtin; refine wpList_append_rd (v := .slice none 0 0) _ rfl (.tmp 81) (.tmp 84) 45 rfl wr.heap.size 2 70 i1 (.agg #[.string ByteArray.empty, .string ByteArray.empty]) 32 Tryz.underlying45 gi gz0 gz1 gz2 rfl (by omega) 0 [] rfl (World.ownsRow_nil ..) wr.heap.size _ j co (flat (o.take j)) rfl F1.out ((rd_take2 HRo.out j).drewN _) (flat_ones _) F2 F3 (Nat.le_refl _) ?_)
                    intro v1 w1 hown1 hg1 _
                    have HO4 := Lib.hid hown1
                    have HR1 := Lib.hid ((HRo.out.drewN _).grown hg1 (Nat.le_refl _) (fun g h => by cases h))
                    have HB4 := Lib.hid ((below_drewN HB3.out _).grown hg1 HB3.out.size (fun g h => by cases h))
                    have hs1 : wr.heap.size ≤ w1.heap.size := hg1.size
                    have k3 : w1.cell? ⟨b1, o1 + i * 2, none⟩ = some (.string ⟨n.toArray⟩) := (HB4.out.cell (p := ⟨b1, o1 + i * 2, none⟩) hbb).trans HP0.out
                    have k4 : w1.cell? ⟨b1, o1 + i * 2 + 1, none⟩ = some (.string ⟨v.toArray⟩) := (HB4.out.cell (p := ⟨b1, o1 + i * 2 + 1, none⟩) hbb).trans HP1.out
                    have HM := Lib.hid (Rd.made w1 #[.string ⟨n.toArray⟩, .string ⟨v.toArray⟩] 70)
                    have hsz1 : wr.heap.size ≤ (w1.alloc (.cells #[.string ⟨n.toArray⟩, .string ⟨v.toArray⟩] 70)).heap.size := by simp; omega
                    clear hown1 hg1 k0 k1
                    go_wp2_with (at_builtin; refine wpList_append_rd _ rfl (.tmp 86) (.tmp 91) 45 rfl wr.heap.size 2 70 i1 (.agg #[.string ByteArray.empty, .string ByteArray.empty]) 32 Tryz.underlying45 gi gz0 gz1 gz2 rfl (by omega) _ _ _ rfl (HO4.out.alloc _) (w1.heap.size + 1) (some ⟨w1.heap.size, 0, none⟩) 1 1 [.string ⟨n.toArray⟩, .string ⟨v.toArray⟩] rfl rfl HM.out FX1.out (by simpa using F5) (by simpa using F6) hsz1 ?_)
                    intro v2 w2 hown2 hg2 _
                    have HO5 := Lib.hid hown2
                    have HR2 := Lib.hid ((HR1.out.alloc hs1 _).grown hg2 hsz1 (own_ltN HO4.out))
                    have HB5 := Lib.hid ((HB4.out.alloc HB4.out.size _).grown hg2 (by have := HB4.out.size; simp; omega) (fun g h => by have := own_ltN HO4.out g h; have := HB3.out.size; omega))
                    have hs2 : wr.heap.size ≤ w2.heap.size := by have := hg2.size; omega
                    clear hown2 hg2 k3 k4 HM HO4 HR1 HB4
                    have HRC := Lib.hid (by have h := rd_cut2 (k := j) HR2.out hoco; rw [if_neg hcp] at h; simpa [add_off] using h)
                    go_wp2_with (at_builtin; refine wpList_append_rd _ rfl (.tmp 93) (.tmp 96) 45 rfl wr.heap.size 2 70 i1 (.agg #[.string ByteArray.empty, .string ByteArray.empty]) 32 Tryz.underlying45 gi gz0 gz1 gz2 rfl (by omega) _ _ _ rfl HO5.out wr.heap.size (some ⟨b2, o2 + j * 2, none⟩) (i - j) (co - j) (flat (o.drop j)) rfl F7.out HRC.out (flat_ones _) (by simpa using F8) (by simpa using F9) hs2 ?_)
                    intro v3 w3 hown3 hg3 _
                    have HO6 : Hid (w3.ownsRow w.heap.size 70 2 v3 (i + 1) (flat (sort (l.take (i + 1))))) := Lib.hid (by
                      have h := own_monoN hown3 HB3.out.size
                      rw [HPU2.out]
                      have e8 := HE8.out
                      simp only [e8] at h
                      exact h)
                    have HB6 := Lib.hid (HB5.out.grown hg3 HB5.out.size (fun g h => by have := own_ltN HO5.out g h; have := HB3.out.size; omega))
                    clear hown3 hg3 HO5 HR2 HB5 HRC
                    go_wp2
                    go_roundw
                    case rel => exact ⟨i + 1, by omega, by go_num, by rw [HDX.out], HO6.out, HZ, HB6⟩
                    case measure => simp [intOf]; omega
                  · have hji : ¬ (j : Int) < (i : Int) := by omega
                    have hjd : decide ((j : Int) < (i : Int)) = false := decide_eq_false hji
                    have hje : decide (j < i) = false := decide_eq_false (by omega)
                    clear HPA2 hin
                    have F7z : Hid ((flat (o.drop j)).length = 0 * 2) := Lib.hid (by rw [F7.out]; omega)
                    have F8z : j + 1 + 0 ≤ maxLen := by unfold maxLen; omega
                    have F9z : (j + 1 + 0) * 32 ≤ 140737488355328 := by omega
                    have HE8z : Hid (j + 1 + 0 = i + 1) := Lib.hid (by omega)
                    by_cases hcp : co = j
                    · obtain rfl : j = co := hcp.symm
                      go_wp2
                      go_quiet (fail)
                      go_wp2
                      go_quiet (fail)
                      go_wp2_with (at_builtin; refine wpList_append_rd (v := .slice none 0 0) _ rfl (.tmp 81) (.tmp 84) 45 rfl wr.heap.size 2 70 i1 (.agg #[.string ByteArray.empty, .string ByteArray.empty]) 32 Tryz.underlying45 gi gz0 gz1 gz2 rfl (by omega) 0 [] rfl (World.ownsRow_nil ..) wr.heap.size _ j j (flat (o.take j)) rfl F1.out ((rd_take2 HRo.out j).drewN _) (flat_ones _) F2 F3 (Nat.le_refl _) ?_)
                      intro v1 w1 hown1 hg1 _
                      have HO4 := Lib.hid hown1
                      have HR1 := Lib.hid ((HRo.out.drewN _).grown hg1 (Nat.le_refl _) (fun g h => by cases h))
                      have HB4 := Lib.hid ((below_drewN HB3.out _).grown hg1 HB3.out.size (fun g h => by cases h))
                      have hs1 : wr.heap.size ≤ w1.heap.size := hg1.size
                      have k3 : w1.cell? ⟨b1, o1 + i * 2, none⟩ = some (.string ⟨n.toArray⟩) := (HB4.out.cell (p := ⟨b1, o1 + i * 2, none⟩) hbb).trans HP0.out
                      have k4 : w1.cell? ⟨b1, o1 + i * 2 + 1, none⟩ = some (.string ⟨v.toArray⟩) := (HB4.out.cell (p := ⟨b1, o1 + i * 2 + 1, none⟩) hbb).trans HP1.out
                      have HM := Lib.hid (Rd.made w1 #[.string ⟨n.toArray⟩, .string ⟨v.toArray⟩] 70)
                      have hsz1 : wr.heap.size ≤ (w1.alloc (.cells #[.string ⟨n.toArray⟩, .string ⟨v.toArray⟩] 70)).heap.size := by simp; omega
                      clear hown1 hg1 k0 k1
                      go_wp2_with (at_builtin; refine wpList_append_rd _ rfl (.tmp 86) (.tmp 91) 45 rfl wr.heap.size 2 70 i1 (.agg #[.string ByteArray.empty, .string ByteArray.empty]) 32 Tryz.underlying45 gi gz0 gz1 gz2 rfl (by omega) _ _ _ rfl (HO4.out.alloc _) (w1.heap.size + 1) (some ⟨w1.heap.size, 0, none⟩) 1 1 [.string ⟨n.toArray⟩, .string ⟨v.toArray⟩] rfl rfl HM.out FX1.out (by simpa using F5) (by simpa using F6) hsz1 ?_)
                      intro v2 w2 hown2 hg2 _
                      have HO5 := Lib.hid hown2
                      have HR2 := Lib.hid ((HR1.out.alloc hs1 _).grown hg2 hsz1 (own_ltN HO4.out))
                      have HB5 := Lib.hid ((HB4.out.alloc HB4.out.size _).grown hg2 (by have := HB4.out.size; simp; omega) (fun g h => by have := own_ltN HO4.out g h; have := HB3.out.size; omega))
                      have hs2 : wr.heap.size ≤ w2.heap.size := by have := hg2.size; omega
                      clear hown2 hg2 k3 k4 HM HO4 HR1 HB4
                      have HRC := Lib.hid (by have h := rd_cut2 (k := j) HR2.out hoco; rw [if_pos rfl] at h; exact h)
                      go_wp2_with (at_builtin; refine wpList_append_rd _ rfl (.tmp 93) (.tmp 96) 45 rfl wr.heap.size 2 70 i1 (.agg #[.string ByteArray.empty, .string ByteArray.empty]) 32 Tryz.underlying45 gi gz0 gz1 gz2 rfl (by omega) _ _ _ rfl HO5.out wr.heap.size Ao 0 0 (flat (o.drop j)) rfl F7z.out HRC.out (flat_ones _) (by simpa using F8z) (by simpa using F9z) hs2 ?_)
                      intro v3 w3 hown3 hg3 _
                      have HO6 : Hid (w3.ownsRow w.heap.size 70 2 v3 (i + 1) (flat (sort (l.take (i + 1))))) := Lib.hid (by
                        have h := own_monoN hown3 HB3.out.size
                        rw [HPU2.out]
                        have e8 := HE8z.out
                        simp only [e8] at h
                        exact h)
                      have HB6 := Lib.hid (HB5.out.grown hg3 HB5.out.size (fun g h => by have := own_ltN HO5.out g h; have := HB3.out.size; omega))
                      clear hown3 hg3 HO5 HR2 HB5 HRC
                      go_wp2
                      go_roundw
                      case rel => exact ⟨i + 1, by omega, by go_num, by rw [HDX.out], HO6.out, HZ, HB6⟩
                      case measure => simp [intOf]; omega
                    · go_wp2
                      go_quiet (fail)
                      go_wp2
                      go_quiet (fail)
                      go_wp2_with (at_builtin; refine wpList_append_rd (v := .slice none 0 0) _ rfl (.tmp 81) (.tmp 84) 45 rfl wr.heap.size 2 70 i1 (.agg #[.string ByteArray.empty, .string ByteArray.empty]) 32 Tryz.underlying45 gi gz0 gz1 gz2 rfl (by omega) 0 [] rfl (World.ownsRow_nil ..) wr.heap.size _ j co (flat (o.take j)) rfl F1.out ((rd_take2 HRo.out j).drewN _) (flat_ones _) F2 F3 (Nat.le_refl _) ?_)
                      intro v1 w1 hown1 hg1 _
                      have HO4 := Lib.hid hown1
                      have HR1 := Lib.hid ((HRo.out.drewN _).grown hg1 (Nat.le_refl _) (fun g h => by cases h))
                      have HB4 := Lib.hid ((below_drewN HB3.out _).grown hg1 HB3.out.size (fun g h => by cases h))
                      have hs1 : wr.heap.size ≤ w1.heap.size := hg1.size
                      have k3 : w1.cell? ⟨b1, o1 + i * 2, none⟩ = some (.string ⟨n.toArray⟩) := (HB4.out.cell (p := ⟨b1, o1 + i * 2, none⟩) hbb).trans HP0.out
                      have k4 : w1.cell? ⟨b1, o1 + i * 2 + 1, none⟩ = some (.string ⟨v.toArray⟩) := (HB4.out.cell (p := ⟨b1, o1 + i * 2 + 1, none⟩) hbb).trans HP1.out
                      have HM := Lib.hid (Rd.made w1 #[.string ⟨n.toArray⟩, .string ⟨v.toArray⟩] 70)
                      have hsz1 : wr.heap.size ≤ (w1.alloc (.cells #[.string ⟨n.toArray⟩, .string ⟨v.toArray⟩] 70)).heap.size := by simp; omega
                      clear hown1 hg1 k0 k1
                      go_wp2_with (at_builtin; refine wpList_append_rd _ rfl (.tmp 86) (.tmp 91) 45 rfl wr.heap.size 2 70 i1 (.agg #[.string ByteArray.empty, .string ByteArray.empty]) 32 Tryz.underlying45 gi gz0 gz1 gz2 rfl (by omega) _ _ _ rfl (HO4.out.alloc _) (w1.heap.size + 1) (some ⟨w1.heap.size, 0, none⟩) 1 1 [.string ⟨n.toArray⟩, .string ⟨v.toArray⟩] rfl rfl HM.out FX1.out (by simpa using F5) (by simpa using F6) hsz1 ?_)
                      intro v2 w2 hown2 hg2 _
                      have HO5 := Lib.hid hown2
                      have HR2 := Lib.hid ((HR1.out.alloc hs1 _).grown hg2 hsz1 (own_ltN HO4.out))
                      have HB5 := Lib.hid ((HB4.out.alloc HB4.out.size _).grown hg2 (by have := HB4.out.size; simp; omega) (fun g h => by have := own_ltN HO4.out g h; have := HB3.out.size; omega))
                      have hs2 : wr.heap.size ≤ w2.heap.size := by have := hg2.size; omega
                      clear hown2 hg2 k3 k4 HM HO4 HR1 HB4
                      have HRC := Lib.hid (by have h := rd_cut2 (k := j) HR2.out hoco; rw [if_neg hcp] at h; exact h)
                      go_wp2_with (at_builtin; refine wpList_append_rd _ rfl (.tmp 93) (.tmp 96) 45 rfl wr.heap.size 2 70 i1 (.agg #[.string ByteArray.empty, .string ByteArray.empty]) 32 Tryz.underlying45 gi gz0 gz1 gz2 rfl (by omega) _ _ _ rfl HO5.out wr.heap.size (Ao.map (·.add (j * 2))) (i - j) (co - j) (flat (o.drop j)) rfl F7.out HRC.out (flat_ones _) (by simpa using F8) (by simpa using F9) hs2 ?_)
                      intro v3 w3 hown3 hg3 _
                      have HO6 : Hid (w3.ownsRow w.heap.size 70 2 v3 (i + 1) (flat (sort (l.take (i + 1))))) := Lib.hid (by
                        have h := own_monoN hown3 HB3.out.size
                        rw [HPU2.out]
                        have e8 := HE8.out
                        simp only [e8] at h
                        exact h)
                      have HB6 := Lib.hid (HB5.out.grown hg3 HB5.out.size (fun g h => by have := own_ltN HO5.out g h; have := HB3.out.size; omega))
                      clear hown3 hg3 HO5 HR2 HB5 HRC
                      go_wp2
                      go_roundw
                      case rel => exact ⟨i + 1, by omega, by go_num, by rw [HDX.out], HO6.out, HZ, HB6⟩
                      case measure => simp [intOf]; omega
    · have hil : i = l.length := by omega
      subst hil
      have HT : Hid (l.take l.length = l) := Lib.hid (List.take_length)
      have HO := Lib.hid hown
      rw [HT.out] at HF ⊢
      obtain ⟨td, htd⟩ : ∃ td, dup l = td := ⟨_, rfl⟩
      have HTD := Lib.hid htd
      rw [htd]
      clear hown htd hlt
      cases td with
      | true =>
        have HE : Hid (canon l = (6, [])) := Lib.hid (by unfold canon; rw [if_neg (by omega), if_neg (by rw [HF.out]; decide), if_pos HTD.out])
        go_wp2
        go_ret2
        exact cpost_err HE.out rfl HB.out
      | false =>
        have HE : Hid (canon l = (0, sort l)) := Lib.hid (by unfold canon; rw [if_neg (by omega), if_neg (by rw [HF.out]; decide), if_neg (by rw [HTD.out]; decide)])
        go_wp2
        go_ret2
        rw [HE.out]
        refine ⟨_, rfl, ?_, HB.out⟩
        have h := HO.out
        rw [HT.out] at h
        rw [sort_length]
        exact h
end Go.Proofs.YtkgmcabamhpjhaaGreat.LbCanon
