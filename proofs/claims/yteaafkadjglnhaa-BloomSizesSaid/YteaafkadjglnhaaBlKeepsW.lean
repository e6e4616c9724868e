/- The walk of BloomKeeps over what stage 12 asks of the program. -/
import Derived.Test.YteaafkadjglnhaaBlLaw
import Derived.Deep.RegionLaw
import Derived.BigRegion
import Derived.Deep.RegionHeld3
namespace Go.Proofs.Yteaafkadjglnhaa.BlKeepsW
open Go Go.RowKit Words Less BlSpec BlRef UtOwn BlMake BlLaw
open App (wpList_append_rd)

/-- A store into another block. -/
theorem rd_set {w : World} {B : Nat} {A : Option Addr} {vs : List Value} (h : Rd w B A vs) {p : Addr} (u : Value) (hne : ∀ b off, A = some ⟨b, off, none⟩ → b ≠ p.block) : Rd (w.setCell p u) B A vs := fun hn => by
  obtain ⟨b, off, e, hb, hc⟩ := h hn
  exact ⟨b, off, e, hb, fun j v hv => (World.cell?_setCell_other w p _ u (fun e2 => hne b off e (by first | exact congrArg Addr.block e2 | exact (congrArg Addr.block e2).symm))).trans (hc j v hv)⟩
def ZRel (w3 : World) (F : List UInt8) (A4 : Option Addr) (c4 : Nat) (A5 : Option Addr) (v : Value) (wr : World) : Prop :=
  ∃ (j : Nat) (xs : List Value), j ≤ F.length ∧ v = .int .i64 (j : Int) ∧ Hid (wr.ownsRow w3.heap.size 5 1 (.slice A4 F.length c4) F.length xs) ∧ Hid (Below w3.heap.size w3 wr) ∧ Hid (Rd wr wr.heap.size A5 (F.map B8))
def WRel (l : List (List UInt8)) (wq : World) (v : Value) (wz : World) : Prop := ∃ i : Nat, i ≤ l.length ∧ v = .int .i64 (i : Int) ∧ Hid (Below wq.heap.size wq wz)
theorem conv_bytes {w : World} {B : Nat} {A : Option Addr} {F : List UInt8} {c : Nat} (h : Rd w B A (F.map B8)) : (convert 23 9 (.slice A F.length c)).run Try.prog w = .ok (.string ⟨F.toArray⟩) w :=
  run_bytes w 23 9 5 Try.underlying23 Try.underlying5 Try.underlying9 A F c B h
def SPARE : List UInt8 := [115, 112, 97, 114, 101]
set_option maxHeartbeats 6400000 in
set_option maxRecDepth 100000 in
theorem keeps_any {N : Nat} (P : Bloom N) (w : World) (l : List (List UInt8)) (A : Option Addr) (c : Nat) (h1 : Rd w w.heap.size A (l.map S8)) (hm : l.length ≤ c) (hc : c ≤ maxLen) (hlN : l.length ≤ N) (hl : l.length * 16 ≤ 140737488355327) (hs : ∀ s ∈ l, s.length ≤ maxLen)
    (s : List UInt8) (hs1 : s.length ≤ maxLen) :
    Calls Try.prog 5 #[.slice A l.length c, .string ⟨s.toArray⟩] w fun e w' => e = .returned (.bool true) ∧ Below w.heap.size w w' := by
  obtain ⟨i1, gi, gz0, gz1, gz2⟩ := info_parts info_str
  obtain ⟨i2, bi, bz0, bz1, bz2⟩ := info_parts info_b8
  have HA := Lib.hid (awake_any P w)
  have H1 := Lib.hid h1
  have HS := Lib.hid hs
  have hN := P.big
  unfold maxLen at hc
  clear h1 hs
  go_enter Try.func5, Try.ntmps5
  go_wp2_with fail
  refine HA.out.mono ?_
  rintro e w1 ⟨rfl, hb1⟩
  have HB1 := Lib.hid hb1
  clear hb1 HA
  have hown0 := World.ownsRow_lit (base := w1.heap.size) (e := 9) (size := 1) w1 #[] 0 (Nat.le_refl _) (by unfold maxLen; omega) rfl
  have HBz := Lib.hid ((Below.refl w1.heap.size w1).alloc (Nat.le_refl _) (.cells #[] 9))
  have HRz : Hid (Rd (w1.alloc (.cells #[] 9)) w.heap.size A (l.map S8)) := (H1.out.below HB1.out).below (HBz.out.mono HB1.out.size)
  have q1 : 0 + l.length ≤ maxLen := by unfold maxLen; omega
  have q2 : (0 + l.length) * 16 ≤ 140737488355328 := by omega
  have q3 : l.length + 1 ≤ maxLen := by unfold maxLen; omega
  have q4 : (l.length + 1) * 16 ≤ 140737488355328 := by omega
  go_wp2_with (at_builtin; refine wpList_append_rd (v := .slice (some ⟨w1.heap.size, 0, none⟩) 0 0) _ rfl (.tmp 14) (.tmp 15) 22 rfl w1.heap.size 9 i1 (.string ByteArray.empty) 16 Try.underlying22 gi gz0 gz1 gz2 rfl 0 [] rfl hown0 w.heap.size A l.length c (l.map S8) rfl (List.length_map _) HRz.out (oneS l) q1 q2 HBz.out.size ?_)
  intro v2 w2 hown2 hg2 _
  have HB2 := Lib.hid (below_app hown0 HBz.out hg2)
  have HO2 : Hid (w2.ownsRow w1.heap.size 9 1 v2 l.length (l.map S8)) := by
    show World.ownsRow _ _ _ _ _ _ _
    simpa using hown2
  clear hown0 hown2 hg2 HRz HBz
  have HX1 : Hid (∀ u ∈ [Value.string ⟨#[115, 112, 97, 114, 101]⟩], u.oneCell' = true) := by intro u hu; simp at hu; subst hu; rfl
  have HB2a : Hid (Below w1.heap.size w1 (w2.alloc (.cells #[.string ⟨#[115, 112, 97, 114, 101]⟩] 9))) := HB2.out.alloc HB2.out.size _
  have HO2a : Hid ((w2.alloc (.cells #[.string ⟨#[115, 112, 97, 114, 101]⟩] 9)).ownsRow w1.heap.size 9 1 v2 l.length (l.map S8)) := HO2.out.alloc _
  go_wp2_with (at_builtin; refine wpList_append_rd (v := v2) _ rfl (.tmp 16) (.tmp 17) 22 rfl w1.heap.size 9 i1 (.string ByteArray.empty) 16 Try.underlying22 gi gz0 gz1 gz2 rfl _ _ rfl HO2a.out (w2.heap.size + 1) (some ⟨w2.heap.size, 0, none⟩) 1 1 [.string ⟨#[115, 112, 97, 114, 101]⟩] rfl rfl (Rd.made w2 #[.string ⟨#[115, 112, 97, 114, 101]⟩] 9) HX1.out q3 q4 HB2a.out.size ?_)
  intro v3 w3 hown3 hg3 _
  have HB3 := Lib.hid (below_app HO2a.out HB2a.out hg3)
  obtain ⟨L, hL⟩ : ∃ L, l ++ [SPARE] = L := ⟨_, rfl⟩
  have hLl : L.length = l.length + 1 := by rw [← hL, List.length_append]; rfl
  have HO3 : Hid (w3.ownsRow w1.heap.size 9 1 v3 (l.length + 1) (L.map S8)) := by
    show World.ownsRow _ _ _ _ _ _ _
    rw [← hL, List.map_append]
    exact hown3
  clear hown3 hg3 HO2a HB2a HX1 HO2
  obtain ⟨A3, c3, rfl, f1, f2, f3, _⟩ := own_rd HO3.out
  have HR3 := Lib.hid f3
  unfold maxLen at f2
  have g1 : (l.length : Int) ≤ (c3 : Int) := by omega
  have HM : Hid (∀ wz, Below w3.heap.size w3 wz → Calls Try.prog 8 #[.slice A3 l.length c3] wz fun e w' => ∃ v, e = .returned v ∧ w'.ownsRow wz.heap.size 5 1 v (make l).length ((make l).map B8) ∧ Below wz.heap.size wz w') := fun wz hz => by
    have h := (HR3.out.below hz).take l.length
    rw [← List.map_take, ← hL, List.take_left] at h
    exact P.make_ wz l A3 c3 (h.more hz.size) (by omega) (by unfold maxLen; omega) (by omega) HS.out
  have H1m := Lib.hid (HM.out w3 (Below.refl _ _))
  clear f3
  go_wp2_with fail
  refine H1m.out.mono ?_
  rintro e w4 ⟨v4, rfl, ho4, hb4⟩
  have hfl : (make l).length ≤ 8 * l.length := by
    have h := once_length l
    rw [make_len, size]
    omega
  have HIN : Hid (∀ s ∈ l, has (make l) s = true) := fun s hs => has_make hs
  generalize make l = F at *
  have HO4 := Lib.hid ho4
  have HB4 := Lib.hid hb4
  have H2m := Lib.hid (HM.out w4 hb4)
  clear ho4 hb4 H1m
  go_wp2_with fail
  refine H2m.out.mono ?_
  rintro e w5 ⟨v5, rfl, ho5, hb5⟩
  obtain ⟨A4, c4, rfl, p1, p2, p3, p4⟩ := own_rd HO4.out
  obtain ⟨A5, c5, rfl, r1, r2, r3, r4⟩ := own_rd ho5
  have HNE : Hid (∀ b off g off', A5 = some ⟨b, off, none⟩ → A4 = some ⟨g, off', none⟩ → b ≠ g) := fun b off g off' e1 e2 => by
    have h1 := (p4 _ _ e2).2
    have h2 := (r4 _ _ e1).1
    omega
  have HOB : Hid (∀ b, (Value.slice A4 F.length c4).ownBlock = some b → A4 = some ⟨b, 0, none⟩) := fun b hb => by
    rcases HO4.out.2 with ⟨h, _⟩ | ⟨g, cap, cur, h, _⟩
    · injection h with h
      subst h
      cases hb
    · injection h with h
      subst h
      simp [Value.ownBlock] at hb
      rw [hb]
  have HG5 := Lib.hid r3
  have HB5 : Hid (Below w3.heap.size w3 w5) := below_step HB4.out hb5
  have HO5 : Hid (w5.ownsRow w3.heap.size 5 1 (.slice A4 F.length c4) F.length (F.map B8)) := own_keep HO4.out hb5
  have cG := conv_bytes (c := c5) r3
  clear p3 p4 r3 r4 ho5 hb5 H2m HM HO4 HB4
  have CH : Hid (∀ wz, Rd wz wz.heap.size A5 (F.map B8) → ∀ x : List UInt8, x.length ≤ maxLen → ∀ q, has F x = q → Calls Try.prog 10 #[.slice A5 F.length c5, .string ⟨x.toArray⟩] wz fun e w' => e = .returned (.bool q) ∧ Below wz.heap.size wz w') := fun wz hz x hx q hq => by
    subst hq
    exact P.has_ wz F x A5 c5 hz r1 r2 (by omega) hx
  have H6 := Lib.hid (CH.out w5 HG5.out s hs1 _ rfl)
  generalize has F s = q at *
  go_wp2_with fail
  refine H6.out.mono ?_
  rintro e w6 ⟨rfl, hb6⟩
  have HB6 : Hid (Below w3.heap.size w3 w6) := below_step HB5.out hb6
  have HO6 : Hid (w6.ownsRow w3.heap.size 5 1 (.slice A4 F.length c4) F.length (F.map B8)) := own_keep HO5.out hb6
  have HG6 : Hid (Rd w6 w6.heap.size A5 (F.map B8)) := (HG5.out.below hb6).more hb6.size
  clear hb6 H6 HB5 HO5 HG5 cG
  go_wp2_with fail
  go_loopw [9] (fun v wr => ZRel w3 F A4 c4 A5 v wr) (fun v _ => F.length - (intOf v).toNat)
  case atStart => exact ⟨0, F.map B8, Nat.zero_le _, rfl, HO6, HB6, HG6⟩
  case round =>
    obtain ⟨j, xs, hj, rfl, HOj, HBj, HGj⟩ := hrel
    clear HO6 HB6 HG6
    by_cases hlt : j < F.length
    · obtain ⟨gb, gc, hgv, hgb, _⟩ := HOj.out.form (by omega)
      injection hgv with e1 _ e3
      subst e1 e3
      have hxl : j < xs.length := by have := HOj.out.1; omega
      have k2 := HOj.out.cellAt j (by omega)
      rw [List.getElem?_eq_getElem hxl] at k2
      have k3 := HOj.out.frozenAt j
      have HOW := Lib.hid ((HOj.out.stored j (.int .u8 0)).1)
      have HBW := Lib.hid (HBj.out.setCell (p := ⟨gb, j, none⟩) hgb (.int .u8 0))
      have HGW : Hid (Rd (wr.setCell ⟨gb, j, none⟩ (.int .u8 0)) (wr.setCell ⟨gb, j, none⟩ (.int .u8 0)).heap.size A5 (F.map B8)) := by
        have h := rd_set HGj.out (p := ⟨gb, j, none⟩) (.int .u8 0) (fun b off e => HNE.out b off gb 0 e rfl)
        exact h.more (by simp)
      have i1 : (0 : Int) ≤ (j : Int) := by omega
      have i2 : (j : Int) < (F.length : Int) := by omega
      generalize xs[j] = u at *
      go_wp2_with fail
      exact ⟨⟨j + 1, _, by omega, by go_num, HOW, HBW, HGW⟩, by simp only [intOf]; omega⟩
    · obtain rfl : j = F.length := by omega
      have HOa : Hid ((wr.alloc (.cells #[.int .u8 1, .int .u8 2, .int .u8 3] 5)).ownsRow w3.heap.size 5 1 (.slice A4 F.length c4) F.length xs) := HOj.out.alloc _
      have HBa := Lib.hid (HBj.out.alloc HBj.out.size (.cells #[.int .u8 1, .int .u8 2, .int .u8 3] 5))
      have HGa : Hid (Rd (wr.alloc (.cells #[.int .u8 1, .int .u8 2, .int .u8 3] 5)) wr.heap.size A5 (F.map B8)) := HGj.out.alloc (Nat.le_refl _) _
      have HX3 : Hid (∀ u ∈ [Value.int .u8 1, .int .u8 2, .int .u8 3], u.oneCell' = true) := by intro u hu; simp at hu; rcases hu with rfl | rfl | rfl <;> rfl
      have q5 : F.length + 3 ≤ maxLen := by unfold maxLen; omega
      have q6 : (F.length + 3) * 1 ≤ 140737488355328 := by omega
      have HSZ : Hid (wr.heap.size ≤ (wr.alloc (.cells #[.int .u8 1, .int .u8 2, .int .u8 3] 5)).heap.size) := by show _ ≤ _; simp
      go_wp2_with (at_builtin; refine wpList_append_rd (v := .slice A4 F.length c4) _ rfl (.tmp 43) (.tmp 44) 23 rfl w3.heap.size 5 i2 (.int .u8 0) 1 Try.underlying23 bi bz0 bz1 bz2 rfl F.length xs rfl HOa.out (wr.heap.size + 1) (some ⟨wr.heap.size, 0, none⟩) 3 3 [.int .u8 1, .int .u8 2, .int .u8 3] rfl rfl (Rd.made wr #[.int .u8 1, .int .u8 2, .int .u8 3] 5) HX3.out q5 q6 HBa.out.size ?_)
      intro v8 w8 hown8 hg8 _
      have HB8 := Lib.hid (below_app HOa.out HBa.out hg8)
      have HG8 : Hid (Rd w8 w8.heap.size A5 (F.map B8)) := by
        have h := HGa.out.grownBy hg8 HSZ.out (fun b off e h => HNE.out b off b 0 e (HOB.out b h.symm) rfl)
        exact h.more (Nat.le_trans HSZ.out hg8.size)
      have HO8 := Lib.hid hown8
      clear hown8 hg8 HOa HBa HGa HOj HBj HGj HX3 HNE HOB HSZ
      obtain ⟨A8, c8, rfl, _, _, _, _⟩ := own_rd HO8.out
      have HW8 : Hid (Below w.heap.size w w8) := by
        have h1 := HB1.out.trans ((HB3.out.trans (HB8.out.mono HB3.out.size)).mono HB1.out.size)
        exact h1
      have HR8 : Hid (Rd w8 w3.heap.size A3 (L.map S8)) := HR3.out.below HB8.out
      have HA8 : Hid (Rd w8 w.heap.size A (l.map S8)) := H1.out.below HW8.out
      have hLi : Hid (∀ i (h : i < l.length), L[i]? = some (l[i])) := fun i h => by rw [← hL, List.getElem?_append_left h, List.getElem?_eq_getElem h]
      have hLn : Hid (L[l.length]? = some SPARE) := by show _ = _; rw [← hL, List.getElem?_append_right (Nat.le_refl _)]; simp
      have hz3 : w3.heap.size ≤ w8.heap.size := HB8.out.size
      have hz1 : w.heap.size ≤ w8.heap.size := HW8.out.size
      clear HO8 HB8 HO3 HR3 HB1 HB2 HB3 hL
      go_wp2_with fail
      go_loopw [11] (fun v wr => WRel l w8 v wr) (fun v _ => l.length - (intOf v).toNat)
      case atStart => exact ⟨0, Nat.zero_le _, rfl, Lib.hid (Below.refl _ _)⟩
      case round =>
        obtain ⟨i, hi, rfl, HBi⟩ := hrel
        obtain ⟨b3, o3, rfl, hb3, hc3⟩ := HR8.out (by rw [List.length_map]; omega)
        by_cases hlt : i < l.length
        · obtain ⟨b1, o1, rfl, hbb, hcl⟩ := HA8.out (by simp; omega)
          have hx : ∀ w', Below w8.heap.size w8 w' → w'.cell? ⟨b3, o3 + i, none⟩ = some (.string ⟨(l[i]).toArray⟩) ∧ w'.cell? ⟨b1, o1 + i, none⟩ = some (.string ⟨(l[i]).toArray⟩) := fun w' hb =>
            ⟨(hb.cell (p := ⟨b3, o3 + i, none⟩) (by show b3 < _; omega)).trans (hc3 i _ (by rw [List.getElem?_map, hLi.out i hlt]; rfl)),
             (hb.cell (p := ⟨b1, o1 + i, none⟩) (by show b1 < _; omega)).trans (cellS hcl hlt)⟩
          have hsl := HS.out _ (List.getElem_mem hlt)
          have hin := HIN.out _ (List.getElem_mem hlt)
          generalize l[i] = x at *
          have KH : ∀ w' (g : Hid (Below w8.heap.size w8 w')), Hid (Calls Try.prog 10 #[.slice A5 F.length c5, .string ⟨x.toArray⟩] w' fun e w'' => e = .returned (.bool true) ∧ w''.cell? ⟨b3, o3 + i, none⟩ = some (.string ⟨x.toArray⟩) ∧ w''.cell? ⟨b1, o1 + i, none⟩ = some (.string ⟨x.toArray⟩) ∧ Hid (Below w8.heap.size w8 w'')) := fun w' g =>
            (CH.out w' ((HG8.out.below g.out).more g.out.size) x hsl _ hin).mono fun e w'' ⟨he, hb⟩ => ⟨he, (hx _ (below_step g.out hb)).1, (hx _ (below_step g.out hb)).2, below_step g.out hb⟩
          have HZ : Hid (Below w8.heap.size w8 wr.drew) := HBi.out.trans ⟨rfl, rfl, rfl, Nat.le_refl _, fun _ _ => rfl⟩
          obtain ⟨k1, k2⟩ := hx _ HZ.out
          have i1 : (0 : Int) ≤ (i : Int) := by omega
          have i2 : (i : Int) < (l.length : Int) := by omega
          have i3 : (i : Int) < (l.length : Int) + 1 := by omega
          have e1 : (x == x) = true := by simp
          clear hx hsl hin hcl hc3 CH HG8 hLi hLn HBi
          go_wp2_with fail
          go_region_held3 (fun w' => w'.cell? ⟨b3, o3 + i, none⟩ = some (.string ⟨x.toArray⟩) ∧ w'.cell? ⟨b1, o1 + i, none⟩ = some (.string ⟨x.toArray⟩) ∧ Hid (Below w8.heap.size w8 w')) (first | assumption | go_keep) (first
            | (go_at_call 10; ((with_reducible refine (KH _ (by assumption)).out.mono ?_); rintro e w' ⟨rfl, v1, v2, g'⟩)))
          all_goals
            go_wp2_with fail
            exact ⟨⟨i + 1, by omega, by go_num, ‹Hid (Below w8.heap.size w8 _)›⟩, by simp only [intOf]; omega⟩
        · obtain rfl : i = l.length := by omega
          have cG2 := conv_bytes (c := c5) (HG8.out.below HBi.out)
          have kS : wr.cell? ⟨b3, o3 + l.length, none⟩ = some (.string ⟨#[115, 112, 97, 114, 101]⟩) :=
            (HBi.out.cell (p := ⟨b3, o3 + l.length, none⟩) (by show b3 < _; omega)).trans (hc3 l.length _ (by rw [List.getElem?_map, hLn.out]; rfl))
          have eF : (F == F) = true := by simp
          have i3 : (l.length : Int) < (l.length : Int) + 1 := by omega
          have HE : Hid (Below w.heap.size w wr) := HW8.out.trans (HBi.out.mono HW8.out.size)
          clear hc3 CH HG8 hLi hLn HBi HR8 HA8
          go_wp2_with fail
          go_ret
          exact ⟨rfl, HE.out⟩
end Go.Proofs.Yteaafkadjglnhaa.BlKeepsW
