/- The contract of lz.layEcho: the error, or the bytes laid behind what is laid, in memory of the call's own; nothing that was there has changed. Conditions: what is laid lies in memory of the call's own, is at most 65536 bytes with what comes; the bytes read lie ahead of it. -/
import Derived.Test.YtifndcjjlhjgiaaRows
import Derived.Test.YtifndcjjlhjgiaaGet
import Derived.Test.YtifndcjjlhjgiaaOwn
import Derived.Test.YtifndcjjlhjgiaaLaySpec
namespace Go.Proofs.Ytifndcjjlhjgiaa.Echo
open Go Go.RowKit Words Plain Put Get Own LaySpec

/-- What a part's laying answers: r is the error, the bytes, the place behind. -/
def PPost (w0 : World) (err : Nat) (l : List UInt8) (to_ : Nat) (e : Ending) (w' : World) : Prop :=
  ∃ v, e = .returned (.tuple #[v, .int .i64 (to_ : Int), .int .i64 (err : Int)]) ∧ w'.ownsRow w0.heap.size 5 1 v l.length (l.map B8) ∧ Below w0.heap.size w0 w'

theorem ppost_err {w0 w : World} {err : Nat} {x : Int} (hb : Below w0.heap.size w0 w) (hx : x = (err : Int)) : PPost w0 err [] 0 (.returned (.tuple #[.slice none 0 0, .int .i64 0, .int .i64 x])) w :=
  ⟨_, by rw [hx]; rfl, World.ownsRow_nil _ _ _ _, hb⟩


set_option maxHeartbeats 800000 in
theorem echo_err (b : List UInt8) (A : Option Addr) (c : Nat) (at_ : Nat) (w0 : World) (w : World) (v : Value) (n : Nat) (hr : Rd w0 w0.heap.size A (b.map B8)) (hc : b.length ≤ c) (hm : c ≤ maxLen) (hat : at_ ≤ b.length) (hb : Below w0.heap.size w0 w) {d k e : Nat} (hd : dec 0 0 (b.drop at_) = (d, k, e)) (he : e ≠ 0) :
    Calls Try.prog 18 #[v, .int .i64 (n : Int), .slice A b.length c, .int .i64 (at_ : Int)] w (PPost w0 e [] 0) := by
  have hg := get_any b A c at_ w w0.heap.size (hr.below hb) hc hm
  obtain ⟨f1, f2, f3⟩ := fin hat hd
  rw [f1, f2, f3, if_neg he] at hg
  have HG := Lib.hid hg
  have HB := Lib.hid hb
  have h1 : ((e : Int) != 0) = true := by simp; omega
  clear hg f1 f2 f3 hd hr hc hm hat hb he
  go_enter Try.func18, Try.ntmps18
  go_wp2_with fail
  refine HG.out.mono ?_
  rintro e w1 ⟨rfl, rfl⟩
  go_wp2
  go_ret3
  exact ppost_err HB.out rfl

set_option maxHeartbeats 800000 in
theorem echo_far (b : List UInt8) (A : Option Addr) (c : Nat) (at_ : Nat) (w0 : World) (w : World) (l : List UInt8) (v : Value) (n : Nat) (hr : Rd w0 w0.heap.size A (b.map B8)) (hc : b.length ≤ c) (hm : c ≤ maxLen) (hat : at_ ≤ b.length) (hown : w.ownsRow w0.heap.size 5 1 v l.length (l.map B8)) (hb : Below w0.heap.size w0 w) {d k : Nat} (hd : dec 0 0 (b.drop at_) = (d, k, 0)) (hf : d = 0 ∨ l.length < d) (hl : l.length ≤ 65536) :
    Calls Try.prog 18 #[v, .int .i64 (n : Int), .slice A b.length c, .int .i64 (at_ : Int)] w (PPost w0 6 [] 0) := by
  have hg := get_any b A c at_ w w0.heap.size (hr.below hb) hc hm
  obtain ⟨f1, f2, f3⟩ := fin hat hd
  rw [f1, f2, f3, if_pos rfl] at hg
  have HG := Lib.hid hg
  have HB := Lib.hid hb
  have ht := dec_takes hd
  obtain ⟨A1, c1, rfl, _, _, _⟩ := own_slice hown
  clear hg f1 f2 f3 hd hr hc hm hat hown hb
  rcases Nat.eq_zero_or_pos d with hz | hz
  · subst hz
    go_enter Try.func18, Try.ntmps18
    go_wp2_with fail
    refine HG.out.mono ?_
    rintro e w1 ⟨rfl, rfl⟩
    go_wp2
    go_ret3
    exact ppost_err HB.out rfl
  · have h1 : ((d : Int) == 0) = false := beq_eq_false_iff_ne.2 (by omega)
    have h2 : decide ((l.length : Int) < (d : Int)) = true := by simp; omega
    have h3 : decide (l.length < d) = true := by simp; omega
    go_enter Try.func18, Try.ntmps18
    go_wp2_with fail
    refine HG.out.mono ?_
    rintro e w1 ⟨rfl, rfl⟩
    go_wp2
    go_ret3
    exact ppost_err HB.out rfl

/-- The loop: k bytes are laid. -/
def Rel (d n : Nat) (l : List UInt8) (w0 : World) (v i : Value) (wr : World) : Prop := ∃ (k : Nat) (l' : List UInt8), k ≤ n ∧ i = .int .i64 (k : Int) ∧ l'.length = l.length + k ∧
  Hid (echoN d n l = echoN d (n - k) l') ∧ wr.ownsRow w0.heap.size 5 1 v l'.length (l'.map B8) ∧ Below w0.heap.size w0 wr

set_option maxHeartbeats 1600000 in
set_option maxRecDepth 100000 in
theorem echo_ok (b : List UInt8) (A : Option Addr) (c : Nat) (at_ : Nat) (w0 : World) (w : World) (l : List UInt8) (v : Value) (n : Nat) (hr : Rd w0 w0.heap.size A (b.map B8)) (hc : b.length ≤ c) (hm : c ≤ maxLen) (hat : at_ ≤ b.length) (hown : w.ownsRow w0.heap.size 5 1 v l.length (l.map B8)) (hb : Below w0.heap.size w0 w) {d k : Nat} (hd : dec 0 0 (b.drop at_) = (d, k, 0)) (hf : ¬ (d = 0 ∨ l.length < d)) (hl : l.length + n ≤ 65536) :
    Calls Try.prog 18 #[v, .int .i64 (n : Int), .slice A b.length c, .int .i64 (at_ : Int)] w (PPost w0 0 (echoN d n l) (at_ + k)) := by
  obtain ⟨i0, hi, hz0, hz1, hz2⟩ := info_parts info_u8
  have hg := get_any b A c at_ w w0.heap.size (hr.below hb) hc hm
  obtain ⟨f1, f2, f3⟩ := fin hat hd
  rw [f1, f2, f3, if_pos rfl] at hg
  have HG := Lib.hid hg
  have HB := Lib.hid hb
  have ht := dec_takes hd
  have HO := Lib.hid hown
  obtain ⟨A1, c1, rfl, _, _, _⟩ := own_slice hown
  have h1 : ((d : Int) == 0) = false := beq_eq_false_iff_ne.2 (by omega)
  have h2 : decide ((l.length : Int) < (d : Int)) = false := by simp; omega
  have h3 : decide (l.length < d) = false := by simp; omega
  have hd1 : 1 ≤ d := by omega
  have hd2 : d ≤ l.length := by omega
  clear hg f1 f2 f3 hd hr hc hm hat hown hb hf ht
  go_enter Try.func18, Try.ntmps18
  go_wp2_with fail
  refine HG.out.mono ?_
  rintro e w1 ⟨rfl, rfl⟩
  go_wp2
  go_loopw [0, 33] (fun v i wr => Rel d n l w0 v i wr) (fun _ i _ => n - (intOf i).toNat)
  case atStart => exact ⟨0, l, by omega, rfl, by omega, Lib.hid rfl, HO.out, HB.out⟩
  case round =>
    obtain ⟨j, l', hj, rfl, hlen, he, hown, hb⟩ := hrel
    clear HO HB
    by_cases hlt : j < n
    · obtain ⟨g, cg, rfl, hg1, hg2, _⟩ := own_addr hown (by omega)
      have hx : l'.length - d < l'.length := by omega
      have hcell : wr.cell? ⟨g, l'.length - d, none⟩ = some (.int .u8 (((l'.getD (l'.length - d) 0).toNat : Nat) : Int)) := by
        rw [hown.cellAt (l'.length - d) (by simp; omega)]
        simp [B8, List.getD, hx]
      have hsn : Hid (echoN d n l = echoN d (n - (j + 1)) (l' ++ [l'.getD (l'.length - d) 0])) := by
        refine Lib.hid ?_
        rw [he.out]
        obtain ⟨m, hm⟩ : ∃ m, n - j = m + 1 := ⟨n - j - 1, by omega⟩
        rw [hm, show n - (j + 1) = m by omega, echoN]
      have hxl := (l'.getD (l'.length - d) 0).toNat_lt
      generalize hX : l'.getD (l'.length - d) 0 = X at *
      clear hX
      have HO := Lib.hid hown
      have HL := Lib.hid hlen
      have hl1 : l'.length ≤ 65536 := by omega
      have hl2 : d ≤ l'.length := by omega
      have hsub : ((l'.length : Int) - (d : Int)) = ((l'.length - d : Nat) : Int) := by omega
      obtain ⟨q, hq⟩ : ∃ q, l'.length - d = q := ⟨_, rfl⟩
      rw [hq] at hcell hsub hx
      clear hq hown hlen he
      go_wp2_with (at_builtin; refine wpList_append_own _ rfl (.tmp 35) (.tmp 44) 22 rfl w0.heap.size 5 i0 (.int .u8 0) 1 1 Try.underlying22 hi hz0 hz1 hz2 rfl (by decide) _ _ _ rfl (HO.out.alloc _) ⟨wr.heap.size, 0, none⟩ 1 1 [.int .u8 ((X.toNat : Nat) : Int)] rfl rfl ?c1 ?c2 ?c3 ?c4 ?c5 ?_)
      case c1 => exact new1 _ _ _
      case c2 => intro u hu; simp at hu; subst hu; rfl
      case c3 => unfold maxLen; omega
      case c4 => omega
      case c5 => have := hb.size; simp; omega
      intro v' w2 hown2 hg2 _
      have hb2 := below_appw HO.out hb hg2
      have hown3 := own_one hown2
      clear hown2 hg2 HO hb hsub
      go_wp2
      go_roundw
      case rel => exact ⟨j + 1, _, by omega, by go_num, by simp [HL.out]; omega, hsn, hown3, hb2⟩
      case measure => simp [intOf]; omega
    · obtain rfl : j = n := by omega
      have HE : Hid (echoN d j l = l') := by
        refine Lib.hid ?_
        rw [he.out, Nat.sub_self, echoN]
      have HO := Lib.hid hown
      clear hown hlen he
      go_wp2
      go_ret3
      exact ⟨_, by rfl, by rw [HE.out]; exact HO.out, hb⟩
end Go.Proofs.Ytifndcjjlhjgiaa.Echo
