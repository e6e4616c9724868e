/- DiskRename: for all bytes and every number the statement's function answers true and leaves its arguments as they were. No conditions. -/
import Derived.Test.YtfblekedgenacaaDkArms
import Derived.Test.YtfblekedgenacaaBulk
import Derived.SizedLaws
namespace Go.Proofs.Ytfblekedgenacaa.diskRename
open Go.ChangeShapes Go.WideShapes Go.ChangeAt Go.RowKit Words DkSpec DkLaws RefDisk PdDisk PdChange PdOps PdSync PdRen PdRead PdList PdApp PdRes PdSt Awake5 diskArms Ope Bulk

theorem weigh_len1 {H : Type} {P : Program} {k : IntKind} {d : DataW H} {zs : List Int} {t e : TypeId} (ht : P.underlying t = some (.slice e)) (hb : P.bytesOf e = 1) (h : Lits k d zs) (hw : (d.weights P t).all (· ≤ reachBytes) = true) : zs.length ≤ 140737488351232 := by
  rcases h with ⟨rfl, rfl⟩ | ⟨sp, rfl⟩
  · simp
  · rw [DataW.weights, ht] at hw
    simp only [List.all_cons, Bool.and_eq_true, decide_eq_true_eq] at hw
    have h1 := hw.1
    simp only [lits, List.length_map, reachBytes, hb] at h1
    omega

def T0 (o : List UInt8) (k : Nat) : DSt := arm (k : Int) (DkLaws.one o o.length false (-1))
def A1 (o f : List UInt8) (k : Nat) : Nat × DSt := append nn f (T0 o k)
def S2 (o f : List UInt8) (k : Nat) : Nat × DSt := sync nn (A1 o f k).2
def R3 (o f : List UInt8) (k : Nat) : Nat × DSt := rename nn nm (S2 o f k).2
def T4 (o f : List UInt8) (n : Int) (k : Nat) : DSt := restart [n, n] (R3 o f k).2
/-- Few files, small ones. -/
def Sm (m : Nat) (d : DSt) : Prop := d.files.length ≤ 1000000000 ∧ ∀ g ∈ d.files, g.data.length ≤ m
theorem sm_one {o : List UInt8} {s m : Nat} {b : Bool} {l : Int} (h : o.length ≤ m) : Sm m (DkLaws.one o s b l) := ⟨by show 1 ≤ 1000000000; omega, fun g hg => by simp [DkLaws.one] at hg; subst hg; exact h⟩
theorem sm_two {o f : List UInt8} {s t m : Nat} {b : Bool} {l : Int} (h : o.length ≤ m) (h2 : f.length ≤ m) : Sm m (two o f s t b l) := ⟨by show 2 ≤ 1000000000; omega, fun g hg => by
  simp [two] at hg
  rcases hg with rfl | rfl
  · exact h
  · exact h2⟩
theorem kept_small {m : Nat} : ∀ (l : List DFile) (ks : List Int), (∀ g ∈ l, g.data.length ≤ m) → ∀ g ∈ kept l ks, g.data.length ≤ m
  | [], _, _ => fun g hg => by cases hg
  | f :: r, ks, h => fun g hg => by
    rw [kept] at hg
    rcases List.mem_cons.1 hg with rfl | hg
    · have := h f (by simp)
      simp only [List.length_take]
      omega
    · exact kept_small r ks.tail (fun g hg => h g (by simp [hg])) g hg
theorem kept_count : ∀ (l : List DFile) (ks : List Int), (kept l ks).length = l.length
  | [], _ => rfl
  | f :: r, ks => by rw [kept, List.length_cons, List.length_cons, kept_count r]
theorem sm_restart {m : Nat} {d : DSt} (ks : List Int) (h : Sm m d) : Sm m (restart ks d) := ⟨by show (kept d.files ks).length ≤ _; rw [kept_count]; exact h.1, kept_small _ _ h.2⟩
structure Facts (o f : List UInt8) (n : Int) (k : Nat) (m : Nat) : Prop where
  s0 : Sm m (T0 o k)
  s1 : Sm m (A1 o f k).2
  s2 : Sm m (S2 o f k).2
  s3 : Sm m (R3 o f k).2
  new : (old nn (T0 o k).files).data.length = 0
  down : (R3 o f k).2.off = decide (k ≤ 3)
  ok : (R3 o f k).1 = 0 ↔ 3 ≤ k
  read : DkSpec.read nm (T4 o f n k) = (0, if 3 ≤ k then f else o)
  list : 3 ≤ k → DkSpec.list (T4 o f n k) = (0, [nm])
theorem facts (o f : List UInt8) (n : Int) (k m : Nat) (hk : k < 6) (ho : o.length ≤ m) (hf : f.length ≤ m) : Facts o f n k m := by
  have hk6 : k = 0 ∨ k = 1 ∨ k = 2 ∨ k = 3 ∨ k = 4 ∨ k = 5 := by omega
  rcases hk6 with rfl | rfl | rfl | rfl | rfl | rfl
  · have e0 : T0 o 0 = DkLaws.one o o.length true 0 := arm0 o
    have e1 : A1 o f 0 = (23, DkLaws.one o o.length true 0) := by unfold A1; rw [e0]; exact ap0 o f _
    have e2 : S2 o f 0 = (23, DkLaws.one o o.length true 0) := by unfold S2; rw [e1]; exact sy0 o _
    have e3 : R3 o f 0 = (23, DkLaws.one o o.length true 0) := by unfold R3; rw [e2]; exact rn0 o _
    have e4 : T4 o f n 0 = DkLaws.one o o.length false (-1) := by unfold T4; rw [e3]; exact rs1 o n _ _
    exact ⟨by rw [e0]; exact sm_one ho, by rw [e1]; exact sm_one ho, by rw [e2]; exact sm_one ho, by rw [e3]; exact sm_one ho, by rw [e0]; rfl, by rw [e3]; rfl, by rw [e3]; simp, by rw [e4]; exact rd1 o _, fun h => by omega⟩
  · have e0 : T0 o 1 = DkLaws.one o o.length false 1 := arm1 o
    have e1 : A1 o f 1 = (0, two o f o.length 0 true 0) := by unfold A1; rw [e0]; exact ap1 o f _
    have e2 : S2 o f 1 = (23, two o f o.length 0 true 0) := by unfold S2; rw [e1]; exact sy1 o f _
    have e3 : R3 o f 1 = (23, two o f o.length 0 true 0) := by unfold R3; rw [e2]; exact rn1 o f _ _
    obtain ⟨f', t', e4⟩ : ∃ f' t', T4 o f n 1 = two o f' o.length t' false (-1) := by unfold T4; rw [e3]; exact rs2 o f n _ _ _
    exact ⟨by rw [e0]; exact sm_one ho, by rw [e1]; exact sm_two ho hf, by rw [e2]; exact sm_two ho hf, by rw [e3]; exact sm_two ho hf, by rw [e0]; rfl, by rw [e3]; rfl, by rw [e3]; simp, by rw [e4]; exact rd2 o f' _ _, fun h => by omega⟩
  · have e0 : T0 o 2 = DkLaws.one o o.length false 2 := arm2 o
    have e1 : A1 o f 2 = (0, two o f o.length 0 false 1) := by unfold A1; rw [e0]; exact ap2 o f _
    have e2 : S2 o f 2 = (0, two o f o.length f.length true 0) := by unfold S2; rw [e1]; exact sy2 o f _
    have e3 : R3 o f 2 = (23, two o f o.length f.length true 0) := by unfold R3; rw [e2]; exact rn1 o f _ _
    obtain ⟨f', t', e4⟩ : ∃ f' t', T4 o f n 2 = two o f' o.length t' false (-1) := by unfold T4; rw [e3]; exact rs2 o f n _ _ _
    exact ⟨by rw [e0]; exact sm_one ho, by rw [e1]; exact sm_two ho hf, by rw [e2]; exact sm_two ho hf, by rw [e3]; exact sm_two ho hf, by rw [e0]; rfl, by rw [e3]; rfl, by rw [e3]; simp, by rw [e4]; exact rd2 o f' _ _, fun h => by omega⟩
  · have e0 : T0 o 3 = DkLaws.one o o.length false 3 := arm3 o
    have e1 : A1 o f 3 = (0, two o f o.length 0 false 2) := by unfold A1; rw [e0]; exact ap3 o f _
    have e2 : S2 o f 3 = (0, two o f o.length f.length false 1) := by unfold S2; rw [e1]; exact sy3 o f _
    have e3 : R3 o f 3 = (0, DkLaws.one f f.length true 0) := by unfold R3; rw [e2]; exact rn3 o f _ _
    have e4 : T4 o f n 3 = DkLaws.one f f.length false (-1) := by unfold T4; rw [e3]; exact rs1 f n _ _
    exact ⟨by rw [e0]; exact sm_one ho, by rw [e1]; exact sm_two ho hf, by rw [e2]; exact sm_two ho hf, by rw [e3]; exact sm_one hf, by rw [e0]; rfl, by rw [e3]; rfl, by rw [e3]; simp, by rw [e4]; exact rd1 f _, fun _ => by rw [e4]; exact ls1 f _⟩
  · have e0 : T0 o 4 = DkLaws.one o o.length false 4 := arm4 o
    have e1 : A1 o f 4 = (0, two o f o.length 0 false 3) := by unfold A1; rw [e0]; exact ap4 o f _
    have e2 : S2 o f 4 = (0, two o f o.length f.length false 2) := by unfold S2; rw [e1]; exact sy4 o f _
    have e3 : R3 o f 4 = (0, DkLaws.one f f.length false 1) := by unfold R3; rw [e2]; exact rn4 o f _ _
    have e4 : T4 o f n 4 = DkLaws.one f f.length false (-1) := by unfold T4; rw [e3]; exact rs1 f n _ _
    exact ⟨by rw [e0]; exact sm_one ho, by rw [e1]; exact sm_two ho hf, by rw [e2]; exact sm_two ho hf, by rw [e3]; exact sm_one hf, by rw [e0]; rfl, by rw [e3]; rfl, by rw [e3]; simp, by rw [e4]; exact rd1 f _, fun _ => by rw [e4]; exact ls1 f _⟩
  · have e0 : T0 o 5 = DkLaws.one o o.length false 5 := arm5 o
    have e1 : A1 o f 5 = (0, two o f o.length 0 false 4) := by unfold A1; rw [e0]; exact ap5 o f _
    have e2 : S2 o f 5 = (0, two o f o.length f.length false 3) := by unfold S2; rw [e1]; exact sy5 o f _
    have e3 : R3 o f 5 = (0, DkLaws.one f f.length false 2) := by unfold R3; rw [e2]; exact rn5 o f _ _
    have e4 : T4 o f n 5 = DkLaws.one f f.length false (-1) := by unfold T4; rw [e3]; exact rs1 f n _ _
    exact ⟨by rw [e0]; exact sm_one ho, by rw [e1]; exact sm_two ho hf, by rw [e2]; exact sm_two ho hf, by rw [e3]; exact sm_one hf, by rw [e0]; rfl, by rw [e3]; rfl, by rw [e3]; simp, by rw [e4]; exact rd1 f _, fun _ => by rw [e4]; exact ls1 f _⟩

theorem bool_same (b : Bool) : (b != b) = false := by cases b <;> rfl
theorem rd_string {w : World} {v : List UInt8} {A : Option Addr} (h : Rd w w.heap.size A (v.map B8)) (c : Nat) (w' : World) (hb : Below w.heap.size w w') : (convert 30 9 (.slice A v.length c)).run Try.prog w' = .ok (.string ⟨v.toArray⟩) w' := run_str w' A _ c rfl (h.below hb)

set_option maxHeartbeats 6400000 in
set_option maxRecDepth 100000 in
theorem walk (w : World) (o : List UInt8) (Ao : Option Addr) (co : Nat) (hco : o.length ≤ co) (hmo : co ≤ maxLen) (hro : Rd w w.heap.size Ao (o.map B8)) (hlo : o.length ≤ 140737488351232) (f : List UInt8) (Af : Option Addr) (cf : Nat) (hcf : f.length ≤ cf) (hmf : cf ≤ maxLen) (hrf : Rd w w.heap.size Af (f.map B8)) (hlf : f.length ≤ 140737488351232) (n : Int) (wn : (Lit.int .i64 n).wf = true) :
    Calls Try.prog 5 #[.slice Ao o.length co, .slice Af f.length cf, .int .i64 n] w fun e w' => e = .returned (.bool true) ∧ Below w.heap.size w w' := by
  obtain ⟨hn1, hn2⟩ : -9223372036854775808 ≤ n ∧ n ≤ 9223372036854775807 := by
    simp only [Lit.wf, Bool.and_eq_true, decide_eq_true_eq] at wn
    rw [show IntKind.i64.min = -9223372036854775808 from rfl, show IntKind.i64.max = 9223372036854775807 from rfl] at wn
    exact wn
  obtain ⟨u, hu, hu2⟩ : ∃ u : Nat, IntKind.u64.wrap n = (u : Int) ∧ u < 18446744073709551616 := ⟨(n % 18446744073709551616).toNat, by rw [IntKind.wrap_u64]; omega, by omega⟩
  obtain ⟨k, hk, hk6⟩ : ∃ k : Nat, Int.tmod (u : Int) 6 = (k : Int) ∧ k < 6 := ⟨u % 6, by rw [Int.tmod_eq_emod_of_nonneg (by omega)]; omega, by omega⟩
  have FF := Lib.hid (facts o f n k 140737488351232 hk6 hlo hlf)
  have HRO := Lib.hid hro
  have HRF := Lib.hid hrf
  have HLO := Lib.hid hlo
  have HLF := Lib.hid hlf
  have HN := Lib.hid (And.intro hn1 hn2)
  have H0 := Lib.hid (awake_any w)
  clear wn hro hrf hlo hlf hco hcf hmo hmf
  go_enter Try.func5, Try.ntmps5
  go_wp2_with fail
  refine H0.out.mono ?_
  rintro e w1 ⟨rfl, hb1⟩
  have HB1 := Lib.hid hb1
  have H1 := Lib.hid (new_any w1 (fun _ => 0) 1)
  have RO := Lib.hid ((HRO.out.below hb1).more hb1.size)
  have RF := Lib.hid ((HRF.out.below hb1).more hb1.size)
  clear hb1 H0
  go_wp2_with fail
  refine H1.out.mono ?_
  rintro e w2 ⟨p, K2, rfl, _, hd2, ht2⟩
  have S2 := Lib.hid (St.first hd2 ht2)
  have H2 := Lib.hid (append_any _ _ 1 p fresh nm o Ao co S2.out.disk (by decide) (by decide) (by have := HLO.out; show 0 + o.length ≤ _; omega) (S2.out.rd RO.out).1 (by simpa using (S2.out.rd RO.out).2))
  rw [r1] at H2
  clear hd2 ht2 H1
  go_wp2_with fail
  refine H2.out.mono ?_
  rintro e w3 ⟨rfl, K3, hd3, ht3⟩
  have S3 := Lib.hid (S2.out.step hd3 ht3)
  have H3 := Lib.hid (sync_any _ _ 1 p _ nm S3.out.disk (by decide))
  rw [r2] at H3
  clear hd3 ht3 H2
  go_wp2_with fail
  refine H3.out.mono ?_
  rintro e w4 ⟨rfl, K4, hd4, ht4⟩
  have S4 := Lib.hid (S3.out.step hd4 ht4)
  have H4 : Hid (Calls Try.prog 19 #[.pointer (some ⟨p, 0, none⟩), .int .i64 (k : Int)] w4 (MPost w4 K4 1 p (T0 o k))) := Lib.hid (arm_any _ _ 1 p _ (k : Int) S4.out.disk (by omega) (by omega))
  clear hd4 ht4 H3
  go_wp2_with fail
  refine H4.out.mono ?_
  rintro e w5 ⟨rfl, K5, hd5, ht5⟩
  have S5 := Lib.hid (S4.out.step hd5 ht5)
  have H5 : Hid (Calls Try.prog 16 #[.pointer (some ⟨p, 0, none⟩), .string ⟨nn.toArray⟩, .slice Af f.length cf] w5 (OPost w5 K5 1 p (A1 o f k))) := Lib.hid (append_any _ _ 1 p _ nn f Af cf S5.out.disk (by decide) FF.out.s0.1 (by have := HLF.out; have := FF.out.new; omega) (S5.out.rd RF.out).1 (by simpa using (S5.out.rd RF.out).2))
  clear hd5 ht5 H4
  go_wp2_with fail
  refine H5.out.mono ?_
  rintro e w6 ⟨rfl, K6, hd6, ht6⟩
  have S6 := Lib.hid (S5.out.step hd6 ht6)
  have H6 : Hid (Calls Try.prog 17 #[.pointer (some ⟨p, 0, none⟩), .string ⟨nn.toArray⟩] w6 (OPost w6 K6 1 p (diskRename.S2 o f k))) := Lib.hid (sync_any _ _ 1 p _ nn S6.out.disk (by decide))
  clear hd6 ht6 H5
  generalize (A1 o f k).1 = e1 at *
  go_wp2_with fail
  refine H6.out.mono ?_
  rintro e w7 ⟨rfl, K7, hd7, ht7⟩
  have S7 := Lib.hid (S6.out.step hd7 ht7)
  have H7 : Hid (Calls Try.prog 20 #[.pointer (some ⟨p, 0, none⟩), .string ⟨nn.toArray⟩, .string ⟨nm.toArray⟩] w7 (OPost w7 K7 1 p (R3 o f k))) := Lib.hid (rename_any _ _ 1 p _ nn nm S7.out.disk (by decide) (by decide) FF.out.s2.1)
  clear hd7 ht7 H6
  generalize (diskRename.S2 o f k).1 = e2 at *
  go_wp2_with fail
  refine H7.out.mono ?_
  rintro e w8 ⟨rfl, K8, hd8, ht8⟩
  have S8 := Lib.hid (S7.out.step hd8 ht8)
  have H8 := Lib.hid (down_st _ _ p _ S8.out.disk)
  rw [FF.out.down] at H8
  clear hd8 ht8 H7
  have HOK := Lib.hid FF.out.ok
  generalize (R3 o f k).1 = e3 at *
  have hd1 : decide ((k : Int) ≤ 3) = decide (k ≤ 3) := by rw [Bool.eq_iff_iff]; simp; omega
  have hd2 : decide (3 ≤ (k : Int)) = decide (3 ≤ k) := by rw [Bool.eq_iff_iff]; simp; omega
  have hd3 : ((e3 : Int) == 0) = decide (3 ≤ k) := by
    rw [Bool.eq_iff_iff, beq_iff_eq, decide_eq_true_eq, ← HOK.out]; omega
  have hs1 := bool_same (decide (k ≤ 3))
  have hs2 := bool_same (decide (3 ≤ k))
  have HR := Lib.hid FF.out.read
  have HL := Lib.hid FF.out.list
  by_cases h3 : 3 ≤ k
  · have hq : decide (3 ≤ k) = true := decide_eq_true h3
    rw [hq] at hd2 hd3 hs2
    rw [if_pos h3] at HR
    have HL2 := Lib.hid (HL.out h3)
    generalize decide (k ≤ 3) = b1 at *
    clear hq h3
    go_wp2_with fail
    refine H8.out.mono ?_
    rintro e w9 ⟨rfl, rfl⟩
    have S9 := Lib.hid (S8.out.lit (.cells #[.int .i64 n, .int .i64 n] 3) 0)
    have H9 : Hid (Calls Try.prog 14 #[.pointer (some ⟨p, 0, none⟩), .slice (some ⟨w8.heap.size, 0, none⟩) 2 2] (w8.alloc (.cells #[.int .i64 n, .int .i64 n] 3)) (MPost (w8.alloc (.cells #[.int .i64 n, .int .i64 n] 3)) (PdSt.mark K8 w8.heap.size 0) 1 p (T4 o f n k))) :=
      Lib.hid (restart_any _ _ 1 p _ [n, n] (some ⟨w8.heap.size, 0, none⟩) 2 S9.out.disk FF.out.s3.1 (lit_rd w8 #[.int .i64 n, .int .i64 n] 3 (0, 0)) (fun b off e h => lit_kind (by decide) b off e h) (fun x hx => by simp at hx; subst hx; exact HN.out) (by simp) (by unfold maxLen; omega))
    clear H8
    go_wp2_with fail
    refine H9.out.mono ?_
    rintro e w10 ⟨rfl, K10, hd10, ht10⟩
    have S10 := Lib.hid (S9.out.step hd10 ht10)
    have H10 := Lib.hid (read_any _ _ 1 p _ nm S10.out.disk (by decide) (fun g hg => Nat.le_trans ((sm_restart [n, n] FF.out.s3).2 g hg) (by omega)))
    rw [HR.out] at H10
    clear hd10 ht10 H9
    go_wp2_with fail
    refine H10.out.mono ?_
    unfold RdPost
    dsimp only
    rintro e w11 ⟨v11, rfl, hown11, hb11⟩
    obtain ⟨A11, c11, rfl, _, _, hrd11, _⟩ := RefTake.own_rd hown11
    have S11 := Lib.hid (S10.out.new hb11 0)
    have H11 := Lib.hid (list_any _ _ 1 p _ S11.out.disk (sm_restart [n, n] FF.out.s3).1)
    rw [HL2.out] at H11
    have RD11 := Lib.hid hrd11
    clear hown11 hb11 hrd11 H10
    go_wp2_with fail
    refine H11.out.mono ?_
    unfold LsPost
    dsimp only
    rintro e w12 ⟨v12, rfl, hown12, hb12⟩
    obtain ⟨A12, c12, rfl, hc12, hm12, hrd12, _⟩ := RefTake.own_rd hown12
    have S12 := Lib.hid (S11.out.new hb12 0)
    have sb := rd_string RD11.out c11 w12 hb12
    have sf := run_str w12 Af f.length cf rfl (S12.out.rd RF.out).1
    obtain ⟨g12, off12, rfl, _, hcell⟩ := hrd12 (by show 0 < 1; omega)
    have k12 : w12.cell? ⟨g12, off12, none⟩ = some (.string ⟨#[109]⟩) := hcell 0 _ rfl
    have hef : (f == f) = true := by simp
    unfold maxLen at hm12
    clear hown12 hb12 H11 hcell
    simp only [List.length_singleton] at hc12
    go_wp2
    go_ret
    exact ⟨rfl, HB1.out.trans (S12.out.below.mono HB1.out.size)⟩
  · have hq : decide (3 ≤ k) = false := decide_eq_false h3
    rw [hq] at hd2 hd3 hs2
    rw [if_neg h3] at HR
    generalize decide (k ≤ 3) = b1 at *
    clear hq h3
    go_wp2_with fail
    refine H8.out.mono ?_
    rintro e w9 ⟨rfl, rfl⟩
    have S9 := Lib.hid (S8.out.lit (.cells #[.int .i64 n, .int .i64 n] 3) 0)
    have H9 : Hid (Calls Try.prog 14 #[.pointer (some ⟨p, 0, none⟩), .slice (some ⟨w8.heap.size, 0, none⟩) 2 2] (w8.alloc (.cells #[.int .i64 n, .int .i64 n] 3)) (MPost (w8.alloc (.cells #[.int .i64 n, .int .i64 n] 3)) (PdSt.mark K8 w8.heap.size 0) 1 p (T4 o f n k))) :=
      Lib.hid (restart_any _ _ 1 p _ [n, n] (some ⟨w8.heap.size, 0, none⟩) 2 S9.out.disk FF.out.s3.1 (lit_rd w8 #[.int .i64 n, .int .i64 n] 3 (0, 0)) (fun b off e h => lit_kind (by decide) b off e h) (fun x hx => by simp at hx; subst hx; exact HN.out) (by simp) (by unfold maxLen; omega))
    clear H8
    go_wp2_with fail
    refine H9.out.mono ?_
    rintro e w10 ⟨rfl, K10, hd10, ht10⟩
    have S10 := Lib.hid (S9.out.step hd10 ht10)
    have H10 := Lib.hid (read_any _ _ 1 p _ nm S10.out.disk (by decide) (fun g hg => Nat.le_trans ((sm_restart [n, n] FF.out.s3).2 g hg) (by omega)))
    rw [HR.out] at H10
    clear hd10 ht10 H9
    go_wp2_with fail
    refine H10.out.mono ?_
    unfold RdPost
    dsimp only
    rintro e w11 ⟨v11, rfl, hown11, hb11⟩
    obtain ⟨A11, c11, rfl, _, _, hrd11, _⟩ := RefTake.own_rd hown11
    have S11 := Lib.hid (S10.out.new hb11 0)
    have sb := run_str w11 A11 _ c11 rfl hrd11
    have sf := run_str w11 Ao o.length co rfl (S11.out.rd RO.out).1
    have hef : (o == o) = true := by simp
    clear hown11 hb11 hrd11 H10
    go_wp2
    go_ret
    exact ⟨rfl, HB1.out.trans (S11.out.below.mono HB1.out.size)⟩
theorem own : ownKnob Try.prog.godebug = none := by kernel_rfl
theorem laid : laidOutB Try.prog = true := by kernel_rfl
theorem allRead : (Try.f5.params.toList.all fun t => Try.prog.readableRec t && decide (t < Try.prog.types.size)) = true := by kernel_rfl
set_option maxRecDepth 100000 in
theorem contract (H : Type) (enc : TypeId × Value → H) (W : World) (base : Nat) (args : Array Value) (ds gs : List (DataW H)) (before : List MemPlace)
    (hval : ∀ (j : Nat) t v, Try.f5.params[j]? = some t → args[j]? = some v → Value.okWide Try.prog W .any base t v)
    (hW : DataW.Whole enc Try.prog Try.f5.params.toList Rows.diskRenameSpec.vars false W args.toList ds gs before) (hwt : (DataW.weightsEach Try.prog (Try.f5.params.toList ++ Rows.diskRenameSpec.plain.varTypes Try.prog) (ds ++ gs)).all (· ≤ reachBytes) = true) :
    Calls Try.prog 5 args W fun e W' => ∃ v, e = .returned v ∧ Rows.diskRenameSpec.post enc Try.prog Try.f5 false true false false W args v W' := by
  have hW' := hW
  obtain ⟨p, q, hA0, hV, rfl, hfz, hnd⟩ := hW
  obtain ⟨rfl, rfl⟩ := trodVars_none hV
  have hlt : ∀ x ∈ p, x.block < W.heap.size := fun x hx => hW'.lt x (by simp [hx])
  have hA : DataW.TrodAll enc Try.prog W 0 (fun _ => true) true Try.f5.params.toList args.toList ds p := hA0
  rw [Try.params5] at hA hval
  obtain ⟨v0, vs0, d0, ds0, p0, q0, hargs, rfl, rfl, h0, r0⟩ := trodAll_cons hA
  obtain ⟨v1, vs1, d1, ds1, p1, q1, rfl, rfl, rfl, h1, r1⟩ := trodAll_cons r0
  obtain ⟨v2, vs2, d2, ds2, p2, q2, rfl, rfl, rfl, h2, r2⟩ := trodAll_cons r1
  obtain ⟨rfl, rfl, rfl⟩ := trodAll_nil r2
  obtain rfl : args = #[v0, v1, v2] := by cases args; simp_all
  rw [Try.params5] at hwt
  obtain ⟨y0, z0⟩ := weigh_cons hwt
  obtain ⟨y1, z1⟩ := weigh_cons z0
  obtain ⟨y2, z2⟩ := weigh_cons z1
  obtain ⟨A0, l0, c0, rfl, hl0, hm0, hr0, hd0⟩ := open_u8s Try.underlying30 Try.underlying5 (by kernel_rfl) (hval 0 30 v0 rfl rfl) h0 (fun x hx => hlt x (by simp [hx]))
  have hb0 : l0.length ≤ 140737488351232 := by have h := weigh_len1 Try.underlying30 (by decide +kernel) hd0 y0; rwa [List.length_map] at h
  obtain ⟨A1, l1, c1, rfl, hl1, hm1, hr1, hd1⟩ := open_u8s Try.underlying30 Try.underlying5 (by kernel_rfl) (hval 1 30 v1 rfl rfl) h1 (fun x hx => hlt x (by simp [hx]))
  have hb1 : l1.length ≤ 140737488351232 := by have h := weigh_len1 Try.underlying30 (by decide +kernel) hd1 y1; rwa [List.length_map] at h
  obtain ⟨a2, rfl, rfl, rfl, w2⟩ := open_int Try.underlying3 (hval 2 3 v2 rfl rfl) h2
  refine (walk W l0 A0 c0 hl0 hm0 hr0 hb0 l1 A1 c1 hl1 hm1 hr1 hb1 a2 w2).mono fun e W' ⟨he, hb⟩ => ?_
  subst he
  exact ⟨_, rfl, law_post laid (fun t ht => by have h := List.all_eq_true.1 allRead t ht; rw [Bool.and_eq_true, decide_eq_true_eq] at h; exact h) rfl (by kernel_rfl) Try.underlying4 rfl hW' hb⟩
set_option maxRecDepth 100000 in
theorem lifted (os : Os) (started : os.Started) (H : Type) (enc : TypeId × Value → H) :
    ReturnsInHanded {} Try.checked os 5 .any (Rows.diskRenameSpec.pre6 enc Try.prog Try.f5 Rows.diskRenameRow.domain false) (Rows.diskRenameSpec.post enc Try.prog Try.f5 false true false false) := by
  refine returnsInHanded_of_change_sized (C := Try.checked) own started (by kernel_rfl) Try.func5
    (ChangeSpec.witness6 (enc := enc) (C := Try.checked) false ⟨#[], #[.slice none 0 0, .slice none 0 0, .int .i64 0], []⟩ 8 (by kernel_rfl) (by kernel_rfl) (by kernel_rfl) (by kernel_rfl)) ?_
  intro W base args ds gs before hval hW _ hwt _
  exact contract H enc W base args ds gs before hval hW hwt
theorem over : Rows.diskRenameRow.holds Try.pinned (OpenSpec.ofChange Rows.diskRenameSpec) :=
  OpenClaim.holds_of_wide 5 Try.f5 rfl rfl rfl rfl rfl rfl rfl ⟨rfl, rfl, rfl, rfl, rfl⟩ rfl rfl rfl rfl rfl (by kernel_rfl) Try.func5 (by kernel_rfl)
    (of_decide_eq_true (by kernel_rfl)) (by unfold Func.isWrapper; first | (rw [if_pos (by decide +kernel)]; kernel_rfl) | (rw [if_neg (by decide +kernel)]; exact ⟨rfl, rfl⟩))
    (fun os started H enc _ => lifted os started H enc)
theorem proved : Rows.DiskRenameSaid := over

end Go.Proofs.Ytfblekedgenacaa.diskRename
