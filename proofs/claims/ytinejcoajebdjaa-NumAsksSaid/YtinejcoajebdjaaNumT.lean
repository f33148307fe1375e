/- The document's product, bit by bit. -/
import Derived.Test.YtinejcoajebdjaaNumS
namespace Go.Proofs.Ytinejcoajebdjaa
open Go.RowKit

/-- A number of 64 bits, without its sign. -/
def ub (b : Int) : Nat := (b % 18446744073709551616).toNat
/-- The sum behind k bits. -/
def tp (a b : Int) (k : Nat) : Int := if k = 64 then a * b else a * ((ub b % 2 ^ k : Nat) : Int)
/-- The first number, k times twice. -/
def tx (a : Int) (k : Nat) : Int := wr (a * 2 ^ k)
/-- Bit k. -/
def bit (b : Int) (k : Nat) : Nat := ub b / 2 ^ k % 2

theorem tp_zero (a b : Int) : tp a b 0 = 0 := by unfold tp; rw [if_neg (by omega)]; simp [Nat.mod_one]
theorem tp_64 (a b : Int) : tp a b 64 = a * b := if_pos rfl
theorem tx_zero (a : Int) (h : I64 a) : tx a 0 = a := by unfold tx; simp; exact wr_of (IsW_of_I64 h)
theorem tx_IsW (a : Int) (k : Nat) : IsW (tx a k) := wr_IsW _
theorem tx_step (a : Int) (k : Nat) : wr (tx a k + tx a k) = tx a (k + 1) := by
  unfold tx
  rw [Int.pow_succ, ← Int.mul_assoc]
  generalize a * 2 ^ k = z
  unfold wr; omega
theorem two_pow (k : Nat) : (((2 : Nat) ^ k : Nat) : Int) = (2 : Int) ^ k := by simp
theorem ub_lt (b : Int) : ub b < 18446744073709551616 := by unfold ub; omega
theorem small_mul {a : Int} (ha : I64 a) (n : Nat) (hn : n ≤ 9223372036854775808) : -85070591730234615865843651857942052864 ≤ a * n ∧ a * n ≤ 85070591730234615865843651857942052864 := by
  obtain ⟨a1, a2⟩ := ha
  have x : a.natAbs ≤ 9223372036854775808 := by omega
  have z := Nat.mul_le_mul x hn
  have e : (a * (n : Int)).natAbs = a.natAbs * n := by rw [Int.natAbs_mul]; simp
  rw [← e] at z
  omega
theorem pow_le63 (k : Nat) (h : k ≤ 63) : (2 : Nat) ^ k ≤ 9223372036854775808 := by
  have := Nat.pow_le_pow_right (show 0 < 2 by decide) h
  simpa using this
theorem tp_IsW (a b : Int) (ha : I64 a) (hb : I64 b) (k : Nat) (hk : k ≤ 64) : IsW (tp a b k) := by
  unfold tp
  split
  · exact IsW_mul ha hb
  · have h1 := pow_le63 k (by omega)
    have h2 : ub b % 2 ^ k < 2 ^ k := Nat.mod_lt _ (Nat.pow_pos (by decide))
    have := small_mul ha (ub b % 2 ^ k) (by omega)
    unfold IsW; omega
theorem tx_eq (a : Int) (ha : I64 a) (k : Nat) (hk : k ≤ 63) : tx a k = a * ((2 ^ k : Nat) : Int) ∧ -85070591730234615865843651857942052864 ≤ a * ((2 ^ k : Nat) : Int) ∧ a * ((2 ^ k : Nat) : Int) ≤ 85070591730234615865843651857942052864 := by
  have h := small_mul ha (2 ^ k) (pow_le63 k hk)
  refine ⟨?_, h⟩
  unfold tx
  rw [← two_pow]
  exact wr_of (by unfold IsW; omega)
theorem tp_one (a b : Int) (ha : I64 a) (k : Nat) (hk : k < 63) (h : bit b k = 1) : wr (tp a b k + tx a k) = tp a b (k + 1) := by
  obtain ⟨e, l⟩ := tx_eq a ha k (by omega)
  rw [e]
  unfold tp
  rw [if_neg (by omega), if_neg (by omega), Nat.mod_pow_succ]
  unfold bit at h
  rw [h, Nat.mul_one]
  have h1 := pow_le63 (k + 1) (by omega)
  have h2 : ub b % 2 ^ k < 2 ^ k := Nat.mod_lt _ (Nat.pow_pos (by decide))
  have h3 : (2 : Nat) ^ (k + 1) = 2 ^ k * 2 := Nat.pow_succ 2 k
  have := small_mul ha (ub b % 2 ^ k + 2 ^ k) (by omega)
  rw [← Int.mul_add, ← Int.natCast_add]
  exact wr_of (by unfold IsW; omega)
theorem tp_skip (a b : Int) (hb : I64 b) (k : Nat) (hk : k < 64) (h : bit b k ≠ 1) : tp a b k = tp a b (k + 1) := by
  have h0 : bit b k = 0 := by unfold bit at *; omega
  unfold bit at h0
  by_cases g : k = 63
  · subst g
    unfold tp
    rw [if_neg (by omega), if_pos rfl]
    congr 1
    obtain ⟨b1, b2⟩ := hb
    have e : (2 : Nat) ^ 63 = 9223372036854775808 := by decide
    rw [e] at h0 ⊢
    unfold ub at *
    omega
  · unfold tp
    rw [if_neg (by omega), if_neg (by omega), Nat.mod_pow_succ, h0]
    simp
theorem tp_last (a b : Int) (ha : I64 a) (hb : I64 b) (h : bit b 63 = 1) : wr (tp a b 63 - tx a 63) = tp a b (63 + 1) := by
  obtain ⟨e, l⟩ := tx_eq a ha 63 (by omega)
  rw [e]
  unfold tp
  rw [if_neg (by omega), if_pos rfl, ← Int.mul_sub]
  unfold bit at h
  have q : (2 : Nat) ^ 63 = 9223372036854775808 := by decide
  rw [q] at h ⊢
  have e2 : (((ub b % 9223372036854775808 : Nat) : Int) - ((9223372036854775808 : Nat) : Int)) = b := by
    obtain ⟨b1, b2⟩ := hb
    unfold ub at *
    omega
  rw [e2]
  exact wr_of (IsW_mul ha hb)

theorem tp_last' (a b : Int) (ha : I64 a) (hb : I64 b) (k : Nat) (hk : k = 63) (h : bit b k = 1) : wr (tp a b k - tx a k) = tp a b (k + 1) := by
  subst hk; exact tp_last a b ha hb h
theorem bit_eq (b : Int) (k : Nat) : (IntKind.u64.wrap b / 2 ^ k).tmod 2 = (bit b k : Int) := by
  have e : IntKind.u64.wrap b = (ub b : Int) := by rw [u64w]; unfold ub; omega
  have e2 : (ub b : Int) / ((2 ^ k : Nat) : Int) = ((ub b / 2 ^ k : Nat) : Int) := by simp
  rw [e, ← two_pow, e2, Int.tmod_eq_emod_of_nonneg (Int.natCast_nonneg _)]
  rfl
theorem bit_true {b : Int} {k : Nat} (h : ((IntKind.u64.wrap b / 2 ^ k).tmod 2 == 1) = true) : bit b k = 1 := by
  rw [bit_eq] at h; simp at h; omega
theorem bit_false {b : Int} {k : Nat} (h : ((IntKind.u64.wrap b / 2 ^ k).tmod 2 == 1) = false) : bit b k ≠ 1 := by
  rw [bit_eq] at h; simp at h; omega
theorem wblk_of {u : World} {g : Nat} {x y : Int} (h : x = y) (k : WBlk u g x) : WBlk u g y := by subst h; exact k

/-- What holds at the head of the loop. -/
def TimesRel (w : World) (g h : Nat) (a b : Int) (s : Value) (u : World) : Prop :=
  ∃ k : Nat, k ≤ 64 ∧ s = .int .i64 (k : Int) ∧ WBlk u w.heap.size 0 ∧ WBlk u g (tp a b k) ∧ WBlk u h (tx a k) ∧ Below w.heap.size w u

set_option maxRecDepth 100000 in
set_option maxHeartbeats 4000000 in
/-- Times. -/
theorem rtimes_any (a b r : Int) (ha : I64 a) (hb : I64 b) (hr : a * b = r) (w : World) :
    Calls Try.prog 20 #[.int .i64 a, .int .i64 b] w fun e w' => e = .returned (Wd r) ∧ Below w.heap.size w w' := by
  have HA := Lib.hid ha
  have HB := Lib.hid hb
  have HR := Lib.hid hr
  clear ha hb hr
  go_enter Try.func20, Try.ntmps20
  go_wp2_with fail
  refine (rof_any a HA.out _).mono ?_
  rintro e w1 ⟨rfl, h1⟩
  have y1 := h1.size
  simp only [World.size_alloc] at y1
  go_wp2_with fail
  have hB : Below w.heap.size w (w1.alloc (Obj.cells #[.int .i64 (hi a), .int .u64 (lo a)] 24)) := ((own2 w _ _).step h1).1.alloc (by omega) _
  have r0 : WBlk (w1.alloc (Obj.cells #[.int .i64 (hi a), .int .u64 (lo a)] 24)) w.heap.size 0 := (((WBlk.new w 0).alloc _).below h1 (by simp; omega)).alloc _
  have r1 : WBlk (w1.alloc (Obj.cells #[.int .i64 (hi a), .int .u64 (lo a)] 24)) (w.heap.size + 1) 0 := by
    have q := (WBlk.below (n := 0) (WBlk.new (w.alloc (.cells #[.int .i64 0, .int .u64 0] 24)) 0) h1 (by simp)).alloc (Obj.cells #[.int .i64 (hi a), .int .u64 (lo a)] 24)
    simpa only [World.size_alloc] using q
  have r2 : WBlk (w1.alloc (Obj.cells #[.int .i64 (hi a), .int .u64 (lo a)] 24)) w1.heap.size a := WBlk.new _ _
  have G0 := Lib.hid r0
  have G1 := Lib.hid r1
  have G2 := Lib.hid r2
  have GB := Lib.hid hB
  clear r0 r1 r2 hB h1
  go_loopw [7] (fun s u => TimesRel w (w.heap.size + 1) w1.heap.size a b s u) (fun i _ => 64 - (intOf i).toNat)
  case atStart => exact ⟨0, by omega, rfl, G0.out, by rw [tp_zero]; exact G1.out, by rw [tx_zero a HA.out]; exact G2.out, GB.out⟩
  case round =>
    obtain ⟨k, hk, rfl, r0, r1, r2, rB⟩ := hrel
    have R0 := Lib.hid r0
    have R1 := Lib.hid r1
    have R2 := Lib.hid r2
    have RB := Lib.hid rB
    clear r0 r1 r2 rB G0 G1 G2 GB
    by_cases hlt : k < 64
    · have c0 := R1.out.c0
      have c1 := R1.out.c1
      have d0 := R2.out.c0
      have d1 := R2.out.c1
      go_wp2_with fail
      · have t1 : ((IntKind.u64.wrap b / 2 ^ k).tmod 2 == 1) = true := by assumption
        have t2 : ((k : Int) == 63) = true := by assumption
        have BT := Lib.hid (bit_true t1)
        have KT := Lib.hid (show k = 63 by simp at t2; omega)
        clear t1 t2
        refine (rminus_any (tp a b k) (tx a k) (tp a b (k + 1)) (tp_IsW a b HA.out HB.out k hk) (tx_IsW _ _) (tp_last' a b HA.out HB.out k KT.out BT.out) _).mono ?_
        rintro e x1 ⟨rfl, hx⟩
        have Y0 := Lib.hid (R0.out.below hx (Blk.lt R0.out))
        have Y1 := Lib.hid (R1.out.below hx (Blk.lt R1.out))
        have Y2 := Lib.hid (R2.out.below hx (Blk.lt R2.out))
        have YB := Lib.hid (chain2 RB.out hx)
        have YS := Blk.lt Y2.out
        clear hx c0 c1 d0 d1
        have c0 := Y1.out.c0
        have c1 := Y1.out.c1
        have z0 := Y1.out.z0
        have z1 := Y1.out.z1
        have d0 := Y2.out.c0
        have d1 := Y2.out.c1
        go_wp2_with fail
        refine (rtwice_any (tx a k) (tx a (k + 1)) (tx_IsW _ _) (tx_step _ _) _).mono ?_
        clear c0 c1 z0 z1 d0 d1
        rintro e x2 ⟨rfl, hx⟩
        have ES := size_set2 x1 (w.heap.size + 1) (tp a b (k + 1))
        have V0 := Lib.hid ((Y0.out.far2 (g' := w.heap.size + 1) (by omega) (tp a b (k + 1))).below hx (by rw [ES]; omega))
        have V1 := Lib.hid ((Y1.out.set2 (tp a b (k + 1))).below hx (by rw [ES]; omega))
        have V2 := Lib.hid ((Y2.out.far2 (g' := w.heap.size + 1) (by omega) (tp a b (k + 1))).below hx (by rw [ES]; omega))
        have VB := Lib.hid (chain2 (below_set2 YB.out (g := w.heap.size + 1) (by omega) (tp a b (k + 1))) hx)
        clear hx ES
        have d0 := V2.out.c0
        have d1 := V2.out.c1
        have z0 := V2.out.z0
        have z1 := V2.out.z1
        go_wp2_with fail
        exact ⟨⟨k + 1, by omega, by simp, V0.out.far2 (by omega) _, V1.out.far2 (by omega) _, V2.out.set2 _, below_set2 VB.out (by omega) _⟩, by simp [intOf]; omega⟩
      · have t1 : ((IntKind.u64.wrap b / 2 ^ k).tmod 2 == 1) = true := by assumption
        have t2 : ((k : Int) == 63) = false := by assumption
        have BT := Lib.hid (bit_true t1)
        have KT := Lib.hid (show k < 63 by simp at t2; omega)
        clear t1 t2
        refine (rplus_any (tp a b k) (tx a k) (tp a b (k + 1)) (tp_IsW a b HA.out HB.out k hk) (tx_IsW _ _) (tp_one a b HA.out k KT.out BT.out) _).mono ?_
        rintro e x1 ⟨rfl, hx⟩
        have Y0 := Lib.hid (R0.out.below hx (Blk.lt R0.out))
        have Y1 := Lib.hid (R1.out.below hx (Blk.lt R1.out))
        have Y2 := Lib.hid (R2.out.below hx (Blk.lt R2.out))
        have YB := Lib.hid (chain2 RB.out hx)
        have YS := Blk.lt Y2.out
        clear hx c0 c1 d0 d1
        have c0 := Y1.out.c0
        have c1 := Y1.out.c1
        have z0 := Y1.out.z0
        have z1 := Y1.out.z1
        have d0 := Y2.out.c0
        have d1 := Y2.out.c1
        go_wp2_with fail
        refine (rtwice_any (tx a k) (tx a (k + 1)) (tx_IsW _ _) (tx_step _ _) _).mono ?_
        clear c0 c1 z0 z1 d0 d1
        rintro e x2 ⟨rfl, hx⟩
        have ES := size_set2 x1 (w.heap.size + 1) (tp a b (k + 1))
        have V0 := Lib.hid ((Y0.out.far2 (g' := w.heap.size + 1) (by omega) (tp a b (k + 1))).below hx (by rw [ES]; omega))
        have V1 := Lib.hid ((Y1.out.set2 (tp a b (k + 1))).below hx (by rw [ES]; omega))
        have V2 := Lib.hid ((Y2.out.far2 (g' := w.heap.size + 1) (by omega) (tp a b (k + 1))).below hx (by rw [ES]; omega))
        have VB := Lib.hid (chain2 (below_set2 YB.out (g := w.heap.size + 1) (by omega) (tp a b (k + 1))) hx)
        clear hx ES
        have d0 := V2.out.c0
        have d1 := V2.out.c1
        have z0 := V2.out.z0
        have z1 := V2.out.z1
        go_wp2_with fail
        exact ⟨⟨k + 1, by omega, by simp, V0.out.far2 (by omega) _, V1.out.far2 (by omega) _, V2.out.set2 _, below_set2 VB.out (by omega) _⟩, by simp [intOf]; omega⟩
      · have t1 : ((IntKind.u64.wrap b / 2 ^ k).tmod 2 == 1) = false := by assumption
        have BT := Lib.hid (tp_skip a b HB.out k hlt (bit_false t1))
        clear t1
        refine (rtwice_any (tx a k) (tx a (k + 1)) (tx_IsW _ _) (tx_step _ _) _).mono ?_
        clear c0 c1 d0 d1
        rintro e x2 ⟨rfl, hx⟩
        have V0 := Lib.hid (R0.out.below hx (Blk.lt R0.out))
        have V1 := Lib.hid (R1.out.below hx (Blk.lt R1.out))
        have V2 := Lib.hid (R2.out.below hx (Blk.lt R2.out))
        have VB := Lib.hid (chain2 RB.out hx)
        clear hx
        have d0 := V2.out.c0
        have d1 := V2.out.c1
        have z0 := V2.out.z0
        have z1 := V2.out.z1
        go_wp2_with fail
        exact ⟨⟨k + 1, by omega, by simp, V0.out.far2 (by omega) _, wblk_of BT.out (V1.out.far2 (by omega) _), V2.out.set2 _, below_set2 VB.out (by omega) _⟩, by simp [intOf]; omega⟩
    · obtain rfl : k = 64 := by omega
      have q := R1.out
      rw [tp_64, HR.out] at q
      have c0 := q.c0
      have c1 := q.c1
      have z0 := R0.out.z0
      have z1 := R0.out.z1
      have d0 := R0.out.c0
      have d1 := R0.out.c1
      have T := told_cell R0.out r
      have HT := Lib.hid T
      clear q T
      go_wp2_with fail
      refine bodyPost_ret (v := Wd r) (by simp [results, Try.results20, go_sem, HT.out.1, HT.out.2]) rfl ⟨rfl, below_set2 RB.out (Nat.le_refl _) _⟩
end Go.Proofs.Ytinejcoajebdjaa
