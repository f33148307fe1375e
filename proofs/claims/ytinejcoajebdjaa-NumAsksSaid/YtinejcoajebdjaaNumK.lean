/- The walk of NumHalves. -/
import Derived.Test.YtinejcoajebdjaaNumJ
namespace Go.Proofs.Ytinejcoajebdjaa
open Go.RowKit

/-- Block g holds just the wide number n. -/
def WBlk (w : World) (g : Nat) (n : Int) : Prop := Blk w g 24 #[.int .i64 (hi n), .int .u64 (lo n)]
theorem WBlk.c0 {w : World} {g : Nat} {n : Int} (h : WBlk w g n) : w.cell? ⟨g, 0, none⟩ = some (.int .i64 (hi n)) := Blk.cell h 0
theorem WBlk.c1 {w : World} {g : Nat} {n : Int} (h : WBlk w g n) : w.cell? ⟨g, 1, none⟩ = some (.int .u64 (lo n)) := Blk.cell h 1
theorem WBlk.z0 {w : World} {g : Nat} {n : Int} (h : WBlk w g n) : w.frozen? ⟨g, 0, none⟩ = false := Blk.frozen h 0
theorem WBlk.z1 {w : World} {g : Nat} {n : Int} (h : WBlk w g n) : w.frozen? ⟨g, 1, none⟩ = false := Blk.frozen h 1
theorem WBlk.below {w w' : World} {B g : Nat} {n : Int} (h : WBlk w g n) (hb : Below B w w') (hg : g < B) : WBlk w' g n := Blk.below h hb hg
theorem WBlk.new (w : World) (n : Int) : WBlk (w.alloc (.cells #[.int .i64 (hi n), .int .u64 (lo n)] 24)) w.heap.size n := Blk.new _ _ _
theorem WBlk.alloc {w : World} {g : Nat} {n : Int} (h : WBlk w g n) (o : Obj) : WBlk (w.alloc o) g n := Blk.alloc h o

/-- What holds at the head of the loops: the low product, the middle one, the upper one. -/
def HalvesRel (w : World) (B1 B2 B3 : Nat) (L M T : Int) (s : Value) (wr : World) : Prop :=
  ∃ k : Nat, k ≤ 32 ∧ s = .int .i64 (k : Int) ∧ WBlk wr B1 L ∧ WBlk wr B2 (M * 2 ^ k) ∧ WBlk wr B3 (T * 2 ^ k) ∧ Below w.heap.size w wr ∧ B3 < wr.heap.size

theorem pow2_bd (k : Nat) (h : k ≤ 64) : 0 < (2 : Int) ^ k ∧ (2 : Int) ^ k ≤ 18446744073709551616 := by
  refine ⟨Int.pow_pos (by decide), ?_⟩
  have h1 : (2 : Nat) ^ k ≤ 2 ^ 64 := Nat.pow_le_pow_right (by decide) h
  have h2 : (((2 : Nat) ^ k : Nat) : Int) = (2 : Int) ^ k := by simp
  rw [← h2]
  omega
theorem dbl_IsW (X : Int) (k : Nat) (h0 : 0 ≤ X) (h1 : X ≤ 1125899906842624) (hk : k ≤ 64) : 0 ≤ X * 2 ^ k ∧ X * 2 ^ k ≤ 20769187434139310514121985316880384 := by
  obtain ⟨p, q⟩ := pow2_bd k hk
  refine ⟨Int.mul_nonneg h0 (by omega), ?_⟩
  have := Int.mul_le_mul h1 q (by omega) (by omega)
  omega
theorem dbl (X : Int) (k : Nat) (h0 : 0 ≤ X) (h1 : X ≤ 1125899906842624) (hk : k + 1 ≤ 64) : IsW (X * 2 ^ k) ∧ wr (X * 2 ^ k + X * 2 ^ k) = X * 2 ^ (k + 1) := by
  have a := dbl_IsW X k h0 h1 (by omega)
  have b := dbl_IsW X (k + 1) h0 h1 hk
  have e : X * 2 ^ (k + 1) = X * 2 ^ k + X * 2 ^ k := by rw [Int.pow_succ, ← Int.mul_assoc]; omega
  rw [e] at b ⊢
  obtain ⟨_, _⟩ := a
  obtain ⟨_, _⟩ := b
  unfold IsW wr
  omega
theorem mul_bd {a b x y : Int} (ha : 0 ≤ a) (hb : 0 ≤ b) (hx : a ≤ x) (hy : b ≤ y) : 0 ≤ a * b ∧ a * b ≤ x * y := ⟨Int.mul_nonneg ha hb, Int.mul_le_mul hx hy hb (by omega)⟩

theorem WBlk.set2 {w : World} {g : Nat} {n : Int} (h : WBlk w g n) (m : Int) : WBlk ((w.setCell ⟨g, 0, none⟩ (.int .i64 (hi m))).setCell ⟨g, 1, none⟩ (.int .u64 (lo m))) g m :=
  Blk.set_ (Blk.set_ h 0 (.int .i64 (hi m))) 1 (.int .u64 (lo m))
theorem WBlk.far2 {w : World} {g g' : Nat} {n : Int} (h : WBlk w g n) (hne : g ≠ g') (m : Int) : WBlk ((w.setCell ⟨g', 0, none⟩ (.int .i64 (hi m))).setCell ⟨g', 1, none⟩ (.int .u64 (lo m))) g n :=
  Blk.far (Blk.far h (p := ⟨g', 0, none⟩) hne _) (p := ⟨g', 1, none⟩) hne _
theorem below_set2 {W w : World} {g : Nat} (h : Below W.heap.size W w) (hg : W.heap.size ≤ g) (m : Int) : Below W.heap.size W ((w.setCell ⟨g, 0, none⟩ (.int .i64 (hi m))).setCell ⟨g, 1, none⟩ (.int .u64 (lo m))) :=
  (h.setCell (p := ⟨g, 0, none⟩) hg _).setCell (p := ⟨g, 1, none⟩) hg _
theorem size_set2 (w : World) (g : Nat) (m : Int) : ((w.setCell ⟨g, 0, none⟩ (.int .i64 (hi m))).setCell ⟨g, 1, none⟩ (.int .u64 (lo m))).heap.size = w.heap.size := by simp [World.setCell]

/-- What holds at the head of the second loop. -/
def HalvesRel2 (w : World) (B1 B2 B3 : Nat) (L M T : Int) (s : Value) (wr : World) : Prop :=
  ∃ k : Nat, k ≤ 32 ∧ s = .int .i64 (k : Int) ∧ WBlk wr B1 L ∧ WBlk wr B2 M ∧ WBlk wr B3 (T * 2 ^ (32 + k)) ∧ Below w.heap.size w wr ∧ B3 < wr.heap.size

theorem halves_eq (a b c d : Int) : (c * 4294967296 + a) * (d * 4294967296 + b) = a * b + (a * d + c * b) * 2 ^ 32 + c * d * 2 ^ (32 + 32) := by
  have e1 : (2 : Int) ^ 32 = 4294967296 := by decide
  have e2 : (2 : Int) ^ (32 + 32) = 4294967296 * 4294967296 := by decide
  rw [e1, e2, Int.add_mul, Int.mul_add, Int.mul_add, Int.add_mul]
  have x1 : c * 4294967296 * (d * 4294967296) = c * d * (4294967296 * 4294967296) := by rw [Int.mul_assoc, Int.mul_left_comm 4294967296 d, ← Int.mul_assoc]
  have x2 : c * 4294967296 * b = c * b * 4294967296 := by rw [Int.mul_right_comm]
  have x3 : a * (d * 4294967296) = a * d * 4294967296 := by rw [Int.mul_assoc]
  rw [x1, x2, x3]
  omega
theorem halves_wr (L M T : Int) (h1 : 0 ≤ L ∧ L ≤ 4294967296 * 4294967296) (h2 : 0 ≤ M ∧ M ≤ 20769187434139310514121985316880384) (h3 : 0 ≤ T ∧ T ≤ 20769187434139310514121985316880384) :
    (IsW L ∧ IsW M ∧ IsW T ∧ IsW (L + M)) ∧ wr (L + M) = L + M ∧ wr (L + M + T) = L + M + T := by
  obtain ⟨_, _⟩ := h1
  obtain ⟨_, _⟩ := h2
  obtain ⟨_, _⟩ := h3
  unfold IsW wr
  omega

set_option maxHeartbeats 4000000 in
theorem halves_walk (a : Int) (ha : U32 a) (b : Int) (hb : U32 b) (c : Int) (hc : U16 c) (d : Int) (hd : U16 d) (w : World) :
    Calls Try.prog 9 #[.int .u32 a, .int .u32 b, .int .u16 c, .int .u16 d] w fun e w' => e = .returned (.bool true) ∧ Below w.heap.size w w' := by
  obtain ⟨a1, a2⟩ := ha
  obtain ⟨b1, b2⟩ := hb
  obtain ⟨c1, c2⟩ := hc
  obtain ⟨d1, d2⟩ := hd
  have IA := Lib.hid (show I64 a by unfold I64; omega)
  have IB := Lib.hid (show I64 b by unfold I64; omega)
  have IC := Lib.hid (show I64 c by unfold I64; omega)
  have ID := Lib.hid (show I64 d by unfold I64; omega)
  have q1 := mul_bd (a := a) (b := d) (x := 4294967296) (y := 65536) a1 d1 (by omega) (by omega)
  have q2 := mul_bd (a := c) (b := b) (x := 65536) (y := 4294967296) c1 b1 (by omega) (by omega)
  have q3 := mul_bd (a := c) (b := d) (x := 65536) (y := 65536) c1 d1 (by omega) (by omega)
  have MB := Lib.hid (show 0 ≤ a * d + c * b ∧ a * d + c * b ≤ 1125899906842624 by omega)
  have TB := Lib.hid (show 0 ≤ c * d ∧ c * d ≤ 1125899906842624 by omega)
  have MW := Lib.hid (show wr (a * d + c * b) = a * d + c * b by unfold wr; omega)
  clear q1 q2 q3
  go_enter Try.func9, Try.ntmps9
  go_wp2_with fail
  refine (times_any a b (a * b) IA.out IB.out rfl _).mono ?_
  rintro e w1 ⟨rfl, h1⟩
  go_wp2_with fail
  refine (times_any a d (a * d) IA.out ID.out rfl _).mono ?_
  rintro e w2 ⟨rfl, h2⟩
  go_wp2_with fail
  refine (times_any c b (c * b) IC.out IB.out rfl _).mono ?_
  rintro e w3 ⟨rfl, h3⟩
  go_wp2_with fail
  refine (plus_any (a * d) (c * b) (a * d + c * b) (IsW_mul IA.out ID.out) (IsW_mul IC.out IB.out) MW.out _).mono ?_
  rintro e w4 ⟨rfl, h4⟩
  go_wp2_with fail
  refine (times_any c d (c * d) IC.out ID.out rfl _).mono ?_
  rintro e w5 ⟨rfl, h5⟩
  go_wp2_with fail
  have s1 := h1.size
  have s2 := h2.size
  have s3 := h3.size
  have s4 := h4.size
  have s5 := h5.size
  simp only [World.size_alloc] at s2 s5
  have B12 : w1.heap.size < w4.heap.size := by omega
  have B45 : w4.heap.size < w5.heap.size := by omega
  have b1 : WBlk (w5.alloc (Obj.cells #[.int .i64 (hi (c * d)), .int .u64 (lo (c * d))] 24)) w1.heap.size (a * b) :=
    ((((WBlk.new w1 (a * b)).below (chain2 (chain2 h2 h3) h4) (by simp)).alloc _).below h5 (by simp; omega)).alloc _
  have b4 : WBlk (w5.alloc (Obj.cells #[.int .i64 (hi (c * d)), .int .u64 (lo (c * d))] 24)) w4.heap.size (a * d + c * b) :=
    ((WBlk.new w4 (a * d + c * b)).below h5 (by simp)).alloc _
  have b5 := WBlk.new w5 (c * d)
  have hB : Below w.heap.size w (w5.alloc (Obj.cells #[.int .i64 (hi (c * d)), .int .u64 (lo (c * d))] 24)) := by
    have q1 := h1.trans (((Below.refl _ w1).alloc (Nat.le_refl _) _).trans ((chain2 (chain2 h2 h3) h4).mono (by simp)) |>.mono s1)
    have q2 := q1.trans (((Below.refl _ w4).alloc (Nat.le_refl _) _).trans (h5.mono (by simp)) |>.mono q1.size)
    exact q2.alloc q2.size _
  have S1 := Lib.hid s1
  clear h1 h2 h3 h4 h5 s1 s2 s3 s4 s5
  have G1 := Lib.hid b1
  have G4 := Lib.hid b4
  have G5 := Lib.hid b5
  have GB := Lib.hid hB
  clear b1 b4 b5 hB
  have hs0 : w.heap.size ≤ w1.heap.size := S1.out
  go_loopw [14] (fun s wr => HalvesRel w w1.heap.size w4.heap.size w5.heap.size (a * b) (a * d + c * b) (c * d) s wr) (fun i _ => 32 - (intOf i).toNat)
  case atStart => exact ⟨0, by omega, rfl, G1.out, by simpa using G4.out, by simpa using G5.out, GB.out, by simp⟩
  case round =>
    obtain ⟨k, hk, rfl, r1, r4, r5, rB, rS⟩ := hrel
    have R1 := Lib.hid r1
    have R4 := Lib.hid r4
    have R5 := Lib.hid r5
    have RB := Lib.hid rB
    clear r1 r4 r5 rB G1 G4 G5 GB
    by_cases hlt : k < 32
    · have c0 := R4.out.c0
      have c1 := R4.out.c1
      go_wp2_with fail
      have D := dbl (a * d + c * b) k MB.out.1 MB.out.2 (by omega)
      refine (plus_any ((a * d + c * b) * 2 ^ k) ((a * d + c * b) * 2 ^ k) ((a * d + c * b) * 2 ^ (k + 1)) D.1 D.1 D.2 _).mono ?_
      clear D
      rintro e x1 ⟨rfl, hx⟩
      have Y1 := Lib.hid (R1.out.below hx (by omega))
      have Y4 := Lib.hid (R4.out.below hx (by omega))
      have Y5 := Lib.hid (R5.out.below hx (by omega))
      have YS := hx.size
      have YB := Lib.hid (chain2 RB.out (hx))
      clear hx c0 c1 R1 R4 R5 RB
      have c0 := Y4.out.c0
      have c1 := Y4.out.c1
      have z0 := Y4.out.z0
      have z1 := Y4.out.z1
      have u0 := Y5.out.c0
      have u1 := Y5.out.c1
      go_wp2_with fail
      have D := dbl (c * d) k TB.out.1 TB.out.2 (by omega)
      refine (plus_any (c * d * 2 ^ k) (c * d * 2 ^ k) (c * d * 2 ^ (k + 1)) D.1 D.1 D.2 _).mono ?_
      clear D c0 c1 z0 z1 u0 u1
      rintro e x2 ⟨rfl, hx⟩
      have ES := size_set2 x1 w4.heap.size ((a * d + c * b) * 2 ^ (k + 1))
      have V1 := Lib.hid ((Y1.out.far2 (g' := w4.heap.size) (by omega) ((a * d + c * b) * 2 ^ (k + 1))).below hx (by rw [ES]; omega))
      have V4 := Lib.hid ((Y4.out.set2 ((a * d + c * b) * 2 ^ (k + 1))).below hx (by rw [ES]; omega))
      have V5 := Lib.hid ((Y5.out.far2 (g' := w4.heap.size) (by omega) ((a * d + c * b) * 2 ^ (k + 1))).below hx (by rw [ES]; omega))
      have VB := Lib.hid (chain2 (below_set2 YB.out (g := w4.heap.size) (by omega) ((a * d + c * b) * 2 ^ (k + 1))) hx)
      have VS := hx.size
      rw [ES] at VS
      clear hx ES Y1 Y4 Y5 YB
      have c0 := V5.out.c0
      have c1 := V5.out.c1
      have z0 := V5.out.z0
      have z1 := V5.out.z1
      go_wp2_with fail
      have XS := size_set2 x2 w5.heap.size (c * d * 2 ^ (k + 1))
      exact ⟨⟨k + 1, by omega, by simp, V1.out.far2 (by omega) _, V4.out.far2 (by omega) _, V5.out.set2 _, below_set2 VB.out (by omega) _, by omega⟩, by simp [intOf]; omega⟩
    · obtain rfl : k = 32 := by omega
      clear hlt
      go_wp2_with fail
      rw [show ((32 : Nat) : Int) = 32 from rfl]
      go_loopw [15] (fun s wr => HalvesRel2 w w1.heap.size w4.heap.size w5.heap.size (a * b) ((a * d + c * b) * 2 ^ 32) (c * d) s wr) (fun i _ => 32 - (intOf i).toNat)
      case atStart => exact ⟨0, by omega, rfl, R1.out, R4.out, R5.out, RB.out, rS⟩
      case round =>
        obtain ⟨k, hk2, rfl, r1, r4, r5, rB, rS2⟩ := hrel
        have Q1 := Lib.hid r1
        have Q4 := Lib.hid r4
        have Q5 := Lib.hid r5
        have QB := Lib.hid rB
        clear r1 r4 r5 rB R1 R4 R5 RB
        by_cases hlt : k < 32
        · have c0 := Q5.out.c0
          have c1 := Q5.out.c1
          go_wp2_with fail
          have D := dbl (c * d) (32 + k) TB.out.1 TB.out.2 (by omega)
          refine (plus_any (c * d * 2 ^ (32 + k)) (c * d * 2 ^ (32 + k)) (c * d * 2 ^ (32 + k + 1)) D.1 D.1 D.2 _).mono ?_
          clear D c0 c1
          rintro e x1 ⟨rfl, hx⟩
          have Y1 := Lib.hid (Q1.out.below hx (by omega))
          have Y4 := Lib.hid (Q4.out.below hx (by omega))
          have Y5 := Lib.hid (Q5.out.below hx (by omega))
          have YS := hx.size
          have YB := Lib.hid (chain2 QB.out (hx))
          clear hx Q1 Q4 Q5 QB
          have c0 := Y5.out.c0
          have c1 := Y5.out.c1
          have z0 := Y5.out.z0
          have z1 := Y5.out.z1
          go_wp2_with fail
          have XS := size_set2 x1 w5.heap.size (c * d * 2 ^ (32 + k + 1))
          exact ⟨⟨k + 1, by omega, by simp, Y1.out.far2 (by omega) _, Y4.out.far2 (by omega) _, Y5.out.set2 _, below_set2 YB.out (by omega) _, by omega⟩, by simp [intOf]; omega⟩
        · obtain rfl : k = 32 := by omega
          clear hlt
          rw [show ((32 : Nat) : Int) = 32 from rfl]
          have k0 := Q1.out.c0
          have k1 := Q1.out.c1
          have k2 := Q4.out.c0
          have k3 := Q4.out.c1
          have k4 := Q5.out.c0
          have k5 := Q5.out.c1
          have HP : Hid (Past w (w5.heap.size + 1) _) := ⟨QB.out, rS2⟩
          have E1 := Lib.hid (halves_eq a b c d)
          have E2 := Lib.hid (halves_wr (a * b) ((a * d + c * b) * 2 ^ 32) (c * d * 2 ^ (32 + 32)) (mul_bd (a := a) (b := b) (x := 4294967296) (y := 4294967296) a1 b1 (by omega) (by omega)) (dbl_IsW (a * d + c * b) 32 MB.out.1 MB.out.2 (by omega)) (dbl_IsW (c * d) (32 + 32) TB.out.1 TB.out.2 (by omega)))
          clear Q1 Q4 Q5 QB
          generalize (a * d + c * b) * 2 ^ 32 = M2 at *
          generalize c * d * 2 ^ (32 + 32) = T2 at *
          have IX := Lib.hid (show I64 (c * 4294967296 + a) by unfold I64; omega)
          have IY := Lib.hid (show I64 (d * 4294967296 + b) by unfold I64; omega)
          go_wp2_with fail
          go_region_held3 (fun w' => w'.cell? ⟨w1.heap.size, 0, none⟩ = some (.int .i64 (hi (a * b))) ∧ w'.cell? ⟨w1.heap.size, 1, none⟩ = some (.int .u64 (lo (a * b))) ∧ w'.cell? ⟨w4.heap.size, 0, none⟩ = some (.int .i64 (hi (M2))) ∧ w'.cell? ⟨w4.heap.size, 1, none⟩ = some (.int .u64 (lo (M2))) ∧ w'.cell? ⟨w5.heap.size, 0, none⟩ = some (.int .i64 (hi (T2))) ∧ w'.cell? ⟨w5.heap.size, 1, none⟩ = some (.int .u64 (lo (T2))) ∧ Past w (w5.heap.size + 1) w')
            (first | exact ⟨k0, k1, k2, k3, k4, k5, HP.out.drew⟩ | exact keep3 (by omega) (by omega) (by omega) ⟨k0, k1, k2, k3, k4, k5, HP.out.drew⟩ hb | exact keep3 (by omega) (by omega) (by omega) (by assumption) hb)
            (first
              | (go_at_call 11; refine (known_any _).mono ?_; rintro e w' ⟨rfl, hb⟩)
              | (go_at_call 19; (with_reducible refine (times_any (c * 4294967296 + a) (d * 4294967296 + b) _ IX.out IY.out E1.out _).mono ?_); rintro e w' ⟨rfl, hb⟩)
              | (go_at_call 23; (with_reducible refine (plus_any (a * b) (M2) _ E2.out.1.1 E2.out.1.2.1 E2.out.2.1 _).mono ?_); rintro e w' ⟨rfl, hb⟩)
              | (go_at_call 23; (with_reducible refine (plus_any (a * b + M2) (T2) _ E2.out.1.2.2.2 E2.out.1.2.2.1 E2.out.2.2 _).mono ?_); rintro e w' ⟨rfl, hb⟩))
          all_goals
            rename_i hs
            have H9 := Lib.hid hs.2.2.2.2.2.2
            clear hs
            go_wp2_with fail
            go_ret
            exact ⟨rfl, H9.out.1⟩
end Go.Proofs.Ytinejcoajebdjaa
