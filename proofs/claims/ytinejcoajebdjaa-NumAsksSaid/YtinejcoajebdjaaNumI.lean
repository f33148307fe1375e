/- The walks of NumOrder and NumBack. -/
import Derived.Test.YtinejcoajebdjaaNumH
namespace Go.Proofs.Ytinejcoajebdjaa
open Go.RowKit

/-- Behind w: what was there is as it was, and there are blocks up to B. -/
def Past (w : World) (B : Nat) (w' : World) : Prop := Below w.heap.size w w' ∧ B ≤ w'.heap.size
theorem Past.step {w W w' : World} {B : Nat} (h : Past w B W) (hb : Below W.heap.size W w') : Past w B w' :=
  ⟨h.1.trans (hb.mono (by have := h.1.size; omega)), by have := hb.size; have := h.2; omega⟩
theorem Past.cell {w W w' : World} {B b o : Nat} {u : Value} (h : Past w B W) (hb : Below W.heap.size W w') (hlt : b < B) (hc : W.cell? ⟨b, o, none⟩ = some u) : w'.cell? ⟨b, o, none⟩ = some u :=
  (hb.cell (p := ⟨b, o, none⟩) (by have := h.2; show b < _; omega)).trans hc
theorem Past.drew {w w' : World} {B : Nat} (h : Past w B w') : Past w B w'.drew := ⟨h.1.drew, h.2⟩
/-- A wide number lies in block b. -/
def Holds (w : World) (b : Nat) (n : Int) : Prop := w.cell? ⟨b, 0, none⟩ = some (.int .i64 (hi n)) ∧ w.cell? ⟨b, 1, none⟩ = some (.int .u64 (lo n))
theorem Past.holds {w W w' : World} {B b : Nat} {n : Int} (h : Past w B W) (hb : Below W.heap.size W w') (hlt : b < B) (hc : Holds W b n) : Holds w' b n :=
  ⟨h.cell hb hlt hc.1, h.cell hb hlt hc.2⟩

theorem keep2 {w W w' : World} {b c B : Nat} {x y : Int} (hb1 : b < B) (hc1 : c < B)
    (hs : W.cell? ⟨b, 0, none⟩ = some (.int .i64 (hi x)) ∧ W.cell? ⟨b, 1, none⟩ = some (.int .u64 (lo x)) ∧ W.cell? ⟨c, 0, none⟩ = some (.int .i64 (hi y)) ∧ W.cell? ⟨c, 1, none⟩ = some (.int .u64 (lo y)) ∧ Past w B W)
    (hb : Below W.heap.size W w') :
    w'.cell? ⟨b, 0, none⟩ = some (.int .i64 (hi x)) ∧ w'.cell? ⟨b, 1, none⟩ = some (.int .u64 (lo x)) ∧ w'.cell? ⟨c, 0, none⟩ = some (.int .i64 (hi y)) ∧ w'.cell? ⟨c, 1, none⟩ = some (.int .u64 (lo y)) ∧ Past w B w' :=
  have h := hs.2.2.2.2
  ⟨h.cell hb hb1 hs.1, h.cell hb hb1 hs.2.1, h.cell hb hc1 hs.2.2.1, h.cell hb hc1 hs.2.2.2.1, h.step hb⟩

theorem wr_back (a b : Int) (h : IsW a) : wr (wr (a + b) - b) = a := by obtain ⟨_, _⟩ := h; unfold wr; omega
theorem wr_neg2 (a : Int) (h : IsW a) : wr (-wr (-a)) = a := by obtain ⟨_, _⟩ := h; unfold wr; omega
theorem wr_self (a : Int) : wr (a - a) = 0 := by rw [Int.sub_self]; decide

theorem cm_neg (a b : Int) : cm a b = IntKind.i64.wrap (-cm b a) := by
  by_cases h : a < b
  · rw [cm_lt h, cm_gt h]; decide
  · by_cases h2 : b < a
    · rw [cm_lt h2, cm_gt h2]; decide
    · obtain rfl : a = b := by omega
      rw [cm_eq]; decide

theorem cm_negB (a b : Int) : (cm a b == IntKind.i64.wrap (-cm b a)) = true := by rw [← cm_neg]; simp

set_option maxHeartbeats 4000000 in
theorem back_walk (a : Int) (ha : IsW a) (b : Int) (hb : IsW b) (n : Int) (hn : I64 n) (w : World) :
    Calls Try.prog 4 #[Wd a, Wd b, .int .i64 n] w fun e w' => e = .returned (.bool true) ∧ Below w.heap.size w w' := by
  have HA := Lib.hid ha
  have HB := Lib.hid hb
  have HN := Lib.hid hn
  have e0 := hi0
  have e1 := lo0
  clear ha hb hn
  go_enter Try.func4, Try.ntmps4
  go_wp2_with fail
  refine (of_any n HN.out _).mono ?_
  rintro e w1 ⟨rfl, h1⟩
  go_wp2_with fail
  refine (back_yes n HN.out _).mono ?_
  rintro e w2 ⟨rfl, h2⟩
  have hp : Past w (w.heap.size + 2) w2 := by
    have q := chain2 h1 h2
    have r := q.size
    simp at r
    exact ⟨(own2 w _ _).1.trans (q.mono (by simp; omega)), by omega⟩
  have c1 : w2.cell? ⟨w.heap.size, 0, none⟩ = some (.int .i64 (hi a)) := ((chain2 h1 h2).cell (p := ⟨w.heap.size, 0, none⟩) (by simp; omega)).trans (by simp [go_sem, World.cell?_alloc_past])
  have c2 : w2.cell? ⟨w.heap.size, 1, none⟩ = some (.int .u64 (lo a)) := ((chain2 h1 h2).cell (p := ⟨w.heap.size, 1, none⟩) (by simp; omega)).trans (by simp [go_sem, World.cell?_alloc_past])
  have c3 : w2.cell? ⟨w.heap.size + 1, 0, none⟩ = some (.int .i64 (hi b)) := ((chain2 h1 h2).cell (p := ⟨w.heap.size + 1, 0, none⟩) (by simp)).trans (by simp [go_sem])
  have c4 : w2.cell? ⟨w.heap.size + 1, 1, none⟩ = some (.int .u64 (lo b)) := ((chain2 h1 h2).cell (p := ⟨w.heap.size + 1, 1, none⟩) (by simp)).trans (by simp [go_sem])
  clear h1 h2
  go_wp2_with fail
  have HP := Lib.hid hp
  clear hp
  go_region_held3 (fun w' => w'.cell? ⟨w.heap.size, 0, none⟩ = some (.int .i64 (hi a)) ∧ w'.cell? ⟨w.heap.size, 1, none⟩ = some (.int .u64 (lo a)) ∧ w'.cell? ⟨w.heap.size + 1, 0, none⟩ = some (.int .i64 (hi b)) ∧ w'.cell? ⟨w.heap.size + 1, 1, none⟩ = some (.int .u64 (lo b)) ∧ Past w (w.heap.size + 2) w')
    (first | exact ⟨c1, c2, c3, c4, HP.out.drew⟩ | exact keep2 (by omega) (by omega) ⟨c1, c2, c3, c4, HP.out.drew⟩ hb | exact keep2 (by omega) (by omega) (by assumption) hb)
    (first
      | (go_at_call 11; refine (known_any _).mono ?_; rintro e w' ⟨rfl, hb⟩)
      | (go_at_call 23; (with_reducible refine (plus_any a b (wr (a + b)) HA.out HB.out rfl _).mono ?_); rintro e w' ⟨rfl, hb⟩)
      | (go_at_call 23; (with_reducible refine (plus_any b a (wr (a + b)) HB.out HA.out (by rw [Int.add_comm]) _).mono ?_); rintro e w' ⟨rfl, hb⟩)
      | (go_at_call 22; (with_reducible refine (minus_any (wr (a + b)) b a (wr_IsW _) HB.out (wr_back a b HA.out) _).mono ?_); rintro e w' ⟨rfl, hb⟩)
      | (go_at_call 22; (with_reducible refine (minus0 a (wr (-a)) HA.out rfl _).mono ?_); rintro e w' ⟨rfl, hb⟩)
      | (go_at_call 22; (with_reducible refine (minus0 (wr (-a)) a (wr_IsW _) (wr_neg2 a HA.out) _).mono ?_); rintro e w' ⟨rfl, hb⟩)
      | (go_at_call 22; (with_reducible refine (minus_any a a 0 HA.out HA.out (wr_self a) _).mono ?_); rintro e w' ⟨rfl, hb⟩)
      | (go_at_call 24; (with_reducible refine (compare_any a a 0 (cm_eq a) _).mono ?_); rintro e w' ⟨rfl, hb⟩)
      | (go_at_call 24; (with_reducible refine (compare_any a b (cm a b) rfl _).mono ?_); rintro e w' ⟨rfl, hb⟩)
      | (go_at_call 24; (with_reducible refine (compare_any b a (cm b a) rfl _).mono ?_); rintro e w' ⟨rfl, hb⟩))
  all_goals
    rename_i hs
    have hz := hs.2.2.2.2
    have HZ := Lib.hid hz
    clear hs hz
    go_wp2_with fail
    go_ret
    refine ⟨?_, HZ.out.1⟩
    first | rfl | (simp [cm_negB]; done)
end Go.Proofs.Ytinejcoajebdjaa
