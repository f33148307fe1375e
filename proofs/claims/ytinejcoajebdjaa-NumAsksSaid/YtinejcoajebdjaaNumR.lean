/- Contracts of the document's answers: differences, comparing, the way back, checked numbers. -/
import Derived.Test.YtinejcoajebdjaaNumQ
namespace Go.Proofs.Ytinejcoajebdjaa
open Go.RowKit

theorem cell_far2 {W : World} {g b o : Nat} {m : Int} {v : Value} (h : W.cell? ⟨b, o, none⟩ = some v) (hne : b ≠ g) : ((W.setCell ⟨g, 0, none⟩ (.int .i64 (hi m))).setCell ⟨g, 1, none⟩ (.int .u64 (lo m))).cell? ⟨b, o, none⟩ = some v := by
  rw [World.cell?_setCell_other _ _ _ _ (by intro e; injection e with e1; exact hne e1.symm), World.cell?_setCell_other _ _ _ _ (by intro e; injection e with e1; exact hne e1.symm)]
  exact h
theorem Past.set2 {w W : World} {B g : Nat} (h : Past w B W) (hg : w.heap.size ≤ g) (m : Int) : Past w B ((W.setCell ⟨g, 0, none⟩ (.int .i64 (hi m))).setCell ⟨g, 1, none⟩ (.int .u64 (lo m))) :=
  ⟨below_set2 h.1 hg m, by rw [size_set2]; exact h.2⟩
theorem keep2s {w W : World} {b c B g : Nat} {x y : Int} (hb1 : b ≠ g) (hc1 : c ≠ g) (hg : w.heap.size ≤ g) (m : Int)
    (hs : W.cell? ⟨b, 0, none⟩ = some (.int .i64 (hi x)) ∧ W.cell? ⟨b, 1, none⟩ = some (.int .u64 (lo x)) ∧ W.cell? ⟨c, 0, none⟩ = some (.int .i64 (hi y)) ∧ W.cell? ⟨c, 1, none⟩ = some (.int .u64 (lo y)) ∧ Past w B W) :
    ((W.setCell ⟨g, 0, none⟩ (.int .i64 (hi m))).setCell ⟨g, 1, none⟩ (.int .u64 (lo m))).cell? ⟨b, 0, none⟩ = some (.int .i64 (hi x)) ∧ ((W.setCell ⟨g, 0, none⟩ (.int .i64 (hi m))).setCell ⟨g, 1, none⟩ (.int .u64 (lo m))).cell? ⟨b, 1, none⟩ = some (.int .u64 (lo x)) ∧ ((W.setCell ⟨g, 0, none⟩ (.int .i64 (hi m))).setCell ⟨g, 1, none⟩ (.int .u64 (lo m))).cell? ⟨c, 0, none⟩ = some (.int .i64 (hi y)) ∧ ((W.setCell ⟨g, 0, none⟩ (.int .i64 (hi m))).setCell ⟨g, 1, none⟩ (.int .u64 (lo m))).cell? ⟨c, 1, none⟩ = some (.int .u64 (lo y)) ∧ Past w B ((W.setCell ⟨g, 0, none⟩ (.int .i64 (hi m))).setCell ⟨g, 1, none⟩ (.int .u64 (lo m))) :=
  ⟨cell_far2 hs.1 hb1, cell_far2 hs.2.1 hb1, cell_far2 hs.2.2.1 hc1, cell_far2 hs.2.2.2.1 hc1, hs.2.2.2.2.set2 hg m⟩

/-- Compare. -/
theorem rcompare_any (a b r : Int) (hr : cm a b = r) (w : World) :
    Calls Try.prog 39 #[Wd a, Wd b] w fun e w' => e = .returned (.int .i64 r) ∧ Below w.heap.size w w' := by
  have E := (cm_wide a b).trans hr
  by_cases h1 : hi a < hi b
  · have n1 : (hi a != hi b) = true := by simp; omega
    have hr' : -1 = r := by rw [← E, cm_lt h1]; rfl
    subst hr'
    clear E hr
    go_enter Try.func39, Try.ntmps39
    go_wp2_with fail
    go_ret
    exact ⟨rfl, ((Below.refl _ _).alloc (Nat.le_refl _) _).alloc (by simp) _⟩
  by_cases h2 : hi b < hi a
  · have n1 : (hi a != hi b) = true := by simp; omega
    have hr' : 1 = r := by rw [← E, cm_gt h2]; rfl
    subst hr'
    clear E hr
    go_enter Try.func39, Try.ntmps39
    go_wp2_with fail
    go_ret
    exact ⟨rfl, ((Below.refl _ _).alloc (Nat.le_refl _) _).alloc (by simp) _⟩
  have n1 : (hi a != hi b) = false := by simp; omega
  have q : cm (hi a) (hi b) = 0 := cm_eq2 (by omega)
  rw [q, show orI 0 (cm (lo a) (lo b)) = cm (lo a) (lo b) from if_pos rfl] at E
  clear q h1 h2
  by_cases h1 : lo a < lo b
  · have n2 : (lo a != lo b) = true := by simp; omega
    have hr' : -1 = r := by rw [← E, cm_lt h1]
    subst hr'
    clear E hr
    go_enter Try.func39, Try.ntmps39
    go_wp2_with fail
    go_ret
    exact ⟨rfl, ((Below.refl _ _).alloc (Nat.le_refl _) _).alloc (by simp) _⟩
  by_cases h2 : lo b < lo a
  · have n2 : (lo a != lo b) = true := by simp; omega
    have hr' : 1 = r := by rw [← E, cm_gt h2]
    subst hr'
    clear E hr
    go_enter Try.func39, Try.ntmps39
    go_wp2_with fail
    go_ret
    exact ⟨rfl, ((Below.refl _ _).alloc (Nat.le_refl _) _).alloc (by simp) _⟩
  · have n2 : (lo a != lo b) = false := by simp; omega
    have hr' : 0 = r := by rw [← E, cm_eq2 (by omega)]
    subst hr'
    clear E hr
    go_enter Try.func39, Try.ntmps39
    go_wp2_with fail
    go_ret
    exact ⟨rfl, ((Below.refl _ _).alloc (Nat.le_refl _) _).alloc (by simp) _⟩

set_option maxHeartbeats 1000000 in
/-- Minus. -/
theorem rminus_any (a b r : Int) (ha : IsW a) (hb : IsW b) (hr : wr (a - b) = r) (w : World) :
    Calls Try.prog 30 #[Wd a, Wd b] w fun e w' => e = .returned (Wd r) ∧ Below w.heap.size w w' := by
  have HA := Lib.hid ha
  have HB := Lib.hid hb
  have HR := Lib.hid (show wr (a + wr (-b)) = r by rw [← hr]; unfold wr; omega)
  clear hr ha hb
  have m0 : w.heap.size ≠ w.heap.size + 1 + 1 := by omega
  have m1 : w.heap.size + 1 ≠ w.heap.size + 1 + 1 := by omega
  have m2 : w.heap.size ≤ w.heap.size + 1 + 1 := by omega
  have hp : Past w (w.heap.size + 1 + 1 + 1) (((w.alloc (.cells #[.int .i64 (hi a), .int .u64 (lo a)] 24)).alloc (.cells #[.int .i64 (hi b), .int .u64 (lo b)] 24)).alloc (.cells #[.int .i64 0, .int .u64 0] 24)) := ⟨(own2 w _ _).1.alloc (by simp; omega) _, by simp⟩
  have yb : WBlk (((w.alloc (.cells #[.int .i64 (hi a), .int .u64 (lo a)] 24)).alloc (.cells #[.int .i64 (hi b), .int .u64 (lo b)] 24)).alloc (.cells #[.int .i64 0, .int .u64 0] 24)) (w.heap.size + 1 + 1) 0 := by simpa only [World.size_alloc, hi0, lo0] using WBlk.new ((w.alloc (.cells #[.int .i64 (hi a), .int .u64 (lo a)] 24)).alloc (.cells #[.int .i64 (hi b), .int .u64 (lo b)] 24)) 0
  have c0 : (((w.alloc (.cells #[.int .i64 (hi a), .int .u64 (lo a)] 24)).alloc (.cells #[.int .i64 (hi b), .int .u64 (lo b)] 24)).alloc (.cells #[.int .i64 0, .int .u64 0] 24)).cell? ⟨w.heap.size, 0, none⟩ = some (.int .i64 (hi a)) := by simp [go_sem, World.cell?_alloc_past]
  have c1 : (((w.alloc (.cells #[.int .i64 (hi a), .int .u64 (lo a)] 24)).alloc (.cells #[.int .i64 (hi b), .int .u64 (lo b)] 24)).alloc (.cells #[.int .i64 0, .int .u64 0] 24)).cell? ⟨w.heap.size, 1, none⟩ = some (.int .u64 (lo a)) := by simp [go_sem, World.cell?_alloc_past]
  have c2 : (((w.alloc (.cells #[.int .i64 (hi a), .int .u64 (lo a)] 24)).alloc (.cells #[.int .i64 (hi b), .int .u64 (lo b)] 24)).alloc (.cells #[.int .i64 0, .int .u64 0] 24)).cell? ⟨w.heap.size + 1, 0, none⟩ = some (.int .i64 (hi b)) := by simp [go_sem, World.cell?_alloc_past]
  have c3 : (((w.alloc (.cells #[.int .i64 (hi a), .int .u64 (lo a)] 24)).alloc (.cells #[.int .i64 (hi b), .int .u64 (lo b)] 24)).alloc (.cells #[.int .i64 0, .int .u64 0] 24)).cell? ⟨w.heap.size + 1, 1, none⟩ = some (.int .u64 (lo b)) := by simp [go_sem, World.cell?_alloc_past]
  have HP := Lib.hid hp
  have yg := Lib.hid yb
  clear hp yb
  go_enter Try.func30, Try.ntmps30
  go_wp2_with fail
  generalize (((w.alloc (.cells #[.int .i64 (hi a), .int .u64 (lo a)] 24)).alloc (.cells #[.int .i64 (hi b), .int .u64 (lo b)] 24)).alloc (.cells #[.int .i64 0, .int .u64 0] 24)) = X at *
  go_region_held3 (fun u => u.cell? ⟨w.heap.size, 0, none⟩ = some (.int .i64 (hi a)) ∧ u.cell? ⟨w.heap.size, 1, none⟩ = some (.int .u64 (lo a)) ∧ u.cell? ⟨w.heap.size + 1, 0, none⟩ = some (.int .i64 (hi b)) ∧ u.cell? ⟨w.heap.size + 1, 1, none⟩ = some (.int .u64 (lo b)) ∧ Past w (w.heap.size + 1 + 1 + 1) u)
    (first | exact ⟨c0, c1, c2, c3, HP.out.drew⟩ | exact keep2 (by omega) (by omega) ⟨c0, c1, c2, c3, HP.out.drew⟩ hb | (refine keep2 (by omega) (by omega) ?_ hb; assumption) | (refine keep2s m0 m1 m2 _ ?_; assumption))
    (first
      | (go_at_call 31; refine (rless_any b (wr (-b)) HB.out rfl _).mono ?_; rintro e w' ⟨rfl, hb⟩; have yg := Lib.hid (WBlk.below (w := World.drew _) yg.out hb (Blk.lt yg.out)))
      | (go_at_call 29; refine (rplus_any a (wr (-b)) r HA.out (wr_IsW _) HR.out _).mono ?_; rintro e w' ⟨rfl, hb⟩; have yg := Lib.hid (yg.out.below hb (Blk.lt yg.out)); have v0 := yg.out.c0; have v1 := yg.out.c1; have v2 := yg.out.z0; have v3 := yg.out.z1))
  all_goals
    rename_i hs
    have T := told_cell yg.out r
    have H9 := Lib.hid hs.2.2.2.2.1
    clear hs
    go_wp2_with fail
    refine bodyPost_ret (v := Wd r) (by simp [results, Try.results30, go_sem, T.1, T.2]) rfl ⟨rfl, H9.out⟩
end Go.Proofs.Ytinejcoajebdjaa
