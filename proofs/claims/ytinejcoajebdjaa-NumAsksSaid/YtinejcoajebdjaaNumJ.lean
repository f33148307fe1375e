/- The walk of NumOrder. -/
import Derived.Test.YtinejcoajebdjaaNumI
namespace Go.Proofs.Ytinejcoajebdjaa
open Go.RowKit

theorem keep3 {w W w' : World} {b c d B : Nat} {x y z : Int} (hb1 : b < B) (hc1 : c < B) (hd1 : d < B)
    (hs : W.cell? ⟨b, 0, none⟩ = some (.int .i64 (hi x)) ∧ W.cell? ⟨b, 1, none⟩ = some (.int .u64 (lo x)) ∧ W.cell? ⟨c, 0, none⟩ = some (.int .i64 (hi y)) ∧ W.cell? ⟨c, 1, none⟩ = some (.int .u64 (lo y)) ∧ W.cell? ⟨d, 0, none⟩ = some (.int .i64 (hi z)) ∧ W.cell? ⟨d, 1, none⟩ = some (.int .u64 (lo z)) ∧ Past w B W)
    (hb : Below W.heap.size W w') :
    w'.cell? ⟨b, 0, none⟩ = some (.int .i64 (hi x)) ∧ w'.cell? ⟨b, 1, none⟩ = some (.int .u64 (lo x)) ∧ w'.cell? ⟨c, 0, none⟩ = some (.int .i64 (hi y)) ∧ w'.cell? ⟨c, 1, none⟩ = some (.int .u64 (lo y)) ∧ w'.cell? ⟨d, 0, none⟩ = some (.int .i64 (hi z)) ∧ w'.cell? ⟨d, 1, none⟩ = some (.int .u64 (lo z)) ∧ Past w B w' :=
  have h := hs.2.2.2.2.2.2
  ⟨h.cell hb hb1 hs.1, h.cell hb hb1 hs.2.1, h.cell hb hc1 hs.2.2.1, h.cell hb hc1 hs.2.2.2.1, h.cell hb hd1 hs.2.2.2.2.1, h.cell hb hd1 hs.2.2.2.2.2.1, h.step hb⟩

theorem IsW_add {a b : Int} (ha : I64 a) (hz : -10141204801825835211973625643008 ≤ b ∧ b ≤ 10141204801825835211973625643008) : IsW (a + b) ∧ IsW (b - a) ∧ wr (a + b) = a + b ∧ wr (b - a) = b - a := by
  obtain ⟨_, _⟩ := ha; obtain ⟨_, _⟩ := hz; unfold IsW wr; omega

theorem cm_eq2 {a b : Int} (h : a = b) : cm a b = 0 := by subst h; exact cm_eq a

/-- The world ahead of the law's last statement: three numbers in blocks of their own. -/
theorem order_world {w w1 w2 w3 : World} {a b z : Int} (h1 : Below w.heap.size w w1)
    (h2 : Below (w1.alloc (Obj.cells #[.int .i64 (hi a), .int .u64 (lo a)] 24)).heap.size (w1.alloc (Obj.cells #[.int .i64 (hi a), .int .u64 (lo a)] 24)) w2)
    (h3 : Below (w2.alloc (Obj.cells #[.int .i64 (hi b), .int .u64 (lo b)] 24)).heap.size (w2.alloc (Obj.cells #[.int .i64 (hi b), .int .u64 (lo b)] 24)) w3) :
    (w1.heap.size < w3.heap.size + 1 ∧ w2.heap.size < w3.heap.size + 1) ∧
    (w3.alloc (Obj.cells #[.int .i64 (hi z), .int .u64 (lo z)] 24)).cell? ⟨w1.heap.size, 0, none⟩ = some (.int .i64 (hi a)) ∧
    (w3.alloc (Obj.cells #[.int .i64 (hi z), .int .u64 (lo z)] 24)).cell? ⟨w1.heap.size, 1, none⟩ = some (.int .u64 (lo a)) ∧
    (w3.alloc (Obj.cells #[.int .i64 (hi z), .int .u64 (lo z)] 24)).cell? ⟨w2.heap.size, 0, none⟩ = some (.int .i64 (hi b)) ∧
    (w3.alloc (Obj.cells #[.int .i64 (hi z), .int .u64 (lo z)] 24)).cell? ⟨w2.heap.size, 1, none⟩ = some (.int .u64 (lo b)) ∧
    (w3.alloc (Obj.cells #[.int .i64 (hi z), .int .u64 (lo z)] 24)).cell? ⟨w3.heap.size, 0, none⟩ = some (.int .i64 (hi z)) ∧
    (w3.alloc (Obj.cells #[.int .i64 (hi z), .int .u64 (lo z)] 24)).cell? ⟨w3.heap.size, 1, none⟩ = some (.int .u64 (lo z)) ∧
    Past w (w3.heap.size + 1) (w3.alloc (Obj.cells #[.int .i64 (hi z), .int .u64 (lo z)] 24)) := by
  have s1 := h1.size
  have s2 := h2.size
  have s3 := h3.size
  simp only [World.size_alloc] at s2 s3
  refine ⟨⟨by omega, by omega⟩, ?_, ?_, ?_, ?_, ?_, ?_, ?_, ?_⟩
  · exact (World.cell?_alloc_lt _ _ _ (show w1.heap.size < w3.heap.size by omega)).trans ((h3.cell (p := ⟨w1.heap.size, 0, none⟩) (by simp only [World.size_alloc]; omega)).trans ((World.cell?_alloc_lt _ _ _ (show w1.heap.size < w2.heap.size by omega)).trans ((h2.cell (p := ⟨w1.heap.size, 0, none⟩) (by simp only [World.size_alloc]; omega)).trans (by simp [go_sem]))))
  · exact (World.cell?_alloc_lt _ _ _ (show w1.heap.size < w3.heap.size by omega)).trans ((h3.cell (p := ⟨w1.heap.size, 1, none⟩) (by simp only [World.size_alloc]; omega)).trans ((World.cell?_alloc_lt _ _ _ (show w1.heap.size < w2.heap.size by omega)).trans ((h2.cell (p := ⟨w1.heap.size, 1, none⟩) (by simp only [World.size_alloc]; omega)).trans (by simp [go_sem]))))
  · exact (World.cell?_alloc_lt _ _ _ (show w2.heap.size < w3.heap.size by omega)).trans ((h3.cell (p := ⟨w2.heap.size, 0, none⟩) (by simp only [World.size_alloc]; omega)).trans (by simp [go_sem]))
  · exact (World.cell?_alloc_lt _ _ _ (show w2.heap.size < w3.heap.size by omega)).trans ((h3.cell (p := ⟨w2.heap.size, 1, none⟩) (by simp only [World.size_alloc]; omega)).trans (by simp [go_sem]))
  · simp [go_sem]
  · simp [go_sem]
  · have q1 := h1.trans (((Below.refl _ w1).alloc (Nat.le_refl _) _).trans (h2.mono (by simp)) |>.mono s1)
    have q2 := q1.trans (((Below.refl _ w2).alloc (Nat.le_refl _) _).trans (h3.mono (by simp)) |>.mono q1.size)
    exact q2.alloc q2.size _
  · simp

set_option maxHeartbeats 4000000 in
theorem order_walk (a : Int) (ha : I64 a) (b : Int) (hb : I64 b) (c : Int) (hc : I64 c) (w : World) :
    Calls Try.prog 8 #[.int .i64 a, .int .i64 b, .int .i64 c] w fun e w' => e = .returned (.bool true) ∧ Below w.heap.size w w' := by
  have HA := Lib.hid ha
  have HB := Lib.hid hb
  have HC := Lib.hid hc
  obtain ⟨z, hz⟩ : ∃ z, c * 1099511627776 = z := ⟨_, rfl⟩
  have bz : -10141204801825835211973625643008 ≤ z ∧ z ≤ 10141204801825835211973625643008 := by obtain ⟨_, _⟩ := hc; omega
  have HZ := Lib.hid hz
  have P1 := Lib.hid (IsW_add ha bz)
  have P2 := Lib.hid (IsW_add hb bz)
  have IZ := Lib.hid (show IsW z by obtain ⟨_, _⟩ := bz; unfold IsW; omega)
  clear ha hb hc hz bz
  go_enter Try.func8, Try.ntmps8
  go_wp2_with fail
  refine (of_any a HA.out _).mono ?_
  rintro e w1 ⟨rfl, h1⟩
  go_wp2_with fail
  refine (of_any b HB.out _).mono ?_
  rintro e w2 ⟨rfl, h2⟩
  go_wp2_with fail
  refine (times_any c 1099511627776 z HC.out (by unfold I64; omega) HZ.out _).mono ?_
  rintro e w3 ⟨rfl, h3⟩
  go_wp2_with fail
  all_goals
    have hw := order_world (z := z) h1 h2 h3
    have L1 := Lib.hid hw.1
    have HS := Lib.hid hw.2
    clear hw h1 h2 h3
    generalize w3.alloc (Obj.cells #[.int .i64 (hi z), .int .u64 (lo z)] 24) = W at *
    go_region_held3 (fun w' => w'.cell? ⟨w1.heap.size, 0, none⟩ = some (.int .i64 (hi a)) ∧ w'.cell? ⟨w1.heap.size, 1, none⟩ = some (.int .u64 (lo a)) ∧ w'.cell? ⟨w2.heap.size, 0, none⟩ = some (.int .i64 (hi b)) ∧ w'.cell? ⟨w2.heap.size, 1, none⟩ = some (.int .u64 (lo b)) ∧ w'.cell? ⟨w3.heap.size, 0, none⟩ = some (.int .i64 (hi z)) ∧ w'.cell? ⟨w3.heap.size, 1, none⟩ = some (.int .u64 (lo z)) ∧ Past w (w3.heap.size + 1) w')
      (first | exact ⟨HS.out.1, HS.out.2.1, HS.out.2.2.1, HS.out.2.2.2.1, HS.out.2.2.2.2.1, HS.out.2.2.2.2.2.1, HS.out.2.2.2.2.2.2.drew⟩ | exact keep3 L1.out.1 L1.out.2 (by omega) ⟨HS.out.1, HS.out.2.1, HS.out.2.2.1, HS.out.2.2.2.1, HS.out.2.2.2.2.1, HS.out.2.2.2.2.2.1, HS.out.2.2.2.2.2.2.drew⟩ hb | exact keep3 L1.out.1 L1.out.2 (by omega) (by assumption) hb)
      (first
        | (go_at_call 11; refine (known_any _).mono ?_; rintro e w' ⟨rfl, hb⟩)
        | (go_at_call 23; (with_reducible refine (plus_any a z (a + z) (IsW_of_I64 HA.out) IZ.out P1.out.2.2.1 _).mono ?_); rintro e w' ⟨rfl, hb⟩)
        | (go_at_call 23; (with_reducible refine (plus_any b z (b + z) (IsW_of_I64 HB.out) IZ.out P2.out.2.2.1 _).mono ?_); rintro e w' ⟨rfl, hb⟩)
        | (go_at_call 22; (with_reducible refine (minus_any z b (z - b) IZ.out (IsW_of_I64 HB.out) P2.out.2.2.2 _).mono ?_); rintro e w' ⟨rfl, hb⟩)
        | (go_at_call 22; (with_reducible refine (minus_any z a (z - a) IZ.out (IsW_of_I64 HA.out) P1.out.2.2.2 _).mono ?_); rintro e w' ⟨rfl, hb⟩)
        | (go_at_call 24; (with_reducible refine (compare_any a b _ (by first | exact cm_lt (by omega) | exact cm_gt (by omega) | exact cm_eq2 (by omega)) _).mono ?_); rintro e w' ⟨rfl, hb⟩)
        | (go_at_call 24; (with_reducible refine (compare_any (a + z) (b + z) _ (by first | exact cm_lt (by omega) | exact cm_gt (by omega) | exact cm_eq2 (by omega)) _).mono ?_); rintro e w' ⟨rfl, hb⟩)
        | (go_at_call 24; (with_reducible refine (compare_any (z - b) (z - a) _ (by first | exact cm_lt (by omega) | exact cm_gt (by omega) | exact cm_eq2 (by omega)) _).mono ?_); rintro e w' ⟨rfl, hb⟩))
    all_goals
      rename_i hs
      have H9 := Lib.hid hs.2.2.2.2.2.2
      clear hs
      go_wp2_with fail
      go_ret
      exact ⟨rfl, H9.out.1⟩
end Go.Proofs.Ytinejcoajebdjaa
