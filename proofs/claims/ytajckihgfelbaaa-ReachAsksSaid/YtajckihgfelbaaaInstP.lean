/- The laws' own helpers: arcs by choices. -/
import Derived.Test.YtajckihgfelbaaaInstE
import Derived.RegionTactic
import Derived.BigRegion
namespace Go.Proofs.Ytajckihgfelbaaa.Inst
open Go.RowKit
set_option maxRecDepth 100000

/-- The cells of choices. -/
def octV (c : List Nat) : List Value := c.map fun (x : Nat) => Value.int .u8 (x : Int)
theorem octV_length (c : List Nat) : (octV c).length = c.length := by simp [octV]
def Octs (c : List Nat) : Prop := ∀ x ∈ c, x < 256
theorem octs_at {w : World} {B : Nat} {a : Option Addr} {c : List Nat} (h : Cells w B a (octV c)) (h0 : 0 < c.length) :
    ∃ b off, a = some ⟨b, off, none⟩ ∧ b < B ∧ ∀ k (_hk : k < c.length), w.cell? ⟨b, off + k, none⟩ = some (.int .u8 (at0 c k : Int)) := by
  obtain ⟨b, off, e, hb, hc⟩ := h (by rw [octV_length]; exact h0)
  refine ⟨b, off, e, hb, fun k hk => ?_⟩
  rw [hc k (by rw [octV_length]; exact hk)]
  unfold octV at0
  rw [List.getElem_map, List.getD_eq_getElem?_getD, List.getElem?_eq_getElem hk]
  rfl
theorem at0_lt {c : List Nat} (h : Octs c) (k : Nat) : at0 c k < 256 := by
  unfold at0
  rw [List.getD_eq_getElem?_getD]
  by_cases hk : k < c.length
  · rw [List.getElem?_eq_getElem hk]
    exact h _ (List.getElem_mem hk)
  · rw [List.getElem?_eq_none (by omega)]
    simp

theorem arcV_snoc (l : List ArcD) (a : ArcD) : arcV (l ++ [a]) = arcV l ++ arcV [a] := by
  unfold arcV numV
  rw [flat_snoc, List.map_append]
  congr 1
theorem arc_vals (many x0 x1 x2 x3 : Nat) : arcV [arcOf many x0 x1 x2 x3] = [nv ((x0 : Int) % (many : Int)), nv ((x0 : Int) / 16 % (many : Int)), nv (if x3 % 8 = 1 then 0 else (x1 : Int) % 3), nv (if x3 % 8 = 0 then 4611686018427387904 else (x1 : Int) % 3 + (x1 : Int) / 3 % 6), nv (if x3 % 8 = 2 then 0 else (x2 : Int) % 21 - 8)] := by
  unfold arcV numV flat
  simp only [List.map_cons, List.map_nil, List.flatten_cons, List.flatten_nil, List.append_nil, ArcD.nums, arcOf, Int.natCast_emod, Int.natCast_ediv]
  rfl
theorem cell_five_new (w : World) (v0 v1 v2 v3 v4 : Value) (t : TypeId) : ∀ j u, [v0, v1, v2, v3, v4][j]? = some u → (w.alloc (.cells #[v0, v1, v2, v3, v4] t)).cell? ((⟨w.heap.size, 0, none⟩ : Addr).add j) = some u := by
  intro j u hj
  match j, hj with
  | 0, hj => simp at hj; subst hj; simp [Addr.add]
  | 1, hj => simp at hj; subst hj; simp [Addr.add]
  | 2, hj => simp at hj; subst hj; simp [Addr.add]
  | 3, hj => simp at hj; subst hj; simp [Addr.add]
  | 4, hj => simp at hj; subst hj; simp [Addr.add]
  | j + 5, hj => simp at hj

theorem cell_five_at {w : World} {n : Nat} (h : w.heap.size = n) (v0 v1 v2 v3 v4 : Value) (t : TypeId) : ∀ j u, [v0, v1, v2, v3, v4][j]? = some u → (w.alloc (.cells #[v0, v1, v2, v3, v4] t)).drew.drew.cell? ((⟨n, 0, none⟩ : Addr).add j) = some u := by
  subst h
  exact cell_five_new w v0 v1 v2 v3 v4 t

theorem info_arc : (Try.prog.info? 36).map (fun i => (i.zero, i.size, i.bytes)) = some (some (.agg #[.int .i64 0, .int .i64 0, .int .i64 0, .int .i64 0, .int .i64 0]), 5, 40) := by kernel_rfl

/-- At the head of the loop. -/
def ArcsRel (w : World) (c : List Nat) (many : Nat) (s5 s6 : Value) (u : World) : Prop :=
  ∃ j : Nat, j ≤ min (c.length / 4) 18 ∧ s6 = .int .i64 ((4 * j : Nat) : Int) ∧ u.ownsRow w.heap.size 36 5 s5 j (arcV (arcsN many c j)) ∧ Below w.heap.size w u

set_option maxRecDepth 100000 in
set_option maxHeartbeats 4000000 in
theorem arcs_any (a : Option Addr) (cc : Nat) (c : List Nat) (hc : Octs c) (hl : c.length ≤ 9223372036854775800) (many : Nat) (h1 : 1 ≤ many) (h7 : many ≤ 7) (w : World) (ha : Cells w w.heap.size a (octV c)) :
    Calls Try.prog 24 #[.slice a c.length cc, .int .i64 (many : Int)] w fun e w' => ∃ v, e = .returned v ∧ w'.ownsRow w.heap.size 36 5 v (arcsC many c).length (arcV (arcsC many c)) ∧ Below w.heap.size w w' := by
  obtain ⟨i0, hi0, hz0, hz1, hz2⟩ := info_parts info_arc
  have G0 := Lib.hid hi0
  have G1 := Lib.hid hz0
  have G2 := Lib.hid hz1
  have G3 := Lib.hid hz2
  have HA := Lib.hid ha
  have HC := Lib.hid hc
  clear hi0 hz0 hz1 hz2 ha hc
  go_enter Try.func24, Try.ntmps24
  go_wp2_with fail
  go_loopw [5, 6] (fun v q u => ArcsRel w c many v q u) (fun _ q _ => c.length - (intOf q).toNat)
  case atStart => exact ⟨0, by omega, rfl, ⟨rfl, .inl ⟨rfl, rfl⟩⟩, Below.refl _ _⟩
  case round =>
    obtain ⟨j, hj, rfl, hown, hB⟩ := hrel
    have HO := Lib.hid hown
    have HB := Lib.hid hB
    have bs := hB.size
    clear hown hB
    by_cases hlt : j < min (c.length / 4) 18
    · obtain ⟨b, off, ea, lb, ca⟩ := octs_at (HA.out.later (Nat.le_refl _) HB.out) (by omega)
      have g0 := ca (4 * j) (by omega)
      have g1 := ca (4 * j + 1) (by omega)
      have g2 := ca (4 * j + 2) (by omega)
      have g3 := ca (4 * j + 3) (by omega)
      have l0 := at0_lt HC.out (4 * j)
      have l1 := at0_lt HC.out (4 * j + 1)
      have l2 := at0_lt HC.out (4 * j + 2)
      have l3 := at0_lt HC.out (4 * j + 3)
      have AR := Lib.hid (show arcC many c j = arcOf many (at0 c (4 * j)) (at0 c (4 * j + 1)) (at0 c (4 * j + 2)) (at0 c (4 * j + 3)) from rfl)
      obtain ⟨k, hk⟩ : ∃ k, k = 4 * j := ⟨_, rfl⟩
      have k0 : (0 : Int) ≤ (k : Int) := by omega
      have k3 : (k : Int) + 3 < (c.length : Int) := by omega
      have k72 : (k : Int) < 72 := by omega
      rw [← hk] at g0 g1 g2 g3 l0 l1 l2 l3 AR ⊢
      generalize at0 c k = x0 at g0 l0 AR
      generalize at0 c (k + 1) = x1 at g1 l1 AR
      generalize at0 c (k + 2) = x2 at g2 l2 AR
      generalize at0 c (k + 3) = x3 at g3 l3 AR
      have HK := Lib.hid hk
      clear hk
      subst ea
      clear ca
      go_wp2_with fail
      go_region
      go_wp2_with fail
      go_region
      have AV := Lib.hid (arc_vals many x0 x1 x2 x3)
      have NX := Lib.hid (show arcV (arcsN many c (j + 1)) = arcV (arcsN many c j) ++ arcV [arcC many c j] by rw [arcsN_succ, arcV_snoc])
      have EK := Lib.hid (show ((4 * (j + 1) : Nat) : Int) = (k : Int) + 4 by have := HK.out; omega)
      have BJ : j ≤ 17 := by omega
      rcases (show x3 % 8 = 0 ∨ x3 % 8 = 1 ∨ x3 % 8 = 2 ∨ (x3 % 8 ≠ 0 ∧ x3 % 8 ≠ 1 ∧ x3 % 8 ≠ 2) by omega) with r | r | r | ⟨r0, r1, r2⟩
      · have t0 : ((x3 : Int) % 8 == 0) = true := by rw [beq_iff_eq]; omega
        have RR := Lib.hid r
        clear r
        go_wp2_with (
          at_builtin
          refine wpList_append_own _ rfl _ _ 23 rfl w.heap.size 36 i0 _ 5 40 Try.underlying23 G0.out G1.out G2.out G3.out rfl (by decide) _ _ _ rfl ((((HO.out.alloc _).alloc _).drew).drew) ⟨wr.heap.size + 1, 0, none⟩ 1 1 [nv ((x0 : Int) % (many : Int)), nv ((x0 : Int) / 16 % (many : Int)), nv ((x1 : Int) % 3), nv (4611686018427387904), nv ((x2 : Int) % 21 - 8)] rfl rfl ?c1 ?c2 ?c3 ?c4 ?c5 ?_
          case c1 => exact cell_five_at (by simp) _ _ _ _ _ _
          case c2 => simp [Value.oneCell', nv]
          case c3 => simp only [maxLen]; omega
          case c4 => omega
          case c5 => simp; omega
          intro v1 u1 hown1 hgrow1 _)
        refine ⟨⟨j + 1, by omega, by rw [EK.out], ?_, ((((HB.out.alloc bs _).alloc (by simp; omega) _).drew).drew).grown hgrow1 (by simp; omega) (own_ge HO.out)⟩, by simp [intOf]; omega⟩
        have hv : arcV (arcsN many c (j + 1)) = arcV (arcsN many c j) ++ [nv ((x0 : Int) % (many : Int)), nv ((x0 : Int) / 16 % (many : Int)), nv ((x1 : Int) % 3), nv (4611686018427387904), nv ((x2 : Int) % 21 - 8)] := by rw [NX.out, AR.out, AV.out]; simp [RR.out]
        rw [hv]
        exact hown1
      · have t0 : ((x3 : Int) % 8 == 0) = false := by rw [beq_eq_false_iff_ne]; omega
        have t1 : ((x3 : Int) % 8 == 1) = true := by rw [beq_iff_eq]; omega
        have RR := Lib.hid r
        clear r
        go_wp2_with (
          at_builtin
          refine wpList_append_own _ rfl _ _ 23 rfl w.heap.size 36 i0 _ 5 40 Try.underlying23 G0.out G1.out G2.out G3.out rfl (by decide) _ _ _ rfl ((((HO.out.alloc _).alloc _).drew).drew) ⟨wr.heap.size + 1, 0, none⟩ 1 1 [nv ((x0 : Int) % (many : Int)), nv ((x0 : Int) / 16 % (many : Int)), nv (0), nv ((x1 : Int) % 3 + (x1 : Int) / 3 % 6), nv ((x2 : Int) % 21 - 8)] rfl rfl ?c1 ?c2 ?c3 ?c4 ?c5 ?_
          case c1 => exact cell_five_at (by simp) _ _ _ _ _ _
          case c2 => simp [Value.oneCell', nv]
          case c3 => simp only [maxLen]; omega
          case c4 => omega
          case c5 => simp; omega
          intro v1 u1 hown1 hgrow1 _)
        refine ⟨⟨j + 1, by omega, by rw [EK.out], ?_, ((((HB.out.alloc bs _).alloc (by simp; omega) _).drew).drew).grown hgrow1 (by simp; omega) (own_ge HO.out)⟩, by simp [intOf]; omega⟩
        have hv : arcV (arcsN many c (j + 1)) = arcV (arcsN many c j) ++ [nv ((x0 : Int) % (many : Int)), nv ((x0 : Int) / 16 % (many : Int)), nv (0), nv ((x1 : Int) % 3 + (x1 : Int) / 3 % 6), nv ((x2 : Int) % 21 - 8)] := by rw [NX.out, AR.out, AV.out]; simp [RR.out]
        rw [hv]
        exact hown1
      · have t0 : ((x3 : Int) % 8 == 0) = false := by rw [beq_eq_false_iff_ne]; omega
        have t1 : ((x3 : Int) % 8 == 1) = false := by rw [beq_eq_false_iff_ne]; omega
        have t2 : ((x3 : Int) % 8 == 2) = true := by rw [beq_iff_eq]; omega
        have RR := Lib.hid r
        clear r
        go_wp2_with (
          at_builtin
          refine wpList_append_own _ rfl _ _ 23 rfl w.heap.size 36 i0 _ 5 40 Try.underlying23 G0.out G1.out G2.out G3.out rfl (by decide) _ _ _ rfl ((((HO.out.alloc _).alloc _).drew).drew) ⟨wr.heap.size + 1, 0, none⟩ 1 1 [nv ((x0 : Int) % (many : Int)), nv ((x0 : Int) / 16 % (many : Int)), nv ((x1 : Int) % 3), nv ((x1 : Int) % 3 + (x1 : Int) / 3 % 6), nv (0)] rfl rfl ?c1 ?c2 ?c3 ?c4 ?c5 ?_
          case c1 => exact cell_five_at (by simp) _ _ _ _ _ _
          case c2 => simp [Value.oneCell', nv]
          case c3 => simp only [maxLen]; omega
          case c4 => omega
          case c5 => simp; omega
          intro v1 u1 hown1 hgrow1 _)
        refine ⟨⟨j + 1, by omega, by rw [EK.out], ?_, ((((HB.out.alloc bs _).alloc (by simp; omega) _).drew).drew).grown hgrow1 (by simp; omega) (own_ge HO.out)⟩, by simp [intOf]; omega⟩
        have hv : arcV (arcsN many c (j + 1)) = arcV (arcsN many c j) ++ [nv ((x0 : Int) % (many : Int)), nv ((x0 : Int) / 16 % (many : Int)), nv ((x1 : Int) % 3), nv ((x1 : Int) % 3 + (x1 : Int) / 3 % 6), nv (0)] := by rw [NX.out, AR.out, AV.out]; simp [RR.out]
        rw [hv]
        exact hown1
      · have t0 : ((x3 : Int) % 8 == 0) = false := by rw [beq_eq_false_iff_ne]; omega
        have t1 : ((x3 : Int) % 8 == 1) = false := by rw [beq_eq_false_iff_ne]; omega
        have t2 : ((x3 : Int) % 8 == 2) = false := by rw [beq_eq_false_iff_ne]; omega
        have R0 := Lib.hid r0
        have R1 := Lib.hid r1
        have R2 := Lib.hid r2
        clear r0 r1 r2
        go_wp2_with (
          at_builtin
          refine wpList_append_own _ rfl _ _ 23 rfl w.heap.size 36 i0 _ 5 40 Try.underlying23 G0.out G1.out G2.out G3.out rfl (by decide) _ _ _ rfl ((((HO.out.alloc _).alloc _).drew).drew) ⟨wr.heap.size + 1, 0, none⟩ 1 1 [nv ((x0 : Int) % (many : Int)), nv ((x0 : Int) / 16 % (many : Int)), nv ((x1 : Int) % 3), nv ((x1 : Int) % 3 + (x1 : Int) / 3 % 6), nv ((x2 : Int) % 21 - 8)] rfl rfl ?c1 ?c2 ?c3 ?c4 ?c5 ?_
          case c1 => exact cell_five_at (by simp) _ _ _ _ _ _
          case c2 => simp [Value.oneCell', nv]
          case c3 => simp only [maxLen]; omega
          case c4 => omega
          case c5 => simp; omega
          intro v1 u1 hown1 hgrow1 _)
        refine ⟨⟨j + 1, by omega, by rw [EK.out], ?_, ((((HB.out.alloc bs _).alloc (by simp; omega) _).drew).drew).grown hgrow1 (by simp; omega) (own_ge HO.out)⟩, by simp [intOf]; omega⟩
        have hv : arcV (arcsN many c (j + 1)) = arcV (arcsN many c j) ++ [nv ((x0 : Int) % (many : Int)), nv ((x0 : Int) / 16 % (many : Int)), nv ((x1 : Int) % 3), nv ((x1 : Int) % 3 + (x1 : Int) / 3 % 6), nv ((x2 : Int) % 21 - 8)] := by rw [NX.out, AR.out, AV.out]; simp [R0.out, R1.out, R2.out]
        rw [hv]
        exact hown1
    · obtain rfl : j = min (c.length / 4) 18 := by omega
      have fin : ∀ (e : Ending) (v : Value), e = .returned v → wr.ownsRow w.heap.size 36 5 v (min (c.length / 4) 18) (arcV (arcsN many c (min (c.length / 4) 18))) → ∃ v, e = .returned v ∧ wr.ownsRow w.heap.size 36 5 v (arcsC many c).length (arcV (arcsC many c)) ∧ Below w.heap.size w wr :=
        fun e v he ho => ⟨v, he, by rw [arcsC_length]; exact ho, HB.out⟩
      obtain ⟨k, hk⟩ : ∃ k, k = 4 * min (c.length / 4) 18 := ⟨_, rfl⟩
      rw [← hk]
      by_cases q : k + 3 < c.length
      · have q1 : (k : Int) + 3 < (c.length : Int) := by omega
        have q2 : ¬ ((k : Int) < 72) := by omega
        have q0 : (0 : Int) ≤ (k : Int) := by omega
        have q3 : (k : Int) ≤ 72 := by omega
        have HK := Lib.hid hk
        clear hk
        go_wp2_with fail
        go_ret
        exact fin _ _ rfl HO.out
      · have q1 : ¬ ((k : Int) + 3 < (c.length : Int)) := by omega
        have q0 : (0 : Int) ≤ (k : Int) := by omega
        have q3 : (k : Int) ≤ 72 := by omega
        have HK := Lib.hid hk
        clear hk
        go_wp2_with fail
        go_ret
        exact fin _ _ rfl HO.out
end Go.Proofs.Ytajckihgfelbaaa.Inst
