/- The laws' own helpers: marks, size. -/
import Derived.Test.YtekjbpdfginplaaInstQ
namespace Go.Proofs.Ytekjbpdfginplaa.Inst
open Go.RowKit

/-- How many marks. -/
def marksUpto (c : List Nat) (many : Nat) : Nat := min many c.length
theorem boolV_snoc (l : List Bool) (x : Bool) : boolV (l ++ [x]) = boolV l ++ [.bool x] := by simp [boolV]
theorem info_bool : (Try.prog.info? 4).map (fun i => (i.zero, i.size, i.bytes)) = some (some (.bool false), 1, 1) := by kernel_rfl

/-- At the head of the loop. -/
def MarksRel (w : World) (c : List Nat) (many : Nat) (s5 s6 : Value) (u : World) : Prop :=
  ∃ j : Nat, j ≤ marksUpto c many ∧ s6 = .int .i64 (j : Int) ∧ u.ownsRow w.heap.size 4 1 s5 j (boolV (marksN c j)) ∧ Below w.heap.size w u

set_option maxHeartbeats 4000000 in
theorem marks_any (a : Option Addr) (cc : Nat) (c : List Nat) (hc : Octs c) (hl : c.length ≤ 9223372036854775800) (many : Nat) (hm : many ≤ 17592186044416) (w : World) (ha : Cells w w.heap.size a (octV c)) :
    Calls Try.prog 14 #[.slice a c.length cc, .int .i64 (many : Int)] w fun e w' => ∃ v, e = .returned v ∧ w'.ownsRow w.heap.size 4 1 v (marksUpto c many) (boolV (marksN c (marksUpto c many))) ∧ Below w.heap.size w w' := by
  obtain ⟨i0, hi0, hz0, hz1, hz2⟩ := info_parts info_bool
  have G0 := Lib.hid hi0
  have G1 := Lib.hid hz0
  have G2 := Lib.hid hz1
  have G3 := Lib.hid hz2
  have HA := Lib.hid ha
  have HC := Lib.hid hc
  clear hi0 hz0 hz1 hz2 ha hc
  obtain ⟨n, hn⟩ : ∃ n, n = marksUpto c many := ⟨_, rfl⟩
  have n0 : n = min many c.length := hn
  have n1 : n ≤ many := by omega
  have n2 : n ≤ c.length := by omega
  have n3 : n < many → n = c.length := by omega
  have N3 := Lib.hid n3
  have HN := Lib.hid hn
  clear n0 n3 hn
  go_enter Try.func14, Try.ntmps14
  go_wp2_with fail
  go_loopw [5, 6] (fun v q u => MarksRel w c many v q u) (fun _ q _ => c.length - (intOf q).toNat)
  case atStart => exact ⟨0, by omega, rfl, ⟨rfl, .inl ⟨rfl, rfl⟩⟩, Below.refl _ _⟩
  case round =>
    obtain ⟨j, hj, rfl, hown, hB⟩ := hrel
    rw [← HN.out] at hj
    have HO := Lib.hid hown
    have HB := Lib.hid hB
    have bs := hB.size
    clear hown hB
    by_cases hlt : j < n
    · obtain ⟨b, off, ea, lb, ca⟩ := octs_at (HA.out.later (Nat.le_refl _) HB.out) (by omega)
      have g0 := ca j (by omega)
      have l0 := at0_lt HC.out j
      have E := Lib.hid (marksN_succ c j)
      generalize at0 c j = x0 at g0 l0 E
      have EA := Lib.hid ea
      rw [EA.out]
      clear ea ca
      have q1 : (j : Int) < (many : Int) := by omega
      have q2 : (j : Int) < (c.length : Int) := by omega
      have q3 : (j : Int) < 9223372036854775800 := by omega
      have X := Lib.hid (show ((x0 : Int) % 3 == 0) = decide (x0 % 3 = 0) by rw [Bool.eq_iff_iff, beq_iff_eq, decide_eq_true_iff]; omega)
      obtain ⟨y, hy⟩ : ∃ y, y = ((x0 : Int) % 3 == 0) := ⟨_, rfl⟩
      have HY := Lib.hid hy
      have hy2 : ((x0 : Int) % 3 == 0) = y := hy.symm
      clear hy
      go_wp2_with (
        at_builtin
        refine wpList_append_own _ rfl _ _ 26 rfl w.heap.size 4 i0 _ 1 1 Try.underlying26 G0.out G1.out G2.out G3.out rfl (by decide) _ _ _ rfl (HO.out.alloc _) ⟨World.heap _ |>.size, 0, none⟩ 1 1 [.bool y] rfl rfl ?c1 ?c2 ?c3 ?c4 ?c5 ?_
        case c1 => exact cell_one_new _ _ _
        case c2 => simp [Value.oneCell']
        case c3 => simp only [maxLen]; omega
        case c4 => omega
        case c5 => simp; omega
        intro v1 u1 hown1 hgrow1 _)
      exact ⟨⟨j + 1, by rw [← HN.out]; omega, by simp, by rw [E.out, boolV_snoc, ← X.out, ← HY.out]; exact hown1, (HB.out.alloc bs _).grown hgrow1 (by simp; omega) (own_ge HO.out)⟩, by simp [intOf]; omega⟩
    · obtain rfl : j = n := by omega
      have fin : ∀ (e : Ending) (v : Value), e = .returned v → wr.ownsRow w.heap.size 4 1 v j (boolV (marksN c j)) → ∃ v, e = .returned v ∧ wr.ownsRow w.heap.size 4 1 v (marksUpto c many) (boolV (marksN c (marksUpto c many))) ∧ Below w.heap.size w wr := by
        intro e v he ho
        rw [← HN.out]
        exact ⟨v, he, ho, HB.out⟩
      have FIN := Lib.hid fin
      clear fin
      by_cases q1 : (j : Int) < (many : Int)
      · have q2 : ¬ ((j : Int) < (c.length : Int)) := by have := N3.out; omega
        go_wp2_with fail
        go_ret
        exact FIN.out _ _ rfl HO.out
      · go_wp2_with fail
        go_ret
        exact FIN.out _ _ rfl HO.out

theorem size_any (A A2 : Option Addr) (c d : Nat) (I : InstD) (h1 : I.sup.length ≤ 17592186044416) (h2 : I.arcs.length ≤ 17592186044416) (w : World) :
    Calls Try.prog 10 #[instV A c A2 d I] w fun e w' => e = .returned (.int .i64 ((I.sup.length : Int) + 2 * (I.arcs.length : Int))) ∧ Below w.heap.size w w' := by
  go_enter Try.func10, Try.ntmps10
  go_wp2_with fail
  go_ret
  exact ⟨rfl, (Below.refl _ _).alloc (Nat.le_refl _) _⟩
end Go.Proofs.Ytekjbpdfginplaa.Inst
