/- The walk of UniteDoes. -/
import Derived.Test.YtoccgpkpmhkeiaaUniM
import Derived.Test.YtoccgpkpmhkeiaaInstO
namespace Go.Proofs.Ytoccgpkpmhkeiaa.Uni
open Go.RowKit Go.Proofs.Ytoccgpkpmhkeiaa.Inst

theorem pairsZ_length (c : List Nat) : (pairsZ c).length ≤ 30 := by
  unfold pairsZ
  rw [pairsN_length]
  omega
theorem pairsZ_row (c : List Nat) : ∀ i (h : i < (pairsZ c).length), ∃ j, (pairsZ c)[i] = pairZ c j := by
  intro i h
  have hm : (pairsZ c)[i] ∈ (List.range (min (c.length / 2) 30)).map (pairZ c) := List.getElem_mem h
  obtain ⟨j, _, e⟩ := List.mem_map.1 hm
  exact ⟨j, e.symm⟩
theorem pairZ_bd (c : List Nat) (j : Nat) : ∀ x ∈ pairZ c j, -1 ≤ x ∧ x ≤ 18 := by
  intro x hx
  unfold pairZ at hx
  simp only [List.mem_cons, List.not_mem_nil, or_false] at hx
  rcases hx with rfl | rfl <;> omega
theorem does_pairs {Un : World → Nat → Nat → Nat → List Nat → Prop} (C : UniC Un) (N : Int) (h0 : -1000 ≤ N) (h1 : N ≤ 1000) (c : List Nat) (v : Value) (base : Nat) (w : World) (h : ZOwn w base v (pairsZ c)) :
    Calls Try.prog 9 #[.int .i64 N, v] w fun e w' => e = .returned (.bool true) ∧ Below w.heap.size w w' :=
  does_any C N (by unfold I64; omega) h1 v (pairsZ c) (Nat.le_trans (pairsZ_length c) (by omega)) (fun i hi => by
    obtain ⟨j, e⟩ := pairsZ_row c i hi
    rw [e]
    show 2 ≤ 100000
    omega) (fun i hi x hx => by
    obtain ⟨j, e⟩ := pairsZ_row c i hi
    rw [e] at hx
    have := pairZ_bd c j x hx
    unfold I64
    omega) w h.grid

set_option maxRecDepth 100000 in
set_option maxHeartbeats 8000000 in
theorem doeslaw_walk {Un : World → Nat → Nat → Nat → List Nat → Prop} (C : UniC Un) {W : World} (n : Int) (hn : I64 n) (VA : Option Addr) (m vc : Nat) (G : List (List Int)) (hG : G.length = m) (hm : m ≤ 140737488355328) (hG3 : ∀ i (h : i < G.length), ∀ x ∈ G[i], I64 x) (hl : ZGrid W W.heap.size (.slice VA m vc) G)
    (s : Option Addr) (l cc : Nat) (c : List Nat) (hc : c.length = l) (h9 : l ≤ 140737488355328) (hx : Octs c) (hs : Cells W W.heap.size s (octV c)) (k : Int) (hk : U8 k) :
    Calls Try.prog 3 #[.int .i64 n, .slice VA m vc, .slice s l cc, .int .u8 k] W fun e W' => e = .returned (.bool true) ∧ Below W.heap.size W W' := by
  subst hc
  have KN := Lib.hid (fun w => known_any C w)
  have HZ := Lib.hid hl
  have HG := Lib.hid hG
  have H3 := Lib.hid hG3
  have PR := Lib.hid (fun w' (h : Below W.heap.size W w') => pairs_any s cc c hx (by omega) w' (hs.later (Nat.le_refl _) h))
  have D2 := Lib.hid (fun v base w' h => does_pairs C (k % 20) (by unfold U8 at hk; omega) (by omega) c v base w' h)
  have D1 := Lib.hid (fun (h2 : n ≤ 200) (hm : m ≤ 30) (h20 : ∀ i (h : i < G.length), G[i].length ≤ 20) w' (h : Below W.heap.size W w') => does_any C n hn (by omega) (.slice VA m vc) G (by omega) (fun i hi => Nat.le_trans (h20 i hi) (by omega)) hG3 w' (by
    have q := hl.below h
    obtain ⟨A, cap, VS, e, hl, hc, hr⟩ := q
    refine ⟨A, cap, VS, e, hl, fun h0 => ?_, fun i h1 h2 => ?_⟩
    · obtain ⟨b, off, e, hb, hc⟩ := hc h0
      exact ⟨b, off, e, Nat.lt_of_lt_of_le hb h.size, hc⟩
    · obtain ⟨R, c, e, hc⟩ := hr i h1 h2
      refine ⟨R, c, e, fun h0 => ?_⟩
      obtain ⟨b, off, e, hb, hc⟩ := hc h0
      exact ⟨b, off, e, Nat.lt_of_lt_of_le hb h.size, hc⟩))
  have hk2 := hk
  unfold U8 at hk2
  have e1 : IntKind.i64.wrap (k % 20) = k % 20 := wrap_id (by omega) (by omega)
  have e2 : k.tmod 20 = k % 20 := Int.tmod_eq_emod_of_nonneg (by omega)
  clear hl hG hG3 hs hx hn C
  by_cases c1 : m ≤ 30
  · have c2 : ¬ (30 < (m : Int)) := by omega
    go_enter Try.func3, Try.ntmps3
    go_upto_region 4 with (go_at_call 8; (with_reducible refine (KN.out _).mono ?_); rintro e w1 ⟨rfl, hb⟩; have HB := Lib.hid hb; clear hb)
    go_loopw [9] (fun s9 u => ∃ j : Nat, s9 = .int .i64 (j : Int) ∧ j ≤ m ∧ u = w1 ∧ ∀ i (h : i < G.length), i < j → G[i].length ≤ 20) (fun s9 _ => m - (intOf s9).toNat)
    case atStart => exact ⟨0, rfl, by omega, rfl, fun i _ h => absurd h (by omega)⟩
    case round =>
      obtain ⟨j, rfl, hj, rfl, h20⟩ := hrel
      have H20 := Lib.hid h20
      clear h20
      by_cases hlt : j < m
      · have hj2 : j < G.length := by have := HG.out; omega
        obtain ⟨lb, lo, R, rc, ea, hlb, y0, -⟩ := zgrid_at (HZ.out.below HB.out) j hj2
        obtain ⟨r, hr⟩ : ∃ r, (G[j]).length = r := ⟨_, rfl⟩
        have HR := Lib.hid hr
        rw [hr] at y0
        have y2 : lb < wr.heap.size := by have := HB.out.size; omega
        have EA := Lib.hid ea
        subst ea
        clear hr
        have i0 : (0 : Int) ≤ (j : Int) := by omega
        have i1 : (j : Int) < (m : Int) := by omega
        by_cases c3 : r ≤ 20
        · have c4 : ¬ (20 < (r : Int)) := by omega
          go_wp2_with fail
          refine ⟨⟨j + 1, by simp, by omega, (by first | rfl | trivial), fun i h1 h2 => ?_⟩, by simp [intOf]; omega⟩
          by_cases q : i < j
          · exact H20.out i h1 q
          · have : i = j := by omega
            subst this
            rw [HR.out]
            exact c3
        · have c4 : 20 < (r : Int) := by omega
          go_wp2_with (go_at_call 8; (with_reducible refine (KN.out _).mono ?_); rintro e w2 ⟨rfl, hb⟩; have HB2 := Lib.hid (chain2 HB.out hb); clear hb)
          go_ret
          exact ⟨rfl, HB2.out⟩
      · have jm := Lib.hid (show j = m by omega)
        have F20 := Lib.hid (show ∀ i (h : i < G.length), G[i].length ≤ 20 from fun i h => H20.out i h (by have := HG.out; have := jm.out; omega))
        by_cases c5 : n ≤ 200
        · have c6 : ¬ (200 < n) := by omega
          have D3 := Lib.hid (D1.out c5 c1 F20.out wr HB.out)
          go_wp2_with (first
            | (go_at_call 10; (with_reducible refine (PR.out _ HB2.out).mono ?_); rintro e w3 ⟨v, rfl, hz, hb⟩; have ZO := Lib.hid hz; have HB3 := Lib.hid (chain2 HB2.out hb); clear hz hb)
            | (go_at_call 9; (with_reducible refine D3.out.mono ?_); rintro e w2 ⟨rfl, hb⟩; have HB2 := Lib.hid (chain2 HB.out hb); clear hb)
            | (go_at_call 9; (with_reducible refine (D2.out _ _ _ ZO.out).mono ?_); rintro e w4 ⟨rfl, hb⟩; have HB4 := Lib.hid (chain2 HB3.out hb); clear hb))
          go_ret
          exact ⟨rfl, HB4.out⟩
        · have c6 : 200 < n := by omega
          go_wp2_with (first
            | (go_at_call 10; (with_reducible refine (PR.out _ HB.out).mono ?_); rintro e w3 ⟨v, rfl, hz, hb⟩; have ZO := Lib.hid hz; have HB3 := Lib.hid (chain2 HB.out hb); clear hz hb)
            | (go_at_call 9; (with_reducible refine (D2.out _ _ _ ZO.out).mono ?_); rintro e w4 ⟨rfl, hb⟩; have HB4 := Lib.hid (chain2 HB3.out hb); clear hb))
          go_ret
          exact ⟨rfl, HB4.out⟩
  · have c2 : 30 < (m : Int) := by omega
    go_enter Try.func3, Try.ntmps3
    go_wp2_with (go_at_call 8; (with_reducible refine (KN.out _).mono ?_); rintro e w1 ⟨rfl, hb⟩; have HB := Lib.hid hb; clear hb)
    go_ret
    exact ⟨rfl, HB.out⟩
end Go.Proofs.Ytoccgpkpmhkeiaa.Uni
