/- Contracts of the document's answers for layer 5: the same lists of lists. -/
import Derived.Test.YtoccgpkpmhkeiaaUniG
namespace Go.Proofs.Ytoccgpkpmhkeiaa.Uni
open Go.RowKit Go.Proofs.Ytoccgpkpmhkeiaa.Inst

set_option maxRecDepth 100000 in
set_option maxHeartbeats 8000000 in
/-- The same lists are the same. -/
theorem lists_any (G : List (List Nat)) (a b : Value) (p q : Nat) (h9 : G.length ≤ 100000) (h8 : ∀ i (h : i < G.length), G[i].length ≤ 100000) (w : World) (ha : Grid w p a G) (hb : Grid w q b G) :
    Calls Try.prog 13 #[a, b] w fun e w' => e = .returned (.bool true) ∧ Below w.heap.size w w' := by
  have HA := Lib.hid ha
  have HB := Lib.hid hb
  obtain ⟨A, c, rfl, -⟩ := ha.row
  obtain ⟨B, d, rfl, -⟩ := hb.row
  obtain ⟨n, hn⟩ : ∃ n, G.length = n := ⟨_, rfl⟩
  have HN := Lib.hid hn
  rw [hn] at h9
  have H8 := Lib.hid h8
  rw [hn]
  clear ha hb hn h8
  have t0 : ((n : Int) != (n : Int)) = false := by simp
  go_enter Try.func13, Try.ntmps13
  go_wp2_with fail
  go_loopw [5, 6] (fun s5 _ u => ∃ k : Nat, k ≤ n ∧ s5 = .int .i64 (k : Int) ∧ Below w.heap.size w u) (fun s5 _ _ => n - (intOf s5).toNat)
  case atStart => exact ⟨0, by omega, rfl, Below.refl _ _⟩
  case round =>
    obtain ⟨k, hk, rfl, hB⟩ := hrel
    have HW := Lib.hid hB
    have GA := Lib.hid (HA.out.later hB)
    have GB := Lib.hid (HB.out.later hB)
    clear hB
    by_cases hlt : k < n
    · have hk2 : k < G.length := by have := HN.out; omega
      obtain ⟨A', c', ea, ra⟩ := GA.out.row
      obtain ⟨B', d', eb, rb⟩ := GB.out.row
      cases ea
      cases eb
      obtain ⟨ba, oa, RA, ca, ea, -, la, xa, pa⟩ := ra k hk2
      obtain ⟨bb, ob, RB, cb, eb, -, lb, xb, pb⟩ := rb k hk2
      have PA := Lib.hid pa
      have PB := Lib.hid pb
      obtain ⟨m, hm⟩ : ∃ m, (G[k]).length = m := ⟨_, rfl⟩
      have m9 : m ≤ 100000 := by rw [← hm]; exact H8.out k hk2
      have HM := Lib.hid hm
      rw [hm] at xa xb
      subst ea eb
      clear ra rb pa pb hm
      have i0 : (0 : Int) ≤ (k : Int) := by omega
      have i1 : (k : Int) < (n : Int) := by omega
      have t1 : ((m : Int) != (m : Int)) = false := by simp
      obtain ⟨Wk, rfl⟩ : ∃ Wk, Wk = wr := ⟨_, rfl⟩
      go_wp2_with fail
      go_quiet (fail)
      go_wp2_with fail
      go_loopw [6] (fun s6 u => ∃ j t : Nat, j ≤ m ∧ s6 = .int .i64 (j : Int) ∧ u = Wk.drewN t) (fun s6 _ => m - (intOf s6).toNat)
      case atStart => exact ⟨0, _, by omega, rfl, rfl⟩
      case round =>
        obtain ⟨j, t, hj, rfl, rfl⟩ := hrel
        by_cases hlt2 : j < m
        · obtain ⟨ra, fa, ea, -, lra, ya⟩ := past_at PA.out (by have := HM.out; omega)
          obtain ⟨rb, fb, eb, -, lrb, yb⟩ := past_at PB.out (by have := HM.out; omega)
          have za := ya j (by have := HM.out; omega)
          have zb := yb j (by have := HM.out; omega)
          obtain ⟨x, hx⟩ : ∃ x : Nat, (G[k])[j]'(by have := HM.out; omega) = x := ⟨_, rfl⟩
          rw [hx] at za zb
          have EA := Lib.hid ea
          have EB := Lib.hid eb
          subst ea eb
          clear ya yb hx
          have j0 : (0 : Int) ≤ (j : Int) := by omega
          have j1 : (j : Int) < (m : Int) := by omega
          have t2 : ((x : Int) != (x : Int)) = false := by simp
          go_wp2_with fail
          go_quiet (fail)
          go_wp2_with fail
          exact ⟨⟨j + 1, _, by omega, by simp, rfl⟩, by simp [intOf]; omega⟩
        · have jm := Lib.hid (show j = m by omega)
          go_wp2_with fail
          exact ⟨⟨k + 1, by omega, by simp, below_drewN HW.out _⟩, by simp [intOf]; omega⟩
    · have kn := Lib.hid (show k = n by omega)
      go_wp2_with fail
      go_ret
      exact ⟨rfl, HW.out⟩
end Go.Proofs.Ytoccgpkpmhkeiaa.Uni
