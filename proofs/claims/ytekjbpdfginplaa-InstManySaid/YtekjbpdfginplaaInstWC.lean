/- The law InstMany: its walk. -/
import Derived.Test.YtekjbpdfginplaaInstWB
namespace Go.Proofs.Ytekjbpdfginplaa.Inst
open Go.RowKit

/-- So many arcs. -/
def manyA (N k : Nat) (j : Nat) : List ArcD := (List.range j).map fun a => ⟨(a % N : Nat), (k % N : Nat), 0, 1, 0⟩
theorem manyA_succ (N k j : Nat) : manyA N k (j + 1) = manyA N k j ++ [⟨(j % N : Nat), (k % N : Nat), 0, 1, 0⟩] := by simp [manyA, List.range_succ]
theorem manyA_length (N k j : Nat) : (manyA N k j).length = j := by simp [manyA]
theorem many_right (N k : Nat) (hN : 0 < N) : ∀ j, arcsW N (manyA N k j) = 0
  | 0 => rfl
  | j + 1 => by
    rw [manyA_succ, arcsW_snoc _ _ _ (many_right N k hN j)]
    have h1 := Nat.mod_lt j hN
    have h2 := Nat.mod_lt k hN
    unfold arcW
    rw [if_neg (by simp only; omega), if_neg (by simp only; omega)]
    rfl
theorem many_lows (N k j : Nat) : lows (manyA N k j) = 0 := by
  unfold lows manyA
  rw [List.countP_eq_zero]
  intro a ha
  rw [List.mem_map] at ha
  obtain ⟨x, _, rfl⟩ := ha
  simp
theorem zeros_all (N : Nat) : (List.replicate N (0 : Int)).all inB = true := by
  rw [List.all_eq_true]
  intro x hx
  rw [(List.mem_replicate.1 hx).2]
  rfl
theorem zeros_sum : ∀ N, sumI (List.replicate N 0) = 0
  | 0 => rfl
  | N + 1 => by
    rw [List.replicate_succ', sumI_snoc, zeros_sum N]
    rfl
def manyI (N k M : Nat) : InstD := ⟨List.replicate N 0, manyA N k M⟩
theorem manyI_right (N k M : Nat) (hN : 0 < N) : rightD (manyI N k M) = if 64 < N ∨ 256 < M then 20 else 0 := by
  unfold rightD manyI
  simp only [List.length_replicate, manyA_length, many_right N k hN, zeros_all, zeros_sum]
  simp
theorem manyI_span (N k M : Nat) : spanD (manyI N k M) = (N : Int) + (M : Int) := by
  unfold spanD manyI
  simp only [List.length_replicate, manyA_length, many_lows]
  omega
/-- At the head of the loop. -/
def ManyRel (W : World) (N k M : Nat) (s10 : Value) (u : World) : Prop :=
  ∃ (j : Nat) (v : Value), j ≤ M ∧ s10 = .int .i64 (j : Int) ∧ u.ownsRow (W.heap.size + 1 + 1) 45 5 v j (arcV (manyA N k j)) ∧ Blk u (W.heap.size + 1) 25 #[.slice (some ⟨W.heap.size, 0, none⟩) N N, v] ∧ Blk u W.heap.size 2 (numV (List.replicate N 0)).toArray ∧ Below W.heap.size W u

set_option maxRecDepth 100000 in
set_option maxHeartbeats 4000000 in
theorem many_law (n m k : Nat) (hn : n < 65536) (hm : m < 65536) (hk : k < 256) (W : World) :
    Calls Try.prog 8 #[.int .u16 (n : Int), .int .u16 (m : Int), .int .u8 (k : Int)] W fun e W' => e = .returned (.bool true) ∧ Below W.heap.size W W' := by
  obtain ⟨N, hN⟩ : ∃ N, N = 60 + n % 8 := ⟨_, rfl⟩
  obtain ⟨M, hM⟩ : ∃ M, M = 252 + m % 8 := ⟨_, rfl⟩
  have tN : (60 : Int) + (n : Int) % 8 = (N : Int) := by omega
  have tM : (252 : Int) + (m : Int) % 8 = (M : Int) := by omega
  have N0 : 60 ≤ N := by omega
  have N1 : N ≤ 67 := by omega
  have M0 : 252 ≤ M := by omega
  have M1 : M ≤ 259 := by omega
  have HN := Lib.hid hN
  have HM := Lib.hid hM
  have hmk := make_any N (by omega)
  obtain ⟨Z, hZ⟩ : ∃ Z, Z = (numV (List.replicate N 0)).toArray := ⟨_, rfl⟩
  rw [← hZ] at hmk
  have HZ := Lib.hid hZ
  clear hN hM hZ
  go_enter Try.func8, Try.ntmps8
  go_wp2_with fail
  have tk : (k : Int) % (N : Int) = ((k % N : Nat) : Int) := by omega
  have kN : k % N < N := Nat.mod_lt _ (by omega)
  obtain ⟨K, hK⟩ : ∃ K, K = k % N := ⟨_, rfl⟩
  rw [← hK] at tk kN
  have HK := Lib.hid hK
  have tkm : (IntKind.i64.wrap (k : Int)).tmod (N : Int) = (K : Int) := by rw [wrap_id (by omega) (by omega), Int.tmod_eq_emod_of_nonneg (by omega)]; exact tk
  have n0 : ¬ N = 0 := by omega
  obtain ⟨i0, hi0, hz0, hz1, hz2⟩ := info_parts info_arc
  have G0 := Lib.hid hi0
  have G1 := Lib.hid hz0
  have G2 := Lib.hid hz1
  have G3 := Lib.hid hz2
  clear hK hmk hi0 hz0 hz1 hz2 tN tM
  go_loopw [10] (fun s u => ManyRel W N k M s u) (fun s _ => M - (intOf s).toNat)
  case atStart => exact ⟨0, .slice none 0 0, by omega, rfl, ⟨rfl, .inl ⟨rfl, rfl⟩⟩, (by repeat (first | exact Blk.new _ _ _ | (refine blk_at ?_ _ _; (simp; done)) | refine Blk.alloc ?_ _)), (by rw [← HZ.out]; repeat (first | exact Blk.new _ _ _ | refine Blk.alloc ?_ _)), (by repeat (first | exact Below.refl _ _ | refine Below.alloc ?_ (by simp <;> omega) _))⟩
  case round =>
    obtain ⟨j, v, hj, rfl, hown, hbox, hsup, hbel⟩ := hrel
    have KO := Lib.hid hown
    have KB := Lib.hid hbox
    have KS := Lib.hid hsup
    have KW := Lib.hid hbel
    have b0 : wr.cell? ⟨W.heap.size + 1, 0, none⟩ = some (.slice (some ⟨W.heap.size, 0, none⟩) N N) := hbox.cell 0
    have b1 : wr.cell? ⟨W.heap.size + 1, 1, none⟩ = some v := hbox.cell 1
    have bf := hbox.frozen 1
    have lt0 := hbox.lt
    clear hown hbox hsup hbel
    by_cases hlt : j < M
    · have tj : (j : Int) % (N : Int) = ((j % N : Nat) : Int) := by omega
      have jN : j % N < N := Nat.mod_lt _ (by omega)
      have E := Lib.hid (manyA_succ N k j)
      rw [← HK.out] at E
      obtain ⟨J, hJ⟩ : ∃ J, J = j % N := ⟨_, rfl⟩
      rw [← hJ] at tj jN E
      have tjm : (j : Int).tmod (N : Int) = (J : Int) := by rw [Int.tmod_eq_emod_of_nonneg (by omega)]; exact tj
      clear hJ
      go_wp2_with fail
      go_region_law (refine step_append_lies _ (by rfl) _ _ _ (by rfl) (W.heap.size + 1 + 1) 45 i0 _ 5 40 Try.underlying23 G0.out G1.out G2.out G3.out rfl (by omega) v j _ (by rfl) ((KO.out.alloc _).drew) ⟨wr.heap.size, 0, none⟩ 1 1 [nv (J : Int), nv (K : Int), nv 0, nv 1, nv 0] (by rfl) (by rfl) (cell_five_d (by simp) _ _ _ _ _ _) (by simp [Value.oneCell', nv]) (by omega) (by simp only [maxLen]; omega) (by omega) (by simp; omega) (wr.heap.size + 1) (by simp) ?_; intro gg cap x1 hown1 hgrow hat hgl; have OX : Blk x1 (W.heap.size + 1) 25 #[.slice (some ⟨W.heap.size, 0, none⟩) N N, v] := (hgrow.block _ (by simp; omega) (fun e => by have := own_ge KO.out _ e.symm; omega)).trans ((KB.out.alloc _).drew); have ox0 : x1.cell? ⟨W.heap.size + 1, 1, none⟩ = some v := OX.cell 1; have oxf := OX.frozen 1; have HOX := Lib.hid OX; have HO1 := Lib.hid hown1; have HG1 := Lib.hid hgrow; clear OX hown1 hgrow hat)
      all_goals
        go_wp2_with fail
        have f1 : ∀ g, v.ownBlock = some g → W.heap.size + 1 + 1 ≤ g := own_ge KO.out
        refine ⟨⟨j + 1, _, by omega, by simp, ?_, HOX.out.set_ 1 _, ?_, ?_⟩, by simp [intOf]; omega⟩
        · rw [E.out, arcV_snoc]
          exact own_far HO1.out (fun e => by have h : W.heap.size + 1 + 1 ≤ W.heap.size + 1 := own_ge HO1.out _ e; omega) _
        · have q : Blk x1 W.heap.size 2 (numV (List.replicate N 0)).toArray := (HG1.out.block _ (by simp; omega) (fun e => by have := f1 _ e.symm; omega)).trans ((KS.out.alloc _).drew)
          exact q.far (by show W.heap.size ≠ W.heap.size + 1; omega) _
        · exact (((KW.out.alloc KW.out.size _).drew).grown HG1.out (by simp; omega) (fun g h => by have := f1 g h; omega)).setCell (by simp <;> omega) _
    · obtain rfl : j = M := by omega
      obtain ⟨-, A, cap, rfl, -, -, -⟩ := own_cells KO.out
      have HX := Lib.hid (show Here wr (some ⟨W.heap.size, 0, none⟩) A N j (manyI N k j) from ⟨⟨by simp [manyI]; omega, by simp [manyI, manyA_length]; omega, cells_blk KS.out, own_row KO.out⟩, by simp [manyI], by simp [manyI, manyA_length]⟩)
      obtain ⟨r, hr⟩ : ∃ r, rightD (manyI N k j) = r := ⟨_, rfl⟩
      have R := Lib.hid (fun w' (h : Below wr.heap.size wr w') => (HX.out.later h).right N cap r hr)
      have S := Lib.hid (fun w' (h : Below wr.heap.size wr w') => (HX.out.later h).span N cap _ (manyI_span N k j))
      have KN := Lib.hid (known_any wr)
      rw [manyI_right N k j (by omega)] at hr
      have e2 : ((N : Int) + (j : Int) == (N : Int) + (j : Int)) = true := by simp
      have bx : ∀ w', Below wr.heap.size wr w' → w'.cell? ⟨W.heap.size + 1, 0, none⟩ = some (.slice (some ⟨W.heap.size, 0, none⟩) N N) ∧ w'.cell? ⟨W.heap.size + 1, 1, none⟩ = some (.slice A j cap) ∧ W.heap.size + 1 < w'.heap.size := fun w' h => ⟨(KB.out.below h KB.out.lt).cell 0, (KB.out.below h KB.out.lt).cell 1, (KB.out.below h KB.out.lt).lt⟩
      have BX := Lib.hid bx
      clear bx
      by_cases c1 : 64 < N
      · rw [if_pos (.inl c1)] at hr
        subst hr
        go_wp2_with (first
          | (go_at_call 11; (refine KN.out.mono ?_); rintro e wn ⟨rfl, hb⟩; have HB1 := Lib.hid hb; obtain ⟨q0, q1, q2⟩ := BX.out _ hb; clear hb)
          | (go_at_call 20; (with_reducible refine (R.out _ HB1.out).mono ?_); rintro e wm ⟨rfl, hb⟩; have HB2 := Lib.hid (chain2 HB1.out hb); obtain ⟨v0, v1, v2⟩ := BX.out _ HB2.out; clear hb)
          | (go_at_call 24; (with_reducible refine (S.out _ HB2.out).mono ?_); rintro e ws ⟨rfl, hb⟩; have HB3 := Lib.hid (chain2 HB2.out hb); clear hb))
        go_ret
        exact ⟨rfl, chain2 KW.out HB3.out⟩
      · by_cases c2 : 256 < j
        · rw [if_pos (.inr c2)] at hr
          subst hr
          go_wp2_with (first
            | (go_at_call 11; (refine KN.out.mono ?_); rintro e wn ⟨rfl, hb⟩; have HB1 := Lib.hid hb; obtain ⟨q0, q1, q2⟩ := BX.out _ hb; clear hb)
            | (go_at_call 20; (with_reducible refine (R.out _ HB1.out).mono ?_); rintro e wm ⟨rfl, hb⟩; have HB2 := Lib.hid (chain2 HB1.out hb); obtain ⟨v0, v1, v2⟩ := BX.out _ HB2.out; clear hb)
            | (go_at_call 24; (with_reducible refine (S.out _ HB2.out).mono ?_); rintro e ws ⟨rfl, hb⟩; have HB3 := Lib.hid (chain2 HB2.out hb); clear hb))
          go_ret
          exact ⟨rfl, chain2 KW.out HB3.out⟩
        · rw [if_neg (by omega)] at hr
          subst hr
          go_wp2_with (first
            | (go_at_call 11; (refine KN.out.mono ?_); rintro e wn ⟨rfl, hb⟩; have HB1 := Lib.hid hb; obtain ⟨q0, q1, q2⟩ := BX.out _ hb; clear hb)
            | (go_at_call 20; (with_reducible refine (R.out _ HB1.out).mono ?_); rintro e wm ⟨rfl, hb⟩; have HB2 := Lib.hid (chain2 HB1.out hb); obtain ⟨v0, v1, v2⟩ := BX.out _ HB2.out; clear hb)
            | (go_at_call 24; (with_reducible refine (S.out _ HB2.out).mono ?_); rintro e ws ⟨rfl, hb⟩; have HB3 := Lib.hid (chain2 HB2.out hb); clear hb))
          go_ret
          exact ⟨rfl, chain2 KW.out HB3.out⟩
/-- InstMany. -/
theorem many_walk {W : World} (a : Int) (ha : U16 a) (b : Int) (hb : U16 b) (c : Int) (hc : U8 c) :
    Calls Try.prog 8 #[.int .u16 a, .int .u16 b, .int .u8 c] W fun e W' => e = .returned (.bool true) ∧ Below W.heap.size W W' := by
  unfold U16 at ha hb
  unfold U8 at hc
  obtain ⟨n, rfl⟩ : ∃ n : Nat, a = n := ⟨a.toNat, by omega⟩
  obtain ⟨m, rfl⟩ : ∃ n : Nat, b = n := ⟨b.toNat, by omega⟩
  obtain ⟨k, rfl⟩ : ∃ n : Nat, c = n := ⟨c.toNat, by omega⟩
  exact many_law n m k (by omega) (by omega) (by omega) W
end Go.Proofs.Ytekjbpdfginplaa.Inst
