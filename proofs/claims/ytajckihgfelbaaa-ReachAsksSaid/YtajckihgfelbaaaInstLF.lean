/- What the landed layer 3 does: an instance in new memory. -/
import Derived.Test.YtajckihgfelbaaaInstG
import Derived.Test.YtajckihgfelbaaaInstP
import Derived.Lib.SliceRun
import Derived.RegionTactic
import Derived.BigRegion
import Derived.Deep.DeepCutAuto
namespace Go.Proofs.Ytajckihgfelbaaa.Inst
open Go.RowKit

theorem info_i64c : (Try.prog.info? 2).map (fun i => (i.zero, i.size, i.bytes)) = some (some (.int .i64 0), 1, 8) := by kernel_rfl
theorem numV_one (l : List Int) : ∀ u ∈ numV l, u.oneCell' = true := by
  intro u hu
  unfold numV at hu
  rw [List.mem_map] at hu
  obtain ⟨x, _, rfl⟩ := hu
  rfl
theorem row_get {vs : List Value} {w : World} {b off : Nat} (h : ∀ i (h : i < vs.length), w.cell? ⟨b, off + i, none⟩ = some vs[i]) : ∀ j u, vs[j]? = some u → w.cell? ((⟨b, off, none⟩ : Addr).add j) = some u := by
  intro j u hj
  rcases Nat.lt_or_ge j vs.length with hl | hl
  · rw [List.getElem?_eq_getElem hl] at hj
    cases hj
    rw [Addr.add_lit]
    exact h j hl
  · rw [List.getElem?_eq_none hl] at hj
    cases hj
/-- What a clone is: the same cells in a row of its own. -/
theorem cells_get {w : World} {B : Nat} {p : Addr} {vs : List Value} (h : Cells w B (some p) vs) (o : Obj) : ∀ j u, vs[j]? = some u → (w.alloc o).cell? (p.add j) = some u := by
  intro j u hj
  rcases Nat.lt_or_ge j vs.length with hl | hl
  · obtain ⟨b, off, e, hb, hc⟩ := h (by omega)
    cases e
    exact Lib.cell?_alloc_some _ (row_get hc j u hj)
  · rw [List.getElem?_eq_none hl] at hj
    cases hj

set_option maxHeartbeats 1000000 in
theorem clonen_any (a : Option Addr) (c : Nat) (l : List Int) (n : Nat) (hn : l.length = n) (hl : n ≤ 1000) (w : World) (ha : Cells w w.heap.size a (numV l)) :
    Calls Try.prog 86 #[.slice a n c] w fun e w' => ∃ v, e = .returned v ∧ w'.ownsRow w.heap.size 2 1 v n (numV l) ∧ Below w.heap.size w w' := by
  have q22 : ∀ (w : World) (a : Option Addr) (n c n' c' : Nat), (binOp .eql 22 (.slice a n c) (.slice none n' c')).run Try.prog w = .ok (.bool a.isNone) w := fun w a n c n' c' => Lib.run_eql_slice_nil w _ _ a n c n' c' Try.underlying22
  obtain ⟨i0, hi0, hz0, hz1, hz2⟩ := info_parts info_i64c
  have G0 := Lib.hid hi0
  have G1 := Lib.hid hz0
  have G2 := Lib.hid hz1
  have G3 := Lib.hid hz2
  have HA := Lib.hid ha
  have HN := Lib.hid hn
  clear hi0 hz0 hz1 hz2 ha hn
  cases a with
  | none =>
    have L0 := Lib.hid (show (numV l) = [] ∧ n = 0 by
      have h : ¬ 0 < (numV l).length := fun h => by obtain ⟨b, off, e, _⟩ := HA.out h; cases e
      have h2 : (numV l).length = 0 := by omega
      exact ⟨List.length_eq_zero_iff.1 h2, by rw [numV_length] at h2; rw [← HN.out]; exact h2⟩)
    go_enter Try.func86, Try.ntmps86
    go_wp2_with fail
    go_ret
    exact ⟨_, rfl, ⟨by rw [L0.out.1, L0.out.2]; rfl, .inl ⟨rfl, L0.out.2⟩⟩, Below.refl _ _⟩
  | some p =>
    go_enter Try.func86, Try.ntmps86
    go_wp2_with (at_builtin; refine wpList_append_own _ rfl _ _ 22 rfl w.heap.size 2 i0 _ 1 8 Try.underlying22 G0.out G1.out G2.out G3.out rfl (by decide) _ _ _ rfl (World.ownsRow_made w #[] 0 (Nat.le_refl _) (Nat.zero_le _) rfl) p n c (numV l) rfl ?qc1 ?qc2 ?qc3 ?qc4 ?qc5 ?qc6 ?_)
    case qc1 => rw [numV_length, HN.out, Nat.mul_one]
    case qc2 => exact cells_get HA.out _
    case qc3 => exact numV_one l
    case qc4 => unfold maxLen; omega
    case qc5 => omega
    case qc6 => simp
    intro v' w1 hown hgrow hnil
    go_wp2_with fail
    go_ret
    refine ⟨v', rfl, by simpa using hown, ?_⟩
    exact ((Below.refl _ w).alloc (Nat.le_refl _) _).grown hgrow (by simp) (by intro k hk; simp [Value.ownBlock] at hk; omega)
set_option maxHeartbeats 1000000 in
theorem clonea_any (a : Option Addr) (c : Nat) (l : List ArcD) (n : Nat) (hn : l.length = n) (hl : n ≤ 1000) (w : World) (ha : Cells w w.heap.size a (arcV l)) :
    Calls Try.prog 66 #[.slice a n c] w fun e w' => ∃ v, e = .returned v ∧ w'.ownsRow w.heap.size 36 5 v n (arcV l) ∧ Below w.heap.size w w' := by
  have q22 : ∀ (w : World) (a : Option Addr) (n c n' c' : Nat), (binOp .eql 23 (.slice a n c) (.slice none n' c')).run Try.prog w = .ok (.bool a.isNone) w := fun w a n c n' c' => Lib.run_eql_slice_nil w _ _ a n c n' c' Try.underlying23
  obtain ⟨i0, hi0, hz0, hz1, hz2⟩ := info_parts info_arc
  have G0 := Lib.hid hi0
  have G1 := Lib.hid hz0
  have G2 := Lib.hid hz1
  have G3 := Lib.hid hz2
  have HA := Lib.hid ha
  have HN := Lib.hid hn
  clear hi0 hz0 hz1 hz2 ha hn
  cases a with
  | none =>
    have L0 := Lib.hid (show (arcV l) = [] ∧ n = 0 by
      have h : ¬ 0 < (arcV l).length := fun h => by obtain ⟨b, off, e, _⟩ := HA.out h; cases e
      have h2 : (arcV l).length = 0 := by omega
      exact ⟨List.length_eq_zero_iff.1 h2, by rw [arcV_length] at h2; have := HN.out; omega⟩)
    go_enter Try.func66, Try.ntmps66
    go_wp2_with fail
    go_ret
    exact ⟨_, rfl, ⟨by rw [L0.out.1, L0.out.2]; rfl, .inl ⟨rfl, L0.out.2⟩⟩, Below.refl _ _⟩
  | some p =>
    go_enter Try.func66, Try.ntmps66
    go_wp2_with (at_builtin; refine wpList_append_own _ rfl _ _ 23 rfl w.heap.size 36 i0 _ 5 40 Try.underlying23 G0.out G1.out G2.out G3.out rfl (by decide) _ _ _ rfl (World.ownsRow_made w #[] 0 (Nat.le_refl _) (Nat.zero_le _) rfl) p n c (arcV l) rfl ?qc1 ?qc2 ?qc3 ?qc4 ?qc5 ?qc6 ?_)
    case qc1 => rw [arcV_length, HN.out]
    case qc2 => exact cells_get HA.out _
    case qc3 => exact numV_one _
    case qc4 => unfold maxLen; omega
    case qc5 => omega
    case qc6 => simp
    intro v' w1 hown hgrow hnil
    go_wp2_with fail
    go_ret
    refine ⟨v', rfl, by simpa using hown, ?_⟩
    exact ((Below.refl _ w).alloc (Nat.le_refl _) _).grown hgrow (by simp) (by intro k hk; simp [Value.ownBlock] at hk; omega)
end Go.Proofs.Ytajckihgfelbaaa.Inst
