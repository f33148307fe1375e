/- Opening arguments: lists of lists of numbers. -/
import Derived.Test.YtoccgpkpmhkeiaaUniK
import Derived.Test.YtoccgpkpmhkeiaaInstO
import Derived.Deep.Matrix
namespace Go.Proofs.Ytoccgpkpmhkeiaa.Uni
open Go.ChangeShapes Go.WideShapes Go.ChangeAt Go.RowKit Go.Joins Go.Deep Go.Proofs.Ytoccgpkpmhkeiaa.Inst

theorem open_zgrid {H : Type} {enc : TypeId × Value → H} {W : World} {s : Option Addr} {l c : Nat} {d : DataW H} {p : List MemPlace}
    (h : DataW.Trod enc Try.prog W 0 (fun _ => true) true 22 (.slice s l c) d p) (hw : ∀ n ∈ d.weights Try.prog 22, n ≤ reachBytes) :
    ∃ G : List (List Int), G.length = l ∧ l ≤ 140737488355328 ∧ (∀ i (h : i < G.length), ∀ x ∈ G[i], I64 x) ∧ ZGrid W W.heap.size (.slice s l c) G := by
  obtain ⟨fuel, hf⟩ := h
  rcases open_int_rows Try.underlying22 Try.underlying25 Try.underlying3 (by kernel_rfl) (by kernel_rfl) hf with ⟨hcs, _⟩ | ⟨a, l', c', A, L, C, Z, hcs, _, hl, hm, hx, hrow⟩
  · simp [Value.cells] at hcs
    obtain ⟨rfl, rfl, rfl⟩ := hcs
    exact ⟨[], rfl, by omega, fun i h => absurd h (by simp), none, 0, [], rfl, rfl, row_none _ _, fun i h _ => absurd h (by simp)⟩
  · simp [Value.cells] at hcs
    obtain ⟨rfl, rfl, rfl⟩ := hcs
    simp only [Prod.mk.injEq] at hx
    obtain ⟨rfl, _⟩ := hx
    have hb := sized_row Try.underlying22 (by rw [show Try.prog.bytesOf 25 = 24 by kernel_rfl]; omega) hw
    rw [List.length_map, List.length_range] at hb
    refine ⟨(List.range l).map fun r => (Z r).take (L r), by simp, hb, fun i h x hx => ?_, some a, c, (List.range l).map fun r => .slice (A r) (L r) (C r), by simp, by simp, ?_, fun i h1 h2 => ?_⟩
    · simp only [List.getElem_map, List.getElem_range] at hx
      have hi : i < l := by simpa using h
      exact I64_of_wf ((hrow i (by omega)).2.2.2.2.1 x (List.mem_of_mem_take hx))
    · refine row_of (n := l) (by simp) fun i hi h2 => ?_
      simp only [List.getElem_map, List.getElem_range]
      exact (hrow i (by omega)).1
    · have hi : i < l := by simpa using h2
      obtain ⟨_, r1, _, r3, r4, r5, r6⟩ := hrow i (by omega)
      simp only [List.getElem_map, List.getElem_range]
      refine ⟨A i, C i, by rw [List.length_take, r3, Nat.min_eq_left r1], ?_⟩
      cases ha : A i with
      | none =>
        have := r5 ha
        intro h0
        rw [numV_length, List.length_take] at h0
        omega
      | some a' =>
        refine row_of (n := L i) (by rw [numV_length, List.length_take]; omega) fun j hj h0 => ?_
        have q := (r6 a' ha).2 j (by omega)
        rw [q]
        rw [numV_length, List.length_take] at h0
        simp only [numV, List.getElem_map, List.getElem_take]
        rw [List.getD_eq_getElem?_getD, List.getElem?_eq_getElem (by omega)]
        rfl
end Go.Proofs.Ytoccgpkpmhkeiaa.Uni
