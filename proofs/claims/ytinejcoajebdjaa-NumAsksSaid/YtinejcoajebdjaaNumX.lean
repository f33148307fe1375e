/- What deeds make of a number: any; a []Deed that came in. -/
import Derived.Test.YtinejcoajebdjaaNumW
import Derived.Deep.Slices
import Derived.Deep.Fields
import Derived.StillTailTactics
namespace Go.Proofs.Ytinejcoajebdjaa
open Go.ChangeShapes Go.WideShapes Go.ChangeAt Go.RowKit Go.Deep

/-- A []Deed that came in: each of its elements is three numbers in cells below block B. -/
def DeedsAt (w : World) (B : Nat) (a : Option Addr) (len : Nat) : Prop :=
  0 < len → ∃ b off, a = some ⟨b, off, none⟩ ∧ b < B ∧ ∀ i, i < len → ∃ K A C : Int, (U8 K ∧ I64 A ∧ I64 C) ∧ w.cell? ⟨b, off + i * 3, none⟩ = some (.int .u8 K) ∧ w.cell? ⟨b, off + i * 3 + 1, none⟩ = some (.int .i64 A) ∧ w.cell? ⟨b, off + i * 3 + 2, none⟩ = some (.int .i64 C)

theorem cells_deed : Try.prog.cellsOf 52 = 3 := by kernel_rfl
/-- A struct of one-cell fields, opened: each field's cell, and its own reading. -/
theorem deed_field {H : Type} {enc : TypeId × Value → H} {w : World} {base : Nat} {spare : Nat → Bool} {held : Bool} {t : TypeId} {fs : Array Field} {n : Nat} {a : Addr} {cs' : List Value} {x : DataW H × List MemPlace}
    (he : Try.prog.underlying t = some (.struct fs)) (hone : oneCellFields Try.prog fs = true) (hC : Try.prog.cellsOf t = fs.size)
    (hc : w.cells? base a (Try.prog.cellsOf t) = some cs') (ht : DataW.trod enc Try.prog w base spare held n t cs' = some x) (j : Nat) (f : Field) (hj : fs[j]? = some f) :
    ∃ (v : Value) (y : DataW H × List MemPlace) (m : Nat), w.cell? (a.add j) = some v ∧ DataW.trod enc Try.prog w base spare held m f.type [v] = some y := by
  obtain ⟨ys, n', hn', hy, hlen, hyl, hf⟩ := DataW.trod_struct he ht
  obtain ⟨_, hcl, hat⟩ := World.cells?_some hc
  obtain ⟨ho, hk⟩ := hone_of hone j f hj
  have hjl : j < fs.size := (Array.getElem?_eq_some_iff.1 hj).1
  have hcell := hat j (by omega)
  have hv : cs'[j]? = some (cs'[j]'(by omega)) := List.getElem?_eq_getElem (by omega)
  have h1 := hf j f hj
  rw [ho, hk] at h1
  have hone' : (cs'.drop j).take 1 = [cs'[j]'(by omega)] := by
    rw [List.drop_eq_getElem_cons (by omega)]
    rfl
  rw [hone'] at h1
  have hys : ys[j]? = some (ys[j]'(by omega)) := List.getElem?_eq_getElem (by omega)
  exact ⟨_, _, _, hcell.trans hv, h1.trans hys⟩

theorem addr_add (b off i : Nat) : (⟨b, off, none⟩ : Addr).add i = ⟨b, off + i, none⟩ := by unfold Addr.add; split <;> simp_all

theorem open_deeds {H : Type} {enc : TypeId × Value → H} {W : World} {s : Option Addr} {l c : Nat} {d : DataW H} {p : List MemPlace}
    (h : DataW.Trod enc Try.prog W 0 (fun _ => true) true 26 (.slice s l c) d p) : l ≤ maxLen ∧ DeedsAt W W.heap.size s l := by
  obtain ⟨fuel, hf⟩ := h
  rcases open_slice Try.underlying26 hf with ⟨hcs, _⟩ | ⟨a, len, cap, m, n, D, Pl, hcs, hb, hl, hm, hmm, hx, hi⟩
  · simp [Value.cells] at hcs
    obtain ⟨rfl, rfl, rfl⟩ := hcs
    exact ⟨by simp, fun h => absurd h (by omega)⟩
  · simp [Value.cells] at hcs
    obtain ⟨rfl, rfl, rfl⟩ := hcs
    refine ⟨by omega, fun h0 => ?_⟩
    rw [if_pos rfl] at hmm
    obtain ⟨b, off, spot⟩ := a
    have get : ∀ i, i < l → ∃ K A C : Int, (U8 K ∧ I64 A ∧ I64 C) ∧ W.cell? (((⟨b, off, spot⟩ : Addr).add (i * 3)).add 0) = some (.int .u8 K) ∧ W.cell? (((⟨b, off, spot⟩ : Addr).add (i * 3)).add 1) = some (.int .i64 A) ∧ W.cell? (((⟨b, off, spot⟩ : Addr).add (i * 3)).add 2) = some (.int .i64 C) := by
      intro i hil
      obtain ⟨cs', hc, ht⟩ := hi i (by omega)
      obtain ⟨v0, y0, m0, q0, t0⟩ := deed_field Try.underlying52 (by kernel_rfl) cells_deed hc ht 0 _ rfl
      obtain ⟨v1, y1, m1, q1, t1⟩ := deed_field Try.underlying52 (by kernel_rfl) cells_deed hc ht 1 _ rfl
      obtain ⟨v2, y2, m2, q2, t2⟩ := deed_field Try.underlying52 (by kernel_rfl) cells_deed hc ht 2 _ rfl
      rw [cells_deed] at q0 q1 q2
      obtain ⟨K, e0, _, w0⟩ := DataW.trod_int Try.underlying5 t0
      obtain ⟨A, e1, _, w1⟩ := DataW.trod_int Try.underlying2 t1
      obtain ⟨C, e2, _, w2⟩ := DataW.trod_int Try.underlying2 t2
      simp at e0 e1 e2
      subst e0 e1 e2
      exact ⟨K, A, C, ⟨U8_of_wf w0, I64_of_wf w1, I64_of_wf w2⟩, q0, q1, q2⟩
    obtain ⟨K, A, C, _, g0, _⟩ := get 0 h0
    have hspot : spot = none := by
      have := World.cell?_spot g0
      simpa [Addr.add] using this
    subst hspot
    simp only [addr_add] at get g0
    have hb' := World.block_lt_of_cell? W _ g0
    exact ⟨b, off, rfl, hb', fun i hil => by simpa using get i hil⟩
end Go.Proofs.Ytinejcoajebdjaa
