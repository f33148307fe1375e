/- Rows of cells that read as lists; contracts of the document's answers for layer 3: what is wrong with an arc. -/
import Derived.Test.YtajckihgfelbaaaRows
import Derived.Test.YtajckihgfelbaaaInstMathB
import Derived.WalkKit
import Derived.WalkSpells
import Derived.WalkLawsBesides
import Derived.StillTactics
import Derived.Laws.Pointers
import Derived.Deep.RegionHeld3
import Derived.Deep.AppendLies
import Derived.Deep.DeepCutAuto
import Derived.Deep.QuietTactic
import Derived.OwnWalk
import Derived.BigQuiet
import Derived.Lib.Hide
import Derived.RowKit3
import Derived.Outline
import Derived.WalkSmall
namespace Go.Proofs.Ytajckihgfelbaaa.Inst
open Go.RowKit

theorem bcell {W w1 : World} (hb : Below W.heap.size W w1) : (∀ b o, b < W.heap.size → w1.cell? ⟨b, o, none⟩ = W.cell? ⟨b, o, none⟩) ∧ (∀ b o, b < W.heap.size → w1.frozen? ⟨b, o, none⟩ = W.frozen? ⟨b, o, none⟩) :=
  ⟨fun b o h => hb.cell (p := ⟨b, o, none⟩) h, fun b o h => hb.frozen (p := ⟨b, o, none⟩) h⟩
theorem chain2 {w w1 w2 : World} (h1 : Below w.heap.size w w1) (h2 : Below w1.heap.size w1 w2) : Below w.heap.size w w2 := h1.trans (h2.mono h1.size)

/-- A slice's cells below block B: nil, or a row that reads so. -/
def Cells (w : World) (B : Nat) (a : Option Addr) (vs : List Value) : Prop :=
  0 < vs.length → ∃ b off, a = some ⟨b, off, none⟩ ∧ b < B ∧ ∀ i (h : i < vs.length), w.cell? ⟨b, off + i, none⟩ = some vs[i]
theorem Cells.later {w w' : World} {B : Nat} {a : Option Addr} {vs : List Value} (h : Cells w B a vs) (hB : B ≤ w.heap.size) (hb : Below w.heap.size w w') : Cells w' w'.heap.size a vs := by
  intro hn
  obtain ⟨b, off, e, hlt, hc⟩ := h hn
  have := hb.size
  exact ⟨b, off, e, by omega, fun i hi => (hb.cell (p := ⟨b, off + i, none⟩) (by show b < _; omega)).trans (hc i hi)⟩
theorem own_ge {w : World} {base n sz : Nat} {e : TypeId} {v : Value} {xs : List Value} (h : w.ownsRow base e sz v n xs) : ∀ g, v.ownBlock = some g → base ≤ g := by
  intro g hg
  rcases h.2 with ⟨rfl, _⟩ | ⟨g', cap, cur, rfl, hge, _⟩
  · simp [Value.ownBlock] at hg
  · simp [Value.ownBlock] at hg
    omega
theorem own_cells {w : World} {base n sz : Nat} {e : TypeId} {v : Value} {vs : List Value} (h : w.ownsRow base e sz v n vs) : vs.length = n * sz ∧ ∃ A cap, v = .slice A n cap ∧ n ≤ cap ∧ cap ≤ maxLen ∧ Cells w w.heap.size A vs := by
  obtain ⟨hl, hr⟩ := h
  refine ⟨hl, ?_⟩
  rcases hr with ⟨rfl, rfl⟩ | ⟨g, cap, cur, rfl, _, hg, hc, hm, hs, ht⟩
  · exact ⟨none, 0, rfl, Nat.le_refl _, by simp, fun h => absurd h (by omega)⟩
  · refine ⟨some ⟨g, 0, none⟩, cap, rfl, hc, hm, fun h => ⟨g, 0, rfl, ?_, fun i hi => ?_⟩⟩
    · rcases Nat.lt_or_ge g w.heap.size with hlt | hge
      · exact hlt
      · rw [Array.getElem?_eq_none hge] at hg; cases hg
    · rw [Nat.zero_add, cell_of_row w g i cur _ (0, 0) hg]
      have e : (cur.toList.take (n * sz))[i]? = vs[i]? := by rw [ht]
      rw [List.getElem?_take_of_lt (by omega)] at e
      simp at e
      rw [e]
      simp [List.getElem?_eq_getElem hi]

abbrev nv (x : Int) : Value := .int .i64 x
/-- The cells of numbers; of arcs. -/
def numV (l : List Int) : List Value := l.map nv
def arcV (l : List ArcD) : List Value := numV (flat l)
abbrev aggV (a : ArcD) : Value := .agg #[.int .i64 a.frm, .int .i64 a.to, .int .i64 a.low, .int .i64 a.cap, .int .i64 a.cost]
theorem numV_length (l : List Int) : (numV l).length = l.length := by simp [numV]
theorem arcV_length (l : List ArcD) : (arcV l).length = l.length * 5 := by simp [arcV, numV_length, flat_length]
theorem nums_at {w : World} {B : Nat} {a : Option Addr} {l : List Int} (h : Cells w B a (numV l)) (h0 : 0 < l.length) :
    ∃ b off, a = some ⟨b, off, none⟩ ∧ b < B ∧ ∀ k (hk : k < l.length), w.cell? ⟨b, off + k, none⟩ = some (.int .i64 l[k]) := by
  obtain ⟨b, off, e, hb, hc⟩ := h (by rw [numV_length]; exact h0)
  refine ⟨b, off, e, hb, fun k hk => ?_⟩
  rw [hc k (by rw [numV_length]; exact hk)]
  simp [numV]
/-- The five cells of an arc. -/
def ArcAt (w : World) (b o : Nat) (a : ArcD) : Prop :=
  w.cell? ⟨b, o, none⟩ = some (.int .i64 a.frm) ∧ w.cell? ⟨b, o + 1, none⟩ = some (.int .i64 a.to) ∧ w.cell? ⟨b, o + 2, none⟩ = some (.int .i64 a.low) ∧ w.cell? ⟨b, o + 3, none⟩ = some (.int .i64 a.cap) ∧ w.cell? ⟨b, o + 4, none⟩ = some (.int .i64 a.cost)
theorem arcs_at {w : World} {B : Nat} {a : Option Addr} {l : List ArcD} (h : Cells w B a (arcV l)) (h0 : 0 < l.length) :
    ∃ b off, a = some ⟨b, off, none⟩ ∧ b < B ∧ ∀ k (hk : k < l.length), ArcAt w b (off + k * 5) l[k] := by
  obtain ⟨b, off, e, hb, hc⟩ := h (by rw [arcV_length]; omega)
  refine ⟨b, off, e, hb, fun k hk => ?_⟩
  have q : ∀ j (hj : j < 5) v, l[k].nums[j]? = some v → w.cell? ⟨b, off + k * 5 + j, none⟩ = some (.int .i64 v) := by
    intro j hj v hv
    have hlt : k * 5 + j < (arcV l).length := by rw [arcV_length]; omega
    rw [show off + k * 5 + j = off + (k * 5 + j) by omega, hc _ hlt]
    have g := flat_get l k j hk hj
    rw [hv] at g
    have : (arcV l)[k * 5 + j]? = some (.int .i64 v) := by
      show ((flat l).map nv)[k * 5 + j]? = _
      rw [List.getElem?_map, g]
      rfl
    rw [List.getElem?_eq_getElem hlt] at this
    exact this
  exact ⟨q 0 (by omega) _ rfl, q 1 (by omega) _ rfl, q 2 (by omega) _ rfl, q 3 (by omega) _ rfl, q 4 (by omega) _ rfl⟩

theorem ret_int {k : IntKind} {a b : Int} (h : a = b) : Ending.returned (.int k a) = .returned (.int k b) := by rw [h]

end Go.Proofs.Ytajckihgfelbaaa.Inst
