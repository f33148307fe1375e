/- The laws' own helpers: arcs by choices. -/
import Derived.Test.YtoccgpkpmhkeiaaInstE
import Derived.RegionTactic
import Derived.BigRegion
namespace Go.Proofs.Ytoccgpkpmhkeiaa.Inst
open Go.RowKit

/-- The cells of choices. -/
def octV (c : List Nat) : List Value := c.map fun (x : Nat) => Value.int .u8 (x : Int)
theorem octV_length (c : List Nat) : (octV c).length = c.length := by simp [octV]
def Octs (c : List Nat) : Prop := ∀ x ∈ c, x < 256
theorem octs_at {w : World} {B : Nat} {a : Option Addr} {c : List Nat} (h : Cells w B a (octV c)) (h0 : 0 < c.length) :
    ∃ b off, a = some ⟨b, off, none⟩ ∧ b < B ∧ ∀ k (_hk : k < c.length), w.cell? ⟨b, off + k, none⟩ = some (.int .u8 (at0 c k : Int)) := by
  obtain ⟨b, off, e, hb, hc⟩ := h (by rw [octV_length]; exact h0)
  refine ⟨b, off, e, hb, fun k hk => ?_⟩
  rw [hc k (by rw [octV_length]; exact hk)]
  unfold octV at0
  rw [List.getElem_map, List.getD_eq_getElem?_getD, List.getElem?_eq_getElem hk]
  rfl
theorem at0_lt {c : List Nat} (h : Octs c) (k : Nat) : at0 c k < 256 := by
  unfold at0
  rw [List.getD_eq_getElem?_getD]
  by_cases hk : k < c.length
  · rw [List.getElem?_eq_getElem hk]
    exact h _ (List.getElem_mem hk)
  · rw [List.getElem?_eq_none (by omega)]
    simp

theorem arcV_snoc (l : List ArcD) (a : ArcD) : arcV (l ++ [a]) = arcV l ++ arcV [a] := by
  unfold arcV numV
  rw [flat_snoc, List.map_append]
  congr 1
theorem arc_vals (many x0 x1 x2 x3 : Nat) : arcV [arcOf many x0 x1 x2 x3] = [nv ((x0 : Int) % (many : Int)), nv ((x0 : Int) / 16 % (many : Int)), nv (if x3 % 8 = 1 then 0 else (x1 : Int) % 3), nv (if x3 % 8 = 0 then 4611686018427387904 else (x1 : Int) % 3 + (x1 : Int) / 3 % 6), nv (if x3 % 8 = 2 then 0 else (x2 : Int) % 21 - 8)] := by
  unfold arcV numV flat
  simp only [List.map_cons, List.map_nil, List.flatten_cons, List.flatten_nil, List.append_nil, ArcD.nums, arcOf, Int.natCast_emod, Int.natCast_ediv]
  rfl
theorem cell_five_new (w : World) (v0 v1 v2 v3 v4 : Value) (t : TypeId) : ∀ j u, [v0, v1, v2, v3, v4][j]? = some u → (w.alloc (.cells #[v0, v1, v2, v3, v4] t)).cell? ((⟨w.heap.size, 0, none⟩ : Addr).add j) = some u := by
  intro j u hj
  match j, hj with
  | 0, hj => simp at hj; subst hj; simp [Addr.add]
  | 1, hj => simp at hj; subst hj; simp [Addr.add]
  | 2, hj => simp at hj; subst hj; simp [Addr.add]
  | 3, hj => simp at hj; subst hj; simp [Addr.add]
  | 4, hj => simp at hj; subst hj; simp [Addr.add]
  | j + 5, hj => simp at hj

theorem cell_five_at {w : World} {n : Nat} (h : w.heap.size = n) (v0 v1 v2 v3 v4 : Value) (t : TypeId) : ∀ j u, [v0, v1, v2, v3, v4][j]? = some u → (w.alloc (.cells #[v0, v1, v2, v3, v4] t)).drew.drew.cell? ((⟨n, 0, none⟩ : Addr).add j) = some u := by
  subst h
  exact cell_five_new w v0 v1 v2 v3 v4 t

end Go.Proofs.Ytoccgpkpmhkeiaa.Inst
