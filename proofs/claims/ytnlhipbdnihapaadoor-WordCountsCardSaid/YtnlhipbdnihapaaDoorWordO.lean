/- Opening arguments: texts, []string; how great they are together. -/
import Derived.Test.YtnlhipbdnihapaaDoorWordB
import Derived.ProofKit
import Derived.OpenShut
import Derived.ShutString
import Derived.ChangeOld
import Derived.Lib.SmallJoins
import Derived.Deep.Strs
namespace Go.Proofs.YtnlhipbdnihapaaDoor.Word
open Go.ChangeShapes Go.WideShapes Go.ChangeAt Go.RowKit Go.Joins

/-- A number within its type. -/
def I64 (n : Int) : Prop := -9223372036854775808 ≤ n ∧ n ≤ 9223372036854775807
def U16 (n : Int) : Prop := 0 ≤ n ∧ n < 65536
def U8 (n : Int) : Prop := 0 ≤ n ∧ n < 256
theorem I64_of_wf {x : Int} (h : (Lit.int .i64 x).wf = true) : I64 x := by
  simp [Lit.wf, IntKind.min, IntKind.max, IntKind.signed, IntKind.bits] at h
  unfold I64; omega
theorem U16_of_wf {x : Int} (h : (Lit.int .u16 x).wf = true) : U16 x := by
  simp [Lit.wf, IntKind.min, IntKind.max, IntKind.signed, IntKind.bits] at h
  unfold U16; omega
theorem U8_of_wf {x : Int} (h : (Lit.int .u8 x).wf = true) : U8 x := by
  simp [Lit.wf, IntKind.min, IntKind.max, IntKind.signed, IntKind.bits] at h
  unfold U8; omega

set_option maxRecDepth 100000 in
theorem open_text {H : Type} {enc : TypeId × Value → H} {w : World} {base b0 : Nat} {spare : Nat → Bool} {held : Bool} {r : Reach} {v : Value} {d : DataW H} {p : List MemPlace}
    (hv : Value.okWide Tryd.prog w r b0 9 v) (h : DataW.Trod enc Tryd.prog w base spare held 9 v d p) : ∃ l : Bytes, v = str l ∧ l.length ≤ maxLen ∧ d = .lit (.string l) := by
  obtain ⟨s, rfl, rfl, rfl, hs⟩ := Go.ChangeMaps.open_string Tryd.underlying9 hv h
  exact ⟨s.data.toList, rfl, by rw [Array.length_toList]; exact hs, rfl⟩

/-- How much they are. -/
def total (xs : List Bytes) : Nat := (xs.map fun x => x.length + 1).sum
theorem cells_string : Tryd.prog.cellsOf 9 = 1 := by kernel_rfl
theorem bulk_strs {H : Type} (xs : List Bytes) : Rows.uptoBulkAll (xs.map fun x => (.lit (.string x) : DataW H)) = total xs := by
  induction xs with
  | nil => rfl
  | cons x r ih =>
    simp only [List.map_cons, Rows.uptoBulkAll, Rows.uptoBulk, ih, total, List.sum_cons]

theorem open_words {H : Type} {enc : TypeId × Value → H} {W : World} {s : Option Addr} {l c : Nat} {d : DataW H} {p : List MemPlace}
    (h : DataW.Trod enc Tryd.prog W 0 (fun _ => true) true 22 (.slice s l c) d p) : ∃ xs : List Bytes, xs.length = l ∧ l ≤ c ∧ Strs W W.heap.size s xs ∧ l ≤ maxLen ∧ total xs ≤ Rows.uptoBulk d := by
  obtain ⟨fuel, hf⟩ := h
  rcases Go.Deep.open_strs Tryd.underlying22 Tryd.underlying9 cells_string hf with ⟨hcs, hx⟩ | ⟨a, len, cap, m, Sx, hcs, _, hl, hm, hmm, hx, hc⟩
  · simp [Value.cells] at hcs
    obtain ⟨rfl, rfl, rfl⟩ := hcs
    exact ⟨[], rfl, by simp, fun h => absurd h (by simp), by simp, by simp [total]⟩
  · simp [Value.cells] at hcs
    obtain ⟨rfl, rfl, rfl⟩ := hcs
    rw [if_pos rfl] at hmm
    subst hmm
    simp only [Prod.mk.injEq] at hx
    obtain ⟨rfl, _⟩ := hx
    refine ⟨(List.range l).map fun i => (Sx i).data.toList, by simp, hl, ?_, by omega, ?_⟩
    · intro h0
      have h0' : 0 < l := by simpa using h0
      obtain ⟨b, off, spot⟩ := a
      have g0 := (hc 0 (by omega)).1
      have hspot : spot = none := by
        have := World.cell?_spot g0
        simpa [Addr.add] using this
      subst hspot
      refine ⟨b, off, rfl, World.block_lt_of_cell? W _ g0, ?_⟩
      intro i hi
      have hi' : i < l := by simpa using hi
      have gi := (hc i (by omega)).1
      rw [show (⟨b, off, none⟩ : Addr).add i = ⟨b, off + i, none⟩ by unfold Addr.add; split <;> simp_all] at gi
      rw [gi]
      simp
    · rw [Rows.uptoBulk, ← bulk_strs (H := H), List.map_map]
      have e : ((fun x => (.lit (.string x) : DataW H)) ∘ fun i => (Sx i).data.toList) = fun i => (.lit (.string (Sx i).data.toList) : DataW H) := rfl
      rw [e]
      omega
theorem total_length (xs : List Bytes) : xs.length ≤ total xs := by
  induction xs with
  | nil => simp [total]
  | cons x r ih => simp only [total, List.map_cons, List.sum_cons, List.length_cons] at ih ⊢; omega
end Go.Proofs.YtnlhipbdnihapaaDoor.Word
