/- Opening arguments: []uint8, []bool, instances; how great they are. -/
import Derived.Test.YtoccgpkpmhkeiaaInstP
import Derived.Test.YtoccgpkpmhkeiaaInstF
import Derived.ProofKit
import Derived.OpenShut
import Derived.ChangeOld
import Derived.ChangeSlices
import Derived.SizedLaws
import Derived.Lib.SmallJoins
import Derived.Deep.Slices
import Derived.Deep.Fields
namespace Go.Proofs.Ytoccgpkpmhkeiaa.Inst
open Go.ChangeShapes Go.WideShapes Go.ChangeAt Go.RowKit Go.Joins Go.Deep

def I64 (n : Int) : Prop := -9223372036854775808 ≤ n ∧ n ≤ 9223372036854775807
def U16 (n : Int) : Prop := 0 ≤ n ∧ n < 65536
def U8 (n : Int) : Prop := 0 ≤ n ∧ n < 256
theorem I64_of_wf {x : Int} (h : (Lit.int .i64 x).wf = true) : I64 x := by
  simp [Lit.wf, IntKind.min, IntKind.max, IntKind.signed, IntKind.bits] at h
  unfold I64; omega
theorem U16_of_wf {x : Int} (h : (Lit.int .u16 x).wf = true) : U16 x := by
  simp [Lit.wf, IntKind.min, IntKind.max, IntKind.signed, IntKind.bits] at h
  unfold U16; omega
theorem U8_of_wf {x : Int} (h : (Lit.int .u8 x).wf = true) : U8 x := by
  simp [Lit.wf, IntKind.min, IntKind.max, IntKind.signed, IntKind.bits] at h
  unfold U8; omega

theorem addr_add (b off i : Nat) : (⟨b, off, none⟩ : Addr).add i = ⟨b, off + i, none⟩ := by unfold Addr.add; split <;> simp_all
theorem sized_of {H : Type} {P : Program} {ts : List TypeId} {ds : List (DataW H)} (h : (DataW.weightsEach P ts ds).all (· ≤ reachBytes) = true) {j : Nat} {t : TypeId} {d : DataW H} (ht : ts[j]? = some t) (hd : ds[j]? = some d) : ∀ n ∈ d.weights P t, n ≤ reachBytes := by
  intro n hn
  have := List.all_eq_true.1 h _ (DataW.weights_mem_each ht hd n hn)
  simpa using this
theorem sized_row {H : Type} {P : Program} {t e : TypeId} {E S : List (DataW H)} (hu : P.underlying t = some (.slice e)) (hb : 0 < P.bytesOf e) (hw : ∀ n ∈ (DataW.slice E S).weights P t, n ≤ reachBytes) : E.length ≤ 140737488355328 := by
  have h1 := hw ((E.length + S.length) * P.bytesOf e) (by simp [DataW.weights, hu])
  have h2 := reachBytes_lt
  have h3 : E.length * 1 ≤ (E.length + S.length) * P.bytesOf e := Nat.mul_le_mul (by omega) hb
  omega

/-- A row of single cells that came in. -/
theorem row_of {W : World} {a : Addr} {n : Nat} {vs : List Value} (hl : vs.length ≤ n) (hc : ∀ i, i < n → ∀ h : i < vs.length, W.cell? (a.add i) = some vs[i]) : Cells W W.heap.size (some a) vs := by
  intro h0
  obtain ⟨b, off, spot⟩ := a
  have g0 := hc 0 (by omega) h0
  have hspot : spot = none := by
    have := World.cell?_spot g0
    simpa [Addr.add] using this
  subst hspot
  refine ⟨b, off, rfl, World.block_lt_of_cell? W _ g0, fun i hi => ?_⟩
  have gi := hc i (by omega) hi
  rw [addr_add] at gi
  exact gi
theorem row_none (W : World) (a : Option Addr) : Cells W W.heap.size a [] := fun h => absurd h (by simp)

theorem open_octs {H : Type} {enc : TypeId × Value → H} {W : World} {s : Option Addr} {l c : Nat} {d : DataW H} {p : List MemPlace}
    (h : DataW.Trod enc Try.prog W 0 (fun _ => true) true 23 (.slice s l c) d p) (hw : ∀ n ∈ d.weights Try.prog 23, n ≤ reachBytes) : ∃ xs : List Nat, xs.length = l ∧ l ≤ 140737488355328 ∧ Octs xs ∧ Cells W W.heap.size s (octV xs) := by
  obtain ⟨fuel, hf⟩ := h
  rcases open_ints Try.underlying23 Try.underlying5 (by kernel_rfl) hf with ⟨hcs, _⟩ | ⟨a, l', c', zs, hcs, _, hl, hm, hz, hx, hcell, hwz⟩
  · simp [Value.cells] at hcs
    obtain ⟨rfl, rfl, rfl⟩ := hcs
    exact ⟨[], rfl, by omega, fun x hx => by simp at hx, row_none _ _⟩
  · simp [Value.cells] at hcs
    obtain ⟨rfl, rfl, rfl⟩ := hcs
    rw [if_pos rfl] at hz
    simp only [Prod.mk.injEq] at hx
    obtain ⟨rfl, _⟩ := hx
    have hb := sized_row Try.underlying23 (by rw [show Try.prog.bytesOf 5 = 1 by kernel_rfl]; omega) hw
    have e1 : (lits (H := H) .u8 (zs.take l)).length = l := by simp [lits, hz]; omega
    rw [e1] at hb
    have hwt : ∀ n ∈ zs, U8 n := fun n hn => U8_of_wf (hwz n hn)
    refine ⟨(zs.take l).map Int.toNat, by simp [hz]; omega, hb, ?_, row_of (n := zs.length) (by rw [octV_length]; simp; omega) ?_⟩
    · intro x hx
      rw [List.mem_map] at hx
      obtain ⟨n, hn, rfl⟩ := hx
      have := hwt n (List.mem_of_mem_take hn)
      unfold U8 at this
      omega
    · intro i hi h2
      rw [hcell i hi]
      have := hwt (zs.getD i 0) (by rw [List.getD_eq_getElem?_getD, List.getElem?_eq_getElem hi]; exact List.getElem_mem _)
      unfold U8 at this
      rw [octV_length, List.length_map, List.length_take] at h2
      simp only [octV, List.getElem_map, List.getElem_take]
      rw [List.getD_eq_getElem?_getD, List.getElem?_eq_getElem hi] at this ⊢
      simp only [Option.getD_some] at this ⊢
      congr 2
      omega

/-- A struct of one-cell fields, opened: each field's cell, and its own reading. -/
theorem one_field {H : Type} {enc : TypeId × Value → H} {w : World} {base : Nat} {spare : Nat → Bool} {held : Bool} {t : TypeId} {fs : Array Field} {n : Nat} {a : Addr} {cs' : List Value} {x : DataW H × List MemPlace}
    (he : Try.prog.underlying t = some (.struct fs)) (hone : oneCellFields Try.prog fs = true) (hC : Try.prog.cellsOf t = fs.size)
    (hc : w.cells? base a (Try.prog.cellsOf t) = some cs') (ht : DataW.trod enc Try.prog w base spare held n t cs' = some x) (j : Nat) (f : Field) (hj : fs[j]? = some f) :
    ∃ (v : Value) (y : DataW H × List MemPlace) (m : Nat), w.cell? (a.add j) = some v ∧ DataW.trod enc Try.prog w base spare held m f.type [v] = some y := by
  obtain ⟨ys, n', hn', hy, hlen, hyl, hf⟩ := DataW.trod_struct he ht
  obtain ⟨_, hcl, hat⟩ := World.cells?_some hc
  obtain ⟨ho, hk⟩ := hone_of hone j f hj
  have hjl : j < fs.size := (Array.getElem?_eq_some_iff.1 hj).1
  have hcell := hat j (by omega)
  have hv : cs'[j]? = some (cs'[j]'(by omega)) := List.getElem?_eq_getElem (by omega)
  have h1 := hf j f hj
  rw [ho, hk] at h1
  have hone' : (cs'.drop j).take 1 = [cs'[j]'(by omega)] := by
    rw [List.drop_eq_getElem_cons (by omega)]
    rfl
  rw [hone'] at h1
  have hys : ys[j]? = some (ys[j]'(by omega)) := List.getElem?_eq_getElem (by omega)
  exact ⟨_, _, _, hcell.trans hv, h1.trans hys⟩

/-- What an instance that came in is. -/
structure InstOf (w : World) (A A2 : Option Addr) (I : InstD) : Prop where
  n : I.sup.length ≤ 140737488355328
  m : I.arcs.length ≤ 140737488355328
  sup : Cells w w.heap.size A (numV I.sup)
  arcs : Cells w w.heap.size A2 (arcV I.arcs)
end Go.Proofs.Ytoccgpkpmhkeiaa.Inst
