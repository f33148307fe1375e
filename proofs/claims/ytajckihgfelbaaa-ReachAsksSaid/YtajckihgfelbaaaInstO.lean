/- Opening arguments: []uint8, []bool, instances; how great they are. -/
import Derived.Test.YtajckihgfelbaaaInstP
import Derived.Test.YtajckihgfelbaaaInstF
import Derived.ProofKit
import Derived.OpenShut
import Derived.ChangeOld
import Derived.ChangeSlices
import Derived.SizedLaws
import Derived.Lib.SmallJoins
import Derived.Deep.Slices
import Derived.Deep.Fields
namespace Go.Proofs.Ytajckihgfelbaaa.Inst
open Go.ChangeShapes Go.WideShapes Go.ChangeAt Go.RowKit Go.Joins Go.Deep
set_option maxRecDepth 100000

def I64 (n : Int) : Prop := -9223372036854775808 ≤ n ∧ n ≤ 9223372036854775807
def U16 (n : Int) : Prop := 0 ≤ n ∧ n < 65536
def U8 (n : Int) : Prop := 0 ≤ n ∧ n < 256
theorem I64_of_wf {x : Int} (h : (Lit.int .i64 x).wf = true) : I64 x := by
  simp [Lit.wf, IntKind.min, IntKind.max, IntKind.signed, IntKind.bits] at h
  unfold I64; omega
theorem U16_of_wf {x : Int} (h : (Lit.int .u16 x).wf = true) : U16 x := by
  simp [Lit.wf, IntKind.min, IntKind.max, IntKind.signed, IntKind.bits] at h
  unfold U16; omega
theorem U8_of_wf {x : Int} (h : (Lit.int .u8 x).wf = true) : U8 x := by
  simp [Lit.wf, IntKind.min, IntKind.max, IntKind.signed, IntKind.bits] at h
  unfold U8; omega

theorem addr_add (b off i : Nat) : (⟨b, off, none⟩ : Addr).add i = ⟨b, off + i, none⟩ := by unfold Addr.add; split <;> simp_all
theorem sized_of {H : Type} {P : Program} {ts : List TypeId} {ds : List (DataW H)} (h : (DataW.weightsEach P ts ds).all (· ≤ reachBytes) = true) {j : Nat} {t : TypeId} {d : DataW H} (ht : ts[j]? = some t) (hd : ds[j]? = some d) : ∀ n ∈ d.weights P t, n ≤ reachBytes := by
  intro n hn
  have := List.all_eq_true.1 h _ (DataW.weights_mem_each ht hd n hn)
  simpa using this
theorem sized_row {H : Type} {P : Program} {t e : TypeId} {E S : List (DataW H)} (hu : P.underlying t = some (.slice e)) (hb : 0 < P.bytesOf e) (hw : ∀ n ∈ (DataW.slice E S).weights P t, n ≤ reachBytes) : E.length ≤ 140737488355328 := by
  have h1 := hw ((E.length + S.length) * P.bytesOf e) (by simp [DataW.weights, hu])
  have h2 := reachBytes_lt
  have h3 : E.length * 1 ≤ (E.length + S.length) * P.bytesOf e := Nat.mul_le_mul (by omega) hb
  omega

/-- A row of single cells that came in. -/
theorem row_of {W : World} {a : Addr} {n : Nat} {vs : List Value} (hl : vs.length ≤ n) (hc : ∀ i, i < n → ∀ h : i < vs.length, W.cell? (a.add i) = some vs[i]) : Cells W W.heap.size (some a) vs := by
  intro h0
  obtain ⟨b, off, spot⟩ := a
  have g0 := hc 0 (by omega) h0
  have hspot : spot = none := by
    have := World.cell?_spot g0
    simpa [Addr.add] using this
  subst hspot
  refine ⟨b, off, rfl, World.block_lt_of_cell? W _ g0, fun i hi => ?_⟩
  have gi := hc i (by omega) hi
  rw [addr_add] at gi
  exact gi
theorem row_none (W : World) (a : Option Addr) : Cells W W.heap.size a [] := fun h => absurd h (by simp)

theorem open_octs {H : Type} {enc : TypeId × Value → H} {W : World} {s : Option Addr} {l c : Nat} {d : DataW H} {p : List MemPlace}
    (h : DataW.Trod enc Try.prog W 0 (fun _ => true) true 26 (.slice s l c) d p) (hw : ∀ n ∈ d.weights Try.prog 26, n ≤ reachBytes) : ∃ xs : List Nat, xs.length = l ∧ l ≤ 140737488355328 ∧ Octs xs ∧ Cells W W.heap.size s (octV xs) := by
  obtain ⟨fuel, hf⟩ := h
  rcases open_ints Try.underlying26 Try.underlying5 (by kernel_rfl) hf with ⟨hcs, _⟩ | ⟨a, l', c', zs, hcs, _, hl, hm, hz, hx, hcell, hwz⟩
  · simp [Value.cells] at hcs
    obtain ⟨rfl, rfl, rfl⟩ := hcs
    exact ⟨[], rfl, by omega, fun x hx => by simp at hx, row_none _ _⟩
  · simp [Value.cells] at hcs
    obtain ⟨rfl, rfl, rfl⟩ := hcs
    rw [if_pos rfl] at hz
    simp only [Prod.mk.injEq] at hx
    obtain ⟨rfl, _⟩ := hx
    have hb := sized_row Try.underlying26 (by rw [show Try.prog.bytesOf 5 = 1 by kernel_rfl]; omega) hw
    have e1 : (lits (H := H) .u8 (zs.take l)).length = l := by simp [lits, hz]; omega
    rw [e1] at hb
    have hwt : ∀ n ∈ zs, U8 n := fun n hn => U8_of_wf (hwz n hn)
    refine ⟨(zs.take l).map Int.toNat, by simp [hz]; omega, hb, ?_, row_of (n := zs.length) (by rw [octV_length]; simp; omega) ?_⟩
    · intro x hx
      rw [List.mem_map] at hx
      obtain ⟨n, hn, rfl⟩ := hx
      have := hwt n (List.mem_of_mem_take hn)
      unfold U8 at this
      omega
    · intro i hi h2
      rw [hcell i hi]
      have := hwt (zs.getD i 0) (by rw [List.getD_eq_getElem?_getD, List.getElem?_eq_getElem hi]; exact List.getElem_mem _)
      unfold U8 at this
      rw [octV_length, List.length_map, List.length_take] at h2
      simp only [octV, List.getElem_map, List.getElem_take]
      rw [List.getD_eq_getElem?_getD, List.getElem?_eq_getElem hi] at this ⊢
      simp only [Option.getD_some] at this ⊢
      congr 2
      omega

theorem open_i64s {H : Type} {enc : TypeId × Value → H} {W : World} {s : Option Addr} {l c fuel : Nat} {x : DataW H × List MemPlace}
    (hf : DataW.trod enc Try.prog W 0 (fun _ => true) true fuel 22 [.slice s l c] = some x) (hw : ∀ n ∈ x.1.weights Try.prog 22, n ≤ reachBytes) : ∃ xs : List Int, xs.length = l ∧ l ≤ 140737488355328 ∧ Cells W W.heap.size s (numV xs) := by
  rcases open_ints Try.underlying22 Try.underlying2 (by kernel_rfl) hf with ⟨hcs, _⟩ | ⟨a, l', c', zs, hcs, _, hl, hm, hz, hx, hcell, _⟩
  · simp at hcs
    obtain ⟨rfl, rfl, rfl⟩ := hcs
    exact ⟨[], rfl, by omega, row_none _ _⟩
  · simp at hcs
    obtain ⟨rfl, rfl, rfl⟩ := hcs
    rw [if_pos rfl] at hz
    subst hx
    have hb := sized_row Try.underlying22 (by rw [show Try.prog.bytesOf 2 = 8 by kernel_rfl]; omega) hw
    have e1 : (lits (H := H) .i64 (zs.take l)).length = l := by simp [lits, hz]; omega
    rw [e1] at hb
    refine ⟨zs.take l, by simp [hz]; omega, hb, row_of (n := zs.length) (by rw [numV_length]; simp; omega) ?_⟩
    intro i hi h2
    rw [hcell i hi]
    simp only [numV, List.getElem_map, List.getElem_take]
    rw [List.getD_eq_getElem?_getD, List.getElem?_eq_getElem hi]
    rfl

theorem open_bools {H : Type} {enc : TypeId × Value → H} {W : World} {s : Option Addr} {l c : Nat} {d : DataW H} {p : List MemPlace}
    (h : DataW.Trod enc Try.prog W 0 (fun _ => true) true 68 (.slice s l c) d p) (hw : ∀ n ∈ d.weights Try.prog 68, n ≤ reachBytes) : ∃ xs : List Bool, xs.length = l ∧ l ≤ 140737488355328 ∧ Cells W W.heap.size s (boolV xs) := by
  obtain ⟨fuel, hf⟩ := h
  rcases open_slice1 Try.underlying68 (by kernel_rfl) hf with ⟨hcs, _⟩ | ⟨a, len, cap, m, n, V, D, Pl, hcs, hb, hl, hm, hmm, hx, hi⟩
  · simp [Value.cells] at hcs
    obtain ⟨rfl, rfl, rfl⟩ := hcs
    exact ⟨[], rfl, by omega, row_none _ _⟩
  · simp [Value.cells] at hcs
    obtain ⟨rfl, rfl, rfl⟩ := hcs
    rw [if_pos rfl] at hmm
    subst hmm
    simp only [Prod.mk.injEq] at hx
    obtain ⟨rfl, _⟩ := hx
    have hb2 := sized_row Try.underlying68 (by rw [show Try.prog.bytesOf 4 = 1 by kernel_rfl]; omega) hw
    rw [List.length_map, List.length_range] at hb2
    have get : ∀ i, i < m → ∃ b : Bool, V i = .bool b := by
      intro i hi'
      obtain ⟨b, h1, _⟩ := DataW.trod_bool Try.underlying4 (hi i hi').2
      exact ⟨b, by simpa using h1⟩
    refine ⟨(List.range l).map fun i => (match V i with | .bool b => b | _ => false), by simp, hb2, row_of (n := l) (by rw [boolV_length]; simp) ?_⟩
    intro i hil h2
    rw [(hi i (by omega)).1]
    obtain ⟨b, hb⟩ := get i (by omega)
    simp only [boolV, List.getElem_map, List.getElem_range]
    rw [hb]

theorem cells_arc : Try.prog.cellsOf 36 = 5 := by kernel_rfl
theorem cells_inst : Try.prog.cellsOf 25 = 2 := by kernel_rfl
/-- A struct of one-cell fields, opened: each field's cell, and its own reading. -/
theorem one_field {H : Type} {enc : TypeId × Value → H} {w : World} {base : Nat} {spare : Nat → Bool} {held : Bool} {t : TypeId} {fs : Array Field} {n : Nat} {a : Addr} {cs' : List Value} {x : DataW H × List MemPlace}
    (he : Try.prog.underlying t = some (.struct fs)) (hone : oneCellFields Try.prog fs = true) (hC : Try.prog.cellsOf t = fs.size)
    (hc : w.cells? base a (Try.prog.cellsOf t) = some cs') (ht : DataW.trod enc Try.prog w base spare held n t cs' = some x) (j : Nat) (f : Field) (hj : fs[j]? = some f) :
    ∃ (v : Value) (y : DataW H × List MemPlace) (m : Nat), w.cell? (a.add j) = some v ∧ DataW.trod enc Try.prog w base spare held m f.type [v] = some y := by
  obtain ⟨ys, n', hn', hy, hlen, hyl, hf⟩ := DataW.trod_struct he ht
  obtain ⟨_, hcl, hat⟩ := World.cells?_some hc
  obtain ⟨ho, hk⟩ := hone_of hone j f hj
  have hjl : j < fs.size := (Array.getElem?_eq_some_iff.1 hj).1
  have hcell := hat j (by omega)
  have hv : cs'[j]? = some (cs'[j]'(by omega)) := List.getElem?_eq_getElem (by omega)
  have h1 := hf j f hj
  rw [ho, hk] at h1
  have hone' : (cs'.drop j).take 1 = [cs'[j]'(by omega)] := by
    rw [List.drop_eq_getElem_cons (by omega)]
    rfl
  rw [hone'] at h1
  have hys : ys[j]? = some (ys[j]'(by omega)) := List.getElem?_eq_getElem (by omega)
  exact ⟨_, _, _, hcell.trans hv, h1.trans hys⟩

theorem open_arcs {H : Type} {enc : TypeId × Value → H} {W : World} {s : Option Addr} {l c fuel : Nat} {x : DataW H × List MemPlace}
    (hf : DataW.trod enc Try.prog W 0 (fun _ => true) true fuel 23 [.slice s l c] = some x) (hw : ∀ n ∈ x.1.weights Try.prog 23, n ≤ reachBytes) : ∃ xs : List ArcD, xs.length = l ∧ l ≤ 140737488355328 ∧ Cells W W.heap.size s (arcV xs) := by
  rcases open_slice Try.underlying23 hf with ⟨hcs, _⟩ | ⟨a, len, cap, m, n, D, Pl, hcs, hb, hl, hm, hmm, hx, hi⟩
  · simp at hcs
    obtain ⟨rfl, rfl, rfl⟩ := hcs
    exact ⟨[], rfl, by omega, row_none _ _⟩
  · simp at hcs
    obtain ⟨rfl, rfl, rfl⟩ := hcs
    rw [if_pos rfl] at hmm
    subst hmm
    subst hx
    have hb2 := sized_row Try.underlying23 (by rw [show Try.prog.bytesOf 36 = 40 by kernel_rfl]; omega) hw
    rw [List.length_map, List.length_range] at hb2
    have get : ∀ i, i < l → ∃ y : ArcD, W.cell? ((a.add (i * 5)).add 0) = some (.int .i64 y.frm) ∧ W.cell? ((a.add (i * 5)).add 1) = some (.int .i64 y.to) ∧ W.cell? ((a.add (i * 5)).add 2) = some (.int .i64 y.low) ∧ W.cell? ((a.add (i * 5)).add 3) = some (.int .i64 y.cap) ∧ W.cell? ((a.add (i * 5)).add 4) = some (.int .i64 y.cost) := by
      intro i hil
      obtain ⟨cs', hc, ht⟩ := hi i (by omega)
      obtain ⟨v0, y0, m0, q0, t0⟩ := one_field Try.underlying36 (by kernel_rfl) cells_arc hc ht 0 _ rfl
      obtain ⟨v1, y1, m1, q1, t1⟩ := one_field Try.underlying36 (by kernel_rfl) cells_arc hc ht 1 _ rfl
      obtain ⟨v2, y2, m2, q2, t2⟩ := one_field Try.underlying36 (by kernel_rfl) cells_arc hc ht 2 _ rfl
      obtain ⟨v3, y3, m3, q3, t3⟩ := one_field Try.underlying36 (by kernel_rfl) cells_arc hc ht 3 _ rfl
      obtain ⟨v4, y4, m4, q4, t4⟩ := one_field Try.underlying36 (by kernel_rfl) cells_arc hc ht 4 _ rfl
      rw [cells_arc] at q0 q1 q2 q3 q4
      obtain ⟨z0, e0, _, _⟩ := DataW.trod_int Try.underlying3 t0
      obtain ⟨z1, e1, _, _⟩ := DataW.trod_int Try.underlying3 t1
      obtain ⟨z2, e2, _, _⟩ := DataW.trod_int Try.underlying2 t2
      obtain ⟨z3, e3, _, _⟩ := DataW.trod_int Try.underlying2 t3
      obtain ⟨z4, e4, _, _⟩ := DataW.trod_int Try.underlying2 t4
      simp at e0 e1 e2 e3 e4
      subst e0 e1 e2 e3 e4
      exact ⟨⟨z0, z1, z2, z3, z4⟩, q0, q1, q2, q3, q4⟩
    have : Inhabited ArcD := ⟨⟨0, 0, 0, 0, 0⟩⟩
    obtain ⟨B, hB⟩ := choose_lt get
    refine ⟨(List.range l).map B, by simp, hb2, ?_⟩
    intro h0
    rw [arcV_length, List.length_map, List.length_range] at h0
    obtain ⟨b, off, spot⟩ := a
    have g0 := (hB 0 (by omega)).1
    have hspot : spot = none := by
      have := World.cell?_spot g0
      simpa [Addr.add] using this
    subst hspot
    simp only [addr_add] at hB g0
    refine ⟨b, off, rfl, World.block_lt_of_cell? W _ g0, fun i hi => ?_⟩
    rw [arcV_length, List.length_map, List.length_range] at hi
    have hk : i / 5 < ((List.range l).map B).length := by simp; omega
    have fg := flat_get ((List.range l).map B) (i / 5) (i % 5) hk (by omega)
    have ei : i / 5 * 5 + i % 5 = i := by omega
    rw [ei] at fg
    obtain ⟨c0, c1, c2, c3, c4⟩ := hB (i / 5) (by omega)
    have fin : ∀ v, (flat ((List.range l).map B))[i]? = some v → (arcV ((List.range l).map B))[i]? = some (.int .i64 v) := by
      intro v hv
      show ((flat _).map nv)[i]? = _
      rw [List.getElem?_map, hv]
      rfl
    have get2 : ∀ v, W.cell? ⟨b, off + i, none⟩ = some (.int .i64 v) → ((List.range l).map B)[i / 5].nums[i % 5]? = some v → W.cell? ⟨b, off + i, none⟩ = some ((arcV ((List.range l).map B))[i]'(by rw [arcV_length]; simp; omega)) := by
      intro v h1 h2
      rw [h2] at fg
      have := fin v fg
      rw [List.getElem?_eq_getElem (by rw [arcV_length]; simp; omega)] at this
      rw [h1, ← this]
    have r : i % 5 = 0 ∨ i % 5 = 1 ∨ i % 5 = 2 ∨ i % 5 = 3 ∨ i % 5 = 4 := by omega
    rcases r with r | r | r | r | r
    · refine get2 _ ?_ (by rw [r]; simp [ArcD.nums]; rfl)
      rw [← c0]; congr 2; omega
    · refine get2 _ ?_ (by rw [r]; simp [ArcD.nums]; rfl)
      rw [← c1]; congr 2; omega
    · refine get2 _ ?_ (by rw [r]; simp [ArcD.nums]; rfl)
      rw [← c2]; congr 2; omega
    · refine get2 _ ?_ (by rw [r]; simp [ArcD.nums]; rfl)
      rw [← c3]; congr 2; omega
    · refine get2 _ ?_ (by rw [r]; simp [ArcD.nums]; rfl)
      rw [← c4]; congr 2; omega

/-- What an instance that came in is. -/
structure InstOf (w : World) (A A2 : Option Addr) (I : InstD) : Prop where
  n : I.sup.length ≤ 140737488355328
  m : I.arcs.length ≤ 140737488355328
  sup : Cells w w.heap.size A (numV I.sup)
  arcs : Cells w w.heap.size A2 (arcV I.arcs)
theorem open_inst {H : Type} {enc : TypeId × Value → H} {W : World} {b0 : Nat} {r : Reach} {v : Value} {d : DataW H} {p : List MemPlace}
    (hv : Value.okWide Try.prog W r b0 25 v) (h : DataW.Trod enc Try.prog W 0 (fun _ => true) true 25 v d p) (hw : ∀ n ∈ d.weights Try.prog 25, n ≤ reachBytes) :
    ∃ (A A2 : Option Addr) (c1 c2 : Nat) (I : InstD), v = instV A c1 A2 c2 I ∧ InstOf W A A2 I := by
  obtain ⟨x0, x1, y0, y1, m, rfl, rfl, rfl, hy0, hy1⟩ := open_agg2 Try.underlying25 (by kernel_rfl) cells_inst hv h
  have hw0 : ∀ n ∈ y0.1.weights Try.prog 22, n ≤ reachBytes := fun n hn => hw n (by
    simp only [DataW.weights, Try.underlying25]
    exact DataW.weights_mem_each (j := 0) rfl rfl n hn)
  have hw1 : ∀ n ∈ y1.1.weights Try.prog 23, n ≤ reachBytes := fun n hn => hw n (by
    simp only [DataW.weights, Try.underlying25]
    exact DataW.weights_mem_each (j := 1) rfl rfl n hn)
  have s0 : ∃ s l c, x0 = .slice s l c := by
    rcases open_slice Try.underlying22 hy0 with ⟨hcs, _⟩ | ⟨a, len, cap, m, n, D, Pl, hcs, _⟩
    · exact ⟨_, _, _, by simpa using hcs⟩
    · exact ⟨_, _, _, by simpa using hcs⟩
  have s1 : ∃ s l c, x1 = .slice s l c := by
    rcases open_slice Try.underlying23 hy1 with ⟨hcs, _⟩ | ⟨a, len, cap, m, n, D, Pl, hcs, _⟩
    · exact ⟨_, _, _, by simpa using hcs⟩
    · exact ⟨_, _, _, by simpa using hcs⟩
  obtain ⟨a0, l0, c0, rfl⟩ := s0
  obtain ⟨a1, l1, c1, rfl⟩ := s1
  obtain ⟨xs, rfl, h0, hc0⟩ := open_i64s hy0 hw0
  obtain ⟨ys, rfl, h1, hc1⟩ := open_arcs hy1 hw1
  exact ⟨a0, a1, c0, c1, ⟨xs, ys⟩, rfl, ⟨h0, h1, hc0, hc1⟩⟩
end Go.Proofs.Ytajckihgfelbaaa.Inst
