/- An object's own blocks: what else stays as it was; rows of rows. -/
import Derived.Test.YtoccgpkpmhkeiaaUniMathB
import Derived.Test.YtoccgpkpmhkeiaaInstG
namespace Go.Proofs.Ytoccgpkpmhkeiaa.Uni
open Go.RowKit Go.Proofs.Ytoccgpkpmhkeiaa.Inst

/-- All blocks are as they were, but for those from lo to hi. -/
structure Off (lo hi : Nat) (w w' : World) : Prop where
  os : w'.os = w.os
  tape : w'.tape = w.tape
  output : w'.output = w.output
  size : w.heap.size ≤ w'.heap.size
  block : ∀ k, k < w.heap.size → (k < lo ∨ hi ≤ k) → w'.heap[k]? = w.heap[k]?
section
variable {lo hi : Nat} {w u v : World}
theorem Off.refl (lo hi : Nat) (w : World) : Off lo hi w w := ⟨rfl, rfl, rfl, Nat.le_refl _, fun _ _ _ => rfl⟩
theorem Off.trans (h : Off lo hi w u) (g : Off lo hi u v) : Off lo hi w v :=
  ⟨g.os.trans h.os, g.tape.trans h.tape, g.output.trans h.output, Nat.le_trans h.size g.size, fun k hk hf => (g.block k (Nat.lt_of_lt_of_le hk h.size) hf).trans (h.block k hk hf)⟩
theorem Off.of (h : Below w.heap.size w u) : Off lo hi w u := ⟨h.os, h.tape, h.output, h.size, fun k hk _ => h.block k hk⟩
theorem Off.below {B : Nat} (h : Off lo hi w u) (h1 : B ≤ lo) (h2 : B ≤ w.heap.size) : Below B w u := ⟨h.os, h.tape, h.output, h.size, fun k hk => h.block k (by omega) (.inl (by omega))⟩
theorem Off.drew (h : Off lo hi w u) : Off lo hi w u.drew := ⟨h.os, h.tape, h.output, h.size, h.block⟩
theorem Off.alloc (h : Off lo hi w u) (o : Obj) : Off lo hi w (u.alloc o) := h.trans (Off.of ((Below.refl _ _).alloc (Nat.le_refl _) o))
theorem Off.then (h : Off lo hi w u) (g : Below u.heap.size u v) : Off lo hi w v := h.trans (Off.of g)
theorem Off.cell (h : Off lo hi w u) {b : Nat} (o : Nat) (hb : b < w.heap.size) (hf : b < lo ∨ hi ≤ b) : u.cell? ⟨b, o, none⟩ = w.cell? ⟨b, o, none⟩ := World.cell?_of_block (w := w) (h.block b hb hf)
theorem Off.frozen (h : Off lo hi w u) {b : Nat} (o : Nat) (hb : b < w.heap.size) (hf : b < lo ∨ hi ≤ b) : u.frozen? ⟨b, o, none⟩ = w.frozen? ⟨b, o, none⟩ := World.frozen?_of_block (w := w) (h.block b hb hf)
theorem Off.blk (h : Off lo hi w u) {g : Nat} {t : TypeId} {cs : Array Value} (hg : Blk w g t cs) (hf : g < lo ∨ hi ≤ g) : Blk u g t cs := (h.block g hg.lt hf).trans hg
/-- Behind a call that makes nothing but its own: the blocks below B. -/
theorem Below.off {B : Nat} (h : Below B w u) (g : Off lo hi u v) (h1 : B ≤ lo) (h2 : B ≤ w.heap.size) : Below B w v := h.trans (g.below h1 (Nat.le_trans h2 h.size))
end

/-- A slice's cells, in a block from lo on. -/
def Past (w : World) (lo : Nat) (a : Option Addr) (vs : List Value) : Prop :=
  0 < vs.length → ∃ b off, a = some ⟨b, off, none⟩ ∧ lo ≤ b ∧ b < w.heap.size ∧ ∀ i (h : i < vs.length), w.cell? ⟨b, off + i, none⟩ = some vs[i]
theorem Past.cells {w : World} {lo : Nat} {a : Option Addr} {vs : List Value} (h : Past w lo a vs) : Cells w w.heap.size a vs := by
  intro h0
  obtain ⟨b, off, e, _, h2, h3⟩ := h h0
  exact ⟨b, off, e, h2, h3⟩
theorem Past.off {w u : World} {p lo hi : Nat} {a : Option Addr} {vs : List Value} (h : Past w p a vs) (g : Off lo hi w u) (hp : hi ≤ p) : Past u p a vs := by
  intro h0
  obtain ⟨b, off, e, h1, h2, h3⟩ := h h0
  have := g.size
  exact ⟨b, off, e, h1, by omega, fun i hi => (g.cell _ h2 (.inr (by omega))).trans (h3 i hi)⟩
theorem Past.later {w u : World} {p : Nat} {a : Option Addr} {vs : List Value} (h : Past w p a vs) (g : Below w.heap.size w u) : Past u p a vs := h.off (lo := 0) (hi := 0) (Off.of g) (Nat.zero_le _)
theorem Past.from {w : World} {p q : Nat} {a : Option Addr} {vs : List Value} (h : Past w p a vs) (hq : q ≤ p) : Past w q a vs := by
  intro h0
  obtain ⟨b, off, e, h1, h2, h3⟩ := h h0
  exact ⟨b, off, e, by omega, h2, h3⟩
theorem past_own {w : World} {base n sz : Nat} {e : TypeId} {v : Value} {vs : List Value} (h : w.ownsRow base e sz v n vs) : ∃ A cap, v = .slice A n cap ∧ Past w base A vs := by
  obtain ⟨_, A, cap, rfl, _, _, hc⟩ := own_cells h
  have hge := own_ge h
  refine ⟨A, cap, rfl, fun h0 => ?_⟩
  obtain ⟨b, off, rfl, h2, h3⟩ := hc h0
  refine ⟨b, off, rfl, hge b ?_, h2, h3⟩
  rcases h.2 with ⟨q, _⟩ | ⟨g, c, cur, q, _⟩
  · cases q
  · cases q
    rfl
theorem past_blk {w : World} {g lo : Nat} {t : TypeId} {vs : List Value} (h : Blk w g t vs.toArray) (hl : lo ≤ g) : Past w lo (some ⟨g, 0, none⟩) vs := by
  intro _
  refine ⟨g, 0, rfl, hl, h.lt, fun i hi => ?_⟩
  rw [Nat.zero_add, h.cell i]
  simp [List.getElem?_eq_getElem hi]
theorem past_nil (w : World) (lo : Nat) (a : Option Addr) : Past w lo a [] := fun h => absurd h (by simp)

/-- A row's value. -/
def RowV (w : World) (lo : Nat) (l : List Nat) (v : Value) : Prop := ∃ A cap, v = .slice A l.length cap ∧ Past w lo A (natV l)
/-- A list of lists, in blocks from lo on. -/
def Grid (w : World) (lo : Nat) (v : Value) (G : List (List Nat)) : Prop :=
  ∃ A cap VS, v = .slice A G.length cap ∧ VS.length = G.length ∧ Past w lo A VS ∧ ∀ i (h : i < VS.length) (g : i < G.length), RowV w lo G[i] VS[i]
theorem RowV.off {w u : World} {p lo hi : Nat} {l : List Nat} {v : Value} (h : RowV w p l v) (g : Off lo hi w u) (hp : hi ≤ p) : RowV u p l v := by
  obtain ⟨A, cap, e, h⟩ := h
  exact ⟨A, cap, e, h.off g hp⟩
theorem RowV.later {w u : World} {p : Nat} {l : List Nat} {v : Value} (h : RowV w p l v) (g : Below w.heap.size w u) : RowV u p l v := h.off (lo := 0) (hi := 0) (Off.of g) (Nat.zero_le _)
theorem Grid.off {w u : World} {p lo hi : Nat} {G : List (List Nat)} {v : Value} (h : Grid w p v G) (g : Off lo hi w u) (hp : hi ≤ p) : Grid u p v G := by
  obtain ⟨A, cap, VS, e, hl, h, hr⟩ := h
  exact ⟨A, cap, VS, e, hl, h.off g hp, fun i h1 h2 => (hr i h1 h2).off g hp⟩
theorem Grid.later {w u : World} {p : Nat} {G : List (List Nat)} {v : Value} (h : Grid w p v G) (g : Below w.heap.size w u) : Grid u p v G := h.off (lo := 0) (hi := 0) (Off.of g) (Nat.zero_le _)
theorem Grid.from {w : World} {p q : Nat} {G : List (List Nat)} {v : Value} (h : Grid w p v G) (hq : q ≤ p) : Grid w q v G := by
  obtain ⟨A, cap, VS, e, hl, h, hr⟩ := h
  refine ⟨A, cap, VS, e, hl, h.from hq, fun i h1 h2 => ?_⟩
  obtain ⟨A, cap, e, h⟩ := hr i h1 h2
  exact ⟨A, cap, e, h.from hq⟩
/-- Row k, for reading. -/
theorem Grid.row {w : World} {p : Nat} {G : List (List Nat)} {v : Value} (h : Grid w p v G) :
    ∃ A cap, v = .slice A G.length cap ∧ ∀ k (hk : k < G.length), ∃ b off B c, A = some ⟨b, off, none⟩ ∧ p ≤ b ∧ b < w.heap.size ∧ w.cell? ⟨b, off + k, none⟩ = some (.slice B G[k].length c) ∧ Past w p B (natV G[k]) := by
  obtain ⟨A, cap, VS, e, hl, hp, hr⟩ := h
  refine ⟨A, cap, e, fun k hk => ?_⟩
  obtain ⟨b, off, ea, h1, h2, h3⟩ := hp (by omega)
  obtain ⟨B, c, eb, hb⟩ := hr k (by omega) hk
  exact ⟨b, off, B, c, ea, h1, h2, by rw [h3 k (by omega), eb], hb⟩
theorem past_at {w : World} {lo : Nat} {a : Option Addr} {l : List Nat} (h : Past w lo a (natV l)) (h0 : 0 < l.length) :
    ∃ b off, a = some ⟨b, off, none⟩ ∧ lo ≤ b ∧ b < w.heap.size ∧ ∀ k (hk : k < l.length), w.cell? ⟨b, off + k, none⟩ = some (.int .i64 (l[k] : Int)) := by
  obtain ⟨b, off, e, h1, h2, hc⟩ := h (by rw [natV_length]; exact h0)
  refine ⟨b, off, e, h1, h2, fun k hk => ?_⟩
  rw [hc k (by rw [natV_length]; exact hk)]
  simp [natV, numV]
end Go.Proofs.Ytoccgpkpmhkeiaa.Uni
