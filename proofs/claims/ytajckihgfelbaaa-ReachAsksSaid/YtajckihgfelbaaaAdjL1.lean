/- What the landed layer 4 does: what a graph is in memory; how many nodes; is it a node; a loop. -/
import Derived.Test.YtajckihgfelbaaaAdjLR
import Derived.Test.YtajckihgfelbaaaInstLG
namespace Go.Proofs.Ytajckihgfelbaaa.Adj
open Go.RowKit Go.Proofs.Ytajckihgfelbaaa.Inst
set_option maxRecDepth 100000

/-- Block b is the graph of I; all that belongs to it lies from lo on. -/
structure GrIs (lo : Nat) (w : World) (b : Nat) (I : InstD) (n m : Nat) (A : Option Addr) (cA P L : Nat) (off cap : Nat → Nat) (ps C : Array Value) : Prop where
  hn : I.sup.length = n
  hm : I.arcs.length = m
  n9 : n ≤ 1000
  m9 : m ≤ 1000
  lob : lo ≤ b
  loP : lo ≤ P
  loL : lo ≤ L
  blk : Blk w b 88 #[.slice A m cA, .slice (some ⟨P, 0, none⟩) n n]
  arcs : w.ownsRow lo 36 5 (.slice A m cA) m (arcV I.arcs)
  pieces : Blk w P 32 ps
  list : Blk w L 3 C
  piece : ∀ k, k < n → ps[k]? = some (.slice (some ⟨L, off k, none⟩) (atD I (k : Int)).length (cap k))
  cells : ∀ k, k < n → ∀ t (h : t < (atD I (k : Int)).length), C[off k + t]? = some (nv ((atD I (k : Int))[t] : Int))
def GrX (w : World) (b : Nat) (I : InstD) : Prop := ∃ lo n m A cA P L off cap ps C, GrIs lo w b I n m A cA P L off cap ps C
theorem own_same {w v : World} {base n sz : Nat} {e : TypeId} {x : Value} {xs : List Value} (h : w.ownsRow base e sz x n xs) (hb : ∀ i, base ≤ i → i < w.heap.size → v.heap[i]? = w.heap[i]?) : v.ownsRow base e sz x n xs := by
  obtain ⟨hl, hr⟩ := h
  refine ⟨hl, ?_⟩
  rcases hr with h1 | ⟨g', cap', cur, h1, h2, h3, h4⟩
  · exact .inl h1
  · exact .inr ⟨g', cap', cur, h1, h2, (hb g' h2 (Blk.lt (t := e) h3)).trans h3, h4⟩
theorem GrIs.same {lo : Nat} {w v : World} {b : Nat} {I : InstD} {n m : Nat} {A : Option Addr} {cA P L : Nat} {off cap : Nat → Nat} {ps C : Array Value} (h : GrIs lo w b I n m A cA P L off cap ps C) (hb : ∀ i, lo ≤ i → i < w.heap.size → v.heap[i]? = w.heap[i]?) : GrIs lo v b I n m A cA P L off cap ps C :=
  { h with blk := (hb _ h.lob h.blk.lt).trans h.blk, arcs := own_same h.arcs hb, pieces := (hb _ h.loP h.pieces.lt).trans h.pieces, list := (hb _ h.loL h.list.lt).trans h.list }
theorem GrX.later {w u : World} {b : Nat} {I : InstD} (h : GrX w b I) (hb : Below w.heap.size w u) : GrX u b I := by
  obtain ⟨lo, n, m, A, cA, P, L, off, cap, ps, C, h⟩ := h
  exact ⟨lo, n, m, A, cA, P, L, off, cap, ps, C, h.same fun i _ hi => hb.block i hi⟩
/-- A graph, or none. -/
def GrV (w : World) (q : Option Addr) (I : InstD) : Prop := (q = none ∧ I = ⟨[], []⟩) ∨ ∃ b, q = some ⟨b, 0, none⟩ ∧ GrX w b I
theorem GrV.later {w u : World} {q : Option Addr} {I : InstD} (h : GrV w q I) (hb : Below w.heap.size w u) : GrV u q I := by
  rcases h with h | ⟨b, h1, h2⟩
  · exact .inl h
  · exact .inr ⟨b, h1, h2.later hb⟩
theorem GrV.bd {w : World} {q : Option Addr} {I : InstD} (h : GrV w q I) : I.sup.length ≤ 1000 ∧ I.arcs.length ≤ 1000 := by
  rcases h with ⟨_, rfl⟩ | ⟨b, h1, lo, n, m, A, cA, P, L, off, cap, ps, C, h2⟩
  · exact ⟨by simp, by simp⟩
  · rw [h2.hn, h2.hm]; exact ⟨h2.n9, h2.m9⟩

/-- What is known of a graph that is not yet laid out by nodes. -/
def HalfX (w : World) (b : Nat) (I : InstD) : Prop := ∃ n m A cA P, I.sup.length = n ∧ I.arcs.length = m ∧ n ≤ 1000 ∧ m ≤ 1000 ∧ Blk w b 88 #[.slice A m cA, .slice (some ⟨P, 0, none⟩) n n] ∧ Cells w w.heap.size A (arcV I.arcs)
theorem GrX.half {w : World} {b : Nat} {I : InstD} (h : GrX w b I) : HalfX w b I := by
  obtain ⟨lo, n, m, A, cA, P, L, off, cap, ps, C, h⟩ := h
  exact ⟨n, m, A, cA, P, h.hn, h.hm, h.n9, h.m9, h.blk, own_row h.arcs⟩
def HalfV (w : World) (q : Option Addr) (I : InstD) : Prop := (q = none ∧ I = ⟨[], []⟩) ∨ ∃ b, q = some ⟨b, 0, none⟩ ∧ HalfX w b I
theorem GrV.half {w : World} {q : Option Addr} {I : InstD} (h : GrV w q I) : HalfV w q I := by
  rcases h with h | ⟨b, h1, h2⟩
  · exact .inl h
  · exact .inr ⟨b, h1, h2.half⟩
theorem HalfV.later {w u : World} {q : Option Addr} {I : InstD} (h : HalfV w q I) (hb : Below w.heap.size w u) : HalfV u q I := by
  rcases h with h | ⟨b, h1, n, m, A, cA, P, hn, hm, n9, m9, h2, h3⟩
  · exact .inl h
  · exact .inr ⟨b, h1, n, m, A, cA, P, hn, hm, n9, m9, h2.below hb h2.lt, h3.later (Nat.le_refl _) hb⟩

theorem nodes_v (q : Option Addr) (I : InstD) (n : Nat) (hn : I.sup.length = n) (w : World) (h : HalfV w q I) : Calls Try.prog 34 #[.pointer q] w fun e w' => e = .returned (.int .i64 (n : Int)) ∧ Below w.heap.size w w' := by
  rcases h with ⟨rfl, rfl⟩ | ⟨b, rfl, n2, m, A, cA, P, e, _, _, _, hB, _⟩
  · subst hn
    go_enter Try.func34, Try.ntmps34
    go_wp2_with fail
    go_ret
    exact ⟨rfl, Below.refl _ _⟩
  · rw [hn] at e
    subst e
    have B := Lib.hid hB
    clear hB hn
    have x0 := B.out.cell 1
    have x1 := B.out.lt
    simp at x0
    go_enter Try.func34, Try.ntmps34
    go_wp2_with fail
    go_ret
    exact ⟨rfl, Below.refl _ _⟩
theorem isnode_v (q : Option Addr) (I : InstD) (x : Int) (r : Bool) (hr : decide (0 ≤ x ∧ x < (I.sup.length : Int)) = r) (w : World) (h : HalfV w q I) : Calls Try.prog 94 #[.pointer q, .int .i64 x] w fun e w' => e = .returned (.bool r) ∧ Below w.heap.size w w' := by
  obtain ⟨n, hn⟩ : ∃ n, I.sup.length = n := ⟨_, rfl⟩
  have NO := Lib.hid (nodes_v q I n hn w h)
  rw [hn] at hr
  clear h hn
  by_cases h0 : 0 ≤ x
  · by_cases h1 : x < (n : Int)
    · obtain rfl : r = true := by rw [← hr]; exact decide_eq_true ⟨h0, h1⟩
      clear hr
      go_enter Try.func94, Try.ntmps94
      go_wp2_with (go_at_call 34; (with_reducible refine NO.out.mono ?_); rintro e w2 ⟨rfl, hb⟩; have HB := Lib.hid hb; clear hb)
      go_ret
      exact ⟨by first | rfl | (show Ending.returned (.bool (decide (x < (n : Int)))) = _; rw [decide_eq_true h1]), HB.out⟩
    · obtain rfl : r = false := by rw [← hr]; exact decide_eq_false (by omega)
      clear hr
      go_enter Try.func94, Try.ntmps94
      go_wp2_with (go_at_call 34; (with_reducible refine NO.out.mono ?_); rintro e w2 ⟨rfl, hb⟩; have HB := Lib.hid hb; clear hb)
      go_ret
      exact ⟨by first | rfl | (show Ending.returned (.bool (decide (x < (n : Int)))) = _; rw [decide_eq_false (by omega)]), HB.out⟩
  · obtain rfl : r = false := by rw [← hr]; exact decide_eq_false (by omega)
    clear hr
    go_enter Try.func94, Try.ntmps94
    go_wp2_with fail
    go_ret
    exact ⟨rfl, Below.refl _ _⟩

/-- What a function that picks arcs tells: f of the arc. -/
def Picks (F : Nat) (lb : Array Value) (f : ArcD → Bool) (w : World) : Prop :=
  ∀ (x : ArcD) (u : World), Below w.heap.size w u → Calls Try.prog F (#[aggV x] ++ lb) u fun e u' => e = .returned (.bool (f x)) ∧ Below u.heap.size u u'
theorem isloop_any (x : ArcD) (u : World) : Calls Try.prog 88 #[aggV x] u fun e u' => e = .returned (.bool (decide (x.frm = x.to))) ∧ Below u.heap.size u u' := by
  obtain ⟨t, ht⟩ : ∃ t, (x.frm == x.to) = t := ⟨_, rfl⟩
  have R := Lib.hid (show decide (x.frm = x.to) = t from ht)
  rw [R.out]
  clear R
  go_enter Try.func88, Try.ntmps88
  go_wp2_with fail
  go_ret
  exact ⟨by first | rfl | (rw [ht]), (Below.refl _ _).alloc (Nat.le_refl _) _⟩
theorem outpick (bn : Nat) (n : Int) (t : TypeId) (w : World) (h : Blk w bn t #[.int .i64 n]) : Picks 97 #[.pointer (some ⟨bn, 0, none⟩)] (fun x => decide (x.frm = n)) w := by
  intro x u hu
  obtain ⟨t, ht⟩ : ∃ t, (x.frm == n) = t := ⟨_, rfl⟩
  have R := Lib.hid (show decide (x.frm = n) = t from ht)
  show Calls _ _ _ _ fun e u' => e = .returned (.bool (decide (x.frm = n))) ∧ _
  rw [R.out]
  have B := h.below hu h.lt
  have x0 := B.cell 0
  have x1 := B.lt
  simp at x0
  clear R B h
  go_enter Try.func97, Try.ntmps97
  go_wp2_with fail
  go_ret
  exact ⟨by first | rfl | (rw [ht]), (Below.refl _ _).alloc (Nat.le_refl _) _⟩
theorem inpick (bn : Nat) (n : Int) (t : TypeId) (w : World) (h : Blk w bn t #[.int .i64 n]) : Picks 98 #[.pointer (some ⟨bn, 0, none⟩)] (fun x => decide (x.to = n)) w := by
  intro x u hu
  obtain ⟨t, ht⟩ : ∃ t, (x.to == n) = t := ⟨_, rfl⟩
  have R := Lib.hid (show decide (x.to = n) = t from ht)
  show Calls _ _ _ _ fun e u' => e = .returned (.bool (decide (x.to = n))) ∧ _
  rw [R.out]
  have B := h.below hu h.lt
  have x0 := B.cell 0
  have x1 := B.lt
  simp at x0
  clear R B h
  go_enter Try.func98, Try.ntmps98
  go_wp2_with fail
  go_ret
  exact ⟨by first | rfl | (rw [ht]), (Below.refl _ _).alloc (Nat.le_refl _) _⟩
theorem atpick (w : World) : Picks 126 #[] (fun _ => true) w := by
  intro x u hu
  show Calls _ _ _ _ fun e u' => e = .returned (.bool true) ∧ _
  go_enter Try.func126, Try.ntmps126
  go_wp2_with fail
  go_ret
  exact ⟨rfl, (Below.refl _ _).alloc (Nat.le_refl _) _⟩
theorem looppick (w : World) : Picks 88 #[] (fun x => decide (x.frm = x.to)) w := fun x u _ => isloop_any x u
end Go.Proofs.Ytajckihgfelbaaa.Adj
