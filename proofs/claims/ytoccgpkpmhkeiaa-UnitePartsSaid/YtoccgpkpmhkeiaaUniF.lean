/- Contracts of the document's answers for layer 5: groups. -/
import Derived.Test.YtoccgpkpmhkeiaaUniE
namespace Go.Proofs.Ytoccgpkpmhkeiaa.Uni
open Go.RowKit Go.Proofs.Ytoccgpkpmhkeiaa.Inst

theorem info_ints : (Try.prog.info? 25).map (fun i => (i.zero, i.size, i.bytes)) = some (some (.slice none 0 0), 1, 24) := by kernel_rfl
/-- Rows whose cells are of other kinds lie apart. -/
theorem own_apart {w : World} {b b' n n' sz sz' : Nat} {e e' : TypeId} {v v' : Value} {xs xs' : List Value} (h : w.ownsRow b e sz v n xs) (h' : w.ownsRow b' e' sz' v' n' xs') (he : e ≠ e') : v.ownBlock = none ∨ v.ownBlock ≠ v'.ownBlock := by
  rcases h.2 with ⟨rfl, _⟩ | ⟨g, cap, cur, rfl, _, hg, _⟩
  · exact .inl rfl
  · rcases h'.2 with ⟨rfl, _⟩ | ⟨g', cap', cur', rfl, _, hg', _⟩
    · exact .inr (by simp [Value.ownBlock])
    · refine .inr (fun q => ?_)
      simp [Value.ownBlock] at q
      subst q
      rw [hg] at hg'
      cases hg'
      exact he rfl
/-- A list of lists of one's own. -/
def GridOwn (w : World) (base : Nat) (v : Value) (G : List (List Nat)) : Prop :=
  ∃ VS, w.ownsRow base 25 1 v G.length VS ∧ VS.length = G.length ∧ ∀ i (h : i < VS.length) (g : i < G.length), w.ownsRow base 3 1 VS[i] G[i].length (natV G[i])
theorem GridOwn.grid {w : World} {base : Nat} {v : Value} {G : List (List Nat)} (h : GridOwn w base v G) : Grid w base v G := by
  obtain ⟨VS, ho, hl, hr⟩ := h
  obtain ⟨A, cap, rfl, hp⟩ := past_own ho
  refine ⟨A, cap, VS, rfl, hl, hp, fun i h1 h2 => ?_⟩
  exact past_own (hr i h1 h2)
theorem GridOwn.later {w u : World} {base : Nat} {v : Value} {G : List (List Nat)} (h : GridOwn w base v G) (hb : Below w.heap.size w u) : GridOwn u base v G := by
  obtain ⟨VS, ho, hl, hr⟩ := h
  exact ⟨VS, own_later ho hb, hl, fun i h1 h2 => own_later (hr i h1 h2) hb⟩
theorem gridOwn_nil (w : World) (base : Nat) : GridOwn w base (.slice none 0 0) [] := ⟨[], ⟨rfl, .inl ⟨rfl, rfl⟩⟩, rfl, fun i h _ => absurd h (by simp)⟩
/-- One more row. -/
theorem GridOwn.snoc {w u : World} {base : Nat} {v v1 lv : Value} {G : List (List Nat)} {l : List Nat} {VS : List Value} (hl : VS.length = G.length) (hr : ∀ i (h : i < VS.length) (g : i < G.length), w.ownsRow base 3 1 VS[i] G[i].length (natV G[i]))
    (hv : w.ownsRow base 25 1 v G.length VS) (hrow : w.ownsRow base 3 1 lv l.length (natV l)) (ho : u.ownsRow base 25 1 v1 (G.length + 1) (VS ++ [lv])) (hg : w.grownBy u v.ownBlock) : GridOwn u base v1 (G ++ [l]) := by
  refine ⟨VS ++ [lv], by rw [List.length_append]; exact ho, by simp [hl], fun i h1 h2 => ?_⟩
  have keep : ∀ {x : Value} {n : Nat} {xs : List Value}, w.ownsRow base 3 1 x n xs → u.ownsRow base 3 1 x n xs := by
    intro x n xs hx
    rcases own_apart hx hv (by decide) with q | q
    · rcases hx with ⟨h1, ⟨rfl, h2⟩ | ⟨g, cap, cur, rfl, _⟩⟩
      · exact ⟨h1, .inl ⟨rfl, h2⟩⟩
      · simp [Value.ownBlock] at q
    · exact hx.kept hg (Or.inr q)
  by_cases c : i < VS.length
  · have c2 : i < G.length := by omega
    simp only [List.getElem_append_left c, List.getElem_append_left c2]
    exact keep (hr i c c2)
  · have c1 : i = VS.length := by simp at h1; omega
    have e1 : (VS ++ [lv])[i] = lv := by subst c1; simp
    have e2 : (G ++ [l])[i] = l := by subst c1; simp [hl]
    rw [e1, e2]
    exact keep hrow
theorem gridOwn_parts {w : World} {base : Nat} {v : Value} {G : List (List Nat)} (h : GridOwn w base v G) : ∃ A cap VS, v = .slice A G.length cap ∧ G.length ≤ cap ∧ w.ownsRow base 25 1 (.slice A G.length cap) G.length VS ∧ VS.length = G.length ∧ ∀ i (h : i < VS.length) (g : i < G.length), w.ownsRow base 3 1 VS[i] G[i].length (natV G[i]) := by
  obtain ⟨VS, ho, hl, hr⟩ := h
  obtain ⟨_, A, cap, rfl, hc, _, _⟩ := own_cells ho
  exact ⟨A, cap, VS, rfl, hc, ho, hl, hr⟩

theorem off_put (w : World) {lo hi p : Nat} (o : Nat) (v : Value) (h1 : lo ≤ p) (h2 : p < hi) : Off lo hi w (w.setCell ⟨p, o, none⟩ v) :=
  ⟨rfl, rfl, rfl, by simp [World.setCell], fun k _ hf => Below.heap_setCell w ⟨p, o, none⟩ v k (by show k ≠ p; omega)⟩
theorem natV_set (N : List Nat) (i x : Nat) : natV (N.set i x) = (natV N).set i (.int .i64 (x : Int)) := by simp [natV, numV, List.map_set]
theorem own_off {w u : World} {base n sz lo hi : Nat} {e : TypeId} {v : Value} {xs : List Value} (h : w.ownsRow base e sz v n xs) (ho : Off lo hi w u) (hf : ∀ g, v.ownBlock = some g → g < lo ∨ hi ≤ g) : u.ownsRow base e sz v n xs := by
  have hl := own_lt h
  obtain ⟨h1, h2⟩ := h
  refine ⟨h1, ?_⟩
  rcases h2 with q | ⟨g', cap', cur, q, h3, h4, h5⟩
  · exact .inl q
  · subst q
    exact .inr ⟨g', cap', cur, rfl, h3, (ho.block g' (hl g' (by simp [Value.ownBlock])) (hf g' (by simp [Value.ownBlock]))).trans h4, h5⟩
/-- Blocks from w's size on, and one row of them. -/
theorem Off.grown {w u v : World} {lo hi : Nat} {row : Option Nat} (h : Off lo hi w u) (hg : u.grownBy v row) (hr : ∀ g, row = some g → w.heap.size ≤ g) : Off lo hi w v :=
  ⟨hg.os.trans h.os, hg.tape.trans h.tape, hg.output.trans h.output, Nat.le_trans h.size hg.size, fun k hk hf => (hg.block k (Nat.lt_of_lt_of_le hk h.size) (fun e => by have := hr k e.symm; omega)).trans (h.block k hk hf)⟩
theorem off_of_grown {w u : World} {hi : Nat} {row : Option Nat} (hg : w.grownBy u row) (hr : ∀ g, row = some g → hi ≤ g) : Off hi w.heap.size w u :=
  ⟨hg.os, hg.tape, hg.output, hg.size, fun k hk hf => hg.block k hk (fun e => by have := hr k e.symm; omega)⟩

/-- As far as k. -/
def groupN (L : List Nat) (n k : Nat) : List Nat := (List.range k).filter fun j => decide (L.getD j 0 = n)
def rootsN (L : List Nat) (k : Nat) : List Nat := (List.range k).filter fun j => decide (L.getD j 0 = j)
def groupsN (L : List Nat) (k : Nat) : List (List Nat) := (rootsN L k).map (groupL L)
theorem filter_one (p : Nat → Bool) (k : Nat) : [k].filter p = if p k = true then [k] else [] := by simp [List.filter_cons]
theorem groupN_succ (L : List Nat) (n k : Nat) : groupN L n (k + 1) = groupN L n k ++ (if L.getD k 0 = n then [k] else []) := by
  unfold groupN
  rw [List.range_succ, List.filter_append, filter_one]
  congr 1
  by_cases c : L.getD k 0 = n
  · rw [if_pos c, if_pos (decide_eq_true c)]
  · rw [if_neg c, if_neg (by rw [decide_eq_false c]; exact Bool.false_ne_true)]
theorem groupsN_succ (L : List Nat) (k : Nat) : groupsN L (k + 1) = groupsN L k ++ (if L.getD k 0 = k then [groupL L k] else []) := by
  unfold groupsN rootsN
  rw [List.range_succ, List.filter_append, List.map_append, filter_one]
  congr 1
  by_cases c : L.getD k 0 = k
  · rw [if_pos c, if_pos (decide_eq_true c)]
    rfl
  · rw [if_neg c, if_neg (by rw [decide_eq_false c]; exact Bool.false_ne_true)]
    rfl
theorem groupN_length (L : List Nat) (n k : Nat) : (groupN L n k).length ≤ k := Nat.le_trans (List.length_filter_le _ _) (by rw [List.length_range]; exact Nat.le_refl _)
theorem groupsN_length (L : List Nat) (k : Nat) : (groupsN L k).length ≤ k := by
  unfold groupsN rootsN
  rw [List.length_map]
  exact Nat.le_trans (List.length_filter_le _ _) (by rw [List.length_range]; exact Nat.le_refl _)
theorem groupN_all (L : List Nat) (n : Nat) : groupN L n L.length = groupL L n := rfl
theorem groupsN_all (L : List Nat) : groupsN L L.length = groupsL L := rfl
end Go.Proofs.Ytoccgpkpmhkeiaa.Uni
