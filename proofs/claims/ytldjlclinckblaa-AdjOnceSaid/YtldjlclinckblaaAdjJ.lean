/- The law AdjMore: its walk. -/
import Derived.Test.YtldjlclinckblaaAdjI
import Derived.Test.YtldjlclinckblaaAdjMathC
import Derived.Lib.SliceRun
import Derived.Deep.RegionHeld3
namespace Go.Proofs.Ytldjlclinckblaa.Adj
open Go.RowKit Go.Proofs.Ytldjlclinckblaa.Inst

theorem row_get {vs : List Value} {w : World} {b off : Nat} (h : ∀ i (h : i < vs.length), w.cell? ⟨b, off + i, none⟩ = some vs[i]) : ∀ j u, vs[j]? = some u → w.cell? ((⟨b, off, none⟩ : Addr).add j) = some u := by
  intro j u hj
  rcases Nat.lt_or_ge j vs.length with hl | hl
  · rw [List.getElem?_eq_getElem hl] at hj
    cases hj
    rw [Addr.add_lit]
    exact h j hl
  · rw [List.getElem?_eq_none hl] at hj
    cases hj
theorem cells_get0 {w : World} {B : Nat} {p : Addr} {vs : List Value} (h : Cells w B (some p) vs) : ∀ j u, vs[j]? = some u → w.cell? (p.add j) = some u := by
  intro j u hj
  rcases Nat.lt_or_ge j vs.length with hl | hl
  · obtain ⟨b, off, e, hb, hc⟩ := h (by omega)
    cases e
    exact row_get hc j u hj
  · rw [List.getElem?_eq_none hl] at hj
    cases hj
theorem numV_one (l : List Int) : ∀ u ∈ numV l, u.oneCell' = true := by
  intro u hu
  unfold numV at hu
  rw [List.mem_map] at hu
  obtain ⟨x, _, rfl⟩ := hu
  rfl

/-- At the head of the loop. -/
def MoreRel (W9 : World) (n : Nat) (s : Value) (u : World) : Prop := ∃ k : Nat, k ≤ n ∧ s = .int .i64 (k : Int) ∧ Below W9.heap.size W9 u
theorem made_far {w u : World} {sB q : Nat} {aV : Value} {sup : List Int} {arcs : List ArcD} (h : Made w u sB aV sup arcs) (o : Nat) (v : Value) (h1 : sB ≠ q) (h2 : aV.ownBlock ≠ some q) (h3 : w.heap.size ≤ q) : Made w (u.setCell ⟨q, o, none⟩ v) sB aV sup arcs :=
  ⟨h.sup.far h1 v, own_far h.arcs h2 v, h.far, h.new, h.below.setCell h3 v⟩

theorem own_at_of2 {w u : World} {base n sz : Nat} {e : TypeId} {x : Value} {xs : List Value} (h : w.ownsRow base e sz x n xs) (hb : ∀ i, x.ownBlock = some i → u.heap[i]? = w.heap[i]?) : u.ownsRow base e sz x n xs := by
  obtain ⟨hl, hr⟩ := h
  refine ⟨hl, ?_⟩
  rcases hr with h1 | ⟨g', cap', cur, h1, h2, h3, h4⟩
  · exact .inl h1
  · exact .inr ⟨g', cap', cur, h1, h2, (hb g' (by rw [h1]; simp [Value.ownBlock])).trans h3, h4⟩
/-- What is told, its length under a name. -/
def TellsK (l : List Nat) (n : Nat) (w : World) (e : Ending) (w' : World) : Prop := ∃ A cap, e = .returned (.slice A n cap) ∧ Cells w' w'.heap.size A (natV l) ∧ Below w.heap.size w w'
theorem tells_k {l : List Nat} {n : Nat} (hn : l.length = n) {w w' : World} {e : Ending} (h : TellsNats l w e w') : TellsK l n w e w' := by
  subst hn
  obtain ⟨A, cap, he, _, hc, hb, _⟩ := h
  exact ⟨A, cap, he, hc, hb⟩
/-- Three rows of numbers, each of its own. -/
structure Rows3 (B0 : Nat) (u : World) (v1 v2 v3 : Value) (n1 n2 n3 : Nat) (l1 l2 l3 : List Nat) : Prop where
  r1 : u.ownsRow B0 3 1 v1 n1 (natV l1)
  r2 : u.ownsRow B0 3 1 v2 n2 (natV l2)
  r3 : u.ownsRow B0 3 1 v3 n3 (natV l3)
  d12 : ∀ g, v1.ownBlock = some g → v2.ownBlock ≠ some g
  d13 : ∀ g, v1.ownBlock = some g → v3.ownBlock ≠ some g
  d23 : ∀ g, v2.ownBlock = some g → v3.ownBlock ≠ some g
theorem Rows3.later {B0 : Nat} {u v : World} {v1 v2 v3 : Value} {n1 n2 n3 : Nat} {l1 l2 l3 : List Nat} (h : Rows3 B0 u v1 v2 v3 n1 n2 n3 l1 l2 l3) (hb : Below u.heap.size u v) : Rows3 B0 v v1 v2 v3 n1 n2 n3 l1 l2 l3 :=
  ⟨own_later h.r1 hb, own_later h.r2 hb, own_later h.r3 hb, h.d12, h.d13, h.d23⟩
theorem ne_of {v v' : Value} {g H : Nat} {u : World} {B0 n : Nat} {xs : List Value} (hr : u.ownsRow B0 3 1 v' n xs) (hH : u.heap.size ≤ H) (hat : v.ownBlock = some g ∨ g = H) (hd : ∀ k, v.ownBlock = some k → v'.ownBlock ≠ some k) : v'.ownBlock ≠ some g := by
  rcases hat with h | h
  · exact hd g h
  · intro e
    have := own_lt hr g e
    omega
theorem flip_ne {v v' : Value} (h : ∀ k, v.ownBlock = some k → v'.ownBlock ≠ some k) : ∀ k, v'.ownBlock = some k → v.ownBlock ≠ some k := fun k h1 h2 => h k h2 h1
theorem own_some {g n c : Nat} {k : Nat} (h : (Value.slice (some ⟨g, 0, none⟩) n c).ownBlock = some k) : g = k := by simpa [Value.ownBlock] using h
theorem kept_of {u w1 : World} {o : Obj} {B0 n : Nat} {v v' : Value} {xs : List Value} (hr : u.ownsRow B0 3 1 v' n xs) (hg : (u.alloc o).grownBy w1 v.ownBlock) (hd : ∀ k, v.ownBlock = some k → v'.ownBlock ≠ some k) : w1.ownsRow B0 3 1 v' n xs := by
  refine own_at_of2 hr (fun i hi => ?_)
  have lt := own_lt hr i hi
  exact (hg.block i (by rw [World.size_alloc]; omega) (fun e => hd i e.symm hi)).trans (Below.heap_alloc u o i lt)
theorem Rows3.app1 {B0 : Nat} {u w1 : World} {o : Obj} {v1 v2 v3 : Value} {n1 n2 n3 : Nat} {l1 l2 l3 : List Nat} {m g cap : Nat} (h : Rows3 B0 u v1 v2 v3 n1 n2 n3 l1 l2 l3) (hw : w1.ownsRow B0 3 1 (.slice (some ⟨g, 0, none⟩) (n1 + 1) cap) (n1 + 1) (natV l1 ++ [.int .i64 (m : Int)])) (hg : (u.alloc o).grownBy w1 v1.ownBlock) (hat : v1.ownBlock = some g ∨ g = u.heap.size + 1) :
    Rows3 B0 w1 (.slice (some ⟨g, 0, none⟩) (n1 + 1) cap) v2 v3 (n1 + 1) n2 n3 (l1 ++ [m]) l2 l3 := by
  refine ⟨by rw [natV_snoc]; exact hw, kept_of h.r2 hg h.d12, kept_of h.r3 hg h.d13, fun k hk => ?_, fun k hk => ?_, h.d23⟩
  · rw [← own_some hk]; exact ne_of h.r2 (Nat.le_succ _) hat h.d12
  · rw [← own_some hk]; exact ne_of h.r3 (Nat.le_succ _) hat h.d13
theorem Rows3.app2 {B0 : Nat} {u w1 : World} {o : Obj} {v1 v2 v3 : Value} {n1 n2 n3 : Nat} {l1 l2 l3 : List Nat} {m g cap : Nat} (h : Rows3 B0 u v1 v2 v3 n1 n2 n3 l1 l2 l3) (hw : w1.ownsRow B0 3 1 (.slice (some ⟨g, 0, none⟩) (n2 + 1) cap) (n2 + 1) (natV l2 ++ [.int .i64 (m : Int)])) (hg : (u.alloc o).grownBy w1 v2.ownBlock) (hat : v2.ownBlock = some g ∨ g = u.heap.size + 1) :
    Rows3 B0 w1 v1 (.slice (some ⟨g, 0, none⟩) (n2 + 1) cap) v3 n1 (n2 + 1) n3 l1 (l2 ++ [m]) l3 := by
  refine ⟨kept_of h.r1 hg (flip_ne h.d12), by rw [natV_snoc]; exact hw, kept_of h.r3 hg h.d23, fun k hk e => ?_, h.d13, fun k hk => ?_⟩
  · have q := own_some e
    subst q
    exact ne_of h.r1 (Nat.le_succ _) hat (flip_ne h.d12) hk
  · rw [← own_some hk]; exact ne_of h.r3 (Nat.le_succ _) hat h.d23
theorem Rows3.app3 {B0 : Nat} {u w1 : World} {o : Obj} {v1 v2 v3 : Value} {n1 n2 n3 : Nat} {l1 l2 l3 : List Nat} {m g cap : Nat} (h : Rows3 B0 u v1 v2 v3 n1 n2 n3 l1 l2 l3) (hw : w1.ownsRow B0 3 1 (.slice (some ⟨g, 0, none⟩) (n3 + 1) cap) (n3 + 1) (natV l3 ++ [.int .i64 (m : Int)])) (hg : (u.alloc o).grownBy w1 v3.ownBlock) (hat : v3.ownBlock = some g ∨ g = u.heap.size + 1) :
    Rows3 B0 w1 v1 v2 (.slice (some ⟨g, 0, none⟩) (n3 + 1) cap) n1 n2 (n3 + 1) l1 l2 (l3 ++ [m]) := by
  refine ⟨kept_of h.r1 hg (flip_ne h.d13), kept_of h.r2 hg (flip_ne h.d23), by rw [natV_snoc]; exact hw, h.d12, fun k hk e => ?_, fun k hk e => ?_⟩
  · have q := own_some e
    subst q
    exact ne_of h.r1 (Nat.le_succ _) hat (flip_ne h.d13) hk
  · have q := own_some e
    subst q
    exact ne_of h.r2 (Nat.le_succ _) hat (flip_ne h.d23) hk
theorem rows_mk {B0 : Nat} {u0 ua ub uc : World} {v1 v2 v3 : Value} {n1 n2 n3 : Nat} {l1 l2 l3 : List Nat} (h0 : B0 ≤ u0.heap.size) (b0 : Below u0.heap.size u0 ua) (t1 : ua.ownsRow u0.heap.size 3 1 v1 n1 (natV l1)) (b1 : Below ua.heap.size ua ub) (t2 : ub.ownsRow ua.heap.size 3 1 v2 n2 (natV l2)) (b2 : Below ub.heap.size ub uc) (t3 : uc.ownsRow ub.heap.size 3 1 v3 n3 (natV l3)) :
    Rows3 B0 uc v1 v2 v3 n1 n2 n3 l1 l2 l3 := by
  have z0 := b0.size
  have z1 := b1.size
  have z2 := b2.size
  refine ⟨own_base (own_later (own_later t1 b1) b2) h0, own_base (own_later t2 b2) (by omega), own_base t3 (by omega), fun g h1 h2 => ?_, fun g h1 h2 => ?_, fun g h1 h2 => ?_⟩
  · have := own_lt t1 g h1; have := own_ge t2 g h2; omega
  · have := own_lt t1 g h1; have := own_ge t3 g h2; omega
  · have := own_lt t2 g h1; have := own_ge t3 g h2; omega
theorem some_1000b (I : InstD) (n : Int) (o i : Bool) (h : I.arcs.length ≤ 1000) : (someD I n o i).length ≤ 1000 := Nat.le_trans (someN_length I n o i _) h
theorem keepM {w9 w w' : World} {p r : Nat} {a b c : Value} (hp : p < w9.heap.size) (hr : r < w9.heap.size) (h : w.cell? ⟨p, 1, none⟩ = some a ∧ w.cell? ⟨r, 0, none⟩ = some b ∧ w.cell? ⟨r, 1, none⟩ = some c ∧ Below w9.heap.size w9 w) (hb : Below w.heap.size w w') :
    w'.cell? ⟨p, 1, none⟩ = some a ∧ w'.cell? ⟨r, 0, none⟩ = some b ∧ w'.cell? ⟨r, 1, none⟩ = some c ∧ Below w9.heap.size w9 w' := by
  obtain ⟨h1, h2, h3, h4⟩ := h
  have z := h4.size
  exact ⟨(hb.cell (p := ⟨p, 1, none⟩) (by show p < _; omega)).trans h1, (hb.cell (p := ⟨r, 0, none⟩) (by show r < _; omega)).trans h2, (hb.cell (p := ⟨r, 1, none⟩) (by show r < _; omega)).trans h3, chain2 h4 hb⟩
theorem below_app {w9 u w1 : World} {o : Obj} {v : Value} {n : Nat} {xs : List Value} (hb : Below w9.heap.size w9 u) (hr : u.ownsRow w9.heap.size 3 1 v n xs) (hg : (u.alloc o).grownBy w1 v.ownBlock) : Below w9.heap.size w9 w1 :=
  (hb.alloc hb.size o).grown hg (by rw [World.size_alloc]; have := hb.size; omega) (own_ge hr)
theorem own_slice {w : World} {base n sz cap : Nat} {e : TypeId} {A : Option Addr} {vs : List Value} (h : w.ownsRow base e sz (.slice A n cap) n vs) : Cells w w.heap.size A vs := own_row h

set_option maxRecDepth 100000 in
set_option maxHeartbeats 8000000 in
theorem more_walk {Gr : World → Nat → InstD → Prop} (C : AdjC Gr) {W : World} (s : Option Addr) (l c : Nat) (xs : List Nat) (hl : xs.length = l) (h9 : l ≤ 140737488355328) (hx : Octs xs) (hs : Cells W W.heap.size s (octV xs)) (s' : Option Addr) (l' c' : Nat) (ys : List Nat) (hl' : ys.length = l') (h9' : l' ≤ 140737488355328) (hy : Octs ys) (hs' : Cells W W.heap.size s' (octV ys)) (uu : Int) (huu : U8 uu) (vv : Int) (hvv : U8 vv) :
    Calls Try.prog 8 #[.slice s l c, .slice s' l' c', .int .u8 uu, .int .u8 vv] W fun e W' => e = .returned (.bool true) ∧ Below W.heap.size W W' := by
  unfold U8 at huu hvv
  obtain ⟨u8, rfl⟩ : ∃ k : Nat, uu = k := ⟨uu.toNat, by omega⟩
  obtain ⟨v8, rfl⟩ : ∃ k : Nat, vv = k := ⟨vv.toNat, by omega⟩
  have IN := Lib.hid (fun w' (h : Below W.heap.size W w') => inst_any s s' c c' xs ys hx hy (by omega) (by omega) w' (hs.later (Nat.le_refl _) h) (hs'.later (Nat.le_refl _) h))
  rw [hl, hl'] at IN
  obtain ⟨I, hI⟩ : ∃ I, I = instC xs ys := ⟨_, rfl⟩
  have i0 := instC_sup xs ys
  have i1 := instC_arcs xs ys
  have i2 := nodesC_bd ys
  rw [← hI] at IN i0 i1
  obtain ⟨n, hn⟩ : ∃ n, n = nodesC ys := ⟨_, rfl⟩
  rw [← hn] at IN i0 i2
  obtain ⟨m, hm⟩ : ∃ m, m = I.arcs.length := ⟨_, rfl⟩
  rw [← hm] at i1
  have HN := Lib.hid i0
  have HM := Lib.hid hm.symm
  obtain ⟨n1, n7⟩ := i2
  have KN := Lib.hid (fun w => known_any C w)
  obtain ⟨U, hU⟩ : ∃ K, K = u8 % n := ⟨_, rfl⟩
  obtain ⟨V, hV⟩ : ∃ K, K = v8 % n := ⟨_, rfl⟩
  have lu : U < n := by rw [hU]; exact Nat.mod_lt _ (by omega)
  have lv : V < n := by rw [hV]; exact Nat.mod_lt _ (by omega)
  have wu : IntKind.i64.wrap (u8 : Int) = (u8 : Int) := wrap_id (by omega) (by omega)
  have wv : IntKind.i64.wrap (v8 : Int) = (v8 : Int) := wrap_id (by omega) (by omega)
  have qu : (u8 : Int) % (n : Int) = (U : Int) := by rw [hU]; omega
  have qv : (v8 : Int) % (n : Int) = (V : Int) := by rw [hV]; omega
  have tu : (u8 : Int).tmod (n : Int) = (U : Int) := by rw [Int.tmod_eq_emod_of_nonneg (by omega)]; exact qu
  have tv : (v8 : Int).tmod (n : Int) = (V : Int) := by rw [Int.tmod_eq_emod_of_nonneg (by omega)]; exact qv
  have wtu : (IntKind.i64.wrap (u8 : Int)).tmod (n : Int) = (U : Int) := by rw [wu]; exact tu
  have wtv : (IntKind.i64.wrap (v8 : Int)).tmod (n : Int) = (V : Int) := by rw [wv]; exact tv
  have n0 : ¬ n = 0 := by omega
  obtain ⟨ii, hi0, hz0, hz1, hz2⟩ := info_parts info_arc
  have G0 := Lib.hid hi0
  have G1 := Lib.hid hz0
  have G2 := Lib.hid hz1
  have G3 := Lib.hid hz2
  clear hI hn hm i0 hs hs' hx hy hU hV hi0 hz0 hz1 hz2
  go_enter Try.func8, Try.ntmps8
  go_upto_region 2 with (go_at_call 11; (with_reducible refine (IN.out _ (Below.refl _ _)).mono ?_); rintro e w1 ⟨sA, aV, rfl, hM⟩; obtain ⟨-, A, ca, ea, -, -, -⟩ := own_cells hM.arcs; subst ea; rw [HM.out] at hM; rw [HM.out]; have M1 := Lib.hid hM; clear hM)
  obtain ⟨p, hp⟩ : ∃ p, p = w1.heap.size := ⟨_, rfl⟩
  obtain ⟨W2, hW2⟩ : ∃ W2, W2 = w1.alloc (.cells #[.slice (some ⟨sA, 0, none⟩) n n, .slice A m ca] 25) := ⟨_, rfl⟩
  have M2 := Lib.hid (show Made W W2 sA (.slice A m ca) I.sup I.arcs by rw [hW2]; exact M1.out.alloc _)
  have BP := Lib.hid (show Blk W2 p 25 #[.slice (some ⟨sA, 0, none⟩) n n, .slice A m ca] by rw [hW2]; exact blk_at hp.symm _ _)
  have BW2 := Lib.hid M2.out.below
  have HI := Lib.hid (Made.here M2.out (I := I) HN.out HM.out (by omega) (by omega))
  rw [← hW2, ← hp]
  clear hp hW2 M1
  have x0 := BP.out.cell 0
  have x1 := BP.out.cell 1
  have x2 := BP.out.lt
  simp at x0 x1
  go_upto_region 3 with fail
  go_region
  obtain ⟨b, hb⟩ : ∃ b : ArcD, b = ⟨U, V, 0, 1, 0⟩ := ⟨_, rfl⟩
  obtain ⟨r, hr⟩ : ∃ r, r = W2.heap.size := ⟨_, rfl⟩
  obtain ⟨W3, hW3⟩ : ∃ W3, W3 = (W2.alloc (.cells #[.int .i64 (U : Int), .int .i64 (V : Int), .int .i64 0, .int .i64 1, .int .i64 0] 41)).drew := ⟨_, rfl⟩
  rw [← hW3, ← hr]
  have B23 := Lib.hid (show Below W2.heap.size W2 W3 by rw [hW3]; exact ((Below.refl _ _).alloc (Nat.le_refl _) _).drew)
  have BR := Lib.hid (show Blk W3 r 41 (arcCs b) by rw [hW3, hb]; exact (blk_at hr.symm _ _).drew)
  have BP3 := Lib.hid (BP.out.below B23.out BP.out.lt)
  have PR := Lib.hid (show p < r by rw [hr]; exact BP.out.lt)
  have HB := Lib.hid hb
  clear x0 x1 x2 hb hW3
  have x0 := BP3.out.cell 0
  have x1 := BP3.out.cell 1
  have x2 := BP3.out.lt
  simp at x0 x1
  go_upto_region 5 with fail
  obtain ⟨q, hq⟩ : ∃ q, q = W3.heap.size := ⟨_, rfl⟩
  obtain ⟨W4, hW4⟩ : ∃ W4, W4 = W3.alloc (.cells #[.slice (some ⟨sA, 0, none⟩) n n, .slice none 0 0] 25) := ⟨_, rfl⟩
  rw [← hW4, ← hq]
  have B34 := Lib.hid (show Below W3.heap.size W3 W4 by rw [hW4]; exact (Below.refl _ _).alloc (Nat.le_refl _) _)
  have BQ4 := Lib.hid (show Blk W4 q 25 #[.slice (some ⟨sA, 0, none⟩) n n, .slice none 0 0] by rw [hW4]; exact blk_at hq.symm _ _)
  have BR4 := Lib.hid (BR.out.below B34.out BR.out.lt)
  have BP4 := Lib.hid (BP3.out.below B34.out BP3.out.lt)
  have BW4 := Lib.hid (chain2 BW2.out (chain2 B23.out B34.out))
  have HI4 := Lib.hid (HI.out.later (chain2 B23.out B34.out))
  have Q3 := Lib.hid (show W3.heap.size ≤ q by rw [hq]; exact Nat.le_refl _)
  have M3 := Lib.hid (M2.out.step B23.out)
  have RQ := Lib.hid (show p < r ∧ r < q from ⟨PR.out, by rw [hq]; exact BR.out.lt⟩)
  clear x0 x1 x2 hr hq hW4
  have x0 := BP4.out.cell 0
  have x1 := BP4.out.cell 1
  have x2 := BP4.out.lt
  have y0 := BQ4.out.cell 0
  have y1 := BQ4.out.cell 1
  have y2 := BQ4.out.lt
  have yf := BQ4.out.frozen 1
  simp at x0 x1 y0 y1
  go_cut [] (fun wx => ∃ v, Blk wx q 25 #[.slice (some ⟨sA, 0, none⟩) n n, v] ∧ wx.ownsRow W4.heap.size 41 5 v m (arcV I.arcs) ∧ Below W3.heap.size W3 wx ∧ W4.heap.size ≤ wx.heap.size)
  case first =>
    cases A with
    | none =>
      have m0 : m = 0 := by
        by_cases h : 0 < m
        · obtain ⟨_, _, e, _⟩ := arcs_at HI4.out.is.arcs (by rw [HM.out]; exact h)
          cases e
        · omega
      subst m0
      go_upto_region 6 with fail
      go_meet
      case rel =>
        have O0 : W4.ownsRow W4.heap.size 41 5 (.slice none 0 0) 0 (arcV I.arcs) := by
          rw [show I.arcs = [] from List.length_eq_zero_iff.1 HM.out]
          exact ⟨rfl, .inl ⟨rfl, rfl⟩⟩
        exact ⟨_, BQ4.out.set_ 1 _, own_far O0 (fun e => by simp [Value.ownBlock] at e) _, B34.out.setCell Q3.out _, by simp⟩
    | some a =>
      have O0 : W4.ownsRow W4.heap.size 41 5 (.slice none 0 0) 0 [] := ⟨rfl, .inl ⟨rfl, rfl⟩⟩
      go_upto_region 6 with (
        at_builtin
        go_loud (
          refine wpList_append_own _ rfl _ _ 23 rfl W4.heap.size 41 ii _ 5 40 Try.underlying23 G0.out G1.out G2.out G3.out rfl (by decide) (.slice none 0 0) 0 _ rfl O0 a m ca (arcV I.arcs) rfl ?qc1 ?qc2 ?qc3 ?qc4 ?qc5 ?qc6 ?_
          case qc1 => rw [arcV_length, HM.out]
          case qc2 => exact cells_get0 HI4.out.is.arcs
          case qc3 => exact numV_one _
          case qc4 => unfold maxLen; omega
          case qc5 => omega
          case qc6 => simp
          intro v1 u1 hown1 hgrow1 _
          simp only [Nat.zero_add, List.nil_append] at hown1
          obtain ⟨-, A1, c1, ev, -, -, -⟩ := own_cells hown1
          subst ev
          have OW := Lib.hid hown1
          have BU := Lib.hid (show Below W4.heap.size W4 u1 from (Below.refl _ _).grown hgrow1 (by simp) (by intro g h; simp [Value.ownBlock] at h))
          have BQ5 := Lib.hid (BQ4.out.below BU.out BQ4.out.lt)
          have u0 := BQ5.out.cell 0
          have ug := BQ5.out.cell 1
          have uf := BQ5.out.frozen 1
          have ul := BQ5.out.lt
          simp at u0 ug
          clear hown1 hgrow1))
      go_meet
      case rel =>
        have ne : (Value.slice A1 m c1).ownBlock ≠ some q := fun e => by have := own_ge OW.out _ e; have := BQ4.out.lt; omega
        exact ⟨_, BQ5.out.set_ 1 _, own_far OW.out ne _, (chain2 B34.out BU.out).setCell Q3.out _, by have := BU.out.size; simp; omega⟩
  case rest =>
    obtain ⟨v, hQ, hO, hB3, hz⟩ := hcut
    have hP := BP3.out.below hB3 BP3.out.lt
    have hR := BR.out.below hB3 BR.out.lt
    have B3C := Lib.hid hB3
    have HQ := Lib.hid hQ
    obtain ⟨-, B, cv, ev, -, -, -⟩ := own_cells hO
    subst ev
    have HO := Lib.hid hO
    have HP := Lib.hid hP
    have HR := Lib.hid hR
    clear hQ hO hP hR hB3 x0 x1 x2 y0 y1 y2 yf
    have x0 := HP.out.cell 0
    have x1 := HP.out.cell 1
    have x2 := HP.out.lt
    have y0 := HQ.out.cell 0
    have y1 := HQ.out.cell 1
    have y2 := HQ.out.lt
    have yf := HQ.out.frozen 1
    have z0 := HR.out.cell 0
    have z1 := HR.out.cell 1
    have z2 := HR.out.cell 2
    have z3 := HR.out.cell 3
    have z4 := HR.out.cell 4
    have z5 := HR.out.lt
    simp at x0 x1 y0 y1 z0 z1 z2 z3 z4
    go_upto_region 7 with (
      at_builtin
      go_loud (
        refine wpList_append_own _ rfl _ _ 23 rfl W4.heap.size 41 ii _ 5 40 Try.underlying23 G0.out G1.out G2.out G3.out rfl (by decide) (.slice B m cv) m _ rfl (HO.out.alloc _) ⟨wc.heap.size, 0, none⟩ 1 1 [nv b.frm, nv b.to, nv b.low, nv b.cap, nv b.cost] rfl rfl ?c1 ?c2 ?c3 ?c4 ?c5 ?_
        case c1 => exact cell_five_new _ _ _ _ _ _ _
        case c2 => simp [Value.oneCell', nv]
        case c3 => simp only [maxLen]; omega
        case c4 => omega
        case c5 => simp; omega
        intro v1 u1 hown1 hgrow1 _
        obtain ⟨-, A1, c1, ev, -, -, -⟩ := own_cells hown1
        subst ev
        have OW := Lib.hid hown1
        have GR := Lib.hid hgrow1
        have ge := own_ge HO.out
        have BQ5 := Lib.hid (show Blk u1 q 25 #[.slice (some ⟨sA, 0, none⟩) n n, .slice B m cv] from (hgrow1.block _ (by simp; omega) (fun e => by have := ge q e.symm; have := BQ4.out.lt; omega)).trans (HQ.out.alloc _))
        have u0 := BQ5.out.cell 0
        have ug := BQ5.out.cell 1
        have uf := BQ5.out.frozen 1
        have ul := BQ5.out.lt
        simp at u0 ug
        clear hown1 hgrow1))
    obtain ⟨M, hMM⟩ : ∃ M, M = m + 1 := ⟨_, rfl⟩
    rw [← hMM] at OW ⊢
    obtain ⟨W7, hW7⟩ : ∃ W7, W7 = u1.setCell ⟨q, 1, none⟩ (.slice A1 M c1) := ⟨_, rfl⟩
    rw [← hW7]
    have HMM := Lib.hid hMM
    have gB : ∀ g, (Value.slice B m cv).ownBlock = some g → W4.heap.size ≤ g := own_ge HO.out
    have s34 := B34.out.size
    have B37 := Lib.hid (show Below W3.heap.size W3 W7 by
      rw [hW7]
      exact ((B3C.out.alloc B3C.out.size _).grown GR.out (by have := B3C.out.size; simp; omega) (fun g h => by have := gB g h; omega)).setCell Q3.out _)
    have M7 := Lib.hid (M3.out.step B37.out)
    have HI7 := Lib.hid (Made.here M7.out (I := I) HN.out HM.out (by omega) (by omega))
    have BP7 := Lib.hid (BP3.out.below B37.out BP3.out.lt)
    have BR7 := Lib.hid (BR.out.below B37.out BR.out.lt)
    have O7 := Lib.hid (show W7.ownsRow W4.heap.size 41 5 (.slice A1 M c1) M (arcV (I.arcs ++ [b])) by
      rw [hW7, arcV_snoc]
      exact own_far OW.out (fun e => by have h : W4.heap.size ≤ q := own_ge OW.out _ e; have := BQ4.out.lt; omega) _)
    have BQ7 := Lib.hid (show Blk W7 q 25 #[.slice (some ⟨sA, 0, none⟩) n n, .slice A1 M c1] by rw [hW7]; exact BQ5.out.set_ 1 _)
    have HJ7 := Lib.hid (show Here W7 (some ⟨sA, 0, none⟩) A1 n M (moreD I b) from ⟨⟨by show I.sup.length ≤ _; rw [HN.out]; omega, by rw [moreD_length, HM.out]; omega, HI7.out.is.sup, own_row O7.out⟩, HN.out, by rw [moreD_length, HM.out]; exact HMM.out.symm⟩)
    have BW7 := Lib.hid M7.out.below
    have HRR := Lib.hid BR7.out
    clear hW7 hMM u0 ug uf ul x0 x1 x2 y0 y1 y2 yf z0 z1 z2 z3 z4 z5 gB OW GR BQ5 HO HQ HP HR B3C BP4 BQ4 BR4 HI4 M2 M3 BP3 BR B23 B34 hz
    have m9 : I.arcs.length ≤ 1000 := by rw [HM.out]; omega
    have ME : EndsIn I b := by
      rw [HB.out]
      unfold EndsIn
      rw [HN.out]
      simp
      omega
    have MD := Lib.hid ME
    have NG := Lib.hid (C.new _ _ n ca n m I W7 HI7.out (by omega) (by omega))
    have NH := Lib.hid (fun u (h : Below W7.heap.size W7 u) => C.new _ _ n c1 n M (moreD I b) u (HJ7.out.later h) (by omega) (by have := HMM.out; omega))
    have YQ := Lib.hid (fun u (h : Below W7.heap.size W7 u) => (show u.cell? ⟨q, 0, none⟩ = some (.slice (some ⟨sA, 0, none⟩) n n) ∧ u.cell? ⟨q, 1, none⟩ = some (.slice A1 M c1) ∧ q < u.heap.size from ⟨(BQ7.out.below h BQ7.out.lt).cell 0, (BQ7.out.below h BQ7.out.lt).cell 1, (BQ7.out.below h BQ7.out.lt).lt⟩))
    have LA := Lib.hid (fun (w u : World) (b : Nat) (J : InstD) (h : Gr w b J) (hb : Below w.heap.size w u) => C.later h hb)
    have x0 := BP7.out.cell 0
    have x1 := BP7.out.cell 1
    have x2 := BP7.out.lt
    simp at x0 x1
    go_upto_region 9 with (first
      | (go_at_call 13; (with_reducible refine NG.out.mono ?_); rintro e w8 ⟨gg, rfl, hg, hb⟩; have G8 := Lib.hid hg; have HB8 := Lib.hid hb; obtain ⟨z0, z1, z2⟩ := YQ.out _ hb; clear hg hb)
      | (go_at_call 13; (with_reducible refine (NH.out _ HB8.out).mono ?_); rintro e w9 ⟨hh, rfl, hg, hb⟩; have H9 := Lib.hid hg; have G9 := Lib.hid (LA.out _ _ _ _ G8.out hb); have HB9 := Lib.hid (chain2 HB8.out hb); clear hg hb))
    have YP := Lib.hid (fun u (h : Below w9.heap.size w9 u) => (show u.cell? ⟨p, 1, none⟩ = some (.slice A m ca) ∧ p < u.heap.size from ⟨((BP7.out.below (chain2 HB9.out h) BP7.out.lt).cell 1).trans rfl, (BP7.out.below (chain2 HB9.out h) BP7.out.lt).lt⟩))
    have YR := Lib.hid (fun u (h : Below w9.heap.size w9 u) => (show u.cell? ⟨r, 0, none⟩ = some (.int .i64 b.frm) ∧ u.cell? ⟨r, 1, none⟩ = some (.int .i64 b.to) ∧ r < u.heap.size from ⟨((BR7.out.below (chain2 HB9.out h) BR7.out.lt).cell 0).trans rfl, ((BR7.out.below (chain2 HB9.out h) BR7.out.lt).cell 1).trans rfl, (BR7.out.below (chain2 HB9.out h) BR7.out.lt).lt⟩))
    have BW9 := Lib.hid (chain2 BW7.out HB9.out)
    have P9 := Lib.hid (show p < w9.heap.size ∧ r < w9.heap.size from ⟨by have := BP7.out.lt; have := HB9.out.size; omega, by have := BR7.out.lt; have := HB9.out.size; omega⟩)
    obtain ⟨bf, hbf⟩ : ∃ x, x = b.frm := ⟨_, rfl⟩
    obtain ⟨bt, hbt⟩ : ∃ x, x = b.to := ⟨_, rfl⟩
    have HBF := Lib.hid hbf
    have HBT := Lib.hid hbt
    have EU := Lib.hid (show bf = (U : Int) by rw [hbf, HB.out])
    have EV := Lib.hid (show bt = (V : Int) by rw [hbt, HB.out])
    rw [← hbf, ← hbt] at YR
    rw [EU.out, EV.out] at YR
    clear hbf hbt x0 x1 x2 z0 z1 z2 HI7 HJ7 M7 BP7 BR7 O7 BQ7 BW7 YQ NG NH G8 HB8 HRR G0 G1 G2 G3
    obtain ⟨i0, hi0, hz0, hz1, hz2⟩ := info_parts info_int
    have G0 := Lib.hid hi0
    have G1 := Lib.hid hz0
    have G2 := Lib.hid hz1
    have G3 := Lib.hid hz2
    clear hi0 hz0 hz1 hz2
    go_upto_region 12 with fail
    go_loopw [15] (fun s u => MoreRel w9 n s u) (fun s _ => n - (intOf s).toNat)
    case atStart => exact ⟨0, by omega, rfl, Below.refl _ _⟩
    case round =>
      obtain ⟨k, hk, rfl, hb0⟩ := hrel
      have HBK := Lib.hid hb0
      obtain ⟨x0, x1⟩ := YP.out _ hb0
      obtain ⟨z0, z1, z2⟩ := YR.out _ hb0
      clear hb0
      by_cases hlt : k < n
      · have jb : I64 (k : Int) := I64_small (by omega) (by omega)
        obtain ⟨lo, hlo⟩ : ∃ l, outD I (k : Int) = l := ⟨_, rfl⟩
        obtain ⟨li, hli⟩ : ∃ l, inD I (k : Int) = l := ⟨_, rfl⟩
        obtain ⟨lt, hlt2⟩ : ∃ l, atD I (k : Int) = l := ⟨_, rfl⟩
        have lo9 : lo.length ≤ 1000 := by rw [← hlo]; exact some_1000b _ _ _ _ m9
        have li9 : li.length ≤ 1000 := by rw [← hli]; exact some_1000b _ _ _ _ m9
        have lt9 : lt.length ≤ 1000 := by rw [← hlt2]; exact some_1000b _ _ _ _ m9
        have EO := Lib.hid (show outD (moreD I b) (k : Int) = lo ++ if k = U then [m] else [] by
          rw [← hlo, ← HM.out]
          refine (some_more I b k true false MD.out).trans (congrArg _ ?_)
          unfold touch
          rw [← HBF.out, ← HBT.out, EU.out, EV.out]
          by_cases h : k = U
          · rw [if_pos h, if_pos (by simp; omega)]
          · rw [if_neg h, if_neg (by simp; omega)])
        have EI := Lib.hid (show inD (moreD I b) (k : Int) = li ++ if k = V then [m] else [] by
          rw [← hli, ← HM.out]
          refine (some_more I b k false true MD.out).trans (congrArg _ ?_)
          unfold touch
          rw [← HBF.out, ← HBT.out, EU.out, EV.out]
          by_cases h : k = V
          · rw [if_pos h, if_pos (by simp; omega)]
          · rw [if_neg h, if_neg (by simp; omega)])
        have ET := Lib.hid (show atD (moreD I b) (k : Int) = lt ++ if k = U ∨ k = V then [m] else [] by
          rw [← hlt2, ← HM.out]
          refine (some_more I b k true true MD.out).trans (congrArg _ ?_)
          unfold touch
          rw [← HBF.out, ← HBT.out, EU.out, EV.out]
          by_cases h : k = U ∨ k = V
          · rw [if_pos h, if_pos (by simp; omega)]
          · rw [if_neg h, if_neg (by simp; omega)])
        have O1 := Lib.hid (fun u (hb : Below w9.heap.size w9 u) => (show Calls Try.prog 15 #[.pointer (some ⟨gg, 0, none⟩), .int .i64 (k : Int)] u (TellsNats lo u) from by rw [← hlo]; exact C.out gg I k u (C.later G9.out hb) jb))
        have O3 := Lib.hid (fun u (hb : Below w9.heap.size w9 u) => (show Calls Try.prog 17 #[.pointer (some ⟨gg, 0, none⟩), .int .i64 (k : Int)] u (TellsNats li u) from by rw [← hli]; exact C.in_ gg I k u (C.later G9.out hb) jb))
        have O5 := Lib.hid (fun u (hb : Below w9.heap.size w9 u) => (show Calls Try.prog 18 #[.pointer (some ⟨gg, 0, none⟩), .int .i64 (k : Int)] u (TellsNats lt u) from by rw [← hlt2]; exact C.at_ gg I k u (C.later G9.out hb) jb))
        clear hlo hli hlt2
        go_upto_region 17 with (first
          | (go_at_call 15; (with_reducible refine (O1.out _ HBK.out).mono ?_); rintro e wa ⟨Na, ca1, rfl, _, na, hb, ho⟩; have S1 := Lib.hid ho; have D1 := Lib.hid hb; have Z0 := Lib.hid HBK.out.size; replace HBK := Lib.hid (chain2 HBK.out hb); clear na hb ho)
          | (go_at_call 17; (with_reducible refine (O3.out _ HBK.out).mono ?_); rintro e wb ⟨Nb, cb1, rfl, _, na, hb, ho⟩; have S2 := Lib.hid ho; have D2 := Lib.hid hb; replace HBK := Lib.hid (chain2 HBK.out hb); clear na hb ho)
          | (go_at_call 18; (with_reducible refine (O5.out _ HBK.out).mono ?_); rintro e wd ⟨Nc, cd1, rfl, _, na, hb, ho⟩; have RW := Lib.hid (rows_mk Z0.out D1.out S1.out D2.out S2.out hb ho); replace HBK := Lib.hid (chain2 HBK.out hb); clear na hb ho))
        clear S1 S2 D1 D2 Z0 O1 O3 O5 x0 x1 z0 z1 z2
        obtain ⟨x0, x1⟩ := YP.out _ HBK.out
        obtain ⟨z0, z1, z2⟩ := YR.out _ HBK.out
        by_cases cU : k = U
        · by_cases cV : k = V
          · have O2 := Lib.hid (fun u (hb : Below w9.heap.size w9 u) => (show Calls Try.prog 15 #[.pointer (some ⟨hh, 0, none⟩), .int .i64 (k : Int)] u (TellsK (lo ++ [m]) (lo.length + 1) u) from (C.out hh (moreD I b) k u (C.later H9.out hb) jb).mono fun e w' q => tells_k (by simp) (by rw [show outD (moreD I b) (k : Int) = (lo ++ [m]) by rw [EO.out, if_pos cU]] at q; exact q)))
            have O4 := Lib.hid (fun u (hb : Below w9.heap.size w9 u) => (show Calls Try.prog 17 #[.pointer (some ⟨hh, 0, none⟩), .int .i64 (k : Int)] u (TellsK (li ++ [m]) (li.length + 1) u) from (C.in_ hh (moreD I b) k u (C.later H9.out hb) jb).mono fun e w' q => tells_k (by simp) (by rw [show inD (moreD I b) (k : Int) = (li ++ [m]) by rw [EI.out, if_pos cV]] at q; exact q)))
            have O6 := Lib.hid (fun u (hb : Below w9.heap.size w9 u) => (show Calls Try.prog 18 #[.pointer (some ⟨hh, 0, none⟩), .int .i64 (k : Int)] u (TellsK (lt ++ [m]) (lt.length + 1) u) from (C.at_ hh (moreD I b) k u (C.later H9.out hb) jb).mono fun e w' q => tells_k (by simp) (by rw [show atD (moreD I b) (k : Int) = (lt ++ [m]) by rw [ET.out, if_pos (Or.inl cU)]] at q; exact q)))
            have I1 := Lib.hid (fun E F e f w' g1 g2 => ints_same E F (lo ++ [m]) (lo.length + 1) e f (by simp) (by omega) w' g1 g2)
            have I2 := Lib.hid (fun E F e f w' g1 g2 => ints_same E F (li ++ [m]) (li.length + 1) e f (by simp) (by omega) w' g1 g2)
            have I3 := Lib.hid (fun E F e f w' g1 g2 => ints_same E F (lt ++ [m]) (lt.length + 1) e f (by simp) (by omega) w' g1 g2)
            clear C
            have tU : (k : Int) = (U : Int) := by omega
            have tV : (k : Int) = (V : Int) := by omega
            obtain rfl : k = U := cU
            obtain rfl : k = V := cV
            clear EO EI ET
            go_wp2_with (first
              | (at_builtin; refine wpList_append_lies _ rfl _ _ 34 rfl w9.heap.size 3 i0 _ 1 8 Try.underlying34 G0.out G1.out G2.out G3.out rfl (by decide) _ _ _ rfl (RW.out.r1.alloc _) _ 1 1 [.int .i64 (m : Int)] rfl rfl (cell_one_new _ _ _) (by simp [Value.oneCell']) (by omega) (by unfold maxLen; omega) (by omega) (by have := HBK.out.size; simp; omega) _ rfl ?_; intro g1 cap1 wp1 hown hgrow hat hlt; rw [World.size_alloc] at hat; replace HBK := Lib.hid (below_app HBK.out RW.out.r1 hgrow); replace RW := Lib.hid (RW.out.app1 hown hgrow hat); obtain ⟨x0, x1⟩ := YP.out _ HBK.out; obtain ⟨z0, z1, z2⟩ := YR.out _ HBK.out; clear hown hgrow hat hlt)
              | (at_builtin; refine wpList_append_lies _ rfl _ _ 34 rfl w9.heap.size 3 i0 _ 1 8 Try.underlying34 G0.out G1.out G2.out G3.out rfl (by decide) _ _ _ rfl (RW.out.r2.alloc _) _ 1 1 [.int .i64 (m : Int)] rfl rfl (cell_one_new _ _ _) (by simp [Value.oneCell']) (by omega) (by unfold maxLen; omega) (by omega) (by have := HBK.out.size; simp; omega) _ rfl ?_; intro g2 cap2 wp2 hown hgrow hat hlt; rw [World.size_alloc] at hat; replace HBK := Lib.hid (below_app HBK.out RW.out.r2 hgrow); replace RW := Lib.hid (RW.out.app2 hown hgrow hat); obtain ⟨x0, x1⟩ := YP.out _ HBK.out; obtain ⟨z0, z1, z2⟩ := YR.out _ HBK.out; clear hown hgrow hat hlt)
              | (at_builtin; refine wpList_append_lies _ rfl _ _ 34 rfl w9.heap.size 3 i0 _ 1 8 Try.underlying34 G0.out G1.out G2.out G3.out rfl (by decide) _ _ _ rfl (RW.out.r3.alloc _) _ 1 1 [.int .i64 (m : Int)] rfl rfl (cell_one_new _ _ _) (by simp [Value.oneCell']) (by omega) (by unfold maxLen; omega) (by omega) (by have := HBK.out.size; simp; omega) _ rfl ?_; intro g3 cap3 wp3 hown hgrow hat hlt; rw [World.size_alloc] at hat; replace HBK := Lib.hid (below_app HBK.out RW.out.r3 hgrow); replace RW := Lib.hid (RW.out.app3 hown hgrow hat); obtain ⟨x0, x1⟩ := YP.out _ HBK.out; obtain ⟨z0, z1, z2⟩ := YR.out _ HBK.out; clear hown hgrow hat hlt)
              | (go_at_call 15; (with_reducible refine (O2.out _ HBK.out).mono ?_); rintro e wn ⟨NA, c7, rfl, nc, hb⟩; have T1 := Lib.hid nc; replace RW := Lib.hid (RW.out.later hb); replace HBK := Lib.hid (chain2 HBK.out hb); clear nc hb)
              | (go_at_call 21; (with_reducible refine (I1.out _ _ _ _ _ (own_slice RW.out.r1) T1.out).mono ?_); rintro e wn ⟨rfl, hb⟩; replace RW := Lib.hid (RW.out.later hb); replace HBK := Lib.hid (chain2 HBK.out hb); clear hb)
              | (go_at_call 17; (with_reducible refine (O4.out _ HBK.out).mono ?_); rintro e wn ⟨NA, c7, rfl, nc, hb⟩; have T2 := Lib.hid nc; replace RW := Lib.hid (RW.out.later hb); replace HBK := Lib.hid (chain2 HBK.out hb); clear nc hb)
              | (go_at_call 21; (with_reducible refine (I2.out _ _ _ _ _ (own_slice RW.out.r2) T2.out).mono ?_); rintro e wn ⟨rfl, hb⟩; replace RW := Lib.hid (RW.out.later hb); replace HBK := Lib.hid (chain2 HBK.out hb); clear hb)
              | (go_at_call 18; (with_reducible refine (O6.out _ HBK.out).mono ?_); rintro e wn ⟨NA, c7, rfl, nc, hb⟩; have T3 := Lib.hid nc; replace RW := Lib.hid (RW.out.later hb); replace HBK := Lib.hid (chain2 HBK.out hb); clear nc hb)
              | (go_at_call 21; (with_reducible refine (I3.out _ _ _ _ _ (own_slice RW.out.r3) T3.out).mono ?_); rintro e wn ⟨rfl, hb⟩; replace RW := Lib.hid (RW.out.later hb); replace HBK := Lib.hid (chain2 HBK.out hb); clear hb))
            exact ⟨⟨k + 1, by omega, by simp, HBK.out⟩, by simp [intOf]; omega⟩
          · have O2 := Lib.hid (fun u (hb : Below w9.heap.size w9 u) => (show Calls Try.prog 15 #[.pointer (some ⟨hh, 0, none⟩), .int .i64 (k : Int)] u (TellsK (lo ++ [m]) (lo.length + 1) u) from (C.out hh (moreD I b) k u (C.later H9.out hb) jb).mono fun e w' q => tells_k (by simp) (by rw [show outD (moreD I b) (k : Int) = (lo ++ [m]) by rw [EO.out, if_pos cU]] at q; exact q)))
            have O4 := Lib.hid (fun u (hb : Below w9.heap.size w9 u) => (show Calls Try.prog 17 #[.pointer (some ⟨hh, 0, none⟩), .int .i64 (k : Int)] u (TellsK li li.length u) from (C.in_ hh (moreD I b) k u (C.later H9.out hb) jb).mono fun e w' q => tells_k (by simp) (by rw [show inD (moreD I b) (k : Int) = li by rw [EI.out, if_neg cV, List.append_nil]] at q; exact q)))
            have O6 := Lib.hid (fun u (hb : Below w9.heap.size w9 u) => (show Calls Try.prog 18 #[.pointer (some ⟨hh, 0, none⟩), .int .i64 (k : Int)] u (TellsK (lt ++ [m]) (lt.length + 1) u) from (C.at_ hh (moreD I b) k u (C.later H9.out hb) jb).mono fun e w' q => tells_k (by simp) (by rw [show atD (moreD I b) (k : Int) = (lt ++ [m]) by rw [ET.out, if_pos (Or.inl cU)]] at q; exact q)))
            have I1 := Lib.hid (fun E F e f w' g1 g2 => ints_same E F (lo ++ [m]) (lo.length + 1) e f (by simp) (by omega) w' g1 g2)
            have I2 := Lib.hid (fun E F e f w' g1 g2 => ints_same E F li li.length e f (by simp) (by omega) w' g1 g2)
            have I3 := Lib.hid (fun E F e f w' g1 g2 => ints_same E F (lt ++ [m]) (lt.length + 1) e f (by simp) (by omega) w' g1 g2)
            clear C
            have tU : (k : Int) = (U : Int) := by omega
            have tV : ¬ (k : Int) = (V : Int) := by omega
            obtain rfl : k = U := cU
            clear EO EI ET
            go_wp2_with (first
              | (at_builtin; refine wpList_append_lies _ rfl _ _ 34 rfl w9.heap.size 3 i0 _ 1 8 Try.underlying34 G0.out G1.out G2.out G3.out rfl (by decide) _ _ _ rfl (RW.out.r1.alloc _) _ 1 1 [.int .i64 (m : Int)] rfl rfl (cell_one_new _ _ _) (by simp [Value.oneCell']) (by omega) (by unfold maxLen; omega) (by omega) (by have := HBK.out.size; simp; omega) _ rfl ?_; intro g1 cap1 wp1 hown hgrow hat hlt; rw [World.size_alloc] at hat; replace HBK := Lib.hid (below_app HBK.out RW.out.r1 hgrow); replace RW := Lib.hid (RW.out.app1 hown hgrow hat); obtain ⟨x0, x1⟩ := YP.out _ HBK.out; obtain ⟨z0, z1, z2⟩ := YR.out _ HBK.out; clear hown hgrow hat hlt)
              | (at_builtin; refine wpList_append_lies _ rfl _ _ 34 rfl w9.heap.size 3 i0 _ 1 8 Try.underlying34 G0.out G1.out G2.out G3.out rfl (by decide) _ _ _ rfl (RW.out.r3.alloc _) _ 1 1 [.int .i64 (m : Int)] rfl rfl (cell_one_new _ _ _) (by simp [Value.oneCell']) (by omega) (by unfold maxLen; omega) (by omega) (by have := HBK.out.size; simp; omega) _ rfl ?_; intro g3 cap3 wp3 hown hgrow hat hlt; rw [World.size_alloc] at hat; replace HBK := Lib.hid (below_app HBK.out RW.out.r3 hgrow); replace RW := Lib.hid (RW.out.app3 hown hgrow hat); obtain ⟨x0, x1⟩ := YP.out _ HBK.out; obtain ⟨z0, z1, z2⟩ := YR.out _ HBK.out; clear hown hgrow hat hlt)
              | (go_at_call 15; (with_reducible refine (O2.out _ HBK.out).mono ?_); rintro e wn ⟨NA, c7, rfl, nc, hb⟩; have T1 := Lib.hid nc; replace RW := Lib.hid (RW.out.later hb); replace HBK := Lib.hid (chain2 HBK.out hb); clear nc hb)
              | (go_at_call 21; (with_reducible refine (I1.out _ _ _ _ _ (own_slice RW.out.r1) T1.out).mono ?_); rintro e wn ⟨rfl, hb⟩; replace RW := Lib.hid (RW.out.later hb); replace HBK := Lib.hid (chain2 HBK.out hb); clear hb)
              | (go_at_call 17; (with_reducible refine (O4.out _ HBK.out).mono ?_); rintro e wn ⟨NA, c7, rfl, nc, hb⟩; have T2 := Lib.hid nc; replace RW := Lib.hid (RW.out.later hb); replace HBK := Lib.hid (chain2 HBK.out hb); clear nc hb)
              | (go_at_call 21; (with_reducible refine (I2.out _ _ _ _ _ (own_slice RW.out.r2) T2.out).mono ?_); rintro e wn ⟨rfl, hb⟩; replace RW := Lib.hid (RW.out.later hb); replace HBK := Lib.hid (chain2 HBK.out hb); clear hb)
              | (go_at_call 18; (with_reducible refine (O6.out _ HBK.out).mono ?_); rintro e wn ⟨NA, c7, rfl, nc, hb⟩; have T3 := Lib.hid nc; replace RW := Lib.hid (RW.out.later hb); replace HBK := Lib.hid (chain2 HBK.out hb); clear nc hb)
              | (go_at_call 21; (with_reducible refine (I3.out _ _ _ _ _ (own_slice RW.out.r3) T3.out).mono ?_); rintro e wn ⟨rfl, hb⟩; replace RW := Lib.hid (RW.out.later hb); replace HBK := Lib.hid (chain2 HBK.out hb); clear hb))
            exact ⟨⟨k + 1, by omega, by simp, HBK.out⟩, by simp [intOf]; omega⟩
        · by_cases cV : k = V
          · have O2 := Lib.hid (fun u (hb : Below w9.heap.size w9 u) => (show Calls Try.prog 15 #[.pointer (some ⟨hh, 0, none⟩), .int .i64 (k : Int)] u (TellsK lo lo.length u) from (C.out hh (moreD I b) k u (C.later H9.out hb) jb).mono fun e w' q => tells_k (by simp) (by rw [show outD (moreD I b) (k : Int) = lo by rw [EO.out, if_neg cU, List.append_nil]] at q; exact q)))
            have O4 := Lib.hid (fun u (hb : Below w9.heap.size w9 u) => (show Calls Try.prog 17 #[.pointer (some ⟨hh, 0, none⟩), .int .i64 (k : Int)] u (TellsK (li ++ [m]) (li.length + 1) u) from (C.in_ hh (moreD I b) k u (C.later H9.out hb) jb).mono fun e w' q => tells_k (by simp) (by rw [show inD (moreD I b) (k : Int) = (li ++ [m]) by rw [EI.out, if_pos cV]] at q; exact q)))
            have O6 := Lib.hid (fun u (hb : Below w9.heap.size w9 u) => (show Calls Try.prog 18 #[.pointer (some ⟨hh, 0, none⟩), .int .i64 (k : Int)] u (TellsK (lt ++ [m]) (lt.length + 1) u) from (C.at_ hh (moreD I b) k u (C.later H9.out hb) jb).mono fun e w' q => tells_k (by simp) (by rw [show atD (moreD I b) (k : Int) = (lt ++ [m]) by rw [ET.out, if_pos (Or.inr cV)]] at q; exact q)))
            have I1 := Lib.hid (fun E F e f w' g1 g2 => ints_same E F lo lo.length e f (by simp) (by omega) w' g1 g2)
            have I2 := Lib.hid (fun E F e f w' g1 g2 => ints_same E F (li ++ [m]) (li.length + 1) e f (by simp) (by omega) w' g1 g2)
            have I3 := Lib.hid (fun E F e f w' g1 g2 => ints_same E F (lt ++ [m]) (lt.length + 1) e f (by simp) (by omega) w' g1 g2)
            clear C
            have tU : ¬ (k : Int) = (U : Int) := by omega
            have tV : (k : Int) = (V : Int) := by omega
            obtain rfl : k = V := cV
            clear EO EI ET
            go_wp2_with (first
              | (at_builtin; refine wpList_append_lies _ rfl _ _ 34 rfl w9.heap.size 3 i0 _ 1 8 Try.underlying34 G0.out G1.out G2.out G3.out rfl (by decide) _ _ _ rfl (RW.out.r2.alloc _) _ 1 1 [.int .i64 (m : Int)] rfl rfl (cell_one_new _ _ _) (by simp [Value.oneCell']) (by omega) (by unfold maxLen; omega) (by omega) (by have := HBK.out.size; simp; omega) _ rfl ?_; intro g2 cap2 wp2 hown hgrow hat hlt; rw [World.size_alloc] at hat; replace HBK := Lib.hid (below_app HBK.out RW.out.r2 hgrow); replace RW := Lib.hid (RW.out.app2 hown hgrow hat); obtain ⟨x0, x1⟩ := YP.out _ HBK.out; obtain ⟨z0, z1, z2⟩ := YR.out _ HBK.out; clear hown hgrow hat hlt)
              | (at_builtin; refine wpList_append_lies _ rfl _ _ 34 rfl w9.heap.size 3 i0 _ 1 8 Try.underlying34 G0.out G1.out G2.out G3.out rfl (by decide) _ _ _ rfl (RW.out.r3.alloc _) _ 1 1 [.int .i64 (m : Int)] rfl rfl (cell_one_new _ _ _) (by simp [Value.oneCell']) (by omega) (by unfold maxLen; omega) (by omega) (by have := HBK.out.size; simp; omega) _ rfl ?_; intro g3 cap3 wp3 hown hgrow hat hlt; rw [World.size_alloc] at hat; replace HBK := Lib.hid (below_app HBK.out RW.out.r3 hgrow); replace RW := Lib.hid (RW.out.app3 hown hgrow hat); obtain ⟨x0, x1⟩ := YP.out _ HBK.out; obtain ⟨z0, z1, z2⟩ := YR.out _ HBK.out; clear hown hgrow hat hlt)
              | (go_at_call 15; (with_reducible refine (O2.out _ HBK.out).mono ?_); rintro e wn ⟨NA, c7, rfl, nc, hb⟩; have T1 := Lib.hid nc; replace RW := Lib.hid (RW.out.later hb); replace HBK := Lib.hid (chain2 HBK.out hb); clear nc hb)
              | (go_at_call 21; (with_reducible refine (I1.out _ _ _ _ _ (own_slice RW.out.r1) T1.out).mono ?_); rintro e wn ⟨rfl, hb⟩; replace RW := Lib.hid (RW.out.later hb); replace HBK := Lib.hid (chain2 HBK.out hb); clear hb)
              | (go_at_call 17; (with_reducible refine (O4.out _ HBK.out).mono ?_); rintro e wn ⟨NA, c7, rfl, nc, hb⟩; have T2 := Lib.hid nc; replace RW := Lib.hid (RW.out.later hb); replace HBK := Lib.hid (chain2 HBK.out hb); clear nc hb)
              | (go_at_call 21; (with_reducible refine (I2.out _ _ _ _ _ (own_slice RW.out.r2) T2.out).mono ?_); rintro e wn ⟨rfl, hb⟩; replace RW := Lib.hid (RW.out.later hb); replace HBK := Lib.hid (chain2 HBK.out hb); clear hb)
              | (go_at_call 18; (with_reducible refine (O6.out _ HBK.out).mono ?_); rintro e wn ⟨NA, c7, rfl, nc, hb⟩; have T3 := Lib.hid nc; replace RW := Lib.hid (RW.out.later hb); replace HBK := Lib.hid (chain2 HBK.out hb); clear nc hb)
              | (go_at_call 21; (with_reducible refine (I3.out _ _ _ _ _ (own_slice RW.out.r3) T3.out).mono ?_); rintro e wn ⟨rfl, hb⟩; replace RW := Lib.hid (RW.out.later hb); replace HBK := Lib.hid (chain2 HBK.out hb); clear hb))
            exact ⟨⟨k + 1, by omega, by simp, HBK.out⟩, by simp [intOf]; omega⟩
          · have O2 := Lib.hid (fun u (hb : Below w9.heap.size w9 u) => (show Calls Try.prog 15 #[.pointer (some ⟨hh, 0, none⟩), .int .i64 (k : Int)] u (TellsK lo lo.length u) from (C.out hh (moreD I b) k u (C.later H9.out hb) jb).mono fun e w' q => tells_k (by simp) (by rw [show outD (moreD I b) (k : Int) = lo by rw [EO.out, if_neg cU, List.append_nil]] at q; exact q)))
            have O4 := Lib.hid (fun u (hb : Below w9.heap.size w9 u) => (show Calls Try.prog 17 #[.pointer (some ⟨hh, 0, none⟩), .int .i64 (k : Int)] u (TellsK li li.length u) from (C.in_ hh (moreD I b) k u (C.later H9.out hb) jb).mono fun e w' q => tells_k (by simp) (by rw [show inD (moreD I b) (k : Int) = li by rw [EI.out, if_neg cV, List.append_nil]] at q; exact q)))
            have O6 := Lib.hid (fun u (hb : Below w9.heap.size w9 u) => (show Calls Try.prog 18 #[.pointer (some ⟨hh, 0, none⟩), .int .i64 (k : Int)] u (TellsK lt lt.length u) from (C.at_ hh (moreD I b) k u (C.later H9.out hb) jb).mono fun e w' q => tells_k (by simp) (by rw [show atD (moreD I b) (k : Int) = lt by rw [ET.out, if_neg (fun h => h.elim cU cV), List.append_nil]] at q; exact q)))
            have I1 := Lib.hid (fun E F e f w' g1 g2 => ints_same E F lo lo.length e f (by simp) (by omega) w' g1 g2)
            have I2 := Lib.hid (fun E F e f w' g1 g2 => ints_same E F li li.length e f (by simp) (by omega) w' g1 g2)
            have I3 := Lib.hid (fun E F e f w' g1 g2 => ints_same E F lt lt.length e f (by simp) (by omega) w' g1 g2)
            clear C
            have tU : ¬ (k : Int) = (U : Int) := by omega
            have tV : ¬ (k : Int) = (V : Int) := by omega
            clear EO EI ET
            go_wp2_with (first
              | (go_at_call 15; (with_reducible refine (O2.out _ HBK.out).mono ?_); rintro e wn ⟨NA, c7, rfl, nc, hb⟩; have T1 := Lib.hid nc; replace RW := Lib.hid (RW.out.later hb); replace HBK := Lib.hid (chain2 HBK.out hb); clear nc hb)
              | (go_at_call 21; (with_reducible refine (I1.out _ _ _ _ _ (own_slice RW.out.r1) T1.out).mono ?_); rintro e wn ⟨rfl, hb⟩; replace RW := Lib.hid (RW.out.later hb); replace HBK := Lib.hid (chain2 HBK.out hb); clear hb)
              | (go_at_call 17; (with_reducible refine (O4.out _ HBK.out).mono ?_); rintro e wn ⟨NA, c7, rfl, nc, hb⟩; have T2 := Lib.hid nc; replace RW := Lib.hid (RW.out.later hb); replace HBK := Lib.hid (chain2 HBK.out hb); clear nc hb)
              | (go_at_call 21; (with_reducible refine (I2.out _ _ _ _ _ (own_slice RW.out.r2) T2.out).mono ?_); rintro e wn ⟨rfl, hb⟩; replace RW := Lib.hid (RW.out.later hb); replace HBK := Lib.hid (chain2 HBK.out hb); clear hb)
              | (go_at_call 18; (with_reducible refine (O6.out _ HBK.out).mono ?_); rintro e wn ⟨NA, c7, rfl, nc, hb⟩; have T3 := Lib.hid nc; replace RW := Lib.hid (RW.out.later hb); replace HBK := Lib.hid (chain2 HBK.out hb); clear nc hb)
              | (go_at_call 21; (with_reducible refine (I3.out _ _ _ _ _ (own_slice RW.out.r3) T3.out).mono ?_); rintro e wn ⟨rfl, hb⟩; replace RW := Lib.hid (RW.out.later hb); replace HBK := Lib.hid (chain2 HBK.out hb); clear hb))
            exact ⟨⟨k + 1, by omega, by simp, HBK.out⟩, by simp [intOf]; omega⟩
      · obtain rfl : k = n := by omega
        have ta : ¬ ((k : Int) < (k : Int)) := by omega
        have OT := Lib.hid (fun u (hb : Below w9.heap.size w9 u) => (show Calls Try.prog 16 #[.pointer (some ⟨hh, 0, none⟩), .int .i64 (m : Int), .int .i64 (U : Int)] u (fun e w' => e = .returned (.int .i64 (V : Int)) ∧ Below u.heap.size u w') from by
          have q := C.other hh (moreD I b) m U u (C.later H9.out hb) (I64_small (by omega) (by omega)) (I64_small (by omega) (by omega))
          have e := other_last I b MD.out
          rw [HM.out, ← HBF.out, ← HBT.out, EU.out, EV.out] at e
          rw [e] at q
          exact q))
        have z9 := P9.out
        clear C
        go_upto_region 25 with fail
        go_region_held3 (fun u => u.cell? ⟨p, 1, none⟩ = some (.slice A m ca) ∧ u.cell? ⟨r, 0, none⟩ = some (.int .i64 (U : Int)) ∧ u.cell? ⟨r, 1, none⟩ = some (.int .i64 (V : Int)) ∧ Below w9.heap.size w9 u)
          (first | exact ⟨x0, z0, z1, HBK.out.drew⟩ | exact keepM z9.1 z9.2 (by assumption) hb)
          (first
            | (go_at_call 10; (with_reducible refine (KN.out _).mono ?_); rintro e wa ⟨rfl, hb⟩)
            | (go_at_call 16; (with_reducible refine (OT.out _ (by assumption : _ ∧ _ ∧ _ ∧ Below w9.heap.size w9 _).2.2.2).mono ?_); rintro e wb ⟨rfl, hb⟩))
        all_goals
          rename_i hs
          have H9 := Lib.hid (show Below w9.heap.size w9 _ from hs.2.2.2)
          clear hs
          go_wp2_with fail
          go_ret
          exact ⟨rfl, chain2 BW9.out H9.out⟩
end Go.Proofs.Ytldjlclinckblaa.Adj
