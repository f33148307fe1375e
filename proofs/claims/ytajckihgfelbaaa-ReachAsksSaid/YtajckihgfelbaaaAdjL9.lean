/- What the landed layer 4 does: a graph is made: its beginning. -/
import Derived.Test.YtajckihgfelbaaaAdjL8
import Derived.Test.YtajckihgfelbaaaInstLG
import Derived.Test.YtajckihgfelbaaaAdjMathN
import Derived.Deep.RegionHeld3
import Derived.Deep.RegionLaw
namespace Go.Proofs.Ytajckihgfelbaaa.Adj
open Go.RowKit Go.Shelf Go.Proofs.Ytajckihgfelbaaa.Inst
set_option maxRecDepth 100000

theorem info_ints : (Try.prog.info? 32).map (fun i => (i.zero, i.size, i.bytes)) = some (some (.slice none 0 0), 1, 24) := by kernel_rfl
theorem nils_eq (n : Nat) : madeCells #[Value.slice none 0 0] n = (List.replicate n (Value.slice none 0 0)).toArray := by
  apply Array.ext'
  rw [toList_madeCells_one]
theorem makep_any (n : Nat) (hn : n ≤ 100000) (W : World) : (Instr.makeSlice 33 (.int .i64 (n : Int)) (.int .i64 (n : Int))).run Try.prog W = .ok (.slice (some ⟨W.heap.size, 0, none⟩) n n) (W.alloc (.cells (List.replicate n (Value.slice none 0 0)).toArray 32)) := by
  obtain ⟨i0, hi0, hz0, hz1, hz2⟩ := info_parts info_ints
  have h := run_make (P := Try.prog) W 33 32 i0 (.slice none 0 0) Try.underlying33 hi0 hz0 .i64 .i64 (n : Int) (n : Int) (by omega) (by omega) (by rw [hz2]; omega) (by omega)
  rw [h, hz1, Int.toNat_natCast, Nat.mul_one]
  congr 3
  exact nils_eq n

abbrev SN (W : World) (q : Nat) (a b : Value) (u : World) : Prop := u.cell? ⟨q, 0, none⟩ = some a ∧ u.cell? ⟨q, 1, none⟩ = some b ∧ Below W.heap.size W u
theorem keepn {W w w' : World} {q : Nat} {a b : Value} (hq : q < W.heap.size) (h : SN W q a b w) (hb : Below w.heap.size w w') : SN W q a b w' := by
  obtain ⟨h1, h2, h5⟩ := h
  have z := h5.size
  exact ⟨(hb.cell (p := ⟨q, 0, none⟩) (by show q < _; omega)).trans h1, (hb.cell (p := ⟨q, 1, none⟩) (by show q < _; omega)).trans h2, chain2 h5 hb⟩

theorem snset {W w : World} {q : Nat} {a b : Value} (hq : q < W.heap.size) (h : SN W q a b w) {g : Nat} (hg : W.heap.size ≤ g) (o : Nat) (v : Value) : SN W q a b (w.setCell ⟨g, o, none⟩ v) := by
  obtain ⟨h1, h2, h5⟩ := h
  have e : ∀ i, (w.setCell ⟨g, o, none⟩ v).cell? ⟨q, i, none⟩ = w.cell? ⟨q, i, none⟩ := fun i => by
    have := Below.heap_setCell w ⟨g, o, none⟩ v q (by show q ≠ g; omega)
    simp only [World.cell?, this]
  exact ⟨(e 0).trans h1, (e 1).trans h2, h5.setCell hg _⟩
/-- What stands when the graph's own cells are made: nothing of it is laid out yet. -/
def Fresh (w u : World) (g b : Nat) (I : InstD) (n m : Nat) (A : Option Addr) (cA P : Nat) : Prop :=
  Blk u g 52 #[.pointer (some ⟨b, 0, none⟩)] ∧ Blk u b 88 #[.slice A m cA, .slice (some ⟨P, 0, none⟩) n n] ∧ u.ownsRow w.heap.size 36 5 (.slice A m cA) m (arcV I.arcs) ∧ Blk u P 32 (List.replicate n (.slice none 0 0)).toArray ∧
  w.heap.size ≤ g ∧ w.heap.size ≤ b ∧ w.heap.size ≤ P ∧ b ≠ P ∧ g ≠ P ∧ g ≠ b ∧ (Value.slice A m cA).ownBlock ≠ some P ∧ Below w.heap.size w u

theorem blk_ne {u : World} {g b : Nat} {t s : TypeId} {cs ds : Array Value} (h : Blk u g t cs) (k : Blk u b s ds) (ht : t ≠ s) : g ≠ b := fun e => by
  subst e
  have q := h.symm.trans k
  simp at q
  exact ht q.2
theorem own_ne {u : World} {base n sz : Nat} {e s : TypeId} {v : Value} {xs : List Value} {P : Nat} {cs : Array Value} (h : u.ownsRow base e sz v n xs) (k : Blk u P s cs) (ht : e ≠ s) : v.ownBlock ≠ some P := fun q => by
  obtain ⟨_, hr⟩ := h
  rcases hr with ⟨rfl, _⟩ | ⟨g', cap', cur, rfl, _, h3, _⟩
  · simp [Value.ownBlock] at q
  · simp [Value.ownBlock] at q
    exact blk_ne (t := e) h3 k ht q
theorem fresh_mk {w W1 u : World} {g b n m : Nat} {I : InstD} {A : Option Addr} {cA P base : Nat} (h2 : Blk u b 88 #[.slice A m cA, .slice (some ⟨P, 0, none⟩) n n]) (h1 : Blk u g 52 #[.pointer (some ⟨b, 0, none⟩)]) (h4 : Blk u P 32 (Array.replicate n (.slice none 0 0)))
    (h3 : u.ownsRow base 36 5 (.slice A m cA) m (arcV I.arcs)) (hb : Below w.heap.size w W1) (hu : Below W1.heap.size W1 u) (hl : w.heap.size ≤ base) (l1 : W1.heap.size ≤ g) (l2 : W1.heap.size ≤ b) (l3 : W1.heap.size ≤ P) : Fresh w u g b I n m A cA P := by
  have z := hb.size
  refine ⟨h1, h2, own_base h3 hl, by rw [List.toArray_replicate]; exact h4, by omega, by omega, by omega, blk_ne h2 h4 (by decide), blk_ne h1 h4 (by decide), blk_ne h1 h2 (by decide), own_ne h3 h4 (by decide), chain2 hb hu⟩

theorem fresh_ex {w W1 u : World} {g b n m : Nat} {I : InstD} {A : Option Addr} {cA P base : Nat} (h2 : Blk u b 88 #[.slice A m cA, .slice (some ⟨P, 0, none⟩) n n]) (h1 : Blk u g 52 #[.pointer (some ⟨b, 0, none⟩)]) (h4 : Blk u P 32 (Array.replicate n (.slice none 0 0)))
    (h3 : u.ownsRow base 36 5 (.slice A m cA) m (arcV I.arcs)) (hb : Below w.heap.size w W1) (hu : Below W1.heap.size W1 u) (hl : w.heap.size ≤ base) (l1 : W1.heap.size ≤ g) (l2 : W1.heap.size ≤ b) (l3 : W1.heap.size ≤ P) :
    ∃ g' b' A' cA' P', Value.pointer (some ⟨g, 0, none⟩) = .pointer (some ⟨g', 0, none⟩) ∧ Fresh w u g' b' I n m A' cA' P' := ⟨g, b, A, cA, P, rfl, fresh_mk h2 h1 h4 h3 hb hu hl l1 l2 l3⟩

theorem Below.trans_save {w u v : World} (h : Below w.heap.size w u) (hs : Below 0 u v) (hk : ∀ i, i < w.heap.size → v.heap[i]? = u.heap[i]?) : Below w.heap.size w v :=
  ⟨hs.os.trans h.os, hs.tape.trans h.tape, hs.output.trans h.output, Nat.le_trans h.size hs.size, fun k hk' => (hk k hk').trans (h.block k hk')⟩
theorem inblock_normal {id : Nat} {Q : Exit → Act → World → Prop} {a : Act} {w : World} (h : Q .normal a w) : Exit.inBlock id Q .normal a w := h
theorem inblock_shut {id : Nat} {Q : Exit → Act → World → Prop} (h : ¬ LetsOut Q) : ¬ LetsOut (Exit.inBlock id Q) := fun ⟨a, w, q⟩ => h ⟨a, w, q⟩
/-- Between two rounds of New's range. -/
def NewAt (wl : World) (P L n : Nat) (I : InstD) (R : List Nat) (j : Nat) (pre : List Nat) (A : World) : Prop :=
  (∃ ps C, Fill I n L R j pre ps C ∧ Blk A P 32 ps.toArray ∧ Blk A L 3 C.toArray) ∧ Below 0 wl A ∧ ∀ i, i < wl.heap.size → i ≠ P → i ≠ L → A.heap[i]? = wl.heap[i]?
theorem NewAt.later {wl : World} {P L n : Nat} {I : InstD} {R : List Nat} {j : Nat} {pre : List Nat} {A A' : World} (h : NewAt wl P L n I R j pre A) (hb : Below A.heap.size A A') : NewAt wl P L n I R j pre A' := by
  obtain ⟨⟨ps, C, h1, h2, h3⟩, h4, h5⟩ := h
  exact ⟨⟨ps, C, h1, h2.below hb h2.lt, h3.below hb h3.lt⟩, h4.trans (hb.mono (Nat.zero_le _)), fun i hi a c => (hb.block i (by have := h4.size; omega)).trans (h5 i hi a c)⟩
theorem NewAt.put {wl : World} {P L n : Nat} {I : InstD} {R : List Nat} {j : Nat} {pre : List Nat} {A : World} {k : Nat} {o : Obj} (o' : Obj) (h : NewAt wl P L n I R j pre A) (hk : A.heap[k]? = some o) (ho : o.isCells = false) (hB : wl.heap.size ≤ k) : NewAt wl P L n I R j pre (A.putObj k o') := by
  obtain ⟨⟨ps, C, h1, h2, h3⟩, h4, h5⟩ := h
  exact ⟨⟨ps, C, h1, Blk.putObj h2 o' hk ho, Blk.putObj h3 o' hk ho⟩, h4.grown (grownBy_putObj' A k o') (Nat.zero_le _) (fun j e => Nat.zero_le _), fun i hi a c => (World.putObj_heap_other (by omega)).trans (h5 i hi a c)⟩
theorem NewAt.blk {wl : World} {P L n : Nat} {I : InstD} {R : List Nat} {j : Nat} {pre : List Nat} {A : World} (h : NewAt wl P L n I R j pre A) {k : Nat} {t : TypeId} {cs : Array Value} (hb : Blk wl k t cs) (h1 : k ≠ P) (h2 : k ≠ L) : Blk A k t cs := (h.2.2 k hb.lt h1 h2).trans hb
theorem own_at_of {w u : World} {base n sz : Nat} {e : TypeId} {x : Value} {xs : List Value} (h : w.ownsRow base e sz x n xs) (hb : ∀ i, x.ownBlock = some i → u.heap[i]? = w.heap[i]?) : u.ownsRow base e sz x n xs := by
  obtain ⟨hl, hr⟩ := h
  refine ⟨hl, ?_⟩
  rcases hr with h1 | ⟨g', cap', cur, h1, h2, h3, h4⟩
  · exact .inl h1
  · exact .inr ⟨g', cap', cur, h1, h2, (hb g' (by rw [h1]; simp [Value.ownBlock])).trans h3, h4⟩

/-- The worlds in a round's last statement: the number is in a cell of its own; then in the list. -/
theorem app_facts {V : World} {g b P L q x n j of ln cp : Nat} {ps C : List Value} (c1 : V.cell? ⟨g, 0, none⟩ = some (.pointer (some ⟨b, 0, none⟩))) (c2 : V.cell? ⟨b, 1, none⟩ = some (.slice (some ⟨P, 0, none⟩) n n)) (c3 : V.cell? ⟨q, 0, none⟩ = some (.int .i64 (j : Int)))
    (hp : Blk V P 32 ps.toArray) (hc : Blk V L 3 C.toArray) (pc : ps[x]? = some (.slice (some ⟨L, of, none⟩) ln cp)) (hoff : of + ln < C.length) (l1 : g < V.heap.size) (l2 : b < V.heap.size) (l3 : q < V.heap.size) (n1 : g ≠ L) (n2 : b ≠ L) (n3 : q ≠ L) (n4 : P ≠ L) :
    ∃ VA VB, VA = V.drew.alloc (.cells #[.int .i64 (j : Int)] 3) ∧ VB = VA.setCell ⟨L, of + ln, none⟩ (.int .i64 (j : Int)) ∧
      VA.cell? ⟨g, 0, none⟩ = some (.pointer (some ⟨b, 0, none⟩)) ∧ VA.cell? ⟨b, 1, none⟩ = some (.slice (some ⟨P, 0, none⟩) n n) ∧ VA.cell? ⟨q, 0, none⟩ = some (.int .i64 (j : Int)) ∧ VA.cell? ⟨P, x, none⟩ = some (.slice (some ⟨L, of, none⟩) ln cp) ∧ (VA.cell? ⟨L, of + ln, none⟩).isSome = true ∧ VA.frozen? ⟨L, of + ln, none⟩ = false ∧ VA.cell? ⟨V.heap.size, 0, none⟩ = some (.int .i64 (j : Int)) ∧
      VB.cell? ⟨g, 0, none⟩ = some (.pointer (some ⟨b, 0, none⟩)) ∧ VB.cell? ⟨b, 1, none⟩ = some (.slice (some ⟨P, 0, none⟩) n n) ∧ VB.cell? ⟨q, 0, none⟩ = some (.int .i64 (j : Int)) ∧ VB.cell? ⟨P, x, none⟩ = some (.slice (some ⟨L, of, none⟩) ln cp) ∧ VB.frozen? ⟨P, x, none⟩ = false ∧
      V.cell? ⟨P, x, none⟩ = some (.slice (some ⟨L, of, none⟩) ln cp) ∧ P < V.heap.size := by
  obtain ⟨VA, hVA⟩ : ∃ VA, VA = V.drew.alloc (.cells #[.int .i64 (j : Int)] 3) := ⟨_, rfl⟩
  obtain ⟨VB, hVB⟩ : ∃ VB, VB = VA.setCell ⟨L, of + ln, none⟩ (.int .i64 (j : Int)) := ⟨_, rfl⟩
  have bA : Below V.heap.size V VA := by rw [hVA]; exact ((Below.refl _ V).drew).alloc (Nat.le_refl _) _
  have c4 : V.cell? ⟨P, x, none⟩ = some (.slice (some ⟨L, of, none⟩) ln cp) := by rw [hp.cell x, List.getElem?_toArray]; exact pc
  have far : ∀ (r o : Nat), r ≠ L → VB.cell? ⟨r, o, none⟩ = VA.cell? ⟨r, o, none⟩ := fun r o hr => by
    have := Below.heap_setCell VA ⟨L, of + ln, none⟩ (.int .i64 (j : Int)) r hr
    rw [hVB]
    simp only [World.cell?, this]
  have a1 := (bA.cell (p := ⟨g, 0, none⟩) l1).trans c1
  have a2 := (bA.cell (p := ⟨b, 1, none⟩) l2).trans c2
  have a3 := (bA.cell (p := ⟨q, 0, none⟩) l3).trans c3
  have a4 := (bA.cell (p := ⟨P, x, none⟩) hp.lt).trans c4
  have a5 : (VA.cell? ⟨L, of + ln, none⟩).isSome = true := by
    rw [bA.cell (p := ⟨L, of + ln, none⟩) hc.lt, hc.cell, List.getElem?_toArray, List.getElem?_eq_getElem hoff]
    rfl
  have a6 : VA.frozen? ⟨L, of + ln, none⟩ = false := (bA.frozen (p := ⟨L, of + ln, none⟩) hc.lt).trans (hc.frozen _)
  have a7 : VA.cell? ⟨V.heap.size, 0, none⟩ = some (.int .i64 (j : Int)) := by
    have h : Blk VA V.heap.size 3 #[.int .i64 (j : Int)] := by rw [hVA]; exact blk_at rfl _ _
    exact h.cell 0
  refine ⟨VA, VB, hVA, hVB, a1, a2, a3, a4, a5, a6, a7, (far g 0 n1).trans a1, (far b 1 n2).trans a2, (far q 0 n3).trans a3, (far P x n4).trans a4, ?_, c4, hp.lt⟩
  rw [hVB, World.frozen?_setCell]
  exact (bA.frozen (p := ⟨P, x, none⟩) hp.lt).trans (hp.frozen x)
theorem cells_one {w : World} {p : Addr} {v : Value} (h : w.cell? p = some v) : ∀ k u, [v][k]? = some u → w.cell? (p.add k) = some u := by
  intro k u hk
  cases k with
  | zero =>
    simp at hk
    subst hk
    rw [Addr.add_zero']
    exact h
  | succ k => simp at hk
theorem s3_set {VB : World} {g b q P x n j : Nat} {v : Value} (e1 : VB.cell? ⟨g, 0, none⟩ = some (.pointer (some ⟨b, 0, none⟩))) (e2 : VB.cell? ⟨b, 1, none⟩ = some (.slice (some ⟨P, 0, none⟩) n n)) (e3 : VB.cell? ⟨q, 0, none⟩ = some (.int .i64 (j : Int))) (h1 : g ≠ P) (h2 : b ≠ P) (h3 : q ≠ P) :
    (VB.setCell ⟨P, x, none⟩ v).cell? ⟨g, 0, none⟩ = some (.pointer (some ⟨b, 0, none⟩)) ∧ (VB.setCell ⟨P, x, none⟩ v).cell? ⟨b, 1, none⟩ = some (.slice (some ⟨P, 0, none⟩) n n) ∧ (VB.setCell ⟨P, x, none⟩ v).cell? ⟨q, 0, none⟩ = some (.int .i64 (j : Int)) := by
  have far : ∀ (r o : Nat), r ≠ P → (VB.setCell ⟨P, x, none⟩ v).cell? ⟨r, o, none⟩ = VB.cell? ⟨r, o, none⟩ := fun r o hr => by
    have := Below.heap_setCell VB ⟨P, x, none⟩ v r hr
    simp only [World.cell?, this]
  exact ⟨(far g 0 h1).trans e1, (far b 1 h2).trans e2, (far q 0 h3).trans e3⟩
/-- How a round of New's range ends. -/
theorem new_round {wl V VA VB : World} {P L n j x q B3 : Nat} {I : InstD} {R pre : List Nat} {ds : List Deferred} {ps C : List Value} {of ln cp : Nat} (hVA : VA = V.drew.alloc (.cells #[.int .i64 (j : Int)] 3)) (hVB : VB = VA.setCell ⟨L, of + ln, none⟩ (.int .i64 (j : Int)))
    (hf : Fill I n L R j (pre ++ [x]) (ps.set x (.slice (some ⟨L, of, none⟩) (ln + 1) cp)) (C.set (of + ln) (.int .i64 (j : Int)))) (hp : Blk V P 32 ps.toArray) (hc : Blk V L 3 C.toArray) (hs0 : Below 0 wl V) (hs1 : ∀ i, i < wl.heap.size → i ≠ P → i ≠ L → V.heap[i]? = wl.heap[i]?)
    (hj4 : Blk V q 3 #[.int .i64 (j : Int)]) (hMV : Marks wl.heap.size ds V) (hPL : P ≠ L) (hqP : q ≠ P) (hqL : q ≠ L) (lP : P < B3) (lL : L < B3) :
    ∀ a9, roundOut B3 (fun k => B3 ≤ k) (fun pre B => (NewAt wl P L n I R j pre B ∧ Blk B q 3 #[.int .i64 (j : Int)]) ∧ Marks wl.heap.size ds B) (pre ++ [x]) V .normal a9 (VB.setCell ⟨P, x, none⟩ (.slice (some ⟨L, of, none⟩) (ln + 1) cp)) := by
  intro a9
  have bA : Below V.heap.size V VA := by rw [hVA]; exact ((Below.refl _ V).drew).alloc (Nat.le_refl _) _
  have k1 : KeepsOthers V VA := ⟨bA.size, fun k _ hk _ => (bA.block k (Array.getElem?_eq_some_iff.1 hk).1).trans hk⟩
  have k2 : KeepsOthers VA VB := by rw [hVB]; exact KeepsOthers.setCell _ _ _
  have k3 := (k1.trans k2).trans (KeepsOthers.setCell VB ⟨P, x, none⟩ (.slice (some ⟨L, of, none⟩) (ln + 1) cp))
  refine ⟨k3.from _, ((Stay.below bA).trans (by rw [hVB]; exact Stay.set _ _ _ (by show ¬ B3 ≤ L; omega))).trans (Stay.set _ _ _ (by show ¬ B3 ≤ P; omega)), ⟨⟨⟨_, _, hf, ?_, ?_⟩, ?_, ?_⟩, ?_⟩, hMV.others k3⟩
  · have h := (((hp.below bA hp.lt).far (p := ⟨L, of + ln, none⟩) hPL (.int .i64 (j : Int)))).set_ x (.slice (some ⟨L, of, none⟩) (ln + 1) cp)
    rw [List.setIfInBounds_toArray] at h
    rw [hVB]
    exact h
  · have h := (((hc.below bA hc.lt).set_ (of + ln) (.int .i64 (j : Int)))).far (p := ⟨P, x, none⟩) (Ne.symm hPL) (.slice (some ⟨L, of, none⟩) (ln + 1) cp)
    rw [List.setIfInBounds_toArray] at h
    rw [hVB]
    exact h
  · rw [hVB]
    exact ((hs0.trans (bA.mono (Nat.zero_le _))).setCell (Nat.zero_le _) _).setCell (Nat.zero_le _) _
  · intro i hi iP iL
    have z := hs0.size
    rw [hVB]
    exact (Below.heap_setCell _ ⟨P, x, none⟩ _ i iP).trans ((Below.heap_setCell _ ⟨L, of + ln, none⟩ _ i iL).trans ((bA.block i (by omega)).trans (hs1 i hi iP iL)))
  · rw [hVB]
    exact ((hj4.below bA hj4.lt).far (p := ⟨L, of + ln, none⟩) hqL _).far (p := ⟨P, x, none⟩) hqP _

set_option maxRecDepth 100000 in
set_option maxHeartbeats 8000000 in
theorem new_in (A0 A2 : Option Addr) (c d n m : Nat) (I : InstD) (w : World) (h : Here w A0 A2 n m I) (n9 : n ≤ 1000) (m9 : m ≤ 1000) :
    CallsIn Fence.wide 6 Try.prog 31 #[.agg #[.slice A0 n c, .slice A2 m d]] w fun e w' => ∃ b nn mm A cA P L off cap ps C, e = .returned (.pointer (some ⟨b, 0, none⟩)) ∧ Below w.heap.size w w' ∧ GrIs w.heap.size w' b I nn mm A cA P L off cap ps C := by
  obtain ⟨W1, hW1⟩ : ∃ W1, W1 = w.alloc (.cells #[.slice A0 n c, .slice A2 m d] 25) := ⟨_, rfl⟩
  obtain ⟨p, hp⟩ : ∃ p, p = w.heap.size := ⟨_, rfl⟩
  have B1 := Lib.hid (show Below w.heap.size w W1 by rw [hW1]; exact (Below.refl _ _).alloc (Nat.le_refl _) _)
  have BX := Lib.hid (show Blk W1 p 25 #[.slice A0 n c, .slice A2 m d] by rw [hW1]; exact blk_at hp.symm _ _)
  have CP := Lib.hid (fun u (hu : Below W1.heap.size W1 u) => copy_any A0 A2 c d I n m h.n h.m n9 m9 u (h.is.later (chain2 B1.out hu)))
  have hmk := makep_any n (by omega)
  have hfl : ∀ (v1 v2 : Value) (W : World), (Instr.field 25 (.agg #[v1, v2]) 1).run Try.prog W = .ok v2 W := fun v1 v2 W => by simp [Instr.field, go_sem, asAgg]
  have HW := Lib.hid hW1
  have HP := Lib.hid hp
  have HN := Lib.hid h.n
  have HM := Lib.hid h.m
  clear hW1 hp h
  refine callsIn_of_wp_marks Try.func31 rfl trivial ?_ rfl
  simp only [Try.ntmps31, List.size_toArray, List.length_cons, List.length_nil, Nat.reduceAdd, Nat.reduceSub, Array.replicate_succ, Array.replicate_zero, List.push_toArray, List.append_toArray, List.nil_append, List.cons_append]
  gi_upto_region 1 with fail
  rw [← HW.out, ← HP.out]
  have x0 := BX.out.cell 0
  have x1 := BX.out.cell 1
  have x2 := BX.out.lt
  simp at x0 x1
  gi_cut [3] from 6 (fun s3 u => ∃ g b A cA P, s3 = .pointer (some ⟨g, 0, none⟩) ∧ Fresh w u g b I n m A cA P)
  case first =>
    rename_i J K' hJ hK
    refine wpIn_wide.2 ?_
    go_region_held3 (SN W1 p (.slice A0 n c) (.slice A2 m d))
      (first | exact ⟨x0, x1, (Below.refl _ _).drew⟩ | exact keepn x2 (by assumption) ((Below.refl _ _).alloc (Nat.le_refl _) _) | exact keepn x2 (by assumption) hc.below | (refine keepn x2 SA.out ?_; (repeat (first | exact Below.refl _ _ | refine Below.alloc ?_ (by simp <;> omega) _)); done) | (apply SA1.out; first | exact Below.refl _ _ | (apply Below.alloc; exact Below.refl _ _; (simp; done)) | (apply Below.alloc; apply Below.alloc; exact Below.refl _ _; all_goals (simp; done))) | (apply SA2.out; first | exact Below.refl _ _ | (apply Below.alloc; exact Below.refl _ _; (simp; done)) | (apply Below.alloc; apply Below.alloc; exact Below.refl _ _; all_goals (simp; done))))
      (first | (go_at_call 59; (with_reducible refine (CP.out _ (by assumption : SN W1 p (.slice A0 n c) (.slice A2 m d) _).2.2).mono ?_); rintro e wa ⟨v1, v2, rfl, hc⟩; obtain ⟨bc, bf⟩ := bcell hc.below; have hz := hc.below.size; (try simp at bc); (try simp at bf); (try simp at hz); (have hz1 : ∀ k, k < _ → k < wa.heap.size ∧ k < wa.heap.size + 1 ∧ k < wa.heap.size + 1 + 1 ∧ k ≠ wa.heap.size ∧ k ≠ wa.heap.size + 1 ∧ k ≠ wa.heap.size + 1 + 1 := fun k h => by have := Nat.lt_of_lt_of_le h hc.below.size; omega); (have hz2 := hz1 W1.heap.size); (have hz3 := hz1 (W1.heap.size + 1)); clear hz1; (try simp at hz2); (try simp at hz3); have SA := Lib.hid (keepn x2 (by assumption : SN W1 p (.slice A0 n c) (.slice A2 m d) _) hc.below); (have SA1 : ∀ (v : Value) (u : World), Below (wa.setCell ⟨W1.heap.size, 0, none⟩ v).heap.size (wa.setCell ⟨W1.heap.size, 0, none⟩ v) u → SN W1 p (.slice A0 n c) (.slice A2 m d) u := fun _ _ hb => keepn x2 (snset x2 SA.out (Nat.le_refl _) _ _) hb); (have SA2 : ∀ (v : Value) (u : World), Below (wa.setCell ⟨W1.heap.size + 1, 0, none⟩ v).heap.size (wa.setCell ⟨W1.heap.size + 1, 0, none⟩ v) u → SN W1 p (.slice A0 n c) (.slice A2 m d) u := fun _ _ hb => keepn x2 (snset x2 SA.out (Nat.le_succ _) _ _) hb); replace SA1 := Lib.hid SA1; replace SA2 := Lib.hid SA2; obtain ⟨-, Aa, ca, e2, -, -, -⟩ := own_cells hc.arcs; subst e2))
    all_goals
      refine hK _ _ (Met.intro (hJ _ _ ?_))
      (repeat apply Exists.intro)
      refine ⟨?_, rfl⟩
      rename_i hLast
      have LV := hLast.2.2
      apply fresh_ex (W1 := W1)
      case hb => exact B1.out
      case hu => exact LV
      case h1 => (repeat (first | exact blk_at (by simp) _ _ | refine Blk.alloc ?_ _ | exact (Blk.set_ (cs := #[.pointer none]) (Blk.below (by repeat (first | exact blk_at (by simp) _ _ | refine Blk.alloc ?_ _)) hc.below (by simp <;> omega)) 0 _)))
      case h2 => (repeat (first | exact blk_at (by simp) _ _ | refine Blk.alloc ?_ _))
      case h4 => (repeat (first | exact blk_at (by simp) _ _ | refine Blk.alloc ?_ _ | (refine Blk.far ?_ (by simp <;> omega) _) | exact Blk.below (by repeat (first | exact blk_at (by simp) _ _ | refine Blk.alloc ?_ _)) hc.below (by simp <;> omega)))
      case h3 =>
        first
          | (apply own_later hc.arcs; (repeat' (first | exact Below.refl _ _ | apply Below.alloc)); all_goals (simp <;> omega))
          | (apply own_later (own_far (p := ⟨W1.heap.size, 0, none⟩) hc.arcs (fun e => absurd (own_ge hc.arcs _ e) (by simp <;> omega)) _); (repeat' (first | exact Below.refl _ _ | apply Below.alloc)); all_goals (simp <;> omega))
          | (apply own_later (own_far (p := ⟨W1.heap.size + 1, 0, none⟩) hc.arcs (fun e => absurd (own_ge hc.arcs _ e) (by simp <;> omega)) _); (repeat' (first | exact Below.refl _ _ | apply Below.alloc)); all_goals (simp <;> omega))
      case hl => (have z1 := B1.out.size; simp; omega)
      case l1 => first | (simp; done) | (have z1 := hc.below.size; simp at z1; simp; omega) | (simp; omega)
      case l2 => first | (simp; done) | (have z1 := hc.below.size; simp at z1; simp; omega) | (simp; omega)
      case l3 => first | (simp; done) | (have z1 := hc.below.size; simp at z1; simp; omega) | (simp; omega)
  case rest =>
    obtain ⟨g, b, A, cA, P, rfl, hF⟩ := hcut
    obtain ⟨fg, fb, fa, fP, lg, lb, lP, n1, n2, n3, n4, fB⟩ := hF
    have LY := Lib.hid (callsIn_wide.1 (lay_in b I n m A cA P w.heap.size HN.out HM.out n9 m9 wc fb fa fP n1 n4))
    have z0 := fg.cell 0
    have z1 := fg.lt
    simp at z0
    clear x0 x1 x2 hmk hfl CP BX HW HP
    gi_upto_region 3 with (refine ⟨trivial, ?_⟩; refine (callsIn_wide.2 LY.out).mono ?_; rintro e wl ⟨⟨v, rfl⟩, L, R, hR, hS, hP, hL, hLl⟩)
    have hLP : L ≠ P := by have := fP.lt; omega
    have gb1 := hS.blk fg n2
    have bb1 := hS.blk fb n1
    have ob : ∀ i, (Value.slice A m cA).ownBlock = some i → i < wc.heap.size ∧ i ≠ P := fun i hi => ⟨own_lt fa i hi, fun e => n4 (e ▸ hi)⟩
    have oa1 := own_at_of fa (fun i hi => hS.2 i (ob i hi).1 (ob i hi).2)
    have hB1 : Below w.heap.size w wl := by
      refine Below.trans_save fB hS.1 (fun i hi => hS.2 i (by have := fB.size; omega) (by omega))
    have HS1 := hS.1.size
    have gl : g < wc.heap.size := z1
    have bl : b < wc.heap.size := fb.lt
    have Ll : L < wl.heap.size := hL.lt
    have Pl : P < wl.heap.size := hP.lt
    have N0 : NewAt wl P L n I R 0 [] wl := ⟨⟨_, _, fill_start I n L m R hR, hP, hL⟩, Below.refl _ _, fun _ _ _ _ => rfl⟩
    have z0 := gb1.cell 0
    have z1 := gb1.lt
    have y0 := bb1.cell 0
    have y1 := bb1.lt
    simp at z0 y0
    clear hS hP hL fg fb fa fP LY fB n4
    gi_wp2
    have EA := Lib.hid (fun a u => ends_any (some ⟨b, 0, none⟩) a u)
    obtain ⟨i0, hi0, hz0, hzz1, hzz2⟩ := info_parts info_int
    have G0 := Lib.hid hi0
    have G2 := Lib.hid hzz1
    clear hi0 hz0 hzz1 hzz2
    refine wpIn_loop (fun a W => ∃ (j : Nat) (ds : List Deferred) (s4 s23 s24 s25 s26 s27 s45 : Value), j ≤ m ∧ NewAt wl P L n I R j [] W ∧ Marks wl.heap.size ds W ∧ a = { tmps := #[.agg #[.slice A0 n c, .slice A2 m d], .pointer (some ⟨p, 0, none⟩), .pointer none, .pointer (some ⟨g, 0, none⟩), s4, undef, u6, u7, u8, u9, u10, u11, u12, u13, u14, .pointer (some ⟨b, 0, none⟩), v, .pointer (some ⟨b, 0, none⟩), .pointer (some ⟨b, 0, none⟩), .pointer (some ⟨b, 0, none⟩), .slice A m cA, .int .i64 (m : Int), .int .i64 (j : Int), s23, s24, s25, s26, s27, u28, u29, u30, u31, u32, u33, u34, u35, u36, u37, u38, u39, u40, u41, u42, u43, u44, s45, u46], defers := ds }) (fun a _ => m - (intOf (a.tmps.getD 22 undef)).toNat) ?start ?round
    case start => exact ⟨0, [], _, _, _, _, _, _, _, by omega, N0, .nil, rfl⟩
    case round =>
      rintro a W ⟨j, ds, s4, s23, s24, s25, s26, s27, s45, hj, hN, hM, rfl⟩
      dsimp only
      clear N0 z0 z1 y0 y1
      have gbW := hN.blk gb1 (by omega) (by omega)
      have z0 := gbW.cell 0
      have z1 := gbW.lt
      simp at z0
      by_cases hlt : j < m
      · have j0 : (j : Int) < (m : Int) := by omega
        gi_upto_region 6 with fail
        obtain ⟨W2, hW2⟩ : ∃ W2, W2 = W.alloc (.cells #[.int .i64 (j : Int)] 3) := ⟨_, rfl⟩
        have hz2 : W2.heap.size = W.heap.size + 1 := by rw [hW2]; simp
        have hB2 : Below W.heap.size W W2 := by rw [hW2]; exact (Below.refl _ W).alloc (Nat.le_refl _) _
        have d4 : Blk W2 W.heap.size 3 #[.int .i64 (j : Int)] := by rw [hW2]; exact Blk.new W _ _
        rw [← hW2]
        clear hW2 z0 z1
        have gb2 := gbW.below hB2 gbW.lt
        have z0 := gb2.cell 0
        have z1 := gb2.lt
        have z2 := d4.cell 0
        have z3 := d4.lt
        simp at z0 z2
        have HZ2 := Lib.hid hz2
        clear hz2
        gi_wp2_with (refine ⟨trivial, ?_⟩; refine (callsIn_wide.2 (EA.out _ _)).mono ?_; rintro e w' ⟨rfl, rfl⟩)
        have hz2 := HZ2.out
        obtain ⟨W3, hW3⟩ : ∃ W3, W3 = (W2.alloc (.cells #[.pointer (some ⟨b, 0, none⟩)] 52)).alloc (.cells #[.int .i64 (j : Int)] 3) := ⟨_, rfl⟩
        have hz3 : W3.heap.size = W2.heap.size + 2 := by rw [hW3]; simp
        have hB3 : Below W2.heap.size W2 W3 := by rw [hW3]; exact ((Below.refl _ W2).alloc (Nat.le_refl _) _).alloc (by simp) _
        have d1 : Blk W3 W2.heap.size 52 #[.pointer (some ⟨b, 0, none⟩)] := by rw [hW3]; exact (Blk.new W2 _ _).alloc _
        have d2 : Blk W3 (W2.heap.size + 1) 3 #[.int .i64 (j : Int)] := by rw [hW3]; exact blk_at (by simp) _ _
        rw [← hW3]
        clear hW3 z0 z1 z2 z3
        have B13 := chain2 hB2 hB3
        have d4' := d4.below hB3 d4.lt
        have hN3 := hN.later B13
        have wz := hN.2.1.size
        have FR : ∀ D, { target := .collected D, args := #[] } ∈ ds → D < W3.heap.size := fun D hD => by have := hM.fresh D hD; omega
        have hM3 : Marks wl.heap.size ds W3 := hM.keep fun k _ hk _ => (B13.block k (Array.getElem?_eq_some_iff.1 hk).1).trans hk
        have ND := ends_nodup I j
        refine range_rounds (n := 6) (by omega) (gf := 87) (lb := #[.pointer (some ⟨W2.heap.size, 0, none⟩), .pointer (some ⟨W2.heap.size + 1, 0, none⟩)]) rfl (enters_of Try.func87 (by kernel_rfl) rfl) encN (fun _ => rfl) (endsD I (j : Int)) (fun k => W3.heap.size ≤ k) (fun pre B => (NewAt wl P L n I R j pre B ∧ Blk B W.heap.size 3 #[.int .i64 (j : Int)]) ∧ Marks wl.heap.size ds B)
          (fun pre B B' h hb => ⟨⟨h.1.1.later hb, h.1.2.below hb h.1.2.lt⟩, h.2.keep fun k _ hk _ => (hb.block k (Array.getElem?_eq_some_iff.1 hk).1).trans hk⟩)
          (fun pre B k o o' hB hk ho h => ⟨⟨h.1.1.put o' hk ho (by omega), Blk.putObj h.1.2 o' hk ho⟩, h.2.keep fun D _ hD hm => (World.putObj_heap_other (by have := FR D hm; omega)).trans hD⟩) ⟨⟨hN3, d4'⟩, hM3⟩ ?iter
          (fun x a1 B => a1 = { tmps := #[.agg #[.slice A0 n c, .slice A2 m d], .pointer (some ⟨p, 0, none⟩), .pointer none, .pointer (some ⟨g, 0, none⟩), .pointer (some ⟨W.heap.size, 0, none⟩), .int .i64 (x : Int), u6, u7, u8, u9, u10, u11, u12, u13, u14, .pointer (some ⟨b, 0, none⟩), v, .pointer (some ⟨b, 0, none⟩), .pointer (some ⟨b, 0, none⟩), .pointer (some ⟨b, 0, none⟩), .slice A m cA, .int .i64 (m : Int), .int .i64 (j : Int), .bool true, .int .i64 (j : Int), .pointer (some ⟨b, 0, none⟩), .int .i64 (j : Int), .func (.func 87) #[] #[.pointer (some ⟨W2.heap.size, 0, none⟩), .pointer (some ⟨W2.heap.size + 1, 0, none⟩)], .int .i64 (x : Int), u29, u30, u31, u32, u33, u34, u35, u36, u37, u38, u39, u40, u41, u42, u43, u44, s45, u46], defers := [] }) (fun x a1 B k o o' _ _ _ h => h) ?assign ?body ?done
        case iter =>
          intro l J V hbW hJ hY hj0
          have hNV := hN3.later hbW
          have HE : HalfV V (some ⟨b, 0, none⟩) I := .inr ⟨b, rfl, n, m, A, cA, P, HN.out, HM.out, n9, m9, hNV.blk bb1 (by omega) (by omega), own_row (own_at_of oa1 (fun i hi => hNV.2.2 i (by have := (ob i hi).1; omega) (ob i hi).2 (by have := (ob i hi).1; omega)))⟩
          exact ends_seq _ l _ _ _ _ (some ⟨b, 0, none⟩) I j (I64_nat j (by omega)) (fun k => W3.heap.size ≤ k) J V hJ (fun k hk => by have := hbW.size; show W3.heap.size ≤ k; omega) hY hj0 HE (d1.below hbW d1.lt) (d2.below hbW d2.lt)
        case assign =>
          intro l pre x V K _ _ hK
          clear hz2 hz3
          gi_wp2_with (rw [Oper.semAt_eq _ _ _ (fun c h => by cases h)]; go_simp; try go_bits)
          exact hK _ _ rfl (Below.refl _ _)
        case body =>
          rintro l pre x a1 V ⟨⟨hNV, hj4⟩, hMV⟩ rfl hpre hsz2
          dsimp only
          obtain ⟨⟨ps, C, hf, hp, hc⟩, hs0, hs1⟩ := hNV
          have xn : x < n := by have h1 := ends_lt (mem_prefix hpre); have h2 := HN.out; omega
          obtain ⟨hfs, hcap, hoff⟩ := fill_step hf hR hpre hlt xn
          obtain ⟨ln, hln⟩ : ∃ ln, (lst I x j pre).length = ln := ⟨_, rfl⟩
          obtain ⟨cp, hcp⟩ : ∃ cp, R.getD x 0 = cp := ⟨_, rfl⟩
          obtain ⟨of, hof⟩ : ∃ of, offR R x = of := ⟨_, rfl⟩
          have pc := hf.piece x xn
          rw [hln, hcp, hof] at hfs pc
          rw [hln, hcp] at hcap
          rw [hln, hof] at hoff
          have gV := (hs1 g (by omega) n2 (by omega)).trans gb1
          have bV := (hs1 b (by omega) n1 (by omega)).trans bb1
          have c1 : V.cell? ⟨g, 0, none⟩ = some (.pointer (some ⟨b, 0, none⟩)) := (Blk.cell (t := 52) gV 0).trans rfl
          have c2 : V.cell? ⟨b, 1, none⟩ = some (.slice (some ⟨P, 0, none⟩) n n) := (Blk.cell (t := 88) bV 1).trans rfl
          have c3 : V.cell? ⟨W.heap.size, 0, none⟩ = some (.int .i64 (j : Int)) := (hj4.cell 0).trans rfl
          have xx0 : (0 : Int) ≤ (x : Int) := by omega
          have xx1 : (x : Int) < (n : Int) := by omega
          have HZ := Lib.hid (And.intro hz2 hz3)
          clear hz2 hz3
          have gVl : g < V.heap.size := Blk.lt (t := 52) gV
          have bVl : b < V.heap.size := Blk.lt (t := 88) bV
          obtain ⟨LW, PW⟩ : L < W.heap.size ∧ P < W.heap.size := by
            obtain ⟨⟨_, _, _, q1, q2⟩, _⟩ := hN
            exact ⟨q2.lt, q1.lt⟩
          have B3z : W.heap.size + 3 = W3.heap.size := by have h1 := HZ.out.1; have h2 := HZ.out.2; omega
          obtain ⟨VA, VB, hVA, hVB, a1, a2, a3, a4, a5, a6, a7, e1, e2, e3, e4, e5, c4, l4⟩ := app_facts c1 c2 c3 hp hc pc hoff gVl bVl hj4.lt (by omega) (by omega) (by omega) (Ne.symm hLP)
          have FIN := Lib.hid (new_round hVA hVB hfs hp hc hs0 hs1 hj4 hMV (Ne.symm hLP) (by omega) (by omega) (show P < W3.heap.size by omega) (by omega))
          have HVA := Lib.hid hVA
          have HVB := Lib.hid hVB
          have CAP := Lib.hid hcap
          clear hVA hVB hfs hp hc hs0 hs1 hj4 hMV hf hpre ND hoff pc gV bV hN hN3 hM hM3 FR B3z d1 d2 d4 d4' wz hcap
          refine wpIn_block ?_
          refine wpIn_region_round (S := fun u => u.cell? ⟨g, 0, none⟩ = some (.pointer (some ⟨b, 0, none⟩)) ∧ u.cell? ⟨b, 1, none⟩ = some (.slice (some ⟨P, 0, none⟩) n n) ∧ u.cell? ⟨W.heap.size, 0, none⟩ = some (.int .i64 (j : Int))) (by kernel_rfl) (by kernel_rfl) (inblock_shut roundOut_shut) ⟨c1, c2, c3⟩ (fun hH => ?_)
          refine wpAnyH_take (i := 0) (v := .pointer (some ⟨b, 0, none⟩)) rfl (by kernel_rfl) (by kernel_rfl) (by kernel_rfl) (fun _ _ _ h => h) (Or.inl ⟨by rfl, ?_⟩) hH ?_
          · (intro u hu; obtain ⟨h1, h2, h3⟩ := hu; go_simp)
          simp only [Act.put, List.setIfInBounds_toArray, List.set_cons_zero, List.set_cons_succ]
          refine wpAnyH_take (i := 1) (v := .pointer (some ⟨b, 0, none⟩)) rfl (by kernel_rfl) (by kernel_rfl) (by kernel_rfl) (fun _ _ _ h => h) (Or.inl ⟨by rfl, ?_⟩) hH ?_
          · (intro u hu; obtain ⟨h1, h2, h3⟩ := hu; go_simp)
          simp only [Act.put, List.setIfInBounds_toArray, List.set_cons_zero, List.set_cons_succ]
          refine wpAnyH_take (i := 2) (v := .pointer (some ⟨b, 1, none⟩)) rfl (by kernel_rfl) (by kernel_rfl) (by kernel_rfl) (fun _ _ _ h => h) (Or.inl ⟨by rfl, ?_⟩) hH ?_
          · (intro u hu; obtain ⟨h1, h2, h3⟩ := hu; go_simp)
          simp only [Act.put, List.setIfInBounds_toArray, List.set_cons_zero, List.set_cons_succ]
          refine wpAnyH_take (i := 3) (v := .slice (some ⟨P, 0, none⟩) n n) rfl (by kernel_rfl) (by kernel_rfl) (by kernel_rfl) (fun _ _ _ h => h) (Or.inl ⟨by rfl, ?_⟩) hH ?_
          · (intro u hu; obtain ⟨h1, h2, h3⟩ := hu; go_simp)
          simp only [Act.put, List.setIfInBounds_toArray, List.set_cons_zero, List.set_cons_succ]
          refine wpAnyH_take (i := 4) (v := .int .i64 (x : Int)) rfl (by kernel_rfl) (by kernel_rfl) (by kernel_rfl) (fun _ _ _ h => h) (Or.inl ⟨by rfl, ?_⟩) hH ?_
          · (intro u hu; obtain ⟨h1, h2, h3⟩ := hu; go_simp)
          simp only [Act.put, List.setIfInBounds_toArray, List.set_cons_zero, List.set_cons_succ]
          refine wpAnyH_take (i := 5) (v := .pointer (some ⟨b, 0, none⟩)) rfl (by kernel_rfl) (by kernel_rfl) (by kernel_rfl) (fun _ _ _ h => h) (Or.inl ⟨by rfl, ?_⟩) hH ?_
          · (intro u hu; obtain ⟨h1, h2, h3⟩ := hu; go_simp)
          simp only [Act.put, List.setIfInBounds_toArray, List.set_cons_zero, List.set_cons_succ]
          refine wpAnyH_take (i := 6) (v := .pointer (some ⟨b, 0, none⟩)) rfl (by kernel_rfl) (by kernel_rfl) (by kernel_rfl) (fun _ _ _ h => h) (Or.inl ⟨by rfl, ?_⟩) hH ?_
          · (intro u hu; obtain ⟨h1, h2, h3⟩ := hu; go_simp)
          simp only [Act.put, List.setIfInBounds_toArray, List.set_cons_zero, List.set_cons_succ]
          refine wpAnyH_take (i := 7) (v := .pointer (some ⟨b, 1, none⟩)) rfl (by kernel_rfl) (by kernel_rfl) (by kernel_rfl) (fun _ _ _ h => h) (Or.inl ⟨by rfl, ?_⟩) hH ?_
          · (intro u hu; obtain ⟨h1, h2, h3⟩ := hu; go_simp)
          simp only [Act.put, List.setIfInBounds_toArray, List.set_cons_zero, List.set_cons_succ]
          refine wpAnyH_take (i := 8) (v := .slice (some ⟨P, 0, none⟩) n n) rfl (by kernel_rfl) (by kernel_rfl) (by kernel_rfl) (fun _ _ _ h => h) (Or.inl ⟨by rfl, ?_⟩) hH ?_
          · (intro u hu; obtain ⟨h1, h2, h3⟩ := hu; go_simp)
          simp only [Act.put, List.setIfInBounds_toArray, List.set_cons_zero, List.set_cons_succ]
          refine wpAnyH_take (i := 9) (v := .int .i64 (x : Int)) rfl (by kernel_rfl) (by kernel_rfl) (by kernel_rfl) (fun _ _ _ h => h) (Or.inl ⟨by rfl, ?_⟩) hH ?_
          · (intro u hu; obtain ⟨h1, h2, h3⟩ := hu; go_simp)
          simp only [Act.put, List.setIfInBounds_toArray, List.set_cons_zero, List.set_cons_succ]
          refine wpAnyH_take (i := 10) (v := .pointer (some ⟨P, x, none⟩)) rfl (by kernel_rfl) (by kernel_rfl) (by kernel_rfl) (fun _ _ _ h => h) (Or.inl ⟨by rfl, ?_⟩) hH ?_
          · (intro u hu; obtain ⟨h1, h2, h3⟩ := hu; go_simp)
          simp only [Act.put, List.setIfInBounds_toArray, List.set_cons_zero, List.set_cons_succ]
          refine wpAnyH_take (i := 12) (v := .int .i64 (j : Int)) rfl (by kernel_rfl) (by kernel_rfl) (by kernel_rfl) (fun _ _ _ h => h) (Or.inl ⟨by rfl, ?_⟩) hH ?_
          · (intro u hu; obtain ⟨h1, h2, h3⟩ := hu; go_simp)
          simp only [Act.put, List.setIfInBounds_toArray, List.set_cons_zero, List.set_cons_succ]
          refine wpAnyH_ready (rs := [11, 13]) (by kernel_rfl) (by simp) ?_
          refine AllReadyH.cons rfl (fun K hK => ?_) (AllReadyH.cons rfl (fun K hK => ?_) AllReadyH.nil)
          · go_simp
            refine hK.out _ _ hH (fun _ => ?_)
            clear hK K
            refine wpAnyH_ready (rs := [13]) (by kernel_rfl) (by simp) ?_
            refine AllReadyH.cons rfl (fun K hK => ?_) AllReadyH.nil
            go_simp
            rw [show (V.alloc (.cells #[.int .i64 (j : Int)] 3)).drew = VA from HVA.out.symm]
            refine hK.out _ _ ⟨a1, a2, a3⟩ (fun _ => ?_)
            clear hK K
            refine wpAnyH_ready (rs := [14]) (by kernel_rfl) (by simp) ?_
            refine AllReadyH.cons rfl (fun K hK => ?_) AllReadyH.nil
            refine step_append_room rfl (.tmp 40) (.tmp 42) 32 rfl 3 i0 1 Try.underlying32 G0.out G2.out L of ln cp rfl ⟨V.heap.size, 0, none⟩ 1 1 [.int .i64 (j : Int)] rfl rfl ?_ (by simp [Value.oneCell']) CAP.out ?_ ?_
            · exact fun k u hk => cells_one a7 k u hk
            · intro k hk
              obtain rfl : k = 0 := by simpa using hk
              rw [Nat.mul_one]
              exact ⟨a5, a6⟩
            rw [show VA.setCells L (of + ln * 1) [.int .i64 (j : Int)] = VB by rw [HVB.out, Nat.mul_one]; rfl]
            refine hK.out _ _ ⟨e1, e2, e3⟩ (fun hH2 => ?_)
            clear hK K
            simp only [Act.put, List.setIfInBounds_toArray, List.set_cons_zero, List.set_cons_succ]
            refine wpAnyH_take (i := 15) (v := .pointer (some ⟨P, x, none⟩)) rfl (by kernel_rfl) (by kernel_rfl) (by kernel_rfl) (fun _ _ _ h => h) (Or.inl ⟨by rfl, ?_⟩) hH2 ?_
            · (intro u hu; obtain ⟨h1, h2, h3⟩ := hu; go_simp)
            simp only [Act.put, List.setIfInBounds_toArray, List.set_cons_zero, List.set_cons_succ]
            refine wpAnyH_ready (rs := [16]) (by kernel_rfl) (by simp) ?_
            refine AllReadyH.cons rfl (fun K hK => ?_) AllReadyH.nil
            go_simp
            refine hK.out _ _ ?_ (fun _ => wpAnyH_done (by kernel_rfl) (inblock_normal (FIN.out _)) _)
            exact s3_set e1 e2 e3 (by omega) (by omega) (by omega)
          · go_simp
            rw [show (V.alloc (.cells #[.int .i64 (j : Int)] 3)).drew = VA from HVA.out.symm]
            refine hK.out _ _ ⟨a1, a2, a3⟩ (fun _ => ?_)
            clear hK K
            refine wpAnyH_ready (rs := [11]) (by kernel_rfl) (by simp) ?_
            refine AllReadyH.cons rfl (fun K hK => ?_) AllReadyH.nil
            go_simp
            refine hK.out _ _ ⟨a1, a2, a3⟩ (fun _ => ?_)
            clear hK K
            refine wpAnyH_ready (rs := [14]) (by kernel_rfl) (by simp) ?_
            refine AllReadyH.cons rfl (fun K hK => ?_) AllReadyH.nil
            refine step_append_room rfl (.tmp 40) (.tmp 42) 32 rfl 3 i0 1 Try.underlying32 G0.out G2.out L of ln cp rfl ⟨V.heap.size, 0, none⟩ 1 1 [.int .i64 (j : Int)] rfl rfl ?_ (by simp [Value.oneCell']) CAP.out ?_ ?_
            · exact fun k u hk => cells_one a7 k u hk
            · intro k hk
              obtain rfl : k = 0 := by simpa using hk
              rw [Nat.mul_one]
              exact ⟨a5, a6⟩
            rw [show VA.setCells L (of + ln * 1) [.int .i64 (j : Int)] = VB by rw [HVB.out, Nat.mul_one]; rfl]
            refine hK.out _ _ ⟨e1, e2, e3⟩ (fun hH2 => ?_)
            clear hK K
            simp only [Act.put, List.setIfInBounds_toArray, List.set_cons_zero, List.set_cons_succ]
            refine wpAnyH_take (i := 15) (v := .pointer (some ⟨P, x, none⟩)) rfl (by kernel_rfl) (by kernel_rfl) (by kernel_rfl) (fun _ _ _ h => h) (Or.inl ⟨by rfl, ?_⟩) hH2 ?_
            · (intro u hu; obtain ⟨h1, h2, h3⟩ := hu; go_simp)
            simp only [Act.put, List.setIfInBounds_toArray, List.set_cons_zero, List.set_cons_succ]
            refine wpAnyH_ready (rs := [16]) (by kernel_rfl) (by simp) ?_
            refine AllReadyH.cons rfl (fun K hK => ?_) AllReadyH.nil
            go_simp
            refine hK.out _ _ ?_ (fun _ => wpAnyH_done (by kernel_rfl) (inblock_normal (FIN.out _)) _)
            exact s3_set e1 e2 e3 (by omega) (by omega) (by omega)
        case done =>
          rintro D V hD ⟨⟨⟨⟨ps, C, hf, hp, hc⟩, hs0, hs1⟩, hj4⟩, hm2⟩ hd
          gi_wp2
          exact ⟨⟨j + 1, { target := .collected D, args := #[] } :: ds, _, _, _, _, _, _, _, by omega, ⟨⟨ps, C, fill_next hf, hp, hc⟩, hs0, hs1⟩, .cons (by omega) hd (fun D' hD' e => by have := FR D' hD'; omega) hm2, rfl⟩, by simp [intOf]; omega⟩
      · obtain rfl : j = m := by omega
        have ta : ¬ ((j : Int) < (j : Int)) := by omega
        gi_wp2
        refine leaves_marks ds W hM ?_
        intro W' hlow hst
        obtain ⟨⟨ps, C, hf, hp, hc⟩, hs0, hs1⟩ := hN
        have LT : L < wl.heap.size := Ll
        have z5 := hB1.size
        have atE : ∀ k, lst I k j [] = atD I (k : Int) := fun k => by
          rw [lst_nil]
          unfold atD someD
          rw [HM.out]
        refine ⟨_, results_tmp rfl _ _ _, b, rfl, ?_, n, j, A, cA, P, L, offR R, fun k => R.getD k 0, ps.toArray, C.toArray, ?_⟩
        · exact (Below.trans_save hB1 hs0 (fun i hi => hs1 i (by omega) (by omega) (by omega))).trans (hlow.mono z5)
        · have kb : ∀ i, i < wl.heap.size → i ≠ P → i ≠ L → W'.heap[i]? = wl.heap[i]? := fun i hi h1 h2 => (hlow.block i hi).trans (hs1 i hi h1 h2)
          refine ⟨HN.out, HM.out, n9, m9, lb, lP, by omega, (kb b (by omega) n1 (by omega)).trans bb1, own_at_of oa1 (fun i hi => kb i (by have := (ob i hi).1; omega) (ob i hi).2 (by have := (ob i hi).1; omega)), (hlow.block P Pl).trans hp, (hlow.block L LT).trans hc, fun k hk => ?_, fun k hk t ht => ?_⟩
          · rw [List.getElem?_toArray, hf.piece k hk, atE]
          · rw [List.getElem?_toArray]
            exact hf.cells k hk t _ (by rw [atE, List.getElem?_eq_getElem ht])
end Go.Proofs.Ytajckihgfelbaaa.Adj
