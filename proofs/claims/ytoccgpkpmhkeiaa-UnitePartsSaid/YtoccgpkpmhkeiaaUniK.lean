/- Lists of lists of numbers that come in; the walk of does. -/
import Derived.Test.YtoccgpkpmhkeiaaUniJ
namespace Go.Proofs.Ytoccgpkpmhkeiaa.Uni
open Go.RowKit Go.Proofs.Ytoccgpkpmhkeiaa.Inst

/-- A list of lists of numbers, in blocks below B. -/
def ZGrid (w : World) (B : Nat) (v : Value) (G : List (List Int)) : Prop :=
  ∃ A cap VS, v = .slice A G.length cap ∧ VS.length = G.length ∧ Cells w B A VS ∧ ∀ i (h : i < VS.length) (g : i < G.length), ∃ R c, VS[i] = .slice R G[i].length c ∧ Cells w B R (numV G[i])
theorem cells_off {w u : World} {B lo hi : Nat} {a : Option Addr} {vs : List Value} (h : Cells w B a vs) (ho : Off lo hi w u) (h1 : B ≤ lo) (h2 : B ≤ w.heap.size) : Cells u B a vs := by
  intro h0
  obtain ⟨b, off, e, hb, hc⟩ := h h0
  exact ⟨b, off, e, hb, fun i hi => (ho.cell _ (by omega) (.inl (by omega))).trans (hc i hi)⟩
theorem ZGrid.below {w u : World} {B : Nat} {v : Value} {G : List (List Int)} (h : ZGrid w B v G) (hb : Below B w u) : ZGrid u B v G := by
  have k : ∀ {a : Option Addr} {vs : List Value}, Cells w B a vs → Cells u B a vs := by
    intro a vs h h0
    obtain ⟨b, off, e, hlt, hc⟩ := h h0
    exact ⟨b, off, e, hlt, fun i hi => (hb.cell (p := ⟨b, off + i, none⟩) hlt).trans (hc i hi)⟩
  obtain ⟨A, cap, VS, e, hl, hc, hr⟩ := h
  refine ⟨A, cap, VS, e, hl, k hc, fun i h1 h2 => ?_⟩
  obtain ⟨R, c, e, hc⟩ := hr i h1 h2
  exact ⟨R, c, e, k hc⟩
theorem ZGrid.row {w : World} {B : Nat} {v : Value} {G : List (List Int)} (h : ZGrid w B v G) :
    ∃ A cap, v = .slice A G.length cap ∧ ∀ k (hk : k < G.length), ∃ b off R c, A = some ⟨b, off, none⟩ ∧ b < B ∧ w.cell? ⟨b, off + k, none⟩ = some (.slice R G[k].length c) ∧ Cells w B R (numV G[k]) := by
  obtain ⟨A, cap, VS, e, hl, hp, hr⟩ := h
  refine ⟨A, cap, e, fun k hk => ?_⟩
  obtain ⟨b, off, ea, h1, h3⟩ := hp (by omega)
  obtain ⟨R, c, eb, hb⟩ := hr k (by omega) hk
  exact ⟨b, off, R, c, ea, h1, by rw [h3 k (by omega), eb], hb⟩

theorem zgrid_at {w : World} {B : Nat} {A : Option Addr} {m c : Nat} {G : List (List Int)} (h : ZGrid w B (.slice A m c) G) (k : Nat) (hk : k < G.length) : ∃ b off R rc, A = some ⟨b, off, none⟩ ∧ b < B ∧ w.cell? ⟨b, off + k, none⟩ = some (.slice R G[k].length rc) ∧ Cells w B R (numV G[k]) := by
  obtain ⟨A', c', e, hr⟩ := h.row
  cases e
  exact hr k hk
theorem off_set (w : World) (p o : Nat) (v : Value) : Off p (p + 1) w (w.setCell ⟨p, o, none⟩ v) := ⟨rfl, rfl, rfl, by simp [World.setCell], fun k _ hf => Below.heap_setCell w ⟨p, o, none⟩ v k (by show k ≠ p; omega)⟩
/-- Numbers don't lie where sets do. -/
theorem past_far {w : World} {lo p : Nat} {A : Option Addr} {L : List Nat} {t : TypeId} {B : Option Addr} {n c : Nat} (h : Past w lo A (natV L)) (hb : Blk w p t #[.slice B n c]) (v : Value) : Past (w.setCell ⟨p, 0, none⟩ v) lo A (natV L) := by
  intro h0
  rw [natV_length] at h0
  obtain ⟨b, off, e, h1, h2, h3⟩ := past_at h h0
  have hne : b ≠ p := by
    rintro rfl
    have q := h3 0 h0
    rw [hb.cell] at q
    rcases ho : off + 0 with _ | k
    · rw [ho] at q
      simp at q
    · rw [ho] at q
      simp at q
  obtain ⟨b', off', e', _, _, h3'⟩ := h (by rw [natV_length]; exact h0)
  rw [e] at e'
  cases e'
  exact ⟨b, off, e, h1, by simpa [World.setCell] using h2, fun i hi => ((off_set w p 0 v).cell _ h2 (by omega)).trans (h3' i hi)⟩

/-- The groups behind the first k joins. -/
def stepZ (L : List Nat) (r : List Int) : List Nat := if r.length < 2 then L else joinL L (r.getD 0 0) (r.getD 1 0)
def joinsZ (N : Int) (G : List (List Int)) (k : Nat) : List Nat := (G.take k).foldl stepZ (startL N)
theorem joinsZ_succ (N : Int) (G : List (List Int)) (k : Nat) (h : k < G.length) : joinsZ N G (k + 1) = stepZ (joinsZ N G k) G[k] := by
  unfold joinsZ
  rw [List.take_succ_eq_append_getElem h, List.foldl_append]
  rfl
theorem step_length (L : List Nat) (r : List Int) : (stepZ L r).length = L.length := by
  unfold stepZ
  split
  · rfl
  · exact join_length _ _ _
theorem joinsZ_length (N : Int) (G : List (List Int)) (k : Nat) : (joinsZ N G k).length = (startL N).length := by
  unfold joinsZ
  generalize G.take k = l
  generalize startL N = L
  induction l generalizing L with
  | nil => rfl
  | cons r l ih => rw [List.foldl_cons, ih, step_length]

/-- What holds in the regions of does. -/
def Good2 (Un : World → Nat → Nat → Nat → List Nat → Prop) (w0 : World) (b lo hi : Nat) (L : List Nat) (A : Option Addr) (u : World) : Prop := Un u b lo hi L ∧ Off lo hi w0 u ∧ Past u hi A (natV L)
abbrev SK (Un : World → Nat → Nat → Nat → List Nat → Prop) (w0 : World) (b lo hi : Nat) (L : List Nat) (A : Option Addr) (p : Nat) (n c : Nat) (u : World) : Prop := u.cell? ⟨p, 0, none⟩ = some (.slice A n c) ∧ Good2 Un w0 b lo hi L A u
theorem SK.off {Un : World → Nat → Nat → Nat → List Nat → Prop} {w0 : World} {b lo hi : Nat} {L : List Nat} {A : Option Addr} {p n c : Nat} {u v : World} (h : SK Un w0 b lo hi L A p n c u) (hp : hi ≤ p) (hl : p < w0.heap.size) (ho : Off lo hi u v) (hu : Un v b lo hi L) : SK Un w0 b lo hi L A p n c v :=
  ⟨(ho.cell 0 (Nat.lt_of_lt_of_le hl h.2.2.1.size) (.inr hp)).trans h.1, hu, h.2.2.1.trans ho, h.2.2.2.off ho (Nat.le_refl _)⟩
/-- The contracts of what is called there. -/
structure Deeds (Un : World → Nat → Nat → Nat → List Nat → Prop) (w0 : World) (b lo hi : Nat) (L : List Nat) (A : Option Addr) (p n c : Nat) : Prop where
  alike : ∀ (a : Int) (w' : World), I64 a → SK Un w0 b lo hi L A p n c w' → Calls Try.prog 20 #[obj b, setV A n c, .int .i64 a] w' fun e u => e = .returned (.bool true) ∧ SK Un w0 b lo hi L A p n c u
  same : ∀ (x y : Int) (r : Bool) (w' : World), sameB L x y = r → I64 x → I64 y → SK Un w0 b lo hi L A p n c w' → Calls Try.prog 17 #[obj b, .int .i64 x, .int .i64 y] w' fun e u => e = .returned (.bool r) ∧ SK Un w0 b lo hi L A p n c u
  rsame : ∀ (x y : Int) (r : Bool) (w' : World), sameB L x y = r → SK Un w0 b lo hi L A p n c w' → Calls Try.prog 21 #[setV A n c, .int .i64 x, .int .i64 y] w' fun e u => e = .returned (.bool r) ∧ SK Un w0 b lo hi L A p n c u
theorem deeds {Un : World → Nat → Nat → Nat → List Nat → Prop} (C : UniC Un) (w0 : World) (b lo hi : Nat) (L : List Nat) (A : Option Addr) (p n c : Nat) (hn : L.length = n) (h9 : n ≤ 1000) (hp : hi ≤ p) (hl : p < w0.heap.size) : Deeds Un w0 b lo hi L A p n c where
  alike := fun a w' ha h => (alike_any C A c n b lo hi L hn a ha w' h.2.1 h.2.2.2).mono (by
    rintro e u ⟨he, hu, ho⟩
    exact ⟨he, h.off hp hl ho hu⟩)
  same := fun x y r w' hr hx hy h => (C.same b lo hi L x y w' h.2.1 hx hy).mono (by
    rintro e u ⟨he, hu, ho⟩
    exact ⟨by rw [he, hr], h.off hp hl ho hu⟩)
  rsame := fun x y r w' hr h => (rsame_any A c n L hn x y r hr w' h.2.2.2.cells (by omega)).mono (by
    rintro e u ⟨he, hb⟩
    exact ⟨he, h.off hp hl (Off.of hb) (C.later h.2.1 hb)⟩)
end Go.Proofs.Ytoccgpkpmhkeiaa.Uni
