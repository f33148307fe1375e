/- The laws' own helper: pairs by choices. -/
import Derived.Test.YtoccgpkpmhkeiaaUniL
import Derived.Test.YtoccgpkpmhkeiaaInstP
import Derived.Deep.RegionLaw
namespace Go.Proofs.Ytoccgpkpmhkeiaa.Uni
open Go.RowKit Go.Proofs.Ytoccgpkpmhkeiaa.Inst

/-- A list of lists of numbers of one's own. -/
def ZOwn (w : World) (base : Nat) (v : Value) (G : List (List Int)) : Prop :=
  ∃ VS, w.ownsRow base 25 1 v G.length VS ∧ VS.length = G.length ∧ ∀ i (h : i < VS.length) (g : i < G.length), w.ownsRow base 3 1 VS[i] G[i].length (numV G[i])
theorem ZOwn.grid {w : World} {base : Nat} {v : Value} {G : List (List Int)} (h : ZOwn w base v G) : ZGrid w w.heap.size v G := by
  obtain ⟨VS, ho, hl, hr⟩ := h
  obtain ⟨_, A, cap, rfl, _, _, hc⟩ := own_cells ho
  refine ⟨A, cap, VS, rfl, hl, hc, fun i h1 h2 => ?_⟩
  obtain ⟨_, R, c, e, _, _, hc⟩ := own_cells (hr i h1 h2)
  exact ⟨R, c, e, hc⟩
theorem ZOwn.snoc {w u : World} {base : Nat} {v v1 lv : Value} {G : List (List Int)} {l : List Int} {VS : List Value} (hl : VS.length = G.length) (hr : ∀ i (h : i < VS.length) (g : i < G.length), w.ownsRow base 3 1 VS[i] G[i].length (numV G[i]))
    (hv : w.ownsRow base 25 1 v G.length VS) (hrow : w.ownsRow base 3 1 lv l.length (numV l)) (ho : u.ownsRow base 25 1 v1 (G.length + 1) (VS ++ [lv])) (hg : w.grownBy u v.ownBlock) : ZOwn u base v1 (G ++ [l]) := by
  refine ⟨VS ++ [lv], by rw [List.length_append]; exact ho, by simp [hl], fun i h1 h2 => ?_⟩
  have keep : ∀ {x : Value} {n : Nat} {xs : List Value}, w.ownsRow base 3 1 x n xs → u.ownsRow base 3 1 x n xs := by
    intro x n xs hx
    rcases own_apart hx hv (by decide) with q | q
    · rcases hx with ⟨h1, ⟨rfl, h2⟩ | ⟨g, cap, cur, rfl, _⟩⟩
      · exact ⟨h1, .inl ⟨rfl, h2⟩⟩
      · simp [Value.ownBlock] at q
    · exact hx.kept hg (Or.inr q)
  by_cases c : i < VS.length
  · have c2 : i < G.length := by omega
    simp only [List.getElem_append_left c, List.getElem_append_left c2]
    exact keep (hr i c c2)
  · have c1 : i = VS.length := by simp at h1; omega
    have e1 : (VS ++ [lv])[i] = lv := by subst c1; simp
    have e2 : (G ++ [l])[i] = l := by subst c1; simp [hl]
    rw [e1, e2]
    exact keep hrow
theorem zOwn_parts {w : World} {base : Nat} {v : Value} {G : List (List Int)} (h : ZOwn w base v G) : ∃ A cap VS, v = .slice A G.length cap ∧ G.length ≤ cap ∧ w.ownsRow base 25 1 (.slice A G.length cap) G.length VS ∧ VS.length = G.length ∧ ∀ i (h : i < VS.length) (g : i < G.length), w.ownsRow base 3 1 VS[i] G[i].length (numV G[i]) := by
  obtain ⟨VS, ho, hl, hr⟩ := h
  obtain ⟨_, A, cap, rfl, hc, _, _⟩ := own_cells ho
  exact ⟨A, cap, VS, rfl, hc, ho, hl, hr⟩
theorem own_two {w : World} {g base : Nat} {x y : Int} (h : Blk w g 3 #[.int .i64 x, .int .i64 y]) (hg : base ≤ g) : w.ownsRow base 3 1 (.slice (some ⟨g, 0, none⟩) 2 2) 2 (numV [x, y]) :=
  ⟨rfl, .inr ⟨g, 2, #[.int .i64 x, .int .i64 y], rfl, hg, h, Nat.le_refl _, by decide, rfl, rfl⟩⟩

def pairZ (c : List Nat) (j : Nat) : List Int := [(at0 c (2 * j) : Int) % 20 - 1, (at0 c (2 * j + 1) : Int) % 20 - 1]
def pairsN (c : List Nat) (j : Nat) : List (List Int) := (List.range j).map (pairZ c)
def pairsZ (c : List Nat) : List (List Int) := pairsN c (min (c.length / 2) 30)
theorem wrap_id {r : Int} (h0 : -100 ≤ r) (h1 : r ≤ 65535) : IntKind.i64.wrap r = r := by
  simp only [IntKind.wrap_i64]
  omega
theorem cell_one_at {w : World} {n : Nat} (h : w.heap.size = n) (v : Value) (t : TypeId) : ∀ j u, [v][j]? = some u → (w.alloc (.cells #[v] t)).cell? ((⟨n, 0, none⟩ : Addr).add j) = some u := by
  subst h
  exact cell_one_new w v t
theorem pairsN_succ (c : List Nat) (j : Nat) : pairsN c (j + 1) = pairsN c j ++ [pairZ c j] := by
  unfold pairsN
  rw [List.range_succ, List.map_append]
  rfl
theorem pairsN_length (c : List Nat) (j : Nat) : (pairsN c j).length = j := by simp [pairsN]
def PairsRel (w : World) (c : List Nat) (s3 s4 : Value) (u : World) : Prop :=
  ∃ j : Nat, j ≤ min (c.length / 2) 30 ∧ s4 = .int .i64 ((2 * j : Nat) : Int) ∧ ZOwn u w.heap.size s3 (pairsN c j) ∧ Below w.heap.size w u

set_option maxRecDepth 100000 in
set_option maxHeartbeats 8000000 in
theorem pairs_any (a : Option Addr) (cc : Nat) (c : List Nat) (hc : Octs c) (hl : c.length ≤ 9223372036854775800) (w : World) (ha : Cells w w.heap.size a (octV c)) :
    Calls Try.prog 10 #[.slice a c.length cc] w fun e w' => ∃ v, e = .returned v ∧ ZOwn w' w.heap.size v (pairsZ c) ∧ Below w.heap.size w w' := by
  obtain ⟨j0, hj0, hy0, hy1, hy2⟩ := info_parts info_ints
  have J0 := Lib.hid hj0
  have J1 := Lib.hid hy0
  have J2 := Lib.hid hy1
  have J3 := Lib.hid hy2
  have HA := Lib.hid ha
  have HC := Lib.hid hc
  clear hj0 hy0 hy1 hy2 ha hc
  go_enter Try.func10, Try.ntmps10
  go_wp2_with fail
  go_loopw [3, 4] (fun s3 s4 u => PairsRel w c s3 s4 u) (fun _ s4 _ => 62 - (intOf s4).toNat)
  case atStart => exact ⟨0, by omega, rfl, ⟨[], ⟨rfl, .inl ⟨rfl, rfl⟩⟩, rfl, fun i h _ => absurd h (by simp)⟩, Below.refl _ _⟩
  case round =>
    obtain ⟨j, hj, rfl, hz, hB⟩ := hrel
    have HB := Lib.hid hB
    have bs := hB.size
    have HZ := Lib.hid hz
    obtain ⟨VA, vc, VS, ev, vle, vown, vlen, vrows⟩ := zOwn_parts hz
    rw [pairsN_length] at ev vle vown
    subst ev
    have VO := Lib.hid vown
    have VL := Lib.hid vlen
    have VR := Lib.hid vrows
    clear hz hB vown vlen vrows
    obtain ⟨k, hk⟩ : ∃ k, k = 2 * j := ⟨_, rfl⟩
    rw [← hk]
    by_cases hlt : j < min (c.length / 2) 30
    · have q1 : (k : Int) + 1 < (c.length : Int) := by omega
      have q2 : (k : Int) < 60 := by omega
      have q0 : (0 : Int) ≤ (k : Int) := by omega
      have q3 : (k : Int) < (c.length : Int) := by omega
      have q4 : (0 : Int) ≤ (k : Int) + 1 := by omega
      have s1 : IntKind.i64.wrap ((k : Int) + 1) = (k : Int) + 1 := wrap_id (by omega) (by omega)
      obtain ⟨b, off, ea, lb, hcs⟩ := octs_at (HA.out.later (Nat.le_refl _) HB.out) (by omega)
      have g0 := hcs k (by omega)
      have g1 := hcs (k + 1) (by omega)
      have l0 := at0_lt HC.out k
      have l1 := at0_lt HC.out (k + 1)
      have PZ : pairZ c j = [(at0 c k : Int) % 20 - 1, (at0 c (k + 1) : Int) % 20 - 1] := by unfold pairZ; rw [hk]
      have NX := pairsN_succ c j
      rw [PZ] at NX
      obtain ⟨x, hx⟩ : ∃ x, at0 c k = x := ⟨_, rfl⟩
      obtain ⟨y, hy⟩ : ∃ y, at0 c (k + 1) = y := ⟨_, rfl⟩
      rw [hx] at g0 l0 NX
      rw [hy] at g1 l1 NX
      have N2 := Lib.hid NX
      have HK := Lib.hid hk
      have EA := Lib.hid ea
      subst ea
      clear hcs hx hy PZ NX hk
      have u1 : IntKind.i64.wrap ((x : Int) % 20) = (x : Int) % 20 := wrap_id (by omega) (by omega)
      have u2 : IntKind.i64.wrap ((x : Int) % 20 - 1) = (x : Int) % 20 - 1 := wrap_id (by omega) (by omega)
      have u3 : IntKind.i64.wrap ((y : Int) % 20) = (y : Int) % 20 := wrap_id (by omega) (by omega)
      have u4 : IntKind.i64.wrap ((y : Int) % 20 - 1) = (y : Int) % 20 - 1 := wrap_id (by omega) (by omega)
      have e1 : (x : Int).tmod 20 = (x : Int) % 20 := Int.tmod_eq_emod_of_nonneg (by omega)
      have e2 : (y : Int).tmod 20 = (y : Int) % 20 := Int.tmod_eq_emod_of_nonneg (by omega)
      have V1 := Lib.hid (show IntKind.i64.wrap (IntKind.i64.wrap ((x : Int).tmod 20) - 1) = (x : Int) % 20 - 1 by rw [e1, u1, u2])
      have V2 := Lib.hid (show IntKind.i64.wrap (IntKind.i64.wrap ((y : Int).tmod 20) - 1) = (y : Int) % 20 - 1 by rw [e2, u3, u4])
      clear e1 e2
      go_wp2_with fail
      go_region_law (refine step_append_lies _ (by rfl) _ _ _ (by rfl) w.heap.size 25 j0 _ 1 24 Try.underlying22 J0.out J1.out J2.out J3.out rfl (by omega) (.slice VA j vc) j _ (by rfl) ((VO.out.drew.alloc _).alloc _) ⟨wr.heap.size + 1, 0, none⟩ 1 1 [.slice (some ⟨wr.heap.size, 0, none⟩) 2 2] (by rfl) (by rfl) (cell_one_at (by simp) _ _) (by simp [Value.oneCell']) (by omega) (by simp only [maxLen]; omega) (by omega) (by simp; omega) (wr.heap.size + 1 + 1) (by simp) ?_; intro gg cap x1 hown1 hgrow hat hgl; rw [V1.out, V2.out] at hgrow; have HO1 := Lib.hid hown1; have HG1 := Lib.hid hgrow; clear hown1 hgrow hat)
      all_goals
        go_wp2_with fail
        have AL : Below wr.heap.size wr ((wr.alloc (.cells #[.int .i64 ((x : Int) % 20 - 1), .int .i64 ((y : Int) % 20 - 1)] 3)).alloc (.cells #[.slice (some ⟨wr.heap.size, 0, none⟩) 2 2] 25)).drew := (((Below.refl _ _).alloc (Nat.le_refl _) _).alloc (by simp) _).drew
        refine ⟨⟨j + 1, by omega, by have := HK.out; simp; omega, ?_, ?_⟩, by simp [intOf]; omega⟩
        · rw [N2.out]
          refine ZOwn.snoc VL.out (fun i h1 h2 => own_later (VR.out i h1 h2) AL) (by rw [pairsN_length]; exact own_later VO.out AL) (own_two (g := wr.heap.size) ((Blk.new wr _ _).alloc _).drew bs) (by rw [pairsN_length]; exact HO1.out) HG1.out
        · exact (chain2 HB.out AL).grown HG1.out (by simp; omega) (own_ge VO.out)
    · have jn : j = min (c.length / 2) 30 := by omega
      have fin : ∀ e : Ending, e = .returned (.slice VA j vc) → ∃ v, e = .returned v ∧ ZOwn wr w.heap.size v (pairsZ c) ∧ Below w.heap.size w wr := by
        rintro e rfl
        exact ⟨_, rfl, by unfold pairsZ; rw [← jn]; exact HZ.out, HB.out⟩
      have FIN := Lib.hid fin
      clear fin
      by_cases q : k + 1 < c.length
      · have q1 : (k : Int) + 1 < (c.length : Int) := by omega
        have q2 : ¬ ((k : Int) < 60) := by omega
        have q0 : (0 : Int) ≤ (k : Int) := by omega
        have q3 : (k : Int) ≤ 60 := by omega
        have HK := Lib.hid hk
        have JN := Lib.hid jn
        clear hk jn
        go_wp2_with fail
        go_ret
        exact FIN.out _ rfl
      · have q1 : ¬ ((k : Int) + 1 < (c.length : Int)) := by omega
        have q0 : (0 : Int) ≤ (k : Int) := by omega
        have q3 : (k : Int) ≤ 60 := by omega
        have HK := Lib.hid hk
        have JN := Lib.hid jn
        clear hk jn
        go_wp2_with fail
        go_ret
        exact FIN.out _ rfl
end Go.Proofs.Ytoccgpkpmhkeiaa.Uni
