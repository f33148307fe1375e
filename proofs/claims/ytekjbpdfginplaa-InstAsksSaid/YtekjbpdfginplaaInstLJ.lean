/- What the landed layer 3 does: what is taken of a list. -/
import Derived.Test.YtekjbpdfginplaaInstLI
import Derived.Test.YtekjbpdfginplaaInstU
namespace Go.Proofs.Ytekjbpdfginplaa.Inst
open Go.RowKit

/-- At the head of the loop of 'taken', of supplies. -/
def TakeRel (w : World) (N : List Nat) (S : List Int) (s5 s12 : Value) (u : World) : Prop :=
  ∃ k : Nat, k ≤ N.length ∧ s12 = .int .i64 (k : Int) ∧ u.ownsRow w.heap.size 2 1 s5 k (numV ((N.take k).map fun k => S.getD k 0)) ∧ Below w.heap.size w u
theorem map_take (N : List Nat) (S : List Int) (k : Nat) (hk : k < N.length) : numV ((N.take (k + 1)).map fun k => S.getD k 0) = numV ((N.take k).map fun k => S.getD k 0) ++ [nv (S.getD N[k] 0)] := by
  rw [List.take_succ_eq_append_getElem hk, List.map_append]
  unfold numV
  rw [List.map_append]
  rfl

set_option maxRecDepth 100000 in
set_option maxHeartbeats 4000000 in
theorem takes_any (NA : Option Addr) (nc : Nat) (N : List Nat) (hN : N.length ≤ 1000) (g : Nat) (A : Option Addr) (c n : Nat) (S : List Int) (hS : S.length = n) (h9 : n ≤ 17592186044416) (hlt : ∀ (k : Nat) (hk : k < N.length), N[k] < n) (w : World)
    (hgl : g < w.heap.size) (hg : w.cell? ⟨g, 0, none⟩ = some (.slice A n c)) (hc : Cells w w.heap.size A (numV S)) (hb : Cells w w.heap.size NA (natV N)) :
    Calls Try.prog 38 #[.slice NA N.length nc, .func (.func 35) #[] #[.pointer (some ⟨g, 0, none⟩)]] w fun e w' => ∃ v, e = .returned v ∧ w'.ownsRow w.heap.size 2 1 v N.length (numV (N.map fun k => S.getD k 0)) ∧ Below w.heap.size w w' := by
  obtain ⟨i0, hi0, hz0, hz1, hz2⟩ := info_parts info_i64'
  have G0 := Lib.hid hi0
  have G1 := Lib.hid hz0
  have G2 := Lib.hid hz1
  have G3 := Lib.hid hz2
  have SU := Lib.hid (fun w' (h : Below w.heap.size w w') k (hk : k < n) => supply_any g A c n S hS k hk h9 w' w'.heap.size ((h.cell (p := ⟨g, 0, none⟩) hgl).trans hg) (hc.later (Nat.le_refl _) h))
  have HN := Lib.hid hb
  have NLT := Lib.hid hlt
  clear hi0 hz0 hz1 hz2 hb hc hg hlt hS h9 hgl
  go_enter Try.func38, Try.ntmps38
  go_wp2_with fail
  go_loopw [5, 12] (fun v q u => TakeRel w N S v q u) (fun _ q _ => N.length - (intOf q).toNat)
  case atStart => exact ⟨0, by omega, rfl, ⟨rfl, .inl ⟨rfl, rfl⟩⟩, Below.refl _ _⟩
  case round =>
    obtain ⟨k, hk, rfl, hown, hB⟩ := hrel
    have HO := Lib.hid hown
    have HB := Lib.hid hB
    have bs := hB.size
    clear hown hB
    by_cases hlt : k < N.length
    · obtain ⟨b, o, ea, _, ca⟩ := nats_at (HN.out.later (Nat.le_refl _) HB.out) (by omega)
      have c1 := ca k hlt
      have E := Lib.hid (map_take N S k hlt)
      have C := Lib.hid (SU.out _ HB.out N[k] (NLT.out k hlt))
      have i0 : (0 : Int) ≤ (k : Int) := by omega
      have i1 : (k : Int) < (N.length : Int) := by omega
      generalize N[k] = q at c1 E C
      generalize S.getD q 0 = x at E C
      have EA := Lib.hid ea
      rw [EA.out]
      clear ea ca
      go_wp2_with (first
        | (go_at_call 35; (with_reducible refine C.out.mono ?_); rintro e w1 ⟨rfl, rfl⟩)
        | (at_builtin
           refine wpList_append_own _ rfl _ _ 22 rfl w.heap.size 2 _ _ 1 8 Try.underlying22 G0.out G1.out G2.out G3.out rfl (by decide) _ _ _ rfl (HO.out.alloc _) ⟨World.heap _ |>.size, 0, none⟩ 1 1 [nv x] rfl rfl ?c1 ?c2 ?c3 ?c4 ?c5 ?_
           case c1 => exact cell_one_new _ _ _
           case c2 => simp [Value.oneCell', nv]
           case c3 => simp only [maxLen]; omega
           case c4 => omega
           case c5 => simp; omega
           intro v1 u1 hown1 hgrow1 _))
      exact ⟨⟨k + 1, by omega, by simp, by rw [E.out]; exact hown1, (HB.out.alloc bs _).grown hgrow1 (by simp; omega) (own_ge HO.out)⟩, by simp [intOf]; omega⟩
    · obtain rfl : k = N.length := by omega
      have O := HO.out
      rw [List.take_length] at O
      have HO2 := Lib.hid O
      clear O
      go_wp2_with fail
      go_ret
      exact ⟨_, rfl, HO2.out, HB.out⟩

theorem cell_five_e {w : World} {n : Nat} (h : w.heap.size = n) (v0 v1 v2 v3 v4 : Value) (t : TypeId) : ∀ j u, [v0, v1, v2, v3, v4][j]? = some u → (w.alloc (.cells #[v0, v1, v2, v3, v4] t)).cell? ((⟨n, 0, none⟩ : Addr).add j) = some u := by
  subst h
  exact cell_five_new w v0 v1 v2 v3 v4 t
/-- At the head of the loop of 'taken', of arcs. -/
def TakeRelA (w : World) (N : List Nat) (L : List ArcD) (M : List Nat) (s5 s12 : Value) (u : World) : Prop :=
  ∃ k : Nat, k ≤ M.length ∧ s12 = .int .i64 (k : Int) ∧ u.ownsRow w.heap.size 45 5 s5 (leftA N L (M.take k)).length (arcV (leftA N L (M.take k))) ∧ Below w.heap.size w u

set_option maxRecDepth 100000 in
set_option maxHeartbeats 4000000 in
theorem takea_any (MA : Option Addr) (mc : Nat) (M : List Nat) (hM : M.length ≤ 1000) (g h : Nat) (A : Option Addr) (c m : Nat) (L : List ArcD) (hL : L.length = m) (h9 : m ≤ 17592186044416) (hlt : ∀ (k : Nat) (hk : k < M.length), M[k] < m)
    (b : Option Addr) (cb : Nat) (N : List Nat) (hN : N.length ≤ 1000) (hr : Rising N) (w : World)
    (hgl : g < w.heap.size) (hhl : h < w.heap.size) (hg : w.cell? ⟨g, 1, none⟩ = some (.slice A m c)) (hh : w.cell? ⟨h, 0, none⟩ = some (.slice b N.length cb)) (hc : Cells w w.heap.size A (arcV L)) (hb : Cells w w.heap.size b (natV N)) (hm : Cells w w.heap.size MA (natV M)) :
    Calls Try.prog 39 #[.slice MA M.length mc, .func (.func 36) #[] #[.pointer (some ⟨g, 0, none⟩), .pointer (some ⟨h, 0, none⟩)]] w fun e w' => ∃ v, e = .returned v ∧ w'.ownsRow w.heap.size 45 5 v (leftA N L M).length (arcV (leftA N L M)) ∧ Below w.heap.size w w' := by
  obtain ⟨i0, hi0, hz0, hz1, hz2⟩ := info_parts info_arc
  have G0 := Lib.hid hi0
  have G1 := Lib.hid hz0
  have G2 := Lib.hid hz1
  have G3 := Lib.hid hz2
  have AM := Lib.hid (fun w' (hw : Below w.heap.size w w') k (hk : k < m) => arcmoved_any g h A c m L hL k hk h9 b cb N hN hr w' (by have := hw.size; omega) (by have := hw.size; omega) ((hw.cell (p := ⟨g, 1, none⟩) hgl).trans hg) ((hw.cell (p := ⟨h, 0, none⟩) hhl).trans hh) (hc.later (Nat.le_refl _) hw) (hb.later (Nat.le_refl _) hw))
  have HM := Lib.hid hm
  have MLT := Lib.hid hlt
  clear hi0 hz0 hz1 hz2 hb hc hg hh hm hlt hL h9 hgl hhl hr
  go_enter Try.func39, Try.ntmps39
  go_wp2_with fail
  go_loopw [5, 12] (fun v q u => TakeRelA w N L M v q u) (fun _ q _ => M.length - (intOf q).toNat)
  case atStart => exact ⟨0, by omega, rfl, ⟨rfl, .inl ⟨rfl, rfl⟩⟩, Below.refl _ _⟩
  case round =>
    obtain ⟨k, hk, rfl, hown, hB⟩ := hrel
    have HO := Lib.hid hown
    have HB := Lib.hid hB
    have bs := hB.size
    have LL := leftA_length N L (M.take k)
    rw [List.length_take] at LL
    clear hown hB
    by_cases hlt : k < M.length
    · obtain ⟨b, o, ea, _, ca⟩ := nats_at (HM.out.later (Nat.le_refl _) HB.out) (by omega)
      have c1 := ca k hlt
      have E := Lib.hid (show leftA N L (M.take (k + 1)) = leftA N L (M.take k) ++ if staysB N (arcAt L M[k]) = true then [movedD N (arcAt L M[k])] else [] by rw [List.take_succ_eq_append_getElem hlt, leftA_snoc])
      have C := Lib.hid (AM.out _ HB.out M[k] (MLT.out k hlt))
      have i0 : (0 : Int) ≤ (k : Int) := by omega
      have i1 : (k : Int) < (M.length : Int) := by omega
      generalize M[k] = q at c1 E C
      generalize arcAt L q = x at E C
      have EA := Lib.hid ea
      rw [EA.out]
      clear ea ca
      obtain ⟨s, hs⟩ : ∃ s, s = staysB N x := ⟨_, rfl⟩
      have ST := Lib.hid hs
      rw [← hs] at E
      clear hs
      cases s with
      | false =>
        go_wp2_with (go_at_call 36; (with_reducible refine C.out.mono ?_); rintro e w1 ⟨a', f, rfl, hf, ha, hb1⟩; rw [← ST.out] at hf; subst hf; have HB1 := Lib.hid hb1; have z1 := hb1.size; clear hb1 ha)
        exact ⟨⟨k + 1, by omega, by simp, by rw [E.out]; simpa using ((own_later HO.out HB1.out).alloc _), (chain2 HB.out HB1.out).alloc (by omega) _⟩, by simp [intOf]; omega⟩
      | true =>
        have E2 := Lib.hid (show leftA N L (M.take (k + 1)) = leftA N L (M.take k) ++ [movedD N x] by rw [E.out, if_pos rfl])
        clear E
        go_wp2_with (first
          | (go_at_call 36; (with_reducible refine C.out.mono ?_); rintro e w1 ⟨a', f, rfl, hf, ha, hb1⟩; rw [← ST.out] at hf; subst hf; have EA2 := Lib.hid (ha rfl); have HB1 := Lib.hid hb1; have z1 := hb1.size; have O1 := Lib.hid (own_later HO.out hb1); clear hb1 ha)
          | (at_builtin
             refine wpList_append_own _ rfl _ _ 23 rfl w.heap.size 45 _ _ 5 40 Try.underlying23 G0.out G1.out G2.out G3.out rfl (by decide) _ _ _ rfl ((O1.out.alloc _).alloc _) ⟨w1.heap.size + 1, 0, none⟩ 1 1 [nv a'.frm, nv a'.to, nv a'.low, nv a'.cap, nv a'.cost] rfl rfl ?c1 ?c2 ?c3 ?c4 ?c5 ?_
             case c1 => exact cell_five_e (by simp) _ _ _ _ _ _
             case c2 => simp [Value.oneCell', nv]
             case c3 => simp only [maxLen]; omega
             case c4 => omega
             case c5 => simp; omega
             intro v1 u1 hown1 hgrow1 _))
        exact ⟨⟨k + 1, by omega, by simp, by rw [E2.out, List.length_append, arcV_snoc, ← EA2.out]; exact hown1, ((((chain2 HB.out HB1.out).alloc (by omega) _).alloc (by simp; omega) _)).grown hgrow1 (by simp; omega) (own_ge HO.out)⟩, by simp [intOf]; omega⟩
    · obtain rfl : k = M.length := by omega
      have O := HO.out
      rw [List.take_length] at O
      have HO2 := Lib.hid O
      clear O
      go_wp2_with fail
      go_ret
      exact ⟨_, rfl, HO2.out, HB.out⟩
end Go.Proofs.Ytekjbpdfginplaa.Inst
