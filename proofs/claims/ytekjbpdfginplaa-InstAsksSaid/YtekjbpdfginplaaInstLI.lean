/- What the landed layer 3 does: an arc moved. -/
import Derived.Test.YtekjbpdfginplaaInstLH
import Derived.Test.YtekjbpdfginplaaInstG
import Derived.Test.YtekjbpdfginplaaInstP
import Derived.StillTailTactics
import Derived.RegionTactic
import Derived.BigRegion
import Derived.Deep.DeepCutAuto
namespace Go.Proofs.Ytekjbpdfginplaa.Inst
open Go.RowKit

theorem results_row_tmp {P : Program} {fn : Func} {p u : Tmp} {ty : TypeId} (h : fn.results = #[.cell p ty, .tmp u]) (tmps : Array Value) (w : World) (g : Nat) (t : TypeId) (cs : Array Value) (fr : Nat × Nat) (d : TypeDesc)
    (hp : tmps.getD p undef = .pointer (some ⟨g, 0, none⟩)) (hg : w.heap[g]? = some (.cells cs t fr))
    (hu : P.underlying ty = some d) (hd : (match d with | .struct _ | .array _ _ => true | _ => false) = true) (hi : (P.info? ty).map (·.size) = some cs.size) :
    (results fn tmps).run P w = .ok (.tuple #[.agg cs, tmps.getD u undef]) w := by
  have hp' : tmps[p]?.getD undef = .pointer (some ⟨g, 0, none⟩) := by simpa using hp
  simp [results, h, hp', asAddr, run_loadVar_row w g t ty cs fr d hg hu hd hi]
theorem size_arc : (Try.prog.info? 45).map (·.size) = some 5 := by kernel_rfl
/-- Five cells. -/
abbrev arcCs (a : ArcD) : Array Value := #[nv a.frm, nv a.to, nv a.low, nv a.cap, nv a.cost]

/-- What 'moved' tells. -/
def MovedTo (N : List Nat) (a : ArcD) (w : World) (e : Ending) (w' : World) : Prop :=
  ∃ (a' : ArcD) (f : Bool), e = .returned (.tuple #[aggV a', .bool f]) ∧ f = staysB N a ∧ (f = true → a' = movedD N a) ∧ Below w.heap.size w w'

theorem moved_fact {N : List Nat} {f t lo ca co : Int} {i j : Nat} {p q : Bool} (h1 : Found N f i p) (h2 : Found N t j q) : (p && q) = staysB N ⟨f, t, lo, ca, co⟩ ∧ ((p && q) = true → (⟨i, j, lo, ca, co⟩ : ArcD) = movedD N ⟨f, t, lo, ca, co⟩) := by
  have e1 := h1.is
  have e2 := h2.is
  refine ⟨by unfold staysB; rw [e1, e2], fun h => ?_⟩
  rw [Bool.and_eq_true] at h
  have a1 := h1.at_ h.1
  have a2 := h2.at_ h.2
  unfold movedD
  simp only
  rw [← a1, ← a2]

set_option maxHeartbeats 2000000 in
theorem moved_any (a : ArcD) (b : Option Addr) (c : Nat) (N : List Nat) (hN : N.length ≤ 1000) (hr : Rising N) (w : World) (hb : Cells w w.heap.size b (natV N)) :
    Calls Try.prog 37 #[aggV a, .slice b N.length c] w (MovedTo N a w) := by
  obtain ⟨f, t, lo, ca, co⟩ := a
  have S := Lib.hid (fun x w' (h : Below w.heap.size w w') => search_any b c N hN hr x w' (hb.later (Nat.le_refl _) h))
  clear hb hr
  go_enter Try.func37, Try.ntmps37
  go_wp2_with (first
    | (go_at_call 52; (with_reducible refine (S.out f _ ?bb).mono ?_); (case bb => repeat (first | exact Below.refl _ _ | refine Below.alloc ?_ (by simp <;> omega) _)); rintro e w1 ⟨i, p, rfl, hf, rfl⟩; have F1 := Lib.hid hf; clear hf; cases p)
    | (go_at_call 52; (with_reducible refine (S.out t _ ?bb).mono ?_); (case bb => repeat (first | exact Below.refl _ _ | refine Below.alloc ?_ (by simp <;> omega) _)); rintro e w1 ⟨j, q, rfl, ht, rfl⟩; have F2 := Lib.hid ht; clear ht; cases q))
  all_goals
    have M := moved_fact (lo := lo) (ca := ca) (co := co) F1.out F2.out
    refine bodyPost_ret (v := .tuple #[aggV ⟨i, j, lo, ca, co⟩, .bool _]) ?_ rfl ⟨⟨i, j, lo, ca, co⟩, _, rfl, M.1, M.2, by repeat (first | exact Below.refl _ _ | refine Below.alloc ?_ (by simp <;> omega) _)⟩
    exact (results_row_tmp (p := 4) (u := 5) (ty := 45) rfl _ _ (w.heap.size + 1) 45 (arcCs ⟨i, j, lo, ca, co⟩) (0, 0) _ (by rfl) (blk_at (by simp) _ _) Try.underlying45 rfl size_arc).trans rfl

theorem supply_any (g : Nat) (A : Option Addr) (c n : Nat) (S : List Int) (hn : S.length = n) (k : Nat) (hk : k < n) (h9 : n ≤ 17592186044416) (w : World) (B : Nat) (hg : w.cell? ⟨g, 0, none⟩ = some (.slice A n c)) (hc : Cells w B A (numV S)) :
    Calls Try.prog 35 #[.int .i64 (k : Int), .pointer (some ⟨g, 0, none⟩)] w fun e w' => e = .returned (.tuple #[.int .i64 (S.getD k 0), .bool true]) ∧ w = w' := by
  subst hn
  obtain ⟨b, o, rfl, _, ca⟩ := nums_at hc (by omega)
  have c1 := ca k hk
  have e : S[k] = S.getD k 0 := by rw [List.getD_eq_getElem?_getD, List.getElem?_eq_getElem hk]; rfl
  rw [e] at c1
  generalize S.getD k 0 = x at c1
  have i0 : (0 : Int) ≤ (k : Int) := by omega
  have i1 : (k : Int) < (S.length : Int) := by omega
  clear ca hc e
  go_enter Try.func35, Try.ntmps35
  go_wp2_with fail
  go_ret2
  exact ⟨rfl, rfl⟩

set_option maxHeartbeats 2000000 in
theorem arcmoved_any (g h : Nat) (A : Option Addr) (c m : Nat) (L : List ArcD) (hm : L.length = m) (k : Nat) (hk : k < m) (h9 : m ≤ 17592186044416) (b : Option Addr) (cb : Nat) (N : List Nat) (hN : N.length ≤ 1000) (hr : Rising N) (w : World)
    (hgl : g < w.heap.size) (hhl : h < w.heap.size) (hg : w.cell? ⟨g, 1, none⟩ = some (.slice A m c)) (hh : w.cell? ⟨h, 0, none⟩ = some (.slice b N.length cb)) (hc : Cells w w.heap.size A (arcV L)) (hb : Cells w w.heap.size b (natV N)) :
    Calls Try.prog 36 #[.int .i64 (k : Int), .pointer (some ⟨g, 0, none⟩), .pointer (some ⟨h, 0, none⟩)] w (MovedTo N (arcAt L k) w) := by
  subst hm
  obtain ⟨ab, o, rfl, lb, ca⟩ := arcs_at hc (by omega)
  obtain ⟨x1, x2, x3, x4, x5⟩ := ca k hk
  have e : L[k] = arcAt L k := by unfold arcAt; rw [List.getD_eq_getElem?_getD, List.getElem?_eq_getElem hk]; rfl
  rw [e] at x1 x2 x3 x4 x5
  obtain ⟨x, hx⟩ : ∃ x, x = arcAt L k := ⟨_, rfl⟩
  rw [← hx] at x1 x2 x3 x4 x5 ⊢
  have i0 : (0 : Int) ≤ (k : Int) := by omega
  have i1 : (k : Int) < (L.length : Int) := by omega
  have M := Lib.hid (fun w' (hw : Below w.heap.size w w') => moved_any x b cb N hN hr w' (hb.later (Nat.le_refl _) hw))
  clear ca hc e hb hr hx
  go_enter Try.func36, Try.ntmps36
  go_upto_region 1 with fail
  go_cut [4, 5] (fun s4 s5 wx => s4 = .pointer (some ⟨w.heap.size, 0, none⟩) ∧ ∃ (a' : ArcD) (f : Bool), s5 = .bool f ∧ Blk wx w.heap.size 45 (arcCs a') ∧ f = staysB N x ∧ (f = true → a' = movedD N x) ∧ Below w.heap.size w wx)
  case first =>
    go_region_with (go_at_call 37; (with_reducible refine (M.out _ ?bb).mono ?_); (case bb => repeat (first | exact Below.refl _ _ | refine Below.drew ?_ | refine Below.alloc ?_ (by simp <;> omega) _)); rintro e w1 ⟨a', f, rfl, hf, ha, hb1⟩; have HF := Lib.hid hf; have HA := Lib.hid ha; have HB1 := Lib.hid hb1; have B1 : Blk w1 w.heap.size 45 #[.int .i64 0, .int .i64 0, .int .i64 0, .int .i64 0, .int .i64 0] := Blk.below (by repeat (first | exact Blk.new _ _ _ | refine Blk.drew ?_)) hb1 (by simp); have y0 := B1.cell 0; have y1 := B1.cell 1; have y2 := B1.cell 2; have y3 := B1.cell 3; have y4 := B1.cell 4; simp at y0 y1 y2 y3 y4; have f0 := B1.frozen 0; have f1 := B1.frozen 1; have f2 := B1.frozen 2; have f3 := B1.frozen 3; have f4 := B1.frozen 4; have HB := Lib.hid B1; clear hf ha hb1 B1)
    all_goals
      go_wp2_with fail
      go_meet
      case rel =>
        exact ⟨rfl, a', f, rfl, ((((HB.out.set_ 0 _).set_ 1 _).set_ 2 _).set_ 3 _).set_ 4 _, HF.out, HA.out, (((((chain2 (by repeat (first | exact Below.refl _ _ | refine Below.drew ?_ | refine Below.alloc ?_ (by simp <;> omega) _)) HB1.out).setCell (Nat.le_refl _) _).setCell (Nat.le_refl _) _).setCell (Nat.le_refl _) _).setCell (Nat.le_refl _) _).setCell (Nat.le_refl _) _⟩
  case rest =>
    obtain ⟨rfl, a', f, rfl, hb, hf, ha, hw⟩ := hcut
    have HB := Lib.hid hb
    go_wp2_with fail
    refine bodyPost_ret (v := .tuple #[aggV a', .bool f]) ?_ rfl ⟨a', f, rfl, hf, ha, hw⟩
    exact (results_row_tmp (p := 4) (u := 5) (ty := 45) rfl _ _ w.heap.size 45 (arcCs a') (0, 0) _ (by rfl) HB.out Try.underlying45 rfl size_arc).trans rfl
end Go.Proofs.Ytekjbpdfginplaa.Inst
