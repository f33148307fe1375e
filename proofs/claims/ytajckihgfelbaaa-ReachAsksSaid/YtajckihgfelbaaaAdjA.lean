/- Contracts of the document's answers for layer 4: is there such an arc; which arc it is. -/
import Derived.Test.YtajckihgfelbaaaAdjMath
import Derived.Test.YtajckihgfelbaaaInstS
import Derived.Test.YtajckihgfelbaaaInstO
namespace Go.Proofs.Ytajckihgfelbaaa.Adj
open Go.RowKit Go.Proofs.Ytajckihgfelbaaa.Inst
set_option maxRecDepth 100000

theorem cells_blk {w : World} {g : Nat} {t : TypeId} {vs : List Value} (h : Blk w g t vs.toArray) : Cells w w.heap.size (some ⟨g, 0, none⟩) vs := by
  intro _
  refine ⟨g, 0, rfl, h.lt, fun i hi => ?_⟩
  rw [Nat.zero_add, h.cell i]
  simp [List.getElem?_eq_getElem hi]
theorem own_row {w : World} {base n sz cap : Nat} {e : TypeId} {A : Option Addr} {vs : List Value} (h : w.ownsRow base e sz (.slice A n cap) n vs) : Cells w w.heap.size A vs := by
  obtain ⟨-, A', cap', e', -, -, h⟩ := own_cells h
  cases e'
  exact h
/-- What is called with an instance whose lengths have names. -/
structure Here (w : World) (A A2 : Option Addr) (n m : Nat) (I : InstD) : Prop where
  is : InstIs w A A2 I
  n : I.sup.length = n
  m : I.arcs.length = m
theorem Here.later {w u : World} {n m : Nat} {A A2 : Option Addr} {I : InstD} (h : Here w A A2 n m I) (hb : Below w.heap.size w u) : Here u A A2 n m I := ⟨h.is.later hb, h.n, h.m⟩
theorem Made.here {w u : World} {sB n m cap : Nat} {A : Option Addr} {I : InstD} (h : Made w u sB (.slice A m cap) I.sup I.arcs) (hn : I.sup.length = n) (hm : I.arcs.length = m) (h1 : n ≤ 17592186044416) (h2 : m ≤ 17592186044416) : Here u (some ⟨sB, 0, none⟩) A n m I := by
  subst hn hm
  exact ⟨⟨h1, h2, cells_blk h.sup, own_row h.arcs⟩, rfl, rfl⟩
theorem results_row_tmp {P : Program} {fn : Func} {p u : Tmp} {ty : TypeId} (h : fn.results = #[.cell p ty, .tmp u]) (tmps : Array Value) (w : World) (g : Nat) (t : TypeId) (cs : Array Value) (fr : Nat × Nat) (d : TypeDesc)
    (hp : tmps.getD p undef = .pointer (some ⟨g, 0, none⟩)) (hg : w.heap[g]? = some (.cells cs t fr))
    (hu : P.underlying ty = some d) (hd : (match d with | .struct _ | .array _ _ => true | _ => false) = true) (hi : (P.info? ty).map (·.size) = some cs.size) :
    (results fn tmps).run P w = .ok (.tuple #[.agg cs, tmps.getD u undef]) w := by
  have hp' : tmps[p]?.getD undef = .pointer (some ⟨g, 0, none⟩) := by simpa using hp
  simp [results, h, hp', asAddr, run_loadVar_row w g t ty cs fr d hg hu hd hi]
theorem size_arc : (Try.prog.info? 36).map (·.size) = some 5 := by kernel_rfl
abbrev arcCs (a : ArcD) : Array Value := #[nv a.frm, nv a.to, nv a.low, nv a.cap, nv a.cost]

/-- The arc number a, in its cells. -/
theorem Here.arc {w : World} {n m : Nat} {A A2 : Option Addr} {I : InstD} (h : Here w A A2 n m I) (a : Nat) (ha : a < m) : ∃ b off, A2 = some ⟨b, off, none⟩ ∧ b < w.heap.size ∧ ArcAt w b (off + a * 5) (arcAt I.arcs a) := by
  have hi : a < I.arcs.length := by rw [h.m]; exact ha
  obtain ⟨b, off, ea, hb, ca⟩ := arcs_at h.is.arcs (by omega)
  refine ⟨b, off, ea, hb, ?_⟩
  have e : arcAt I.arcs a = I.arcs[a] := by unfold arcAt; rw [List.getD_eq_getElem?_getD, List.getElem?_eq_getElem hi]; rfl
  rw [e]
  exact ca a hi

theorem ret_yes {P : Prop} {_ : Decidable P} (h : P) : Ending.returned (.bool true) = .returned (.bool (decide P)) := by rw [decide_eq_true h]
theorem ret_no {P : Prop} {_ : Decidable P} (h : ¬ P) : Ending.returned (.bool false) = .returned (.bool (decide P)) := by rw [decide_eq_false h]
theorem ret_same {P Q : Prop} {_ : Decidable P} {_ : Decidable Q} (h : P ↔ Q) : Ending.returned (.bool (decide P)) = .returned (.bool (decide Q)) := by rw [decide_eq_decide.2 h]
set_option maxHeartbeats 2000000 in
theorem fit_any (A A2 : Option Addr) (c d n m : Nat) (I : InstD) (a : Int) (w : World) (h : Here w A A2 n m I) :
    Calls Try.prog 104 #[.agg #[.slice A n c, .slice A2 m d], .int .i64 a] w fun e w' => e = .returned (.bool (fitD I a)) ∧ Below w.heap.size w w' := by
  have hn := h.is.n
  have hm := h.is.m
  rw [h.n] at hn
  rw [h.m] at hm
  have F : fitD I a = decide (0 ≤ a ∧ a < (m : Int) ∧ 0 ≤ (arcAt I.arcs a.toNat).frm ∧ (arcAt I.arcs a.toNat).frm < (n : Int) ∧ 0 ≤ (arcAt I.arcs a.toNat).to ∧ (arcAt I.arcs a.toNat).to < (n : Int)) := by unfold fitD; rw [h.n, h.m]
  by_cases a0 : 0 ≤ a
  · by_cases a1 : a < (m : Int)
    · obtain ⟨k, rfl⟩ : ∃ k : Nat, a = k := ⟨a.toNat, by omega⟩
      rw [Int.toNat_natCast] at F
      obtain ⟨b, off, ea, lb, x1, x2, x3, x4, x5⟩ := h.arc k (by omega)
      obtain ⟨x, hx⟩ : ∃ x, x = arcAt I.arcs k := ⟨_, rfl⟩
      rw [← hx] at x1 x2 x3 x4 x5 F
      have FF := Lib.hid F
      subst ea
      clear h hx F
      go_enter Try.func104, Try.ntmps104
      go_wp2_with fail
      all_goals
        go_ret
        refine ⟨?_, by repeat (first | exact Below.refl _ _ | refine Below.alloc ?_ (by simp <;> omega) _)⟩
        rw [FF.out]
        first
          | (refine ret_yes ?_; omega)
          | (refine ret_no ?_; omega)
          | (refine ret_same ?_; omega)
    · have R := Lib.hid (show fitD I a = false by rw [F]; exact decide_eq_false (by omega))
      clear h F
      go_enter Try.func104, Try.ntmps104
      go_wp2_with fail
      go_ret
      exact ⟨by rw [R.out]; rfl, (Below.refl _ _).alloc (Nat.le_refl _) _⟩
  · have R := Lib.hid (show fitD I a = false by rw [F]; exact decide_eq_false (by omega))
    clear h F
    go_enter Try.func104, Try.ntmps104
    go_wp2_with fail
    go_ret
    exact ⟨by rw [R.out]; rfl, (Below.refl _ _).alloc (Nat.le_refl _) _⟩
end Go.Proofs.Ytajckihgfelbaaa.Adj
