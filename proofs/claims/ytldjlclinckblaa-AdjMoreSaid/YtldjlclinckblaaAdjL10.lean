/- What the laws ask of graphs, of the landed layer 4. -/
import Derived.Test.YtldjlclinckblaaAdjL9
import Derived.Test.YtldjlclinckblaaAdjL7
import Derived.Test.YtldjlclinckblaaAdjI
import Derived.Test.YtldjlclinckblaaAdjF
namespace Go.Proofs.Ytldjlclinckblaa.Adj
open Go.RowKit Go.Proofs.Ytldjlclinckblaa.Inst

theorem GrX.v {w : World} {b : Nat} {I : InstD} (h : GrX w b I) : GrV w (some ⟨b, 0, none⟩) I := .inr ⟨b, rfl, h⟩
def noI : InstD := ⟨[], []⟩
theorem GrV.none (w : World) : GrV w none noI := .inl ⟨rfl, rfl⟩
theorem fit_no (a : Int) : fitD noI a = false := by unfold fitD; exact decide_eq_false (by simp [noI])
theorem some_no (n : Int) (o i : Bool) : someD noI n o i = [] := rfl
theorem loops_no (n : Int) : loopsD noI n = 0 := rfl
theorem other_no (a n : Int) : otherD noI a n = -1 := by unfold otherD; rw [if_pos (fit_no a)]

theorem landed_c : AdjC GrX where
  later h hb := h.later hb
  new A A2 c d n m I w h h1 h2 := (callsIn_wide.1 (new_in A A2 c d n m I w h h1 h2)).mono fun e w' q => by
    obtain ⟨b, nn, mm, A', cA, P, L, off, cap, ps, C, rfl, hb, hg⟩ := q
    exact ⟨b, rfl, ⟨_, _, _, _, _, _, _, _, _, _, _, hg⟩, hb⟩
  nodes b I w h := nodes_v _ I _ rfl w h.v.half
  arc b I a w h ha := arc_v _ I a ha _ _ rfl rfl w h.v.half
  out b I n w h hn := out_v _ I n hn w h.v
  in_ b I n w h hn := in_v _ I n hn w h.v
  at_ b I n w h hn := at_v _ I n hn w h.v
  loops b I n w h hn := loops_v _ I n hn w h.v
  other b I a n w h ha _ := other_v _ I a n ha w h.v
  nodes0 w := nodes_v _ noI 0 rfl w (GrV.none w).half
  arc0 a w ha := arc_v _ noI a ha _ _ (arcD_none (fit_no a)) (fit_no a) w (GrV.none w).half
  out0 n w hn := out_v _ noI n hn w (GrV.none w)
  in0 n w hn := in_v _ noI n hn w (GrV.none w)
  at0 n w hn := at_v _ noI n hn w (GrV.none w)
  loops0 n w hn := loops_v _ noI n hn w (GrV.none w)
  other0 a n w ha _ := (other_v _ noI a n ha w (GrV.none w)).mono fun e w' q => by rw [other_no] at q; exact q

theorem landed : AdjO GrX where
  c := landed_c
  own A A2 c d n m I w h h1 h2 := (callsIn_wide.1 (new_in A A2 c d n m I w h h1 h2)).mono fun e w' q => by
    obtain ⟨b, nn, mm, A', cA, P, L, off, cap, ps, C, rfl, hb, hg⟩ := q
    exact ⟨b, rfl, hb, fun v _ hk => ⟨_, _, _, _, _, _, _, _, _, _, _, hg.same hk⟩⟩
end Go.Proofs.Ytldjlclinckblaa.Adj
