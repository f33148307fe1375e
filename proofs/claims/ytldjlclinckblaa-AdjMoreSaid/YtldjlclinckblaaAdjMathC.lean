/- Plain facts on instances with one arc more, and on each arc's being told once. No program in sight. -/
import Derived.Test.YtldjlclinckblaaAdjMathB
namespace Go.Proofs.Ytldjlclinckblaa.Adj
open Go Go.Proofs.Ytldjlclinckblaa.Inst

/-- One arc more, behind all. -/
def moreD (I : InstD) (b : ArcD) : InstD := ⟨I.sup, I.arcs ++ [b]⟩
theorem moreD_length (I : InstD) (b : ArcD) : (moreD I b).arcs.length = I.arcs.length + 1 := by simp [moreD]
theorem arcAt_more (L : List ArcD) (b : ArcD) (k : Nat) (h : k < L.length) : arcAt (L ++ [b]) k = arcAt L k := by
  unfold arcAt
  rw [List.getD_eq_getElem?_getD, List.getD_eq_getElem?_getD, List.getElem?_append_left h]
theorem arcAt_last (L : List ArcD) (b : ArcD) : arcAt (L ++ [b]) L.length = b := at_mid L [] b L.length rfl
/-- Both ends are nodes. -/
def EndsIn (I : InstD) (b : ArcD) : Prop := 0 ≤ b.frm ∧ b.frm < (I.sup.length : Int) ∧ 0 ≤ b.to ∧ b.to < (I.sup.length : Int)
theorem fit_more (I : InstD) (b : ArcD) (k : Nat) (h : k < I.arcs.length) : fitD (moreD I b) (k : Int) = fitD I (k : Int) := by
  unfold fitD
  rw [decide_eq_decide, moreD_length, Int.toNat_natCast]
  show (_ ∧ _ ∧ 0 ≤ (arcAt (I.arcs ++ [b]) k).frm ∧ (arcAt (I.arcs ++ [b]) k).frm < (I.sup.length : Int) ∧ 0 ≤ (arcAt (I.arcs ++ [b]) k).to ∧ (arcAt (I.arcs ++ [b]) k).to < (I.sup.length : Int)) ↔ _
  rw [arcAt_more _ _ _ h]
  constructor <;> rintro ⟨h0, h1, h2⟩ <;> exact ⟨h0, by omega, h2⟩
theorem fit_last (I : InstD) (b : ArcD) (h : EndsIn I b) : fitD (moreD I b) (I.arcs.length : Int) = true := by
  unfold fitD
  rw [Int.toNat_natCast]
  apply decide_eq_true
  rw [moreD_length]
  show _ ∧ _ ∧ 0 ≤ (arcAt (I.arcs ++ [b]) I.arcs.length).frm ∧ (arcAt (I.arcs ++ [b]) I.arcs.length).frm < (I.sup.length : Int) ∧ 0 ≤ (arcAt (I.arcs ++ [b]) I.arcs.length).to ∧ (arcAt (I.arcs ++ [b]) I.arcs.length).to < (I.sup.length : Int)
  rw [arcAt_last]
  exact ⟨by omega, by omega, h⟩
theorem some_more (I : InstD) (b : ArcD) (n : Int) (o i : Bool) (h : EndsIn I b) : someD (moreD I b) n o i = someD I n o i ++ if touch o i n b = true then [I.arcs.length] else [] := by
  unfold someD
  rw [moreD_length, someN_succ, fit_last I b h]
  show _ ++ (if (true && touch o i n (arcAt (I.arcs ++ [b]) I.arcs.length)) = true then _ else _) = _
  rw [arcAt_last, Bool.true_and]
  congr 1
  unfold someN
  apply List.filter_congr
  intro a ha
  rw [List.mem_range] at ha
  rw [fit_more I b a ha]
  show (_ && touch o i n (arcAt (I.arcs ++ [b]) a)) = _
  rw [arcAt_more _ _ _ ha]
theorem other_last (I : InstD) (b : ArcD) (h : EndsIn I b) : otherD (moreD I b) (I.arcs.length : Int) b.frm = b.to := by
  unfold otherD
  rw [fit_last I b h, Int.toNat_natCast]
  show (if true = false then -1 else if (arcAt (I.arcs ++ [b]) I.arcs.length).frm = b.frm then (arcAt (I.arcs ++ [b]) I.arcs.length).to else _) = _
  rw [arcAt_last, if_neg (by simp), if_pos rfl]

/-- What is told, is an arc that fits and touches. -/
theorem mem_some {I : InstD} {n : Int} {o i : Bool} {a : Nat} : a ∈ someD I n o i ↔ a < I.arcs.length ∧ fitD I (a : Int) = true ∧ touch o i n (arcAt I.arcs a) = true := by
  unfold someD someN
  rw [List.mem_filter, List.mem_range, Bool.and_eq_true]
theorem some_nodup (I : InstD) (n : Int) (o i : Bool) : (someD I n o i).Nodup := List.Pairwise.filter _ List.nodup_range
/-- Other ends are each other's. -/
theorem other_back {I : InstD} {n : Int} {a : Nat} (h : a ∈ outD I n) : otherD I (a : Int) (otherD I (a : Int) n) = n := by
  obtain ⟨_, hf, ht⟩ := mem_some.1 h
  unfold touch at ht
  simp only [Bool.true_and, Bool.false_and, Bool.or_false, decide_eq_true_eq] at ht
  have e : otherD I (a : Int) n = (arcAt I.arcs a).to := by
    unfold otherD
    rw [hf, Int.toNat_natCast, if_neg (by simp), if_pos ht]
  rw [e]
  unfold otherD
  rw [hf, Int.toNat_natCast, if_neg (by simp)]
  by_cases c : (arcAt I.arcs a).frm = (arcAt I.arcs a).to
  · rw [if_pos c]; omega
  · rw [if_neg c, if_pos rfl]; exact ht
/-- At both ends told once: what goes out and what comes in, less the loops. -/
theorem at_length (I : InstD) (n : Int) : (atD I n).length + loopsD I n = (outD I n).length + (inD I n).length := by
  unfold atD outD inD someD loopsD
  generalize I.arcs.length = m
  induction m with
  | zero => rfl
  | succ m ih =>
    rw [someN_succ, someN_succ, someN_succ, loopsN_succ, List.length_append, List.length_append, List.length_append]
    have e : ∀ (c : Bool), (if c = true then [m] else []).length = if c = true then 1 else 0 := fun c => by cases c <;> rfl
    rw [e, e, e]
    unfold touch
    cases fitD I (m : Int) <;> cases decide ((arcAt I.arcs m).frm = n) <;> cases decide ((arcAt I.arcs m).to = n) <;> simp <;> omega
end Go.Proofs.Ytldjlclinckblaa.Adj
