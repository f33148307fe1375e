/- Plain facts on instances whose arcs are turned round, or have one more. No program in sight. -/
import Derived.Test.YtajckihgfelbaaaAdjMath
import Derived.Test.YtajckihgfelbaaaInstS
namespace Go.Proofs.Ytajckihgfelbaaa.Adj
open Go Go.Proofs.Ytajckihgfelbaaa.Inst

def turnA (x : ArcD) : ArcD := ⟨x.to, x.frm, x.low, x.cap, x.cost⟩
def turnN (L : List ArcD) (k : Nat) : List ArcD := (L.take k).map turnA ++ L.drop k
def turnD (I : InstD) : InstD := ⟨I.sup, I.arcs.map turnA⟩
theorem turnN_zero (L : List ArcD) : turnN L 0 = L := by simp [turnN]
theorem turnN_all (L : List ArcD) : turnN L L.length = L.map turnA := by simp [turnN]
theorem turnN_length (L : List ArcD) (k : Nat) : (turnN L k).length = L.length := by simp [turnN]; omega
theorem at_mid (P S : List ArcD) (x : ArcD) (k : Nat) (h : P.length = k) : arcAt (P ++ x :: S) k = x := by
  subst h
  unfold arcAt
  rw [List.getD_eq_getElem?_getD, List.getElem?_append_right (Nat.le_refl _)]
  simp
theorem set_mid (P S : List ArcD) (x y : ArcD) (k : Nat) (h : P.length = k) : (P ++ x :: S).set k y = P ++ y :: S := by
  subst h
  rw [List.set_append_right _ _ (Nat.le_refl _)]
  simp
theorem arcAt_get (L : List ArcD) (k : Nat) (h : k < L.length) : arcAt L k = L[k] := by
  unfold arcAt
  rw [List.getD_eq_getElem?_getD, List.getElem?_eq_getElem h]
  rfl
theorem turnN_mid (L : List ArcD) (k : Nat) (h : k < L.length) : turnN L k = (L.take k).map turnA ++ arcAt L k :: L.drop (k + 1) := by
  unfold turnN
  rw [List.drop_eq_getElem_cons h, arcAt_get L k h]
theorem turnN_succ (L : List ArcD) (k : Nat) (h : k < L.length) : turnN L (k + 1) = (L.take k).map turnA ++ turnA (arcAt L k) :: L.drop (k + 1) := by
  unfold turnN
  rw [List.take_succ_eq_append_getElem h, List.map_append, arcAt_get L k h]
  simp
theorem turnN_step (L : List ArcD) (k : Nat) (h : k < L.length) :
    ((turnN L k).set k (setF (arcAt (turnN L k) k) 0 (arcAt L k).to)).set k (setF (arcAt ((turnN L k).set k (setF (arcAt (turnN L k) k) 0 (arcAt L k).to)) k) 1 (arcAt L k).frm) = turnN L (k + 1) := by
  have hp : ((L.take k).map turnA).length = k := by simp; omega
  rw [turnN_succ L k h, turnN_mid L k h, at_mid _ _ _ _ hp, set_mid _ _ _ _ _ hp, at_mid _ _ _ _ hp, set_mid _ _ _ _ _ hp]
  rfl
theorem arcAt_turn (L : List ArcD) (k : Nat) (h : k < L.length) : arcAt (L.map turnA) k = turnA (arcAt L k) := by
  rw [arcAt_get _ _ (by simpa using h), arcAt_get _ _ h]
  simp
theorem fit_turn (I : InstD) (a : Int) : fitD (turnD I) a = fitD I a := by
  unfold fitD turnD
  rw [decide_eq_decide]
  simp only [List.length_map]
  constructor
  all_goals
    rintro ⟨h0, h1, h⟩
    have q : a.toNat < I.arcs.length := by omega
    rw [arcAt_turn _ _ q] at *
    unfold turnA at *
    exact ⟨h0, h1, h.2.2.1, h.2.2.2, h.1, h.2.1⟩
theorem some_turn (I : InstD) (n : Int) (o i : Bool) : someD (turnD I) n o i = someD I n i o := by
  unfold someD someN
  rw [show (turnD I).arcs.length = I.arcs.length from by simp [turnD]]
  apply List.filter_congr
  intro a ha
  rw [List.mem_range] at ha
  rw [fit_turn]
  show (_ && touch o i n (arcAt (I.arcs.map turnA) a)) = _
  rw [arcAt_turn _ _ ha]
  unfold touch turnA
  simp only [Bool.or_comm]
theorem loops_turn (I : InstD) (n : Int) : loopsD (turnD I) n = loopsD I n := by
  unfold loopsD loopsN
  rw [show (turnD I).arcs.length = I.arcs.length from by simp [turnD]]
  apply List.countP_congr
  intro a ha
  rw [List.mem_range] at ha
  rw [fit_turn]
  show (_ && (decide ((arcAt (I.arcs.map turnA) a).frm = n) && decide ((arcAt (I.arcs.map turnA) a).to = n))) = true ↔ _
  rw [arcAt_turn _ _ ha]
  unfold turnA
  simp only [Bool.and_eq_true]
  constructor <;> rintro ⟨h0, h1, h2⟩ <;> exact ⟨h0, h2, h1⟩
end Go.Proofs.Ytajckihgfelbaaa.Adj
