/- Contracts of the document's answers for layer 3: what is off, what is kept, a number's place. -/
import Derived.Test.YtajckihgfelbaaaInstE
import Derived.Maps.AppendAt
namespace Go.Proofs.Ytajckihgfelbaaa.Inst
open Go.RowKit

def boolV (l : List Bool) : List Value := l.map Value.bool
theorem boolV_length (l : List Bool) : (boolV l).length = l.length := by simp [boolV]
theorem bools_at {w : World} {B : Nat} {a : Option Addr} {l : List Bool} (h : Cells w B a (boolV l)) (h0 : 0 < l.length) :
    ∃ b off, a = some ⟨b, off, none⟩ ∧ b < B ∧ ∀ k (hk : k < l.length), w.cell? ⟨b, off + k, none⟩ = some (.bool l[k]) := by
  obtain ⟨b, off, e, hb, hc⟩ := h (by rw [boolV_length]; exact h0)
  refine ⟨b, off, e, hb, fun k hk => ?_⟩
  rw [hc k (by rw [boolV_length]; exact hk)]
  simp [boolV]
def natV (l : List Nat) : List Value := numV (l.map fun (x : Nat) => (x : Int))
theorem natV_length (l : List Nat) : (natV l).length = l.length := by simp [natV, numV_length]
theorem natV_snoc (l : List Nat) (x : Nat) : natV (l ++ [x]) = natV l ++ [.int .i64 (x : Int)] := by simp [natV, numV]
theorem nats_at {w : World} {B : Nat} {a : Option Addr} {l : List Nat} (h : Cells w B a (natV l)) (h0 : 0 < l.length) :
    ∃ b off, a = some ⟨b, off, none⟩ ∧ b < B ∧ ∀ k (hk : k < l.length), w.cell? ⟨b, off + k, none⟩ = some (.int .i64 (l[k] : Int)) := by
  obtain ⟨b, off, e, hb, hc⟩ := nums_at h (by simpa using h0)
  refine ⟨b, off, e, hb, fun k hk => ?_⟩
  rw [hc k (by simpa using hk)]
  simp

theorem info_int : (Try.prog.info? 3).map (fun i => (i.zero, i.size, i.bytes)) = some (some (.int .i64 0), 1, 8) := by kernel_rfl
/-- What a call that tells a []int of its own does. -/
def TellsNats (l : List Nat) (w : World) (e : Ending) (w' : World) : Prop :=
  ∃ A cap, e = .returned (.slice A l.length cap) ∧ l.length ≤ cap ∧ Cells w' w'.heap.size A (natV l) ∧ Below w.heap.size w w' ∧ w'.ownsRow w.heap.size 3 1 (.slice A l.length cap) l.length (natV l)

/-- At the head of Kept's loop. -/
def KeptRel (w : World) (off : List Bool) (n : Int) (s5 s6 : Value) (u : World) : Prop :=
  ∃ k : Nat, k ≤ upto n ∧ s6 = .int .i64 (k : Int) ∧ u.ownsRow w.heap.size 3 1 s5 (keptN off k).length (natV (keptN off k)) ∧ Below w.heap.size w u

/-- At the head of Place's loop. -/
def PlaceRel (l : List Nat) (x : Int) (s5 : Value) : Prop := ∃ k : Nat, k ≤ l.length ∧ s5 = .int .i64 (k : Int) ∧ ∀ i (hi : i < k) (hl : i < l.length), (l[i] : Int) ≠ x
theorem place_any (a : Option Addr) (c : Nat) (l : List Nat) (hl : l.length ≤ 1000) (x : Int) (w : World) (ha : Cells w w.heap.size a (natV l)) :
    Calls Try.prog 18 #[.slice a l.length c, .int .i64 x] w fun e w' => e = .returned (.int .i64 (placeD l x)) ∧ w = w' := by
  have HA := Lib.hid ha
  clear ha
  go_enter Try.func18, Try.ntmps18
  go_wp2_with fail
  go_loop [5] (fun q => PlaceRel l x q) (fun q => l.length - (intOf q).toNat)
  case atStart => exact ⟨0, by omega, rfl, fun i hi => absurd hi (by omega)⟩
  case round =>
    obtain ⟨k, hk, rfl, hno⟩ := hrel
    have HN := Lib.hid hno
    clear hno
    by_cases hlt : k < l.length
    · obtain ⟨b, o, ea, _, ca⟩ := nats_at HA.out (by omega)
      have c1 := ca k hlt
      have i0 : (0 : Int) ≤ (k : Int) := by omega
      have i1 : (k : Int) < (l.length : Int) := by omega
      obtain ⟨y, hy⟩ : ∃ y : Nat, y = l[k] := ⟨_, rfl⟩
      rw [← hy] at c1
      have HY := Lib.hid hy
      subst ea
      clear ca hy
      by_cases e : (y : Int) = x
      · have t : ((y : Int) == x) = true := by simp [e]
        have R := Lib.hid (show placeD l x = (k : Int) by
          unfold placeD
          rw [placeF_take x l 0 k hlt (fun i hi => HN.out i hi (by omega)) (by rw [← HY.out]; exact e)]
          congr 1
          omega)
        clear e
        go_wp2_with fail
        go_ret
        exact ⟨by rw [R.out]; rfl, rfl⟩
      · have t : ((y : Int) == x) = false := by simp [e]
        have N2 := Lib.hid (show ∀ i (hi : i < k + 1) (hl : i < l.length), (l[i] : Int) ≠ x by
          intro i hi hl2
          by_cases q : i = k
          · subst q; rw [← HY.out]; exact e
          · exact HN.out i (by omega) hl2)
        clear e
        go_wp2_with fail
        exact ⟨⟨k + 1, by omega, by simp, N2.out⟩, by simp [intOf]; omega⟩
    · obtain rfl : k = l.length := by omega
      have R := Lib.hid (show placeD l x = -1 from placeF_none x l 0 (fun i hi => HN.out i hi hi))
      go_wp2_with fail
      go_ret
      exact ⟨by rw [R.out]; rfl, rfl⟩
end Go.Proofs.Ytajckihgfelbaaa.Inst
