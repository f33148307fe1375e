/- What the laws ask of sets, as premises. -/
import Derived.Test.YtoccgpkpmhkeiaaUniA
import Derived.Test.YtoccgpkpmhkeiaaInstO
import Derived.RegionTactic
import Derived.BigRegion
import Derived.Deep.DeepCutAuto
import Derived.Deep.RegionHeld3
namespace Go.Proofs.Ytoccgpkpmhkeiaa.Uni
open Go.RowKit Go.Proofs.Ytoccgpkpmhkeiaa.Inst

abbrev obj (b : Nat) : Value := .pointer (some ⟨b, 0, none⟩)
/-- What sets do, as long as 'Un w b lo hi L' says that block b is the sets whose numbers' least ones are L, and that the sets' own blocks are those from lo to hi: to be proved of what has landed. -/
structure UniC (Un : World → Nat → Nat → Nat → List Nat → Prop) : Prop where
  off : ∀ {w u : World} {b lo hi x y : Nat} {L : List Nat}, Un w b lo hi L → Off x y w u → (hi ≤ x ∨ y ≤ lo) → Un u b lo hi L
  is : ∀ {w : World} {b lo hi : Nat} {L : List Nat}, Un w b lo hi L → hi ≤ w.heap.size ∧ L.length ≤ 1000 ∧ Canon L
  new : ∀ (n : Int) (w : World), I64 n → n ≤ 1000 → Calls Try.prog 11 #[.int .i64 n] w fun e w' => ∃ b, e = .returned (obj b) ∧ Un w' b w.heap.size w'.heap.size (startL n) ∧ Below w.heap.size w w'
  join : ∀ (b lo hi : Nat) (L : List Nat) (x y : Int) (w : World), Un w b lo hi L → I64 x → I64 y →
    Calls Try.prog 12 #[obj b, .int .i64 x, .int .i64 y] w fun e w' => e = .returned (.bool (joinB L x y)) ∧ Un w' b lo hi (joinL L x y) ∧ Off lo hi w w'
  same : ∀ (b lo hi : Nat) (L : List Nat) (x y : Int) (w : World), Un w b lo hi L → I64 x → I64 y →
    Calls Try.prog 17 #[obj b, .int .i64 x, .int .i64 y] w fun e w' => e = .returned (.bool (sameB L x y)) ∧ Un w' b lo hi L ∧ Off lo hi w w'
  least : ∀ (b lo hi : Nat) (L : List Nat) (x : Int) (w : World), Un w b lo hi L → I64 x →
    Calls Try.prog 16 #[obj b, .int .i64 x] w fun e w' => e = .returned (.int .i64 (leastL L x)) ∧ Un w' b lo hi L ∧ Off lo hi w w'
  many : ∀ (b lo hi : Nat) (L : List Nat) (w : World), Un w b lo hi L →
    Calls Try.prog 15 #[obj b] w fun e w' => e = .returned (.int .i64 ((groupsL L).length : Int)) ∧ Un w' b lo hi L ∧ Off lo hi w w'
  groups : ∀ (b lo hi : Nat) (L : List Nat) (w : World), Un w b lo hi L →
    Calls Try.prog 14 #[obj b] w fun e w' => ∃ v, e = .returned v ∧ Grid w' w.heap.size v (groupsL L) ∧ Un w' b lo hi L ∧ Off lo hi w w'
  join0 : ∀ (x y : Int) (w : World), I64 x → I64 y → Calls Try.prog 12 #[.pointer none, .int .i64 x, .int .i64 y] w fun e w' => e = .returned (.bool false) ∧ Below w.heap.size w w'
  same0 : ∀ (x y : Int) (w : World), I64 x → I64 y → Calls Try.prog 17 #[.pointer none, .int .i64 x, .int .i64 y] w fun e w' => e = .returned (.bool false) ∧ Below w.heap.size w w'
  least0 : ∀ (x : Int) (w : World), I64 x → Calls Try.prog 16 #[.pointer none, .int .i64 x] w fun e w' => e = .returned (.int .i64 (-1)) ∧ Below w.heap.size w w'
  many0 : ∀ (w : World), Calls Try.prog 15 #[.pointer none] w fun e w' => e = .returned (.int .i64 0) ∧ Below w.heap.size w w'
  groups0 : ∀ (w : World), Calls Try.prog 14 #[.pointer none] w fun e w' => (∃ A cap, e = .returned (.slice A 0 cap)) ∧ Below w.heap.size w w'
end Go.Proofs.Ytoccgpkpmhkeiaa.Uni
