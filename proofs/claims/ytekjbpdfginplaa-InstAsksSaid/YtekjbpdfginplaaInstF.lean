/- Contracts of the document's answers for layer 3: what is off, what is kept, a number's place. -/
import Derived.Test.YtekjbpdfginplaaInstE
import Derived.Maps.AppendAt
namespace Go.Proofs.Ytekjbpdfginplaa.Inst
open Go.RowKit

def boolV (l : List Bool) : List Value := l.map Value.bool
theorem boolV_length (l : List Bool) : (boolV l).length = l.length := by simp [boolV]
theorem bools_at {w : World} {B : Nat} {a : Option Addr} {l : List Bool} (h : Cells w B a (boolV l)) (h0 : 0 < l.length) :
    ∃ b off, a = some ⟨b, off, none⟩ ∧ b < B ∧ ∀ k (hk : k < l.length), w.cell? ⟨b, off + k, none⟩ = some (.bool l[k]) := by
  obtain ⟨b, off, e, hb, hc⟩ := h (by rw [boolV_length]; exact h0)
  refine ⟨b, off, e, hb, fun k hk => ?_⟩
  rw [hc k (by rw [boolV_length]; exact hk)]
  simp [boolV]
def natV (l : List Nat) : List Value := numV (l.map fun (x : Nat) => (x : Int))
theorem natV_length (l : List Nat) : (natV l).length = l.length := by simp [natV, numV_length]
theorem natV_snoc (l : List Nat) (x : Nat) : natV (l ++ [x]) = natV l ++ [.int .i64 (x : Int)] := by simp [natV, numV]
theorem nats_at {w : World} {B : Nat} {a : Option Addr} {l : List Nat} (h : Cells w B a (natV l)) (h0 : 0 < l.length) :
    ∃ b off, a = some ⟨b, off, none⟩ ∧ b < B ∧ ∀ k (hk : k < l.length), w.cell? ⟨b, off + k, none⟩ = some (.int .i64 (l[k] : Int)) := by
  obtain ⟨b, off, e, hb, hc⟩ := nums_at h (by simpa using h0)
  refine ⟨b, off, e, hb, fun k hk => ?_⟩
  rw [hc k (by simpa using hk)]
  simp

theorem off_any (a : Option Addr) (c : Nat) (off : List Bool) (k : Nat) (hk : k ≤ 9223372036854775807) (w : World) (ha : Cells w w.heap.size a (boolV off)) :
    Calls Try.prog 30 #[.slice a off.length c, .int .i64 (k : Int)] w fun e w' => e = .returned (.bool (offB off k)) ∧ w = w' := by
  by_cases h : k < off.length
  · obtain ⟨b, o, ea, _, ca⟩ := bools_at ha (by omega)
    have c1 := ca k h
    have D := Lib.hid (show offB off k = off[k] by unfold offB; rw [List.getD_eq_getElem?_getD, List.getElem?_eq_getElem h]; rfl)
    obtain ⟨x, hx⟩ : ∃ x, x = off[k] := ⟨_, rfl⟩
    rw [← hx] at c1 D
    subst ea
    have i0 : (0 : Int) ≤ (k : Int) := by omega
    have i1 : (k : Int) < (off.length : Int) := by omega
    clear ca hx ha
    go_enter Try.func30, Try.ntmps30
    go_wp2_with fail
    go_ret
    exact ⟨by rw [D.out]; rfl, rfl⟩
  · have D := Lib.hid (show offB off k = false by unfold offB; rw [List.getD_eq_getElem?_getD, List.getElem?_eq_none (by omega)]; rfl)
    have i1 : ¬ (k : Int) < (off.length : Int) := by omega
    clear ha
    go_enter Try.func30, Try.ntmps30
    go_wp2_with fail
    go_ret
    exact ⟨by rw [D.out]; rfl, rfl⟩

theorem info_int : (Try.prog.info? 3).map (fun i => (i.zero, i.size, i.bytes)) = some (some (.int .i64 0), 1, 8) := by kernel_rfl
/-- What a call that tells a []int of its own does. -/
def TellsNats (l : List Nat) (w : World) (e : Ending) (w' : World) : Prop :=
  ∃ A cap, e = .returned (.slice A l.length cap) ∧ l.length ≤ cap ∧ Cells w' w'.heap.size A (natV l) ∧ Below w.heap.size w w' ∧ w'.ownsRow w.heap.size 3 1 (.slice A l.length cap) l.length (natV l)

/-- At the head of Kept's loop. -/
def KeptRel (w : World) (off : List Bool) (n : Int) (s5 s6 : Value) (u : World) : Prop :=
  ∃ k : Nat, k ≤ upto n ∧ s6 = .int .i64 (k : Int) ∧ u.ownsRow w.heap.size 3 1 s5 (keptN off k).length (natV (keptN off k)) ∧ Below w.heap.size w u

set_option maxHeartbeats 2000000 in
theorem rkept_any (a : Option Addr) (c : Nat) (off : List Bool) (n : Int) (hn1 : n ≤ 9223372036854775807) (w : World) (ha : Cells w w.heap.size a (boolV off)) :
    Calls Try.prog 18 #[.slice a off.length c, .int .i64 n] w (TellsNats (keptD off n) w) := by
  obtain ⟨i0, hi0, hz0, hz1, hz2⟩ := info_parts info_int
  have G0 := Lib.hid hi0
  have G1 := Lib.hid hz0
  have G2 := Lib.hid hz1
  have G3 := Lib.hid hz2
  have HA := Lib.hid ha
  have U := Lib.hid (show upto n = min n.toNat 1000 from rfl)
  have u1 : upto n ≤ 1000 := by rw [U.out]; omega
  clear hi0 hz0 hz1 hz2 ha
  go_enter Try.func18, Try.ntmps18
  go_wp2_with fail
  go_loopw [5, 6] (fun v q u => KeptRel w off n v q u) (fun _ q _ => upto n - (intOf q).toNat)
  case atStart => exact ⟨0, by omega, rfl, ⟨rfl, .inl ⟨rfl, rfl⟩⟩, Below.refl _ _⟩
  case round =>
    obtain ⟨k, hk, rfl, hown, hB⟩ := hrel
    have HO := Lib.hid hown
    have HB := Lib.hid hB
    have bs := hB.size
    clear hown hB
    have kl := keptN_length off k
    by_cases hlt : k < upto n
    · have q1 : (k : Int) < n := by have := U.out; omega
      have q2 : (k : Int) < 1000 := by omega
      have OF := Lib.hid (off_any a c off k (by omega) wr (HA.out.later (Nat.le_refl _) HB.out))
      cases ho : offB off k with
      | true =>
        rw [ho] at OF
        have E := Lib.hid (show keptN off (k + 1) = keptN off k by rw [keptN_succ, ho]; simp)
        go_wp2_with (go_at_call 30; refine OF.out.mono ?_; rintro e w' ⟨rfl, rfl⟩)
        exact ⟨⟨k + 1, by omega, by simp, by rw [E.out]; exact HO.out, HB.out⟩, by simp [intOf]; omega⟩
      | false =>
        rw [ho] at OF
        have E := Lib.hid (show keptN off (k + 1) = keptN off k ++ [k] by rw [keptN_succ, ho]; simp)
        go_wp2_with (first
          | (go_at_call 30; refine OF.out.mono ?_; rintro e w' ⟨rfl, rfl⟩)
          | (at_builtin
             refine wpList_append_own _ rfl _ _ 35 rfl w.heap.size 3 i0 _ 1 8 Try.underlying35 G0.out G1.out G2.out G3.out rfl (by decide) _ _ _ rfl (HO.out.alloc _) ⟨World.heap _ |>.size, 0, none⟩ 1 1 [.int .i64 (k : Int)] rfl rfl ?c1 ?c2 ?c3 ?c4 ?c5 ?_
             case c1 => exact cell_one_new _ _ _
             case c2 => simp [Value.oneCell']
             case c3 => simp only [maxLen]; omega
             case c4 => omega
             case c5 => simp; omega
             intro v1 u1 hown1 hgrow1 _))
        exact ⟨⟨k + 1, by omega, by simp, by rw [E.out, List.length_append, natV_snoc]; exact hown1, (HB.out.alloc bs _).grown hgrow1 (by simp; omega) (own_ge HO.out)⟩, by simp [intOf]; omega⟩
    · obtain rfl : k = upto n := by omega
      have fin : ∀ (e : Ending) (v : Value), e = .returned v → wr.ownsRow w.heap.size 3 1 v (keptN off (upto n)).length (natV (keptN off (upto n))) → TellsNats (keptD off n) w e wr := by
        intro e v he ho
        obtain ⟨_, A, cap, rfl, h1, _, h3⟩ := own_cells ho
        exact ⟨A, cap, he, h1, h3, HB.out, ho⟩
      by_cases q1 : ((upto n : Nat) : Int) < n
      · have q2 : ¬ ((upto n : Nat) : Int) < 1000 := by have := U.out; omega
        go_wp2_with fail
        go_ret
        exact fin _ _ rfl HO.out
      · go_wp2_with fail
        go_ret
        exact fin _ _ rfl HO.out

/-- At the head of Place's loop. -/
def PlaceRel (l : List Nat) (x : Int) (s5 : Value) : Prop := ∃ k : Nat, k ≤ l.length ∧ s5 = .int .i64 (k : Int) ∧ ∀ i (hi : i < k) (hl : i < l.length), (l[i] : Int) ≠ x
theorem place_any (a : Option Addr) (c : Nat) (l : List Nat) (hl : l.length ≤ 1000) (x : Int) (w : World) (ha : Cells w w.heap.size a (natV l)) :
    Calls Try.prog 47 #[.slice a l.length c, .int .i64 x] w fun e w' => e = .returned (.int .i64 (placeD l x)) ∧ w = w' := by
  have HA := Lib.hid ha
  clear ha
  go_enter Try.func47, Try.ntmps47
  go_wp2_with fail
  go_loop [5] (fun q => PlaceRel l x q) (fun q => l.length - (intOf q).toNat)
  case atStart => exact ⟨0, by omega, rfl, fun i hi => absurd hi (by omega)⟩
  case round =>
    obtain ⟨k, hk, rfl, hno⟩ := hrel
    have HN := Lib.hid hno
    clear hno
    by_cases hlt : k < l.length
    · obtain ⟨b, o, ea, _, ca⟩ := nats_at HA.out (by omega)
      have c1 := ca k hlt
      have i0 : (0 : Int) ≤ (k : Int) := by omega
      have i1 : (k : Int) < (l.length : Int) := by omega
      obtain ⟨y, hy⟩ : ∃ y : Nat, y = l[k] := ⟨_, rfl⟩
      rw [← hy] at c1
      have HY := Lib.hid hy
      subst ea
      clear ca hy
      by_cases e : (y : Int) = x
      · have t : ((y : Int) == x) = true := by simp [e]
        have R := Lib.hid (show placeD l x = (k : Int) by
          unfold placeD
          rw [placeF_take x l 0 k hlt (fun i hi => HN.out i hi (by omega)) (by rw [← HY.out]; exact e)]
          congr 1
          omega)
        clear e
        go_wp2_with fail
        go_ret
        exact ⟨by rw [R.out]; rfl, rfl⟩
      · have t : ((y : Int) == x) = false := by simp [e]
        have N2 := Lib.hid (show ∀ i (hi : i < k + 1) (hl : i < l.length), (l[i] : Int) ≠ x by
          intro i hi hl2
          by_cases q : i = k
          · subst q; rw [← HY.out]; exact e
          · exact HN.out i (by omega) hl2)
        clear e
        go_wp2_with fail
        exact ⟨⟨k + 1, by omega, by simp, N2.out⟩, by simp [intOf]; omega⟩
    · obtain rfl : k = l.length := by omega
      have R := Lib.hid (show placeD l x = -1 from placeF_none x l 0 (fun i hi => HN.out i hi hi))
      go_wp2_with fail
      go_ret
      exact ⟨by rw [R.out]; rfl, rfl⟩
end Go.Proofs.Ytekjbpdfginplaa.Inst
