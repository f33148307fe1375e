/- The laws' own helpers: are they many; a word near a number's. -/
import Derived.Test.YtnlhipbdnihapaaDoorWordI
import Derived.Test.YtnlhipbdnihapaaDoorWordO
namespace Go.Proofs.YtnlhipbdnihapaaDoor.Word
open Go.RowKit

theorem total_take (xs : List Bytes) (k : Nat) (h : k < xs.length) : total (xs.take (k + 1)) = total (xs.take k) + (xs[k].length + 1) := by
  rw [List.take_succ_eq_append_getElem h]
  unfold total
  rw [List.map_append, List.sum_append]
  simp only [List.map_cons, List.map_nil, List.sum_cons, List.sum_nil]
  omega
theorem total_take_le (xs : List Bytes) (k : Nat) : total (xs.take k) ≤ total xs := by
  have e : total xs = total (xs.take k) + total (xs.drop k) := by
    unfold total
    rw [← List.sum_append, ← List.map_append, List.take_append_drop]
  omega

/-- What holds at the head of many's loop. -/
def ManyRel (xs : List Bytes) (s3 s4 : Value) : Prop := ∃ k n : Nat, k ≤ xs.length ∧ n = total (xs.take k) ∧ s3 = .int .i64 (n : Int) ∧ s4 = .int .i64 (k : Int)

theorem many_any (a : Option Addr) (xs : List Bytes) (n c : Nat) (hn : xs.length = n) (ht : total xs ≤ 1048576) (w : World) (ha : Strs w w.heap.size a xs) :
    Calls Tryd.prog 9 #[.slice a n c] w fun e w' => e = .returned (.bool (decide (200 < total xs))) ∧ w = w' := by
  subst hn
  have HA := Lib.hid ha
  have hl := total_length xs
  have TL := Lib.hid (total_take_le xs)
  have HT := Lib.hid ht
  have hx : xs.length ≤ 1048576 := by omega
  clear ha ht hl
  go_enter Tryd.func9, Tryd.ntmps9
  go_wp2_with fail
  go_loop [3, 4] (fun s t => ManyRel xs s t) (fun _ t => xs.length - (intOf t).toNat)
  case atStart => exact ⟨0, 0, by omega, by simp [total], rfl, rfl⟩
  case round =>
    obtain ⟨k, n, hk, hn, rfl, rfl⟩ := hrel
    have HN := Lib.hid hn
    have nb : n ≤ 1048576 := by have := TL.out k; have := HT.out; omega
    clear hn
    by_cases hlt : k < xs.length
    · obtain ⟨b, off, ea, _, ca⟩ := HA.out (by omega)
      have c1 := ca k hlt
      have EA := Lib.hid ea
      rw [EA.out]
      have E := Lib.hid (total_take xs k hlt)
      have zb : xs[k].length ≤ 1048576 := by have := TL.out (k + 1); have := E.out; have := HT.out; omega
      obtain ⟨x, hx⟩ : ∃ x, x = xs[k] := ⟨_, rfl⟩
      rw [← hx] at c1 zb E
      clear ca ea hx
      go_wp2_with fail
      exact ⟨⟨k + 1, n + (x.length + 1), by omega, by rw [E.out, HN.out], by simp; omega, by simp⟩, by simp [intOf]; omega⟩
    · obtain rfl : k = xs.length := by omega
      have E : total xs = n := by have := HN.out; rw [List.take_length] at this; exact this.symm
      go_wp2_with fail
      go_ret
      refine ⟨?_, rfl⟩
      show Ending.returned (.bool (decide ((200 : Int) < (n : Int)))) = .returned (.bool (decide (200 < n)))
      rw [show decide ((200 : Int) < (n : Int)) = decide (200 < n) from decide_eq_decide.2 (by omega)]

/-- A []uint8 below block B: nil, or a row. -/
def Octs (w : World) (B : Nat) (a : Option Addr) (n : Nat) : Prop :=
  0 < n → ∃ b off, a = some ⟨b, off, none⟩ ∧ b < B ∧ ∀ i, i < n → ∃ z : Nat, z < 256 ∧ w.cell? ⟨b, off + i, none⟩ = some (.int .u8 (z : Int))
theorem Octs.later {w w' : World} {B : Nat} {a : Option Addr} {n : Nat} (h : Octs w B a n) (hB : B ≤ w.heap.size) (hb : Below w.heap.size w w') : Octs w' w'.heap.size a n := by
  intro hn
  obtain ⟨b, off, e, hlt, hc⟩ := h hn
  have := hb.size
  refine ⟨b, off, e, by omega, fun i hi => ?_⟩
  obtain ⟨z, hz, hz2⟩ := hc i hi
  exact ⟨z, hz, (hb.cell (p := ⟨b, off + i, none⟩) (by show b < _; omega)).trans hz2⟩

open Go.ChangeShapes Go.WideShapes Go.ChangeAt Go.Joins in
theorem open_octs {H : Type} {enc : TypeId × Value → H} {W : World} {s : Option Addr} {l c : Nat} {d : DataW H} {p : List MemPlace}
    (h : DataW.Trod enc Tryd.prog W 0 (fun _ => true) true 23 (.slice s l c) d p) : l ≤ maxLen ∧ Octs W W.heap.size s l := by
  obtain ⟨fuel, hf⟩ := h
  rcases open_ints Tryd.underlying23 Tryd.underlying5 (by kernel_rfl) hf with ⟨hcs, _⟩ | ⟨a, l', c', zs, hcs, _, hl, hm, hz, _, hcell, hwz⟩
  · simp [Value.cells] at hcs
    obtain ⟨rfl, rfl, rfl⟩ := hcs
    exact ⟨by simp, fun h => absurd h (by omega)⟩
  · simp [Value.cells] at hcs
    obtain ⟨rfl, rfl, rfl⟩ := hcs
    rw [if_pos rfl] at hz
    refine ⟨by omega, fun h0 => ?_⟩
    obtain ⟨b, off, spot⟩ := a
    have g0 := hcell 0 (by omega)
    have hspot : spot = none := by
      have := World.cell?_spot g0
      simpa [Addr.add] using this
    subst hspot
    refine ⟨b, off, rfl, World.block_lt_of_cell? W _ g0, fun i hi => ?_⟩
    have gi := hcell i (by omega)
    rw [show (⟨b, off, none⟩ : Addr).add i = ⟨b, off + i, none⟩ by unfold Addr.add; split <;> simp_all] at gi
    have wi := U8_of_wf (hwz (zs.getD i 0) (by rw [List.getD_eq_getElem?_getD, List.getElem?_eq_getElem (show i < zs.length by omega)]; exact List.getElem_mem _))
    unfold U8 at wi
    exact ⟨(zs.getD i 0).toNat, by omega, by rw [gi]; congr 2; omega⟩

/-- The pieces. -/
def nearL : List Bytes := [[48], [49], [57], [45], [49, 50], [57, 50, 50, 51, 51, 55, 50, 48, 51, 54, 56, 53, 52, 55, 55, 53, 56, 48], [55], [56], [43], [32], [10], [97], [48, 48], []]
theorem near_len : ∀ i (h : i < nearL.length), nearL[i].length ≤ 18 := by decide +kernel

/-- What holds at the head of Near's loop. -/
def NearRel (n : Nat) (s4 s5 : Value) : Prop := ∃ (k : Nat) (t : Bytes), k ≤ n ∧ k ≤ 24 ∧ t.length ≤ 18 * k ∧ s4 = str t ∧ s5 = .int .i64 (k : Int)

set_option maxHeartbeats 1000000 in
theorem near_any (a : Option Addr) (n c : Nat) (hn : n ≤ maxLen) (w : World) (ha : Octs w w.heap.size a n) :
    Calls Tryd.prog 12 #[.slice a n c] w fun e w' => ∃ t : Bytes, e = .returned (str t) ∧ t.length ≤ 432 ∧ Below w.heap.size w w' := by
  have HB := Lib.hid (show Below w.heap.size w (w.alloc (Obj.cells (nearL.map str).toArray 9)) from (Below.refl _ _).alloc (Nat.le_refl _) _)
  have HO := Lib.hid (ha.later (Nat.le_refl _) HB.out)
  have HS := Lib.hid (strs_row w 9 nearL)
  have HN := Lib.hid hn
  clear ha hn
  go_enter Tryd.func12, Tryd.ntmps12
  go_wp2_with fail
  generalize hW : w.alloc _ = W1
  have HB1 := Lib.hid (show Below w.heap.size w W1 by rw [← hW]; exact HB.out)
  have HO1 := Lib.hid (show Octs W1 W1.heap.size a n by rw [← hW]; exact HO.out)
  have HS1 := Lib.hid (show Strs W1 W1.heap.size (some ⟨w.heap.size, 0, none⟩) nearL by rw [← hW]; exact HS.out)
  clear hW HB HO HS
  go_loop [4, 5] (fun s t => NearRel n s t) (fun _ t => n - (intOf t).toNat)
  case atStart => exact ⟨0, [], by omega, by omega, by simp, rfl, rfl⟩
  case round =>
    obtain ⟨k, t, hk, hk2, ht, rfl, rfl⟩ := hrel
    have nm : n ≤ 9223372036854775807 := by have := HN.out; unfold maxLen at this; omega
    by_cases hlt : k < n
    · by_cases h24 : k < 24
      · obtain ⟨b, off, ea, _, ca⟩ := HO1.out (by omega)
        obtain ⟨z, hz, c1⟩ := ca k hlt
        have EA := Lib.hid ea
        rw [EA.out]
        obtain ⟨j, hj⟩ : ∃ j : Nat, j = z % 14 := ⟨_, rfl⟩
        have j14 : j < nearL.length := by show j < 14; omega
        obtain ⟨b2, off2, ea2, _, ca2⟩ := HS1.out (by decide)
        simp only [Option.some.injEq, Addr.mk.injEq] at ea2
        obtain ⟨rfl, rfl, _⟩ := ea2
        have c2 := ca2 j j14
        have e1 : (z : Int).tmod 14 = (j : Int) := by rw [Int.tmod_eq_emod_of_nonneg (by omega)]; omega
        have j13 : j < 14 := j14
        rw [Nat.zero_add] at c2
        obtain ⟨x, c3, xl⟩ : ∃ x : Bytes, W1.cell? ⟨w.heap.size, j, none⟩ = some (str x) ∧ x.length ≤ 18 := ⟨nearL[j], c2, near_len j j14⟩
        clear ca ca2 ea hj j14 c2
        go_wp2_with fail
        exact ⟨⟨k + 1, t ++ x, by omega, by omega, by rw [List.length_append]; omega, by rw [str_cat], by simp⟩, by simp [intOf]; omega⟩
      · go_wp2_with fail
        go_ret
        exact ⟨t, rfl, by omega, HB1.out⟩
    · go_wp2_with fail
      go_ret
      exact ⟨t, rfl, by omega, HB1.out⟩
end Go.Proofs.YtnlhipbdnihapaaDoor.Word
