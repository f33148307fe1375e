/- WordAsks: the walk. -/
import Derived.Test.YtnlhipbdnihapaaDoorWordJ
namespace Go.Proofs.YtnlhipbdnihapaaDoor.Word
open Go.RowKit

theorem joinB_len (b : Bytes) : ∀ xs : List Bytes, (joinB b xs).length ≤ total xs + b.length * xs.length
  | [] => by simp [joinB]
  | [x] => by simp [joinB, total]; omega
  | x :: y :: r => by
    have h := joinB_len b (y :: r)
    simp only [joinB, List.length_append, total, List.map_cons, List.sum_cons, List.length_cons] at h ⊢
    rw [Nat.mul_add, Nat.mul_add] at *
    omega
theorem joinB_small (b : Bytes) (xs : List Bytes) (hb : b.length ≤ 300) (ht : total xs ≤ 200) : ∀ k, k ≤ xs.length → (joinB b (xs.take k)).length + b.length ≤ 1073741824 := by
  intro k _
  have h1 := joinB_len b (xs.take k)
  have h2 := total_take_le xs k
  have h3 := total_length (xs.take k)
  have h4 : b.length * (xs.take k).length ≤ 300 * 200 := Nat.mul_le_mul hb (by omega)
  omega

set_option maxHeartbeats 2000000 in
theorem wordasks_walk (W : World) (hL : Lw W) (s : Bytes) (hs : s.length ≤ 1048576) (b : Bytes) (hb : b.length ≤ 1048576) (a : Option Addr) (m c : Nat) (xs : List Bytes) (hm : xs.length = m) (hmc : m ≤ c) (ht : total xs ≤ 1048576) (ha : Strs W W.heap.size a xs)
    (n : Int) (hn : I64 n) (most : Int) (_hmost : I64 most) (a2 : Option Addr) (m2 c2 : Nat) (hm2 : m2 ≤ maxLen) (ha2 : Octs W W.heap.size a2 m2) :
    Calls Tryd.prog 3 #[str s, str b, .slice a m c, .int .i64 n, .int .i64 most, .slice a2 m2 c2] W fun e w' => e = .returned (.bool true) ∧ Below W.heap.size W w' := by
  have HB := Lib.hid (Below.refl W.heap.size W)
  have HL := Lib.hid (fun w' (h : Below W.heap.size W w') => hL.later h)
  clear hL
  have SL := Lib.hid (fun w' (h : Below W.heap.size W w') => ha.later (Nat.le_refl _) h)
  have OL := Lib.hid (fun w' (h : Below W.heap.size W w') => ha2.later (Nat.le_refl _) h)
  have MA := Lib.hid (fun w h => many_any a xs m c hm ht w h)
  have HM := Lib.hid hm2
  have HT := Lib.hid ht
  unfold I64 at hn
  obtain ⟨n0, n1⟩ := hn
  have TX := Lib.hid (textB_length n)
  have T1 := Lib.hid (fun w h => ltext_any n n0 n1 w h)
  have T2 := Lib.hid (fun w => rtext_any n n0 n1 w)
  clear ha ha2 hm2 ht
  by_cases c1 : s.length + b.length ≤ 300
  · by_cases c2 : total xs ≤ 200
    · have hj := joinB_small b xs (by omega) c2
      have hx : xs.length ≤ maxLen := by have := total_length xs; unfold maxLen; omega
      have J1 := Lib.hid (fun w h => ljoin_any a xs m c b hm hmc hj (by have := total_length xs; omega) w h)
      have J2 := Lib.hid (fun w h => join_any a xs m c b hm hj hx w h)
      have M2 := Lib.hid (show decide (200 < total xs) = false from decide_eq_false (by omega))
      clear hj hx hm c2 hmc
      go_enter Tryd.func3, Tryd.ntmps3
      go_upto_region 3 with (first
        | (go_at_call 9; refine (MA.out _ (SL.out _ HB.out)).mono ?_; rintro e w1 ⟨rfl, rfl⟩; rw [M2.out])
        | (go_at_call 10; refine (known_any _ (HL.out _ HB.out)).mono ?_; rintro e w1 ⟨rfl, hb1⟩; replace HB := Lib.hid (chain2 HB.out hb1)))
      have tx := TX.out.1
      go_wp2_with (first
        | (go_at_call 11; refine (asks_any _ _ (by omega) _ (HL.out _ HB.out)).mono ?_; rintro e w1 ⟨rfl, hb1⟩; replace HB := Lib.hid (chain2 HB.out hb1))
        | (go_at_call 12; refine (near_any _ _ _ HM.out _ (OL.out _ HB.out)).mono ?_; rintro e w1 ⟨t, rfl, tl, hb1⟩; replace HB := Lib.hid (chain2 HB.out hb1))
        | (go_at_call 13; refine (T1.out _ (HL.out _ HB.out)).mono ?_; rintro e w1 ⟨rfl, hb1⟩; replace HB := Lib.hid (chain2 HB.out hb1))
        | (go_at_call 14; refine (T2.out _).mono ?_; rintro e w1 ⟨rfl, q, rfl⟩; replace HB := Lib.hid (below_drewN HB.out q))
        | (go_at_call 15; refine (J1.out _ (SL.out _ HB.out)).mono ?_; rintro e w1 ⟨rfl, hb1⟩; replace HB := Lib.hid (chain2 HB.out hb1))
        | (go_at_call 16; refine (J2.out _ (SL.out _ HB.out)).mono ?_; rintro e w1 ⟨rfl, rfl⟩))
      go_ret
      exact ⟨rfl, HB.out⟩
    · have M2 := Lib.hid (show decide (200 < total xs) = true from decide_eq_true (by omega))
      clear hm c2 hmc
      go_enter Tryd.func3, Tryd.ntmps3
      go_wp2_with (first
        | (go_at_call 9; refine (MA.out _ (SL.out _ HB.out)).mono ?_; rintro e w1 ⟨rfl, rfl⟩; rw [M2.out])
        | (go_at_call 10; refine (known_any _ (HL.out _ HB.out)).mono ?_; rintro e w1 ⟨rfl, hb1⟩; replace HB := Lib.hid (chain2 HB.out hb1)))
      go_ret
      exact ⟨rfl, HB.out⟩
  · clear hm hmc
    go_enter Tryd.func3, Tryd.ntmps3
    go_wp2_with (first
      | (go_at_call 10; refine (known_any _ (HL.out _ HB.out)).mono ?_; rintro e w1 ⟨rfl, hb1⟩; replace HB := Lib.hid (chain2 HB.out hb1)))
    go_ret
    exact ⟨rfl, HB.out⟩
end Go.Proofs.YtnlhipbdnihapaaDoor.Word
