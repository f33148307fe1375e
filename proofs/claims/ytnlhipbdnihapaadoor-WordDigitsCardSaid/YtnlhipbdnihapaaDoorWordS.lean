/- WordDigits: the walk. -/
import Derived.Test.YtnlhipbdnihapaaDoorWordR
namespace Go.Proofs.YtnlhipbdnihapaaDoor.Word
open Go.RowKit

theorem decN_more (K g : Nat) (hK : 0 < K) (hg : g < 10) (hb : K ≤ 922337203685477580) : decN K ++ [UInt8.ofNat (48 + g)] = decN (10 * K + g) := by
  rw [decN_step (n := 10 * K + g) (by omega) (by omega), show (10 * K + g) / 10 = K by omega, show (10 * K + g) % 10 = g by omega]
theorem numB_dec (N : Nat) (h0 : 0 < N) (h : N < 1000000000000000000000) : numB (decN N) = if N ≤ 9223372036854775807 then ((N : Int), 0) else (0, 11) := by
  have hp := decN_any N h
  have hm := isDig_not_minus hp.2.1
  have hf : formB (decN N) = true := by
    unfold formB
    rw [if_neg hm, formD_decN N h h0, Bool.or_true]
  rw [numB_pos hf hm, hp.1]
theorem numB_decm (N : Nat) (h0 : 0 < N) (h : N < 1000000000000000000000) : numB (45 :: decN N) = if N ≤ 9223372036854775808 then (-(N : Int), 0) else (0, 11) := by
  have hp := decN_any N h
  have hf : formB (45 :: decN N) = true := by
    unfold formB
    rw [if_pos (by rfl), List.drop_succ_cons, List.drop_zero, formD_decN N h h0, Bool.or_true]
  rw [numB_neg hf, hp.1]
theorem textB_nat (K : Nat) : textB (K : Int) = decN K := by
  unfold textB
  rw [if_neg (by omega), Int.natAbs_natCast]


/-- A number's word that is handed to Number, and what that tells. -/
def NumIs (s : ByteArray) (m e : Int) : Prop := ∀ w, Lw w → Calls Tryd.prog 17 #[.string s] w fun e' w' => e' = .returned (.tuple #[.int .i64 m, .int .u16 e]) ∧ Below w.heap.size w w'
def TextIs (k : Int) (t : Bytes) : Prop := ∀ w, Lw w → Calls Tryd.prog 13 #[.int .i64 k] w fun e' w' => e' = .returned (str t) ∧ Below w.heap.size w w'


set_option maxHeartbeats 4000000 in
theorem low_plus (W : World) (hL : Lw W) (n d : Int) (K g : Nat) (D G : Bytes) (hK : 0 < K) (hKb : K < 922337203685477580) (hg : g < 10) (hn : n.tdiv 10 = (K : Int) ∨ n.tdiv 10 = -(K : Int)) (hd : d.tmod 10 = (g : Int))
    (_hne : D.isEmpty = false) (dl : D.length ≤ 30) (gl : G.length ≤ 30) (t1 : TextIs (K : Int) D) (t2 : TextIs (g : Int) G) (n1 : NumIs ((⟨D.toArray⟩ : ByteArray) ++ ⟨G.toArray⟩) (10 * (K : Int) + (g : Int)) 0) :
    Calls Tryd.prog 8 #[.int .i64 n, .int .u8 d, .bool false] W fun e w' => e = .returned (.bool true) ∧ Below W.heap.size W w' := by
  have hne := _hne
  have T1 := Lib.hid t1
  have T2 := Lib.hid t2
  have N1 := Lib.hid n1
  unfold TextIs at T1 T2
  unfold NumIs at N1
  have HB := Lib.hid (Below.refl W.heap.size W)
  have HL := Lib.hid (fun w' (h : Below W.heap.size W w') => hL.later h)
  have k0 : ((K : Int) == 0) = false := by rw [beq_eq_false_iff_ne]; omega
  clear hL t1 t2 n1
  rcases hn with hn | hn
  all_goals
    go_enter Tryd.func8, Tryd.ntmps8
    obtain ⟨T, hT⟩ : ∃ T : Int, T = 922337203685477580 := ⟨_, rfl⟩
    have hlt : (K : Int) < T := by omega
    have hKc : 10 * (K : Int) + (g : Int) ≤ 9223372036854775807 := by omega
    clear hKb
    rw [← hT]
    clear hT
    go_wp2_with (first
      | (go_at_call 13; (with_reducible refine (T1.out _ (HL.out _ HB.out)).mono ?_); rintro e w1 ⟨rfl, hb1⟩; replace HB := Lib.hid (chain2 HB.out hb1); clear hb1)
      | (go_at_call 13; (with_reducible refine (T2.out _ (HL.out _ HB.out)).mono ?_); rintro e w1 ⟨rfl, hb1⟩; replace HB := Lib.hid (chain2 HB.out hb1); clear hb1)
      | (go_at_call 17; (with_reducible refine (N1.out _ (HL.out _ HB.out)).mono ?_); rintro e w1 ⟨rfl, hb1⟩; replace HB := Lib.hid (chain2 HB.out hb1); clear hb1)
      | (go_at_call 10; refine (known_any _ (HL.out _ HB.out)).mono ?_; rintro e w1 ⟨rfl, hb1⟩; replace HB := Lib.hid (chain2 HB.out hb1); clear hb1))
    go_ret
    exact ⟨rfl, HB.out⟩

set_option maxHeartbeats 4000000 in
theorem low_minus (W : World) (hL : Lw W) (n d : Int) (K g : Nat) (D G : Bytes) (hK : 0 < K) (hKb : K < 922337203685477580) (hg : g < 10) (hn : n.tdiv 10 = (K : Int) ∨ n.tdiv 10 = -(K : Int)) (hd : d.tmod 10 = (g : Int))
    (_hne : D.isEmpty = false) (dl : D.length ≤ 30) (gl : G.length ≤ 30) (t1 : TextIs (K : Int) D) (t2 : TextIs (g : Int) G) (n1 : NumIs (((⟨#[45]⟩ : ByteArray) ++ ⟨D.toArray⟩) ++ ⟨G.toArray⟩) (-(10 * (K : Int) + (g : Int))) 0) :
    Calls Tryd.prog 8 #[.int .i64 n, .int .u8 d, .bool true] W fun e w' => e = .returned (.bool true) ∧ Below W.heap.size W w' := by
  have he : ((⟨#[45]⟩ : ByteArray) ++ ⟨D.toArray⟩).toList.isEmpty = false := by rw [ByteArray.toList_eq]; simp
  have hne := _hne
  have T1 := Lib.hid t1
  have T2 := Lib.hid t2
  have N1 := Lib.hid n1
  unfold TextIs at T1 T2
  unfold NumIs at N1
  have HB := Lib.hid (Below.refl W.heap.size W)
  have HL := Lib.hid (fun w' (h : Below W.heap.size W w') => hL.later h)
  have k0 : ((K : Int) == 0) = false := by rw [beq_eq_false_iff_ne]; omega
  clear hL t1 t2 n1
  rcases hn with hn | hn
  all_goals
    go_enter Tryd.func8, Tryd.ntmps8
    obtain ⟨T, hT⟩ : ∃ T : Int, T = 922337203685477580 := ⟨_, rfl⟩
    have hlt : (K : Int) < T := by omega
    have hKc : 10 * (K : Int) + (g : Int) ≤ 9223372036854775807 := by omega
    clear hKb
    rw [← hT]
    clear hT
    go_wp2_with (first
      | (go_at_call 13; (with_reducible refine (T1.out _ (HL.out _ HB.out)).mono ?_); rintro e w1 ⟨rfl, hb1⟩; replace HB := Lib.hid (chain2 HB.out hb1); clear hb1)
      | (go_at_call 13; (with_reducible refine (T2.out _ (HL.out _ HB.out)).mono ?_); rintro e w1 ⟨rfl, hb1⟩; replace HB := Lib.hid (chain2 HB.out hb1); clear hb1)
      | (go_at_call 17; (with_reducible refine (N1.out _ (HL.out _ HB.out)).mono ?_); rintro e w1 ⟨rfl, hb1⟩; replace HB := Lib.hid (chain2 HB.out hb1); clear hb1)
      | (go_at_call 10; refine (known_any _ (HL.out _ HB.out)).mono ?_; rintro e w1 ⟨rfl, hb1⟩; replace HB := Lib.hid (chain2 HB.out hb1); clear hb1))
    go_ret
    exact ⟨rfl, HB.out⟩

set_option maxHeartbeats 4000000 in
theorem top_plus (W : World) (hL : Lw W) (n d : Int) (K g : Nat) (D G : Bytes) (hK : 0 < K) (hKb : K = 922337203685477580) (h7 : g ≤ 7) (hg : g < 10) (hn : n.tdiv 10 = (K : Int) ∨ n.tdiv 10 = -(K : Int)) (hd : d.tmod 10 = (g : Int))
    (_hne : D.isEmpty = false) (dl : D.length ≤ 30) (gl : G.length ≤ 30) (t1 : TextIs (K : Int) D) (t2 : TextIs (g : Int) G) (n1 : NumIs ((⟨D.toArray⟩ : ByteArray) ++ ⟨G.toArray⟩) (10 * (K : Int) + (g : Int)) 0) :
    Calls Tryd.prog 8 #[.int .i64 n, .int .u8 d, .bool false] W fun e w' => e = .returned (.bool true) ∧ Below W.heap.size W w' := by
  have hne := _hne
  have T1 := Lib.hid t1
  have T2 := Lib.hid t2
  have N1 := Lib.hid n1
  unfold TextIs at T1 T2
  unfold NumIs at N1
  have HB := Lib.hid (Below.refl W.heap.size W)
  have HL := Lib.hid (fun w' (h : Below W.heap.size W w') => hL.later h)
  have k0 : ((K : Int) == 0) = false := by rw [beq_eq_false_iff_ne]; omega
  clear hL t1 t2 n1
  rcases hn with hn | hn
  all_goals
    go_enter Tryd.func8, Tryd.ntmps8
    obtain ⟨T, hT⟩ : ∃ T : Int, T = 922337203685477580 := ⟨_, rfl⟩
    have hlt : ¬ (K : Int) < T := by omega
    have dlt : decide ((K : Int) < T) = false := decide_eq_false hlt
    have heq : ((K : Int) == T) = true := by rw [beq_iff_eq]; omega
    have hK1 : (K : Int) * 10 ≤ 9223372036854775800 := by omega
    have i7 : (g : Int) ≤ 7 := by omega
    have hKc : 10 * (K : Int) + (g : Int) ≤ 9223372036854775807 := by omega
    clear hKb h7
    rw [← hT]
    clear hT
    go_wp2_with (first
      | (go_at_call 13; (with_reducible refine (T1.out _ (HL.out _ HB.out)).mono ?_); rintro e w1 ⟨rfl, hb1⟩; replace HB := Lib.hid (chain2 HB.out hb1); clear hb1)
      | (go_at_call 13; (with_reducible refine (T2.out _ (HL.out _ HB.out)).mono ?_); rintro e w1 ⟨rfl, hb1⟩; replace HB := Lib.hid (chain2 HB.out hb1); clear hb1)
      | (go_at_call 17; (with_reducible refine (N1.out _ (HL.out _ HB.out)).mono ?_); rintro e w1 ⟨rfl, hb1⟩; replace HB := Lib.hid (chain2 HB.out hb1); clear hb1)
      | (go_at_call 10; refine (known_any _ (HL.out _ HB.out)).mono ?_; rintro e w1 ⟨rfl, hb1⟩; replace HB := Lib.hid (chain2 HB.out hb1); clear hb1))
    go_ret
    exact ⟨rfl, HB.out⟩

set_option maxHeartbeats 4000000 in
theorem top_minus (W : World) (hL : Lw W) (n d : Int) (K g : Nat) (D G : Bytes) (hK : 0 < K) (hKb : K = 922337203685477580) (h7 : g ≤ 7) (hg : g < 10) (hn : n.tdiv 10 = (K : Int) ∨ n.tdiv 10 = -(K : Int)) (hd : d.tmod 10 = (g : Int))
    (_hne : D.isEmpty = false) (dl : D.length ≤ 30) (gl : G.length ≤ 30) (t1 : TextIs (K : Int) D) (t2 : TextIs (g : Int) G) (n1 : NumIs (((⟨#[45]⟩ : ByteArray) ++ ⟨D.toArray⟩) ++ ⟨G.toArray⟩) (-(10 * (K : Int) + (g : Int))) 0) :
    Calls Tryd.prog 8 #[.int .i64 n, .int .u8 d, .bool true] W fun e w' => e = .returned (.bool true) ∧ Below W.heap.size W w' := by
  have he : ((⟨#[45]⟩ : ByteArray) ++ ⟨D.toArray⟩).toList.isEmpty = false := by rw [ByteArray.toList_eq]; simp
  have hne := _hne
  have T1 := Lib.hid t1
  have T2 := Lib.hid t2
  have N1 := Lib.hid n1
  unfold TextIs at T1 T2
  unfold NumIs at N1
  have HB := Lib.hid (Below.refl W.heap.size W)
  have HL := Lib.hid (fun w' (h : Below W.heap.size W w') => hL.later h)
  have k0 : ((K : Int) == 0) = false := by rw [beq_eq_false_iff_ne]; omega
  clear hL t1 t2 n1
  rcases hn with hn | hn
  all_goals
    go_enter Tryd.func8, Tryd.ntmps8
    obtain ⟨T, hT⟩ : ∃ T : Int, T = 922337203685477580 := ⟨_, rfl⟩
    have hlt : ¬ (K : Int) < T := by omega
    have dlt : decide ((K : Int) < T) = false := decide_eq_false hlt
    have heq : ((K : Int) == T) = true := by rw [beq_iff_eq]; omega
    have hK1 : (K : Int) * 10 ≤ 9223372036854775800 := by omega
    have i7 : (g : Int) ≤ 7 := by omega
    have hKc : 10 * (K : Int) + (g : Int) ≤ 9223372036854775807 := by omega
    clear hKb h7
    rw [← hT]
    clear hT
    go_wp2_with (first
      | (go_at_call 13; (with_reducible refine (T1.out _ (HL.out _ HB.out)).mono ?_); rintro e w1 ⟨rfl, hb1⟩; replace HB := Lib.hid (chain2 HB.out hb1); clear hb1)
      | (go_at_call 13; (with_reducible refine (T2.out _ (HL.out _ HB.out)).mono ?_); rintro e w1 ⟨rfl, hb1⟩; replace HB := Lib.hid (chain2 HB.out hb1); clear hb1)
      | (go_at_call 17; (with_reducible refine (N1.out _ (HL.out _ HB.out)).mono ?_); rintro e w1 ⟨rfl, hb1⟩; replace HB := Lib.hid (chain2 HB.out hb1); clear hb1)
      | (go_at_call 10; refine (known_any _ (HL.out _ HB.out)).mono ?_; rintro e w1 ⟨rfl, hb1⟩; replace HB := Lib.hid (chain2 HB.out hb1); clear hb1))
    go_ret
    exact ⟨rfl, HB.out⟩

set_option maxHeartbeats 4000000 in
theorem top_no_plus (W : World) (hL : Lw W) (n d : Int) (K g : Nat) (D G : Bytes) (hK : 0 < K) (hKb : K = 922337203685477580) (h8 : 8 ≤ g) (hg : g < 10) (hn : n.tdiv 10 = (K : Int) ∨ n.tdiv 10 = -(K : Int)) (hd : d.tmod 10 = (g : Int))
    (_hne : D.isEmpty = false) (dl : D.length ≤ 30) (gl : G.length ≤ 30) (t1 : TextIs (K : Int) D) (t2 : TextIs (g : Int) G) (n1 : NumIs ((⟨D.toArray⟩ : ByteArray) ++ ⟨G.toArray⟩) (0) 11) :
    Calls Tryd.prog 8 #[.int .i64 n, .int .u8 d, .bool false] W fun e w' => e = .returned (.bool true) ∧ Below W.heap.size W w' := by
  have hne := _hne
  have T1 := Lib.hid t1
  have T2 := Lib.hid t2
  have N1 := Lib.hid n1
  unfold TextIs at T1 T2
  unfold NumIs at N1
  have HB := Lib.hid (Below.refl W.heap.size W)
  have HL := Lib.hid (fun w' (h : Below W.heap.size W w') => hL.later h)
  have k0 : ((K : Int) == 0) = false := by rw [beq_eq_false_iff_ne]; omega
  clear hL t1 t2 n1
  rcases hn with hn | hn
  all_goals
    go_enter Tryd.func8, Tryd.ntmps8
    obtain ⟨T, hT⟩ : ∃ T : Int, T = 922337203685477580 := ⟨_, rfl⟩
    have hlt : ¬ (K : Int) < T := by omega
    have dlt : decide ((K : Int) < T) = false := decide_eq_false hlt
    have heq : ((K : Int) == T) = true := by rw [beq_iff_eq]; omega
    have hK1 : (K : Int) * 10 ≤ 9223372036854775800 := by omega
    have i7 : ¬ (g : Int) ≤ 7 := by omega
    have d7 : decide ((g : Int) ≤ 7) = false := decide_eq_false i7
    clear hKb
    obtain ⟨b8, hb8⟩ : ∃ b8, b8 = ((g : Int) == 8) := ⟨_, rfl⟩
    have g8 := hb8.symm
    clear hb8 h8
    rw [← hT]
    clear hT
    go_wp2_with (first
      | (go_at_call 13; (with_reducible refine (T1.out _ (HL.out _ HB.out)).mono ?_); rintro e w1 ⟨rfl, hb1⟩; replace HB := Lib.hid (chain2 HB.out hb1); clear hb1)
      | (go_at_call 13; (with_reducible refine (T2.out _ (HL.out _ HB.out)).mono ?_); rintro e w1 ⟨rfl, hb1⟩; replace HB := Lib.hid (chain2 HB.out hb1); clear hb1)
      | (go_at_call 17; (with_reducible refine (N1.out _ (HL.out _ HB.out)).mono ?_); rintro e w1 ⟨rfl, hb1⟩; replace HB := Lib.hid (chain2 HB.out hb1); clear hb1)
      | (go_at_call 10; refine (known_any _ (HL.out _ HB.out)).mono ?_; rintro e w1 ⟨rfl, hb1⟩; replace HB := Lib.hid (chain2 HB.out hb1); clear hb1))
    all_goals (go_ret; exact ⟨rfl, HB.out⟩)

set_option maxHeartbeats 4000000 in
theorem top_no_minus (W : World) (hL : Lw W) (n d : Int) (K g : Nat) (D G : Bytes) (hK : 0 < K) (hKb : K = 922337203685477580) (h9 : g = 9) (hg : g < 10) (hn : n.tdiv 10 = (K : Int) ∨ n.tdiv 10 = -(K : Int)) (hd : d.tmod 10 = (g : Int))
    (_hne : D.isEmpty = false) (dl : D.length ≤ 30) (gl : G.length ≤ 30) (t1 : TextIs (K : Int) D) (t2 : TextIs (g : Int) G) (n1 : NumIs (((⟨#[45]⟩ : ByteArray) ++ ⟨D.toArray⟩) ++ ⟨G.toArray⟩) (0) 11) :
    Calls Tryd.prog 8 #[.int .i64 n, .int .u8 d, .bool true] W fun e w' => e = .returned (.bool true) ∧ Below W.heap.size W w' := by
  have he : ((⟨#[45]⟩ : ByteArray) ++ ⟨D.toArray⟩).toList.isEmpty = false := by rw [ByteArray.toList_eq]; simp
  have hne := _hne
  have T1 := Lib.hid t1
  have T2 := Lib.hid t2
  have N1 := Lib.hid n1
  unfold TextIs at T1 T2
  unfold NumIs at N1
  have HB := Lib.hid (Below.refl W.heap.size W)
  have HL := Lib.hid (fun w' (h : Below W.heap.size W w') => hL.later h)
  have k0 : ((K : Int) == 0) = false := by rw [beq_eq_false_iff_ne]; omega
  clear hL t1 t2 n1
  rcases hn with hn | hn
  all_goals
    go_enter Tryd.func8, Tryd.ntmps8
    obtain ⟨T, hT⟩ : ∃ T : Int, T = 922337203685477580 := ⟨_, rfl⟩
    have hlt : ¬ (K : Int) < T := by omega
    have dlt : decide ((K : Int) < T) = false := decide_eq_false hlt
    have heq : ((K : Int) == T) = true := by rw [beq_iff_eq]; omega
    have hK1 : (K : Int) * 10 ≤ 9223372036854775800 := by omega
    have i7 : ¬ (g : Int) ≤ 7 := by omega
    have d7 : decide ((g : Int) ≤ 7) = false := decide_eq_false i7
    have g8 : ((g : Int) == 8) = false := by rw [beq_eq_false_iff_ne]; omega
    clear hKb h9
    rw [← hT]
    clear hT
    go_wp2_with (first
      | (go_at_call 13; (with_reducible refine (T1.out _ (HL.out _ HB.out)).mono ?_); rintro e w1 ⟨rfl, hb1⟩; replace HB := Lib.hid (chain2 HB.out hb1); clear hb1)
      | (go_at_call 13; (with_reducible refine (T2.out _ (HL.out _ HB.out)).mono ?_); rintro e w1 ⟨rfl, hb1⟩; replace HB := Lib.hid (chain2 HB.out hb1); clear hb1)
      | (go_at_call 17; (with_reducible refine (N1.out _ (HL.out _ HB.out)).mono ?_); rintro e w1 ⟨rfl, hb1⟩; replace HB := Lib.hid (chain2 HB.out hb1); clear hb1)
      | (go_at_call 10; refine (known_any _ (HL.out _ HB.out)).mono ?_; rintro e w1 ⟨rfl, hb1⟩; replace HB := Lib.hid (chain2 HB.out hb1); clear hb1))
    go_ret
    exact ⟨rfl, HB.out⟩

set_option maxHeartbeats 4000000 in
theorem top_eight (W : World) (hL : Lw W) (n d : Int) (K g : Nat) (D G : Bytes) (hK : 0 < K) (hKb : K = 922337203685477580) (M : Int) (hM : M = -9223372036854775808) (h8 : g = 8) (hg : g < 10) (hn : n.tdiv 10 = (K : Int) ∨ n.tdiv 10 = -(K : Int)) (hd : d.tmod 10 = (g : Int))
    (_hne : D.isEmpty = false) (dl : D.length ≤ 30) (gl : G.length ≤ 30) (t1 : TextIs (K : Int) D) (t2 : TextIs (g : Int) G) (n1 : NumIs (((⟨#[45]⟩ : ByteArray) ++ ⟨D.toArray⟩) ++ ⟨G.toArray⟩) (M) 0) :
    Calls Tryd.prog 8 #[.int .i64 n, .int .u8 d, .bool true] W fun e w' => e = .returned (.bool true) ∧ Below W.heap.size W w' := by
  have he : ((⟨#[45]⟩ : ByteArray) ++ ⟨D.toArray⟩).toList.isEmpty = false := by rw [ByteArray.toList_eq]; simp
  have hne := _hne
  have T1 := Lib.hid t1
  have T2 := Lib.hid t2
  have N1 := Lib.hid n1
  unfold TextIs at T1 T2
  unfold NumIs at N1
  have HB := Lib.hid (Below.refl W.heap.size W)
  have HL := Lib.hid (fun w' (h : Below W.heap.size W w') => hL.later h)
  have k0 : ((K : Int) == 0) = false := by rw [beq_eq_false_iff_ne]; omega
  clear hL t1 t2 n1
  rcases hn with hn | hn
  all_goals
    go_enter Tryd.func8, Tryd.ntmps8
    obtain ⟨T, hT⟩ : ∃ T : Int, T = 922337203685477580 := ⟨_, rfl⟩
    have hlt : ¬ (K : Int) < T := by omega
    have dlt : decide ((K : Int) < T) = false := decide_eq_false hlt
    have heq : ((K : Int) == T) = true := by rw [beq_iff_eq]; omega
    have hK1 : (K : Int) * 10 ≤ 9223372036854775800 := by omega
    have i7 : ¬ (g : Int) ≤ 7 := by omega
    have d7 : decide ((g : Int) ≤ 7) = false := decide_eq_false i7
    have g8 : ((g : Int) == 8) = true := by rw [beq_iff_eq]; omega
    have hw : wrap64 (10 * (K : Int) + (g : Int)) = M := by rw [hKb, h8, hM]; decide +kernel
    have hw2 : wrap64 (-M) = M := by rw [hM]; decide +kernel
    clear hKb h8 hM
    rw [← hT]
    clear hT
    go_wp2_with (first
      | (go_at_call 13; (with_reducible refine (T1.out _ (HL.out _ HB.out)).mono ?_); rintro e w1 ⟨rfl, hb1⟩; replace HB := Lib.hid (chain2 HB.out hb1); clear hb1)
      | (go_at_call 13; (with_reducible refine (T2.out _ (HL.out _ HB.out)).mono ?_); rintro e w1 ⟨rfl, hb1⟩; replace HB := Lib.hid (chain2 HB.out hb1); clear hb1)
      | (go_at_call 17; (with_reducible refine (N1.out _ (HL.out _ HB.out)).mono ?_); rintro e w1 ⟨rfl, hb1⟩; replace HB := Lib.hid (chain2 HB.out hb1); clear hb1)
      | (go_at_call 10; refine (known_any _ (HL.out _ HB.out)).mono ?_; rintro e w1 ⟨rfl, hb1⟩; replace HB := Lib.hid (chain2 HB.out hb1); clear hb1))
    go_ret
    exact ⟨rfl, HB.out⟩

set_option maxHeartbeats 4000000 in
/-- Nothing is left. -/
theorem zero_any (W : World) (hL : Lw W) (n d : Int) (g : Nat) (b : Bool) (G : Bytes) (hg : g < 10) (hn : n.tdiv 10 = 0) (hd : d.tmod 10 = (g : Int)) (gl : G.length ≤ 30) (t1 : TextIs 0 [48]) (t2 : TextIs (g : Int) G) (n1 : NumIs ((⟨#[]⟩ : ByteArray) ++ ⟨G.toArray⟩) (g : Int) 0) :
    Calls Tryd.prog 8 #[.int .i64 n, .int .u8 d, .bool b] W fun e w' => e = .returned (.bool true) ∧ Below W.heap.size W w' := by
  have T1 := Lib.hid t1
  have T2 := Lib.hid t2
  have N1 := Lib.hid n1
  unfold TextIs at T1 T2
  unfold NumIs at N1
  have HB := Lib.hid (Below.refl W.heap.size W)
  have HL := Lib.hid (fun w' (h : Below W.heap.size W w') => hL.later h)
  clear hL t1 t2 n1
  cases b
  all_goals
    go_enter Tryd.func8, Tryd.ntmps8
    obtain ⟨T, hT⟩ : ∃ T : Int, T = 922337203685477580 := ⟨_, rfl⟩
    have hlt : (0 : Int) < T := by omega
    have dlt : decide ((0 : Int) < T) = true := decide_eq_true hlt
    rw [← hT]
    clear hT
    go_wp2_with (first
      | (go_at_call 13; (with_reducible refine (T1.out _ (HL.out _ HB.out)).mono ?_); rintro e w1 ⟨rfl, hb1⟩; replace HB := Lib.hid (chain2 HB.out hb1); clear hb1)
      | (go_at_call 13; (with_reducible refine (T2.out _ (HL.out _ HB.out)).mono ?_); rintro e w1 ⟨rfl, hb1⟩; replace HB := Lib.hid (chain2 HB.out hb1); clear hb1)
      | (go_at_call 17; (with_reducible refine (N1.out _ (HL.out _ HB.out)).mono ?_); rintro e w1 ⟨rfl, hb1⟩; replace HB := Lib.hid (chain2 HB.out hb1); clear hb1)
      | (go_at_call 10; refine (known_any _ (HL.out _ HB.out)).mono ?_; rintro e w1 ⟨rfl, hb1⟩; replace HB := Lib.hid (chain2 HB.out hb1); clear hb1))
    go_ret
    exact ⟨rfl, HB.out⟩

theorem text_is (k : Int) (h0 : 0 ≤ k) (h1 : k ≤ 9223372036854775807) : TextIs k (textB k) := fun w h => ltext_any k (by omega) h1 w h
theorem num_is (l : Bytes) (hl : l.length ≤ 1048576) (m e : Int) (h : numB l = (m, e)) : NumIs ⟨l.toArray⟩ m e := by
  intro w hw
  have q := lnum_any l hl w hw
  rw [h] at q
  exact q
theorem dec_len (K : Nat) : (decN K).length ≤ 30 := by have := (decN_length K).1; omega
theorem dec_ne (K : Nat) (hK : K < 1000000000000000000000) : (decN K).isEmpty = false := by
  have := (decN_any K hK).2.2.2
  cases h : decN K with
  | nil => exact absurd h this
  | cons x r => rfl
theorem cat_digits (K g : Nat) (hK : 0 < K) (hKb : K ≤ 922337203685477580) (hg : g < 10) : ((⟨(decN K).toArray⟩ : ByteArray) ++ ⟨(textB (g : Int)).toArray⟩) = ⟨(decN (10 * K + g)).toArray⟩ := by
  rw [cat_cat, textB_nat, decN_low hg, decN_more K g hK hg hKb]
theorem cat_digitsm (K g : Nat) (hK : 0 < K) (hKb : K ≤ 922337203685477580) (hg : g < 10) : (((⟨#[45]⟩ : ByteArray) ++ ⟨(decN K).toArray⟩) ++ ⟨(textB (g : Int)).toArray⟩) = ⟨(45 :: decN (10 * K + g)).toArray⟩ := by
  rw [show ((⟨#[45]⟩ : ByteArray) ++ ⟨(decN K).toArray⟩) = ⟨(45 :: decN K).toArray⟩ from cat_cat [45] (decN K), cat_cat, textB_nat, decN_low hg, List.cons_append, decN_more K g hK hg hKb]

theorem worddigits_walk (W : World) (hL : Lw W) (n : Int) (hn : I64 n) (d : Int) (hd : U8 d) (b : Bool) :
    Calls Tryd.prog 8 #[.int .i64 n, .int .u8 d, .bool b] W fun e w' => e = .returned (.bool true) ∧ Below W.heap.size W w' := by
  obtain ⟨g, hg, hdg⟩ : ∃ g : Nat, g < 10 ∧ d.tmod 10 = (g : Int) := by
    refine ⟨(d % 10).toNat, ?_, ?_⟩
    · omega
    · rw [Int.tmod_eq_emod_of_nonneg hd.1]; omega
  obtain ⟨K, hK, hnk⟩ : ∃ K : Nat, K ≤ 922337203685477580 ∧ (n.tdiv 10 = (K : Int) ∨ n.tdiv 10 = -(K : Int)) := by
    refine ⟨(n.tdiv 10).natAbs, ?_, ?_⟩
    · have h0 := hn.1
      have h1 := hn.2
      rcases Int.le_total 0 n with h | h
      · rw [Int.tdiv_eq_ediv_of_nonneg h]; omega
      · obtain ⟨m, rfl⟩ : ∃ m, n = -m := ⟨-n, by omega⟩
        rw [Int.neg_tdiv, Int.tdiv_eq_ediv_of_nonneg (by omega)]; omega
    · omega
  have t2 := text_is (g : Int) (by omega) (by omega)
  have gl : (textB (g : Int)).length ≤ 30 := by have := (textB_length (g : Int)).1; omega
  by_cases hK0 : K = 0
  · subst hK0
    refine zero_any W hL n d g b (textB (g : Int)) hg (by omega) hdg gl (text_is 0 (by omega) (by omega)) t2 (by rw [show ((⟨#[]⟩ : ByteArray) ++ ⟨(textB (g : Int)).toArray⟩) = ⟨(textB (g : Int)).toArray⟩ from cat_cat [] (textB (g : Int))]; exact num_is _ (by omega) _ _ (numB_textB (g : Int) (by omega) (by omega)))
  · have t1 := text_is (K : Int) (by omega) (by omega)
    rw [textB_nat] at t1
    have hKp : 0 < K := by omega
    have dl := dec_len K
    have ne := dec_ne K (by omega)
    have n1 : ∀ m e, numB (decN (10 * K + g)) = (m, e) → NumIs ((⟨(decN K).toArray⟩ : ByteArray) ++ ⟨(textB (g : Int)).toArray⟩) m e := by
      intro m e h
      rw [cat_digits K g hKp hK hg]
      exact num_is _ (by have := dec_len (10 * K + g); omega) m e h
    have n2 : ∀ m e, numB (45 :: decN (10 * K + g)) = (m, e) → NumIs (((⟨#[45]⟩ : ByteArray) ++ ⟨(decN K).toArray⟩) ++ ⟨(textB (g : Int)).toArray⟩) m e := by
      intro m e h
      rw [cat_digitsm K g hKp hK hg]
      exact num_is _ (by have := dec_len (10 * K + g); rw [List.length_cons]; omega) m e h
    have p1 := numB_dec (10 * K + g) (by omega) (by omega)
    have p2 := numB_decm (10 * K + g) (by omega) (by omega)
    have ee : ((10 * K + g : Nat) : Int) = 10 * (K : Int) + (g : Int) := by omega
    rw [ee] at p1 p2
    by_cases hl : K < 922337203685477580
    · rw [if_pos (by omega)] at p1 p2
      cases b
      · exact low_plus W hL n d K g _ _ hKp hl hg hnk hdg ne dl gl t1 t2 (n1 _ _ p1)
      · exact low_minus W hL n d K g _ _ hKp hl hg hnk hdg ne dl gl t1 t2 (n2 _ _ p2)
    · have ht : K = 922337203685477580 := by omega
      by_cases h7 : g ≤ 7
      · rw [if_pos (by omega)] at p1 p2
        cases b
        · exact top_plus W hL n d K g _ _ hKp ht h7 hg hnk hdg ne dl gl t1 t2 (n1 _ _ p1)
        · exact top_minus W hL n d K g _ _ hKp ht h7 hg hnk hdg ne dl gl t1 t2 (n2 _ _ p2)
      · cases b
        · rw [if_neg (by omega)] at p1
          exact top_no_plus W hL n d K g _ _ hKp ht (by omega) hg hnk hdg ne dl gl t1 t2 (n1 _ _ p1)
        · by_cases h8 : g = 8
          · rw [if_pos (by omega)] at p2
            have e : -(10 * (K : Int) + (g : Int)) = -9223372036854775808 := by omega
            rw [e] at p2
            exact top_eight W hL n d K g _ _ hKp ht _ rfl h8 hg hnk hdg ne dl gl t1 t2 (n2 _ _ p2)
          · rw [if_neg (by omega)] at p2
            exact top_no_minus W hL n d K g _ _ hKp ht (by omega) hg hnk hdg ne dl gl t1 t2 (n2 _ _ p2)
end Go.Proofs.YtnlhipbdnihapaaDoor.Word
