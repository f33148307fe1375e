/- The walk of NumSums. -/
import Derived.Test.YtinejcoajebdjaaNumL
import Derived.Deep.AppendLies
import Derived.OwnWalk
namespace Go.Proofs.Ytinejcoajebdjaa
open Go.RowKit

theorem Ints.take {w : World} {B : Nat} {a : Option Addr} {xs : List Int} (h : Ints w B a xs) (k : Nat) : Ints w B a (xs.take k) := by
  intro hn
  have hl : (xs.take k).length ≤ xs.length := by rw [List.length_take]; omega
  obtain ⟨b, off, e, hb, hc⟩ := h (by omega)
  refine ⟨b, off, e, hb, fun i hi => ?_⟩
  rw [hc i (by omega)]
  have hk : i < k := by rw [List.length_take] at hi; omega
  simp [List.getD, List.getElem?_take_of_lt hk]

theorem Ints.cut {w : World} {B : Nat} {a : Option Addr} {xs : List Int} (h : Ints w B a xs) {k cap : Nat} (hc : xs.length ≤ cap) :
    Ints w B (if cap = k then a else a.map (·.add k)) (xs.drop k) := by
  intro hn
  have hl : (xs.drop k).length = xs.length - k := List.length_drop
  obtain ⟨b, off, rfl, hb, hcell⟩ := h (by omega)
  rw [if_neg (by omega)]
  refine ⟨b, off + k, by simp [Addr.add], hb, fun i hi => ?_⟩
  rw [Nat.add_assoc, hcell (k + i) (by omega)]
  simp [List.getD, List.getElem?_drop]

theorem Ints.later {w w' : World} {B : Nat} {a : Option Addr} {xs : List Int} (h : Ints w B a xs) (hB : B ≤ w.heap.size) (hb : Below w.heap.size w w') : Ints w' w'.heap.size a xs := by
  intro hn
  obtain ⟨b, off, e, hlt, hc⟩ := h hn
  have := hb.size
  exact ⟨b, off, e, by omega, fun i hi => (hb.cell (p := ⟨b, off + i, none⟩) (by show b < _; omega)).trans (hc i hi)⟩

theorem ints_of_row {w : World} {s : Option Addr} {l c : Nat} {z : List Int} (h : IsRow64 w s l c z) : (z.take l).length = l ∧ l ≤ c ∧ c ≤ maxLen ∧ AllI64 (z.take l) ∧ Ints w w.heap.size s (z.take l) := by
  rcases h with ⟨rfl, rfl, rfl, rfl⟩ | ⟨x, rfl, hl, hm, hz, hc, hi⟩
  · exact ⟨rfl, Nat.le_refl _, by simp, fun n hn => by simp at hn, fun hn => absurd hn (by simp)⟩
  · have hlen : (z.take l).length = l := by rw [List.length_take]; omega
    refine ⟨hlen, hl, hm, fun n hn => hi n (List.mem_of_mem_take hn), fun hn => ?_⟩
    obtain ⟨b, off, spot⟩ := x
    have h0 := hc 0 (by omega)
    have hspot : spot = none := by simpa [Addr.add] using World.cell?_spot h0
    subst hspot
    have hadd : ∀ i, (⟨b, off, none⟩ : Addr).add i = ⟨b, off + i, none⟩ := by intro i; unfold Addr.add; split <;> simp_all
    refine ⟨b, off, rfl, ?_, fun i hi2 => ?_⟩
    · have := World.block_lt_of_cell? w _ h0
      rw [hadd] at this
      exact this
    · rw [← hadd, hc i (by omega)]
      have : i < l := by omega
      simp [List.getD, List.getElem?_take_of_lt this]

theorem own_ints {w : World} {base n : Nat} {v : Value} {ys : List Int} (h : w.ownsRow base 2 1 v n (ys.map (Value.int .i64))) : ys.length = n ∧ ∃ A cap, v = .slice A n cap ∧ Ints w w.heap.size A ys := by
  obtain ⟨hl, hr⟩ := h
  have hn : ys.length = n := by simpa using hl
  refine ⟨hn, ?_⟩
  rcases hr with ⟨rfl, rfl⟩ | ⟨g, cap, cur, rfl, _, hg, hc, _, hs, ht⟩
  · exact ⟨none, 0, rfl, fun h => absurd h (by omega)⟩
  · refine ⟨some ⟨g, 0, none⟩, cap, rfl, fun h => ⟨g, 0, rfl, ?_, fun i hi => ?_⟩⟩
    · exact Blk.lt hg
    · rw [Nat.zero_add, Blk.cell hg]
      have e : (cur.toList.take (n * 1))[i]? = (ys.map (Value.int .i64))[i]? := by rw [ht]
      rw [List.getElem?_take_of_lt (by omega)] at e
      simp at e
      rw [e]
      simp [List.getD, List.getElem?_eq_getElem hi]

theorem info_i64 : (Try.prog.info? 2).map (fun i => (i.zero, i.size, i.bytes)) = some (some (.int .i64 0), 1, 8) := by kernel_rfl
theorem size_i64 (w : World) : (sizeOf (Try.prog.elem 25)).run Try.prog w = .ok 1 w := by kernel_rfl
theorem und_i64s : Try.prog.underlying 25 = some (.slice (Try.prog.elem 25)) := by kernel_rfl

theorem cut_h (a : Option Addr) (len cap K : Nat) (hK : K ≤ cap) (w : World) :
    (Instr.slice 25 (.slice a len cap) none (some (.int .i64 (K : Int))) none).run Try.prog w = .ok (.slice a K cap) w := by
  rw [run_slice_h w _ a len cap und_i64s .i64 (K : Int) (by omega) (by omega), size_i64]
  have e : (a.map (·.add 0)) = a := by cases a <;> simp [Addr.add]
  simp only [Result.andThen, sliced, Nat.zero_mul, Int.toNat_natCast, Nat.sub_zero, e]
  simp
theorem cut_l (a : Option Addr) (len cap K : Nat) (hK : K ≤ len) (w : World) :
    (Instr.slice 25 (.slice a len cap) (some (.int .i64 (K : Int))) none none).run Try.prog w = .ok (.slice (if cap = K then a else a.map (·.add K)) (len - K) (cap - K)) w := by
  rw [run_slice_l w _ a len cap und_i64s .i64 (K : Int) (by omega) (by omega), size_i64]
  simp only [Result.andThen, sliced, Nat.mul_one, Int.toNat_natCast]

/-- What holds at the head of the loop that turns the list round. -/
def BackRel (w : World) (xs : List Int) (v s : Value) (u : World) : Prop :=
  ∃ j : Nat, j ≤ xs.length ∧ s = .int .i64 ((xs.length : Int) - 1 - j) ∧ u.ownsRow w.heap.size 2 1 v j ((xs.reverse.take j).map (Value.int .i64)) ∧ Below w.heap.size w u

theorem back_step (xs : List Int) (j : Nat) (h : j < xs.length) : (xs.reverse.take (j + 1)).map (Value.int .i64) = (xs.reverse.take j).map (Value.int .i64) ++ [.int .i64 (xs.getD (xs.length - 1 - j) 0)] := by
  have hj : j < xs.reverse.length := by simpa using h
  rw [List.take_succ_eq_append_getElem hj, List.map_append]
  congr 2
  simp [List.getElem_reverse, List.getD, List.getElem?_eq_getElem (show xs.length - 1 - j < xs.length by omega)]

theorem sums_big (s : Option Addr) (l c : Nat) (t : Int) (hl : 200 < l) (hm : l ≤ maxLen) (w : World) :
    Calls Try.prog 10 #[.slice s l c, .int .u8 t] w fun e w' => e = .returned (.bool true) ∧ Below w.heap.size w w' := by
  unfold maxLen at hm
  go_enter Try.func10, Try.ntmps10
  go_wp2_with fail
  refine (known_any _).mono ?_
  rintro e w1 ⟨rfl, h1⟩
  go_wp2_with fail
  go_ret
  exact ⟨rfl, h1⟩

theorem int_v {a b : Int} (h : a = b) : Value.int .i64 a = .int .i64 b := by rw [h]
theorem own_ge {w : World} {base n : Nat} {e : TypeId} {v : Value} {xs : List Value} (h : w.ownsRow base e 1 v n xs) : ∀ g, v.ownBlock = some g → base ≤ g := by
  intro g hg
  rcases h.2 with ⟨rfl, _⟩ | ⟨g', cap, cur, rfl, hge, _⟩
  · simp [Value.ownBlock] at hg
  · simp [Value.ownBlock] at hg
    omega
theorem AllI64.take {xs : List Int} (h : AllI64 xs) (k : Nat) : AllI64 (xs.take k) := fun n hn => h n (List.mem_of_mem_take hn)
theorem AllI64.drop {xs : List Int} (h : AllI64 xs) (k : Nat) : AllI64 (xs.drop k) := fun n hn => h n (List.mem_of_mem_drop hn)
theorem AllI64.rev {xs : List Int} (h : AllI64 xs) : AllI64 xs.reverse := fun n hn => h n (by simpa using hn)
theorem sum_parts (xs : List Int) (k : Nat) (R : Int) (h : rnd (sumZ xs) = R) : wr (wr (sumZ (xs.take k)) + wr (sumZ (xs.drop k))) = R := by
  rw [← h]
  have e : sumZ xs = sumZ (xs.take k) + sumZ (xs.drop k) := by rw [← sumZ_append, List.take_append_drop]
  show _ = wr (sumZ xs)
  rw [e]
  unfold wr
  omega
theorem keepB {w v W u : World} (h : Below w.heap.size w W ∧ Below v.heap.size v W) (hb : Below W.heap.size W u) : Below w.heap.size w u ∧ Below v.heap.size v u := ⟨chain2 h.1 hb, chain2 h.2 hb⟩
theorem sum_at {w v u : World} {a : Option Addr} {xs : List Int} (h : Ints w w.heap.size a xs) (hs : Below w.heap.size w u ∧ Below v.heap.size v u) : Ints u u.heap.size a xs := h.later (Nat.le_refl _) hs.1
theorem sum_at2 {w v u : World} {a : Option Addr} {xs : List Int} (h : Ints v v.heap.size a xs) (hs : Below w.heap.size w u ∧ Below v.heap.size v u) : Ints u u.heap.size a xs := h.later (Nat.le_refl _) hs.2
theorem sum_len (a : Option Addr) (l cap : Nat) (xs : List Int) (r : Int) (w : World) (hl : xs.length = l) (hm : l ≤ 140737488355328) (hx : AllI64 xs) (hI : Ints w w.heap.size a xs) (hr : wr (sumZ xs) = r) :
    Calls Try.prog 15 #[.slice a l cap] w fun e w' => e = .returned (Wd r) ∧ Below w.heap.size w w' := by
  subst hl
  exact sum_any a cap xs r w hm hx hI hr

set_option maxRecDepth 100000 in
set_option maxHeartbeats 4000000 in
theorem sums_small (s : Option Addr) (c : Nat) (xs : List Int) (t : Int) (ht : U8 t) (hl : xs.length ≤ 200) (hc : xs.length ≤ c) (hm : c ≤ maxLen) (w : World) (hx : AllI64 xs) (hI : Ints w w.heap.size s xs) :
    Calls Try.prog 10 #[.slice s xs.length c, .int .u8 t] w fun e w' => e = .returned (.bool true) ∧ Below w.heap.size w w' := by
  unfold maxLen at hm
  obtain ⟨t1, t2⟩ := ht
  obtain ⟨n, rfl⟩ := Int.eq_ofNat_of_zero_le t1
  obtain ⟨K, hK⟩ : ∃ K, K = n % (xs.length + 1) := ⟨_, rfl⟩
  have bK : K ≤ xs.length := by have := Nat.mod_lt n (show 0 < xs.length + 1 by omega); omega
  have eK : (n : Int) % ((xs.length : Int) + 1) = (K : Int) := by rw [hK]; simp
  have HX := Lib.hid hx
  have HI := Lib.hid hI
  have c1 := cut_h s xs.length c K (by omega)
  have c2 := cut_l s xs.length c K bK
  obtain ⟨i0, hi0, hz0, hz1, hz2⟩ := info_parts info_i64
  have G0 := Lib.hid hi0
  have G1 := Lib.hid hz0
  have G2 := Lib.hid hz1
  have G3 := Lib.hid hz2
  clear hx hI hK hi0 hz0 hz1 hz2
  go_enter Try.func10, Try.ntmps10
  go_wp2_with fail
  rw [eK]
  clear eK
  go_loopw [6, 7] (fun v q u => BackRel w xs v q u) (fun _ q _ => (intOf q + 1).toNat)
  case atStart => exact ⟨0, by omega, by simp, ⟨rfl, .inl ⟨rfl, rfl⟩⟩, Below.refl _ _⟩
  case round =>
    obtain ⟨j, hj, rfl, hown, hB⟩ := hrel
    have HO := Lib.hid hown
    have HB := Lib.hid hB
    clear hown hB
    by_cases hlt : j < xs.length
    · obtain ⟨b, off, hs, hb, hcell⟩ := HI.out (by omega)
      have hce := (HB.out.cell (p := ⟨b, off + (xs.length - 1 - j), none⟩) hb).trans (hcell (xs.length - 1 - j) (by omega))
      have S := back_step xs j hlt
      generalize xs.getD (xs.length - 1 - j) 0 = x at *
      have HS := Lib.hid S
      have HSS := Lib.hid hs
      clear S hcell hs
      rw [HSS.out]
      have bs := HB.out.size
      go_wp2_with (
        at_builtin
        refine wpList_append_own _ rfl _ _ 25 rfl w.heap.size 2 i0 (.int .i64 0) 1 8 Try.underlying25 G0.out G1.out G2.out G3.out rfl (by decide) _ _ _ rfl (HO.out.alloc _) ⟨World.heap _ |>.size, 0, none⟩ 1 1 [.int .i64 x] rfl rfl ?c1 ?c2 ?c3 ?c4 ?c5 ?_
        case c1 => exact cell_one_new _ _ _
        case c2 => simp [Value.oneCell']
        case c3 => simp only [maxLen]; omega
        case c4 => omega
        case c5 => simp; omega
        intro v1 u1 hown1 hgrow1 _)
      rw [← HS.out] at hown1
      exact ⟨⟨j + 1, by omega, int_v (by omega), hown1, (HB.out.alloc bs _).grown hgrow1 (by simp; omega) (own_ge HO.out)⟩, by simp [intOf]; omega⟩
    · obtain rfl : j = xs.length := by omega
      have hown := HO.out
      rw [← List.length_reverse, List.take_length, List.length_reverse] at hown
      obtain ⟨hrl, A, cap, hv, hIA⟩ := own_ints hown
      have HA := Lib.hid hIA
      have hq := HB.out.size
      have HV := Lib.hid hv
      clear hown hv hIA HO hlt
      generalize hA2 : (if c = K then s else s.map (·.add K)) = A2 at c2
      have I2 : Ints w w.heap.size A2 (xs.drop K) := hA2 ▸ Ints.cut HI.out hc
      have HI2 := Lib.hid I2
      clear hA2 I2
      obtain ⟨R, hR⟩ : ∃ R, rnd (sumZ xs) = R := ⟨_, rfl⟩
      have P1 := Lib.hid hR
      have P2 := Lib.hid (sum_parts xs K R hR)
      have P3 := Lib.hid (show rnd (sumZ xs.reverse) = R by rw [sumZ_reverse]; exact hR)
      have P4 := Lib.hid (AllI64.take HX.out K)
      have P5 := Lib.hid (AllI64.drop HX.out K)
      have P6 := Lib.hid (AllI64.rev HX.out)
      clear hR
      have e0 := hi0
      have e1 := lo0
      have L1 := Lib.hid (show (xs.take K).length = K by rw [List.length_take]; omega)
      have L2 := Lib.hid (show (xs.drop K).length = xs.length - K by rw [List.length_drop])
      have L3 := Lib.hid (show xs.reverse.length = xs.length by simp)
      rw [HV.out]
      go_wp2_with fail
      go_region_held3 (fun u => Below w.heap.size w u ∧ Below wr.heap.size wr u)
        (first | exact ⟨HB.out.drew, (Below.refl _ _).drew⟩ | exact keepB ⟨HB.out.drew, (Below.refl _ _).drew⟩ hb | exact keepB (by assumption) hb)
        (first
          | (go_at_call 11; refine (known_any _).mono ?_; rintro e w' ⟨rfl, hb⟩)
          | (go_at_call 15; (with_reducible refine (sum_len s xs.length c xs R _ rfl (by omega) HX.out (sum_at HI.out (by assumption)) P1.out).mono ?_); rintro e w' ⟨rfl, hb⟩)
          | (go_at_call 15; (with_reducible refine (sum_len s K c (xs.take K) _ _ L1.out (by omega) P4.out (sum_at (HI.out.take K) (by assumption)) rfl).mono ?_); rintro e w' ⟨rfl, hb⟩)
          | (go_at_call 15; (with_reducible refine (sum_len A2 (xs.length - K) (c - K) (xs.drop K) _ _ L2.out (by omega) P5.out (sum_at HI2.out (by assumption)) rfl).mono ?_); rintro e w' ⟨rfl, hb⟩)
          | (go_at_call 15; (with_reducible refine (sum_len A xs.length cap xs.reverse R _ L3.out (by omega) P6.out (sum_at2 HA.out (by assumption)) P3.out).mono ?_); rintro e w' ⟨rfl, hb⟩)
          | (go_at_call 15; (with_reducible refine (sum_none none 0 _).mono ?_); rintro e w' ⟨rfl, hb⟩)
          | (go_at_call 23; (with_reducible refine (plus_any _ _ R (wr_IsW _) (wr_IsW _) P2.out _).mono ?_); rintro e w' ⟨rfl, hb⟩))
      all_goals
        rename_i hs
        have H9 := Lib.hid hs
        clear hs
        go_wp2_with fail
        go_ret
        exact ⟨rfl, H9.out.1⟩

theorem sums_walk (w : World) (s : Option Addr) (l c : Nat) (z : List Int) (h : IsRow64 w s l c z) (t : Int) (ht : U8 t) :
    Calls Try.prog 10 #[.slice s l c, .int .u8 t] w fun e w' => e = .returned (.bool true) ∧ Below w.heap.size w w' := by
  obtain ⟨hlen, hc, hm, hx, hI⟩ := ints_of_row h
  by_cases hl : l ≤ 200
  · have q := sums_small s c (z.take l) t ht (by omega) (by omega) hm w hx hI
    rw [hlen] at q
    exact q
  · exact sums_big s l c t (by omega) (by omega) w
end Go.Proofs.Ytinejcoajebdjaa
