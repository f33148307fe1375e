/- Contracts: num.tenth, num.decimal, num.Text. -/
import Derived.Test.YtinejcoajebdjaaNumD
import Derived.Lib.SlBytesConst
namespace Go.Proofs.Ytinejcoajebdjaa
open Go.RowKit

theorem div10_any (h l : Int) (a0 : 0 ≤ h) (a1 : h < 10) (h0 : 0 ≤ l) (h1 : l < 18446744073709551616) (w : World) :
    Calls Try.prog 53 #[.int .u64 h, .int .u64 l, .int .u64 10] w fun e w' => e = .returned (.tuple #[.int .u64 ((h * 18446744073709551616 + l) / 10), .int .u64 ((h * 18446744073709551616 + l) % 10)]) ∧ Below w.heap.size w w' := by
  by_cases z : h = 0
  · subst z
    have e : (0 : Int) * 18446744073709551616 + l = l := by omega
    rw [e]
    exact div10_0 l h0 h1 w
  · exact div10_1 h l (by omega) a1 h0 h1 w

theorem tenth_eq (N : Int) : hi N / 10 = hi (N / 10) ∧ (hi N % 10 * 18446744073709551616 + lo N) / 10 = lo (N / 10) ∧ (hi N % 10 * 18446744073709551616 + lo N) % 10 = N % 10 := by
  unfold hi lo; omega

theorem ret_three {a b c d e f : Int} (h : a = b) (k : c = d) (l : e = f) : Ending.returned (.tuple #[.int .u64 a, .int .u64 c, .int .u8 e]) = .returned (.tuple #[.int .u64 b, .int .u64 d, .int .u8 f]) := by rw [h, k, l]

/-- num.tenth -/
theorem tenth_any (N : Int) (h0 : 0 ≤ N) (h1 : N < 340282366920938463463374607431768211456) (w : World) :
    Calls Try.prog 52 #[.int .u64 (hi N), .int .u64 (lo N)] w fun e w' => e = .returned (.tuple #[.int .u64 (hi (N / 10)), .int .u64 (lo (N / 10)), .int .u8 (N % 10)]) ∧ Below w.heap.size w w' := by
  have a0 : 0 ≤ hi N := by unfold hi; omega
  have a1 : hi N < 18446744073709551616 := by unfold hi; omega
  obtain ⟨b0, b1⟩ := lo_U64 N
  have E := Lib.hid (tenth_eq N)
  have c0 : 0 ≤ (hi N % 10 * 18446744073709551616 + lo N) % 10 := by omega
  have c1 : (hi N % 10 * 18446744073709551616 + lo N) % 10 < 10 := by omega
  clear h0 h1
  go_enter Try.func52, Try.ntmps52
  go_wp2_with fail
  refine (div10_0 _ a0 a1 _).mono ?_
  rintro e w1 ⟨rfl, h1⟩
  go_wp2_with fail
  refine (div10_any _ _ (by omega) (by omega) b0 b1 _).mono ?_
  rintro e w2 ⟨rfl, h2⟩
  go_wp2_with fail
  go_ret3
  exact ⟨ret_three E.out.1 E.out.2.1 E.out.2.2, chain2 h1 h2⟩

/-- The digit of 10^j in N. -/
def dg (N : Int) (j : Nat) : Int := N / 10 ^ j % 10
/-- The greatest place below k at which N has a digit that is no nought; 0, if there is none. -/
def top (N : Int) : Nat → Nat
  | 0 => 0
  | k + 1 => if dg N k = 0 then top N k else k
/-- What decimal's row of digits holds behind k rounds. -/
def row (N : Int) (k : Nat) : Array Value := ((List.range 39).map fun i => Value.int .u8 (if 39 - k ≤ i then 48 + dg N (38 - i) else 0)).toArray

theorem row_size (N : Int) (k : Nat) : (row N k).size = 39 := by simp [row]
theorem row_zero (N : Int) : row N 0 = ⟨List.replicate 39 (Value.int .u8 0)⟩ := by
  rfl
theorem row_succ (N : Int) (k : Nat) (hk : k < 39) : (row N k).setIfInBounds (38 - k) (.int .u8 (48 + dg N k)) = row N (k + 1) := by
  apply Array.ext
  · simp [row]
  · intro i h1 h2
    have h3 : i < 39 := by simpa [row] using h2
    rw [Array.getElem_setIfInBounds (by simpa [row] using h3)]
    simp only [row, List.getElem_toArray, List.getElem_map, List.getElem_range]
    by_cases h : 38 - k = i
    · subst h
      rw [if_pos rfl, if_pos (by omega), show 38 - (38 - k) = k by omega]
    · rw [if_neg h]
      by_cases g : 39 - k ≤ i
      · rw [if_pos g, if_pos (by omega)]
      · rw [if_neg g, if_neg (by omega)]
theorem row_get (N : Int) (k i : Nat) (h : i < 39) : (row N k)[i]? = some (Value.int .u8 (if 39 - k ≤ i then 48 + dg N (38 - i) else 0)) := by
  simp [row, h]

def Blk (w : World) (g : Nat) (t : TypeId) (cs : Array Value) : Prop := w.heap[g]? = some (.cells cs t (0, 0))
section
variable {w w' : World} {g : Nat} {t : TypeId} {cs : Array Value}
theorem Blk.lt (h : Blk w g t cs) : g < w.heap.size := by
  rcases Nat.lt_or_ge g w.heap.size with hlt | hge
  · exact hlt
  · unfold Blk at h; rw [Array.getElem?_eq_none hge] at h; cases h
theorem Blk.cell (h : Blk w g t cs) (i : Nat) : w.cell? ⟨g, i, none⟩ = cs[i]? := cell_of_row w g i cs t (0, 0) h
theorem Blk.frozen (h : Blk w g t cs) (i : Nat) : w.frozen? ⟨g, i, none⟩ = false := by
  unfold Blk at h
  simp [World.frozen?, h]
theorem Blk.new (w : World) (t : TypeId) (cs : Array Value) : Blk (w.alloc (.cells cs t)) w.heap.size t cs := heap_alloc_new w _
theorem Blk.drew (h : Blk w g t cs) : Blk w.drew g t cs := h
theorem Blk.drewN (h : Blk w g t cs) (n : Nat) : Blk (w.drewN n) g t cs := h
theorem Blk.alloc (h : Blk w g t cs) (o : Obj) : Blk (w.alloc o) g t cs := (Below.heap_alloc w o g h.lt).trans h
theorem Blk.set_ (h : Blk w g t cs) (i : Nat) (u : Value) : Blk (w.setCell ⟨g, i, none⟩ u) g t (cs.setIfInBounds i u) := by
  unfold Blk at h ⊢
  simp [World.setCell, Array.getElem?_modify, h]
theorem Blk.far (h : Blk w g t cs) {p : Addr} (hp : g ≠ p.block) (u : Value) : Blk (w.setCell p u) g t cs := (Below.heap_setCell w p u g hp).trans h
theorem Blk.below {B : Nat} (h : Blk w g t cs) (hb : Below B w w') (hg : g < B) : Blk w' g t cs := (hb.block g hg).trans h
end

theorem pow_div_succ (N : Int) (k : Nat) : N / 10 ^ k / 10 = N / 10 ^ (k + 1) := by
  rw [Int.pow_succ, Int.ediv_ediv_of_nonneg]
  exact Int.le_of_lt (Int.pow_pos (by decide))
theorem pow_div_bd (N : Int) (k : Nat) (h0 : 0 ≤ N) (h1 : N < 340282366920938463463374607431768211456) : 0 ≤ N / 10 ^ k ∧ N / 10 ^ k < 340282366920938463463374607431768211456 := by
  have p : (0 : Int) < 10 ^ k := Int.pow_pos (by decide)
  exact ⟨Int.ediv_nonneg h0 (by omega), Int.lt_of_le_of_lt (Int.ediv_le_self _ h0) h1⟩

/-- What holds at the head of decimal's loop. -/
def DecRel (N : Int) (w : World) (s0 s1 s7 s11 : Value) (wr : World) : Prop :=
  ∃ k : Nat, k ≤ 39 ∧ s0 = .int .u64 (hi (N / 10 ^ k)) ∧ s1 = .int .u64 (lo (N / 10 ^ k)) ∧ s7 = .int .i64 (38 - (top N k : Int)) ∧ s11 = .int .i64 (k : Int) ∧ Blk wr w.heap.size 68 (row N k) ∧ Below w.heap.size w wr

theorem dg_bd (N : Int) (j : Nat) : 0 ≤ dg N j ∧ dg N j < 10 := by unfold dg; omega
theorem top_lt (N : Int) : ∀ k, top N k < k ∨ top N k = 0
  | 0 => .inr rfl
  | k + 1 => by
    unfold top
    split
    · rcases top_lt N k with h | h
      · exact .inl (by omega)
      · exact .inr h
    · exact .inl (by omega)
theorem top_39 (N : Int) : top N 39 ≤ 38 := by have := top_lt N 39; omega

theorem dec_step0 {N : Int} {w w1 : World} {k : Nat} (hk : k < 39) (hb : Blk w1 w.heap.size 68 (row N k)) (hw : Below w.heap.size w w1) (hd : dg N k = 0) :
    DecRel N w (.int .u64 (hi (N / 10 ^ k / 10))) (.int .u64 (lo (N / 10 ^ k / 10))) (.int .i64 (38 - (top N k : Int))) (.int .i64 ((k : Int) + 1)) (w1.setCell ⟨w.heap.size, 38 - k, none⟩ (.int .u8 (48 + dg N k))) := by
  refine ⟨k + 1, by omega, by rw [pow_div_succ], by rw [pow_div_succ], ?_, by simp, ?_, hw.setCell (Nat.le_refl _) _⟩
  · rw [top, if_pos hd]
  · rw [← row_succ N k hk]
    exact hb.set_ _ _
theorem dec_step1 {N : Int} {w w1 : World} {k : Nat} (hk : k < 39) (hb : Blk w1 w.heap.size 68 (row N k)) (hw : Below w.heap.size w w1) (hd : dg N k ≠ 0) :
    DecRel N w (.int .u64 (hi (N / 10 ^ k / 10))) (.int .u64 (lo (N / 10 ^ k / 10))) (.int .i64 (38 - (k : Int))) (.int .i64 ((k : Int) + 1)) (w1.setCell ⟨w.heap.size, 38 - k, none⟩ (.int .u8 (48 + dg N k))) := by
  refine ⟨k + 1, by omega, by rw [pow_div_succ], by rw [pow_div_succ], ?_, by simp, ?_, hw.setCell (Nat.le_refl _) _⟩
  · rw [top, if_neg hd]
  · rw [← row_succ N k hk]
    exact hb.set_ _ _

/-- The digits of a number in decimal, the greatest place first. -/
def dec (N : Int) : List UInt8 := (List.range (top N 39 + 1)).map fun i => UInt8.ofNat (48 + dg N (top N 39 - i)).toNat
theorem dec_length (N : Int) : (dec N).length = top N 39 + 1 := by simp [dec]
theorem dec_len (N : Int) : (dec N).length ≤ 39 := by rw [dec_length]; have := top_39 N; omega
theorem dec_get (N : Int) (i : Nat) (h : i < (dec N).length) : ((dec N)[i].toNat : Int) = 48 + dg N (top N 39 - i) := by
  have := dg_bd N (top N 39 - i)
  simp only [dec, List.getElem_map, List.getElem_range, UInt8.toNat_ofNat']
  omega

theorem dec_conv (N : Int) (W : World) (b cap : Nat) (hb : Blk W b 68 (row N 39)) :
    (convert 71 9 (.slice (some ⟨b, 38 - top N 39, none⟩) (39 - (38 - top N 39)) cap)).run Try.prog W = .ok (.string ⟨(dec N).toArray⟩) W := by
  have ht := top_39 N
  have e : 39 - (38 - top N 39) = (dec N).length := by rw [dec_length]; omega
  rw [e]
  refine run_convert_bytes_back W _ _ _ _ cap (dec N) Try.underlying71 Try.underlying5 Try.underlying9 ?_
  intro j hj
  have hj' : j < top N 39 + 1 := by rw [← dec_length]; exact hj
  have ea : (⟨b, 38 - top N 39, none⟩ : Addr).add j = ⟨b, 38 - top N 39 + j, none⟩ := by unfold Addr.add; split <;> simp_all
  rw [ea, hb.cell, row_get N 39 _ (by omega), if_pos (by omega), dec_get, show 38 - (38 - top N 39 + j) = top N 39 - j by omega]

theorem arr_len : Try.prog.arrayLen 68 = 39 := by kernel_rfl
theorem arr_und : Try.prog.underlying 68 = some (.array (Try.prog.arrayLen 68) (Try.prog.elem 68)) := by kernel_rfl
theorem arr_size (w : World) : (sizeOf (Try.prog.elem 68)).run Try.prog w = .ok 1 w := by kernel_rfl
theorem dec_slice (t : Nat) (ht : t ≤ 38) (b : Nat) (w : World) :
    (Instr.sliceAt 68 (.pointer (some ⟨b, 0, none⟩)) (some (.int .i64 (38 - (t : Int)))) none none).run Try.prog w = .ok (.slice (some ⟨b, 38 - t, none⟩) (39 - (38 - t)) (39 - (38 - t))) w := by
  rw [run_sliceAt_array_l w _ _ arr_und _ _ (by omega) (by rw [arr_len]; omega), arr_size]
  have e : (38 - (t : Int)).toNat = 38 - t := by omega
  have e1 : ¬ (39 = 38 - t) := by omega
  have e2 : (⟨b, 0, none⟩ : Addr).add (38 - t) = ⟨b, 38 - t, none⟩ := by unfold Addr.add; split <;> simp_all
  simp only [Result.andThen, slicedAt, arr_len, e, Nat.mul_one, if_neg e1, e2]

set_option maxHeartbeats 1000000 in
theorem decimal_any (N : Int) (h0 : 0 ≤ N) (h1 : N < 340282366920938463463374607431768211456) (w : World) :
    Calls Try.prog 48 #[.int .u64 (hi N), .int .u64 (lo N)] w fun e w' => e = .returned (.string ⟨(dec N).toArray⟩) ∧ Below w.heap.size w w' := by
  have HN := Lib.hid (And.intro h0 h1)
  clear h0 h1
  go_enter Try.func48, Try.ntmps48
  go_wp2_with fail
  go_loopw [0, 1, 7, 11] (fun s0 s1 s7 s11 wr => DecRel N w s0 s1 s7 s11 wr) (fun _ _ _ i _ => 39 - (intOf i).toNat)
  case atStart =>
    refine ⟨0, by omega, by simp, by simp, by simp [top], rfl, ?_, (Below.refl _ _).alloc (Nat.le_refl _) _⟩
    rw [row_zero]
    exact Blk.new _ _ _
  case round =>
    obtain ⟨k, hk, rfl, rfl, rfl, rfl, hB, hW⟩ := hrel
    have HB := Lib.hid hB
    have HW := Lib.hid hW
    clear hB hW
    by_cases hlt : k < 39
    · go_wp2_with fail
      refine (tenth_any (N / 10 ^ k) (pow_div_bd N k HN.out.1 HN.out.2).1 (pow_div_bd N k HN.out.1 HN.out.2).2 _).mono ?_
      rintro e w1 ⟨rfl, hb⟩
      have HB1 := HB.out.below hb HB.out.lt
      have HX1 := Lib.hid (chain2 HW.out (hb.mono HW.out.size |> fun h => hb))
      clear hb
      have hfr := HB1.frozen (38 - k)
      have hcl := HB1.cell (38 - k)
      rw [row_get N k (38 - k) (by omega)] at hcl
      have HB2 := Lib.hid HB1
      clear HB1
      go_wp2_with fail
      · have hd : (N / 10 ^ k % 10 != 0) = true := by assumption
        exact ⟨dec_step1 hlt HB2.out HX1.out (by simpa [dg] using hd), by simp [intOf]; omega⟩
      · have hd : (N / 10 ^ k % 10 != 0) = false := by assumption
        exact ⟨dec_step0 hlt HB2.out HX1.out (by simpa [dg] using hd), by simp [intOf]; omega⟩
    · obtain rfl : k = 39 := by omega
      have ht := top_39 N
      have hcv := dec_conv N wr w.heap.size (39 - (38 - top N 39)) HB.out
      have hsl := dec_slice (top N 39) ht w.heap.size wr
      go_wp2_with fail
      go_ret
      exact ⟨rfl, HW.out⟩

/-- A wide number's text. -/
def text (a : Int) : List UInt8 := if 0 ≤ a then dec a else 45 :: dec (-a)
theorem text_pos {a : Int} (h : 0 ≤ a) : text a = dec a := if_pos h
theorem text_neg {a : Int} (h : a < 0) : text a = 45 :: dec (-a) := if_neg (by omega)

theorem minus0 (a r : Int) (ha : IsW a) (hr : wr (-a) = r) (w : World) :
    Calls Try.prog 22 #[.agg #[.int .i64 0, .int .u64 0], Wd a] w fun e w' => e = .returned (Wd r) ∧ Below w.heap.size w w' := by
  have h := minus_any 0 a r (by unfold IsW; omega) ha (by rw [← hr]; congr 1; omega) w
  exact h

theorem text_any_pos (a : Int) (ha : IsW a) (h : 0 ≤ a) (w : World) :
    Calls Try.prog 28 #[Wd a] w fun e w' => e = .returned (.string ⟨(text a).toArray⟩) ∧ Below w.heap.size w w' := by
  rw [text_pos h]
  have h1 : 0 ≤ hi a := by unfold hi; omega
  have e1 : IntKind.u64.wrap (hi a) = hi a := by obtain ⟨_, y⟩ := ha; rw [u64w]; unfold hi; omega
  have HA := Lib.hid (show 0 ≤ a ∧ a < 340282366920938463463374607431768211456 by obtain ⟨_, y⟩ := ha; omega)
  clear ha h
  go_enter Try.func28, Try.ntmps28
  go_wp2_with fail
  refine (decimal_any a HA.out.1 HA.out.2 _).mono ?_
  rintro e w1 ⟨rfl, hb⟩
  go_wp2_with fail
  go_ret
  exact ⟨rfl, ((Below.refl _ _).alloc (Nat.le_refl _) _).trans (hb.mono (by simp))⟩

theorem ret_cat (l : List UInt8) : Ending.returned (.string ((⟨#[45]⟩ : ByteArray) ++ ⟨l.toArray⟩)) = .returned (.string ⟨(45 :: l).toArray⟩) := by
  congr 2

theorem text_any_neg (a : Int) (ha : IsW a) (h : a < 0) (w : World) :
    Calls Try.prog 28 #[Wd a] w fun e w' => e = .returned (.string ⟨(text a).toArray⟩) ∧ Below w.heap.size w w' := by
  rw [text_neg h]
  have h1 : hi a < 0 := by unfold hi; omega
  have e1 : IntKind.u64.wrap (hi (wr (-a))) = hi (-a) := by obtain ⟨x, y⟩ := ha; rw [u64w]; unfold hi wr; omega
  have e2 : lo (wr (-a)) = lo (-a) := by obtain ⟨x, y⟩ := ha; unfold lo wr; omega
  have HA := Lib.hid (show 0 ≤ -a ∧ -a < 340282366920938463463374607431768211456 by obtain ⟨_, y⟩ := ha; omega)
  have HW := Lib.hid ha
  clear ha h
  go_enter Try.func28, Try.ntmps28
  go_wp2_with fail
  refine (minus0 a (wr (-a)) HW.out rfl _).mono ?_
  rintro e w1 ⟨rfl, hb⟩
  go_wp2_with fail
  refine (decimal_any (-a) HA.out.1 HA.out.2 _).mono ?_
  rintro e w2 ⟨rfl, hb2⟩
  have hlen := dec_len (-a)
  go_wp2_with fail
  go_ret
  refine ⟨ret_cat _, ?_⟩
  have q := (own1 w (Obj.cells #[.int .i64 (hi a), .int .u64 (lo a)] 24)).step hb
  have q2 := q.1.alloc (by have := q.2; omega) (Obj.cells #[.int .i64 (hi (wr (-a))), .int .u64 (lo (-a))] 24)
  exact q2.trans (hb2.mono (by have := q2.size; simpa using this))

/-- num.Text -/
theorem text_any (a : Int) (ha : IsW a) (w : World) :
    Calls Try.prog 28 #[Wd a] w fun e w' => e = .returned (.string ⟨(text a).toArray⟩) ∧ Below w.heap.size w w' := by
  by_cases h : 0 ≤ a
  · exact text_any_pos a ha h w
  · exact text_any_neg a ha (by omega) w
end Go.Proofs.Ytinejcoajebdjaa
