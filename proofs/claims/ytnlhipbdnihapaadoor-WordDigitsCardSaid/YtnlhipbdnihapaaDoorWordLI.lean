/- What the landed layer 2 leans on: strings.SplitSeq at one sign: the function that it tells, and what that hands out, piece by piece. -/
import Derived.Test.YtnlhipbdnihapaaDoorWordLR
namespace Go.Proofs.YtnlhipbdnihapaaDoor.Word
open Go.RowKit Go.Shelf

theorem splitseq_any (t : Bytes) (w : World) : Calls Tryd.prog 32 #[str t, .string ⟨#[10]⟩] w fun e w' =>
    e = .returned (.func (.func 61) #[] #[.pointer (some ⟨w.heap.size + 1, 0, none⟩), .pointer (some ⟨w.heap.size, 0, none⟩), .pointer (some ⟨w.heap.size + 2, 0, none⟩)]) ∧
    w' = ((w.alloc (.cells #[str t] 9)).alloc (.cells #[.string ⟨#[10]⟩] 9)).alloc (.cells #[.int .i64 0] 3) := by
  go_enter Tryd.func32, Tryd.ntmps32
  go_wp2
  go_ret
  exact ⟨rfl, rfl⟩

theorem indexByte_eq (c : UInt8) : ∀ l : Bytes, Lib.indexByte l c = Lib.index l [c]
  | [] => rfl
  | x :: r => by
    have ih := indexByte_eq c r
    by_cases hx : x = c
    · subst hx
      rw [index_yes]
      simp [Lib.indexByte]
    · rw [index_no c x hx, Lib.indexByte, if_neg (by simpa using hx), ih]
      simp
theorem index_any (r : Bytes) (w : World) : Calls Tryd.prog 60 #[str r, .string ⟨#[10]⟩] w fun e w' => e = .returned (.int .i64 (Lib.index r [10])) ∧ w = w' := by
  refine (Tryd.strings_Index_one ⟨r.toArray⟩ 10 w).mono ?_
  rintro e w' ⟨rfl, rfl⟩
  refine ⟨?_, rfl⟩
  show Ending.returned (.int .i64 (Lib.indexByte r 10)) = _
  rw [indexByte_eq]

/-- How long the text in a box is. -/
def boxLen (w : World) (b : Nat) : Nat := match w.cell? ⟨b, 0, none⟩ with
  | some (.string s) => s.size
  | _ => 0
theorem boxLen_of {w : World} {b : Nat} {t : TypeId} {r : Bytes} (h : Boxed w b t (str r)) : boxLen w b = r.length := by
  unfold boxLen
  rw [h.cell]
  simp [ByteArray.size]
theorem str_take (r : Bytes) (i : Nat) : Value.string ((⟨r.toArray⟩ : ByteArray).extract 0 i) = str (r.take i) := by rw [extract_eq]; rfl
theorem str_drop (r : Bytes) (i : Nat) : Value.string ((⟨r.toArray⟩ : ByteArray).extract i r.length) = str (r.drop i) := by rw [extract_eq, List.take_length]

/-- Between two rounds: what has come, what is still in the box. -/
def IterAt (J : List Bytes → World → Prop) (t : Bytes) (b bp bv : Nat) (wr : World) : Prop :=
  ∃ (pre : List Bytes) (r : Bytes), pre ++ cutB 10 r = cutB 10 t ∧ r.length ≤ 1048576 ∧ J pre wr ∧ Boxed wr b 9 (str r) ∧ Boxed wr bp 9 (.string ⟨#[10]⟩) ∧ Boxed wr bv 3 (.int .i64 0)

set_option maxRecDepth 100000 in
set_option maxHeartbeats 4000000 in
theorem split_iter (n l b bp bv own n0 : Nat) (J : List Bytes → World → Prop) (t : Bytes) (ht : t.length ≤ 1048576)
    (hb : b < n0) (hbp : bp < n0) (hbv : bv < n0) (ob : b ≠ own) (obp : bp ≠ own) (obv : bv ≠ own) (b1 : bp ≠ b) (b2 : bv ≠ b)
    (hJ : ∀ pre A v, J pre A → J pre (A.setCell ⟨b, 0, none⟩ v))
    (hY : ∀ pre x A, J pre A → pre.length < (cutB 10 t).length → YieldAt Fence.wide (n - 1) Tryd.prog l #[str x] A fun e A' => e = .returned (.bool true) ∧ Kept n0 own A A' ∧ J (pre ++ [x]) A')
    (W : World) (h0 : J [] W) (hs : Boxed W b 9 (str t)) (hp : Boxed W bp 9 (.string ⟨#[10]⟩)) (hv : Boxed W bv 3 (.int .i64 0)) :
    CallsIn Fence.wide n Tryd.prog 61 #[.func (.yield l) #[] #[], .pointer (some ⟨bp, 0, none⟩), .pointer (some ⟨b, 0, none⟩), .pointer (some ⟨bv, 0, none⟩)] W fun e W' => (∃ v, e = .returned v) ∧ J (cutB 10 t) W' := by
  refine callsIn_of_wp Tryd.func61 rfl trivial ?_ rfl
  simp only [Tryd.ntmps61, List.size_toArray, List.length_cons, List.length_nil, Nat.reduceAdd, Nat.reduceSub, Array.replicate_succ, Array.replicate_zero, List.push_toArray, List.append_toArray, List.nil_append, List.cons_append]
  have c1 := hs.cell
  have c2 := hp.cell
  have c3 := hv.cell
  gi_wp2
  gi_loopw [7] (fun _ wr => IterAt J t b bp bv wr) (fun _ wr => boxLen wr b)
  case atStart => exact ⟨[], t, rfl, ht, h0, hs, hp, hv⟩
  case round =>
    clear c1 c2 c3
    obtain ⟨pre, r, hpre, hr, hj, hs, hp, hv⟩ := hrel
    have c1 := hs.cell
    have c2 := hp.cell
    have c3 := hv.cell
    have IX := Lib.hid (fun w => index_any r w)
    have HP := Lib.hid hpre
    rcases cut_index 10 r with ⟨h1, h2⟩ | ⟨i, h1, h2, h3⟩
    · rw [h1] at IX
      have E := Lib.hid (show cutB 10 t = pre ++ [r] by rw [← h2]; exact hpre.symm)
      obtain ⟨fn, tmps, assign, body, hy, hRd⟩ := hY pre r wr hj (by rw [E.out, List.length_append]; simp)
      clear h1 h2 hpre hY hJ
      gi_wp2_with (refine ⟨trivial, fun h => absurd h (by simp [Fence.wide]), ?_⟩; refine (callsIn_wide.2 (IX.out _)).mono ?_; rintro e w' ⟨rfl, rfl⟩)
      refine ⟨fun h => absurd h (by simp [Fence.wide]), hRd.mono ?_⟩
      rintro e W3 ⟨rfl, hk, hj3⟩
      gi_wp2
      go_end0
      exact ⟨⟨_, rfl⟩, by rw [E.out]; exact hj3⟩
    · rw [h1] at IX
      have E := Lib.hid (show cutB 10 t = pre ++ [r.take i] ++ cutB 10 (r.drop (i + 1)) by rw [List.append_assoc, List.singleton_append, ← h3]; exact hpre.symm)
      have HL := Lib.hid (show pre.length < (cutB 10 t).length by rw [E.out, List.length_append, List.length_append]; simp; omega)
      obtain ⟨fn, tmps, assign, body, hy, hRd⟩ := hY pre (r.take i) wr hj HL.out
      rw [← str_take] at hy
      clear h1 h3 hpre hY
      have HJ := Lib.hid hJ
      clear hJ
      gi_wp2_with (refine ⟨trivial, fun h => absurd h (by simp [Fence.wide]), ?_⟩; refine (callsIn_wide.2 (IX.out _)).mono ?_; rintro e w' ⟨rfl, rfl⟩)
      refine ⟨fun h => absurd h (by simp [Fence.wide]), hRd.mono ?_⟩
      rintro e W3 ⟨rfl, hk, hj3⟩
      have s3 : Boxed W3 b 9 (str r) := (hk.2 b hb ob).trans hs
      have p3 : Boxed W3 bp 9 (.string ⟨#[10]⟩) := (hk.2 bp hbp obp).trans hp
      have v3 : Boxed W3 bv 3 (.int .i64 0) := (hk.2 bv hbv obv).trans hv
      have d1 := s3.cell
      have d2 := p3.cell
      have d3 := v3.cell
      have f3 := s3.frozen
      have HK := Lib.hid hk
      clear c1 c2 c3 hk
      gi_wp2
      have e : Value.string ((⟨r.toArray⟩ : ByteArray).extract (i + 1) r.length) = str (r.drop (i + 1)) := str_drop r (i + 1)
      have s4 := s3.set (str (r.drop (i + 1)))
      have q : ∀ W4, W4 = W3.setCell ⟨b, 0, none⟩ (.string ((⟨r.toArray⟩ : ByteArray).extract (i + 1) r.length)) → IterAt J t b bp bv W4 ∧ boxLen W4 b < boxLen wr b := by
        intro W4 h4
        rw [e] at h4
        subst h4
        refine ⟨⟨pre ++ [r.take i], r.drop (i + 1), E.out.symm, by rw [List.length_drop]; omega, HJ.out _ _ _ hj3, s4, p3.kept (grownBy_setCell' _ _ _) (by simp; exact b1), v3.kept (grownBy_setCell' _ _ _) (by simp; exact b2)⟩, ?_⟩
        rw [boxLen_of s4, boxLen_of hs, List.length_drop]
        omega
      exact q _ rfl
end Go.Proofs.YtnlhipbdnihapaaDoor.Word
