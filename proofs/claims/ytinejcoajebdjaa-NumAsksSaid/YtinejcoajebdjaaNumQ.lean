/- Contracts of the document's answers (quittanceref01): sums, differences, comparing, the way back. -/
import Derived.Test.YtinejcoajebdjaaNumL
namespace Go.Proofs.Ytinejcoajebdjaa
open Go.RowKit

theorem rplus_eq0 (a b r : Int) (h : wr (a + b) = r) (k : lo a + lo b < 18446744073709551616) : wrap64 (hi a + hi b) = hi r ∧ lo a + lo b = lo r := by
  subst h; unfold lo at k; unfold wrap64 hi lo wr; omega
theorem rplus_eq1 (a b r : Int) (h : wr (a + b) = r) (k : 18446744073709551616 ≤ lo a + lo b) : wrap64 (wrap64 (hi a + hi b) + 1) = hi r ∧ IntKind.u64.wrap (lo a + lo b) = lo r := by
  subst h; rw [u64w]; unfold lo at k; unfold wrap64 hi lo wr; omega

/-- Plus. -/
theorem rplus_any (a b r : Int) (ha : IsW a) (hb : IsW b) (hr : wr (a + b) = r) (w : World) :
    Calls Try.prog 29 #[Wd a, Wd b] w fun e w' => e = .returned (Wd r) ∧ Below w.heap.size w w' := by
  have h1 := hi_I64 ha
  have h2 := lo_U64 a
  have h3 := hi_I64 hb
  have h4 := lo_U64 b
  have HR := Lib.hid hr
  clear hr ha hb
  obtain ⟨a1, a2⟩ := h1; obtain ⟨b1, b2⟩ := h2; obtain ⟨c1, c2⟩ := h3; obtain ⟨d1, d2⟩ := h4
  by_cases k : lo a + lo b < 18446744073709551616
  · have E := Lib.hid (rplus_eq0 a b r HR.out k)
    go_enter Try.func29, Try.ntmps29
    go_wp2_with fail
    refine bodyPost_ret (v := Wd r) (by simp [results, Try.results29, go_sem]; exact E.out) rfl ⟨rfl, ?_⟩
    exact ((((Below.refl _ _).alloc (Nat.le_refl _) _).alloc (by simp) _).alloc (by simp; omega) _).alloc (by simp; omega) _
  · have E := Lib.hid (rplus_eq1 a b r HR.out (by omega))
    have k2 : IntKind.u64.wrap (lo a + lo b) < lo a := by rw [u64w]; omega
    go_enter Try.func29, Try.ntmps29
    go_wp2_with fail
    refine bodyPost_ret (v := Wd r) (by simp [results, Try.results29, go_sem]; exact E.out) rfl ⟨rfl, ?_⟩
    exact ((((Below.refl _ _).alloc (Nat.le_refl _) _).alloc (by simp) _).alloc (by simp; omega) _).alloc (by simp; omega) _

/-- Of. -/
theorem rof_any (a : Int) (ha : I64 a) (w : World) :
    Calls Try.prog 18 #[.int .i64 a] w fun e w' => e = .returned (Wd a) ∧ Below w.heap.size w w' := by
  have e2 := Lib.hid (of_lo a)
  obtain ⟨a1, a2⟩ := ha
  by_cases k : a < 0
  · have e1 := Lib.hid (show (-1 : Int) = hi a by unfold hi; omega)
    go_enter Try.func18, Try.ntmps18
    go_wp2_with fail
    refine bodyPost_ret (v := Wd a) (by simp [results, Try.results18, go_sem]; exact ⟨e1.out, e2.out⟩) rfl ⟨rfl, ?_⟩
    exact ((Below.refl _ _).alloc (Nat.le_refl _) _).alloc (by simp) _
  · have e1 := Lib.hid (show (0 : Int) = hi a by unfold hi; omega)
    go_enter Try.func18, Try.ntmps18
    go_wp2_with fail
    refine bodyPost_ret (v := Wd a) (by simp [results, Try.results18, go_sem]; exact ⟨e1.out, by first | exact e2.out | (have := e2.out; rw [u64w] at this; omega)⟩) rfl ⟨rfl, ?_⟩
    exact ((Below.refl _ _).alloc (Nat.le_refl _) _).alloc (by simp) _

theorem not_i64 (x : Int) (h : I64 x) : bits .xor .i64 (-1) x = -1 - x := by
  obtain ⟨h1, h2⟩ := h
  show IntKind.i64.wrap ((BitVec.ofInt 64 (-1) ^^^ BitVec.ofInt 64 x).toNat : Int) = _
  have e : BitVec.ofInt 64 (-1) = BitVec.allOnes 64 := by decide
  rw [e, BitVec.allOnes_xor, BitVec.toNat_not, BitVec.toNat_ofInt, IntKind.wrap_i64]
  omega
theorem not_u64 (x : Int) (h : U64 x) : bits .xor .u64 IntKind.u64.max x = 18446744073709551615 - x := by
  obtain ⟨h1, h2⟩ := h
  show IntKind.u64.wrap ((BitVec.ofInt 64 IntKind.u64.max ^^^ BitVec.ofInt 64 x).toNat : Int) = _
  have e : BitVec.ofInt 64 IntKind.u64.max = BitVec.allOnes 64 := by decide
  rw [e, BitVec.allOnes_xor, BitVec.toNat_not, BitVec.toNat_ofInt, u64w]
  omega

/-- The end of a call whose result lies in block g: what is stored there is what is told. -/
theorem told_cell {W : World} {g : Nat} {n : Int} (h : WBlk W g n) (r : Int) :
    ((W.setCell ⟨g, 0, none⟩ (.int .i64 (hi r))).setCell ⟨g, 1, none⟩ (.int .u64 (lo r))).cell? ⟨g, 1, none⟩ = some (.int .u64 (lo r)) ∧ (W.setCell ⟨g, 0, none⟩ (.int .i64 (hi r))).cell? ⟨g, 0, none⟩ = some (.int .i64 (hi r)) :=
  ⟨(h.set2 r).c1, cell_set0 h _⟩

/-- Less. -/
theorem rless_any (a r : Int) (ha : IsW a) (hr : wr (-a) = r) (w : World) :
    Calls Try.prog 31 #[Wd a] w fun e w' => e = .returned (Wd r) ∧ Below w.heap.size w w' := by
  have e1 := not_i64 (hi a) (hi_I64 ha)
  have e2 := not_u64 (lo a) (lo_U64 a)
  have e3 : -1 - hi a = hi (-a - 1) := by unfold hi; omega
  have e4 : 18446744073709551615 - lo a = lo (-a - 1) := by unfold lo; omega
  rw [e3] at e1
  rw [e4] at e2
  have s1 : IntKind.i64.signed = true := rfl
  have s2 : IntKind.u64.signed = false := rfl
  have HA := Lib.hid (show IsW (-a - 1) by obtain ⟨_, _⟩ := ha; unfold IsW; omega)
  have HR := Lib.hid (show wr (-a - 1 + 1) = r by rw [← hr]; congr 1; omega)
  clear hr ha e3 e4
  go_enter Try.func31, Try.ntmps31
  go_wp2_with fail
  refine (rplus_any (-a - 1) 1 r HA.out (by unfold IsW; omega) HR.out _).mono ?_
  rintro e w1 ⟨rfl, hb⟩
  have B := Lib.hid (show WBlk w1 (w.heap.size + 1) 0 by simpa only [World.size_alloc] using WBlk.below (n := 0) (WBlk.new _ 0) hb (by simp))
  have HB := Lib.hid ((own2 w _ _).step hb).1
  have c0 := B.out.c0
  have c1 := B.out.c1
  have z0 := B.out.z0
  have z1 := B.out.z1
  clear hb e1 e2 s1 s2
  go_wp2_with fail
  have T := told_cell B.out r
  refine bodyPost_ret (v := Wd r) (by simp [results, Try.results31, go_sem, T.1, T.2]) rfl ⟨rfl, below_set2 HB.out (by omega) _⟩

/-- Twice. -/
theorem rtwice_any (a r : Int) (ha : IsW a) (hr : wr (a + a) = r) (w : World) :
    Calls Try.prog 32 #[Wd a] w fun e w' => e = .returned (Wd r) ∧ Below w.heap.size w w' := by
  have HA := Lib.hid ha
  have HR := Lib.hid hr
  clear hr ha
  go_enter Try.func32, Try.ntmps32
  go_wp2_with fail
  refine (rplus_any a a r HA.out HA.out HR.out _).mono ?_
  rintro e w1 ⟨rfl, hb⟩
  have B := Lib.hid (show WBlk w1 (w.heap.size + 1) 0 by simpa only [World.size_alloc] using WBlk.below (n := 0) (WBlk.new _ 0) hb (by simp))
  have HB := Lib.hid ((own2 w _ _).step hb).1
  have c0 := B.out.c0
  have c1 := B.out.c1
  have z0 := B.out.z0
  have z1 := B.out.z1
  clear hb
  go_wp2_with fail
  have T := told_cell B.out r
  refine bodyPost_ret (v := Wd r) (by simp [results, Try.results32, go_sem, T.1, T.2]) rfl ⟨rfl, below_set2 HB.out (by omega) _⟩
end Go.Proofs.Ytinejcoajebdjaa
