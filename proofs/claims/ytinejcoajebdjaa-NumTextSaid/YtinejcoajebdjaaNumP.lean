/- The walk of NumText. -/
import Derived.Test.YtinejcoajebdjaaNumN
import Derived.Deep.DeepCutAuto
namespace Go.Proofs.Ytinejcoajebdjaa
open Go.RowKit

theorem text_str (a : Int) (S : ByteArray) (ha : IsW a) (hS : S = ⟨(text a).toArray⟩) (w : World) :
    Calls Try.prog 28 #[Wd a] w fun e w' => e = .returned (.string S) ∧ Below w.heap.size w w' := by
  subst hS; exact text_any a ha w

/-- What holds at the head of the loop: k characters are read. -/
def TextRel (w : World) (g h : Nat) (a : Int) (S : ByteArray) (f : Nat) (N : Int) (s : Value) (u : World) : Prop :=
  ∃ k : Nat, f ≤ k ∧ k ≤ S.size ∧ s = .int .i64 (k : Int) ∧ WBlk u h a ∧ WBlk u g (wr (N / 10 ^ (f + top N 39 + 1 - k))) ∧ Below w.heap.size w u

/-- Two wide numbers in blocks of their own, behind w. -/
def Tri (w : World) (h g : Nat) (a q : Int) (u : World) : Prop := WBlk u h a ∧ WBlk u g q ∧ Below w.heap.size w u
theorem Tri.s {w u : World} {h g : Nat} {a q : Int} (t : Tri w h g a q u) : u.cell? ⟨g, 0, none⟩ = some (.int .i64 (hi q)) ∧ u.cell? ⟨g, 1, none⟩ = some (.int .u64 (lo q)) ∧ Tri w h g a q u := ⟨t.2.1.c0, t.2.1.c1, t⟩
theorem Tri.of_s {w u : World} {h g : Nat} {a q : Int} (t : u.cell? ⟨g, 0, none⟩ = some (.int .i64 (hi q)) ∧ u.cell? ⟨g, 1, none⟩ = some (.int .u64 (lo q)) ∧ Tri w h g a q u) : Tri w h g a q u := t.2.2
theorem Tri.step {w W u : World} {h g : Nat} {a q : Int} (t : Tri w h g a q W) (hb : Below W.heap.size W u) : Tri w h g a q u := ⟨t.1.below hb (Blk.lt t.1), t.2.1.below hb (Blk.lt t.2.1), chain2 t.2.2 hb⟩
theorem Tri.drew {w W : World} {h g : Nat} {a q : Int} (t : Tri w h g a q W) : Tri w h g a q W.drew := ⟨t.1, t.2.1, t.2.2.drew⟩
theorem Tri.alloc {w W : World} {h g : Nat} {a q : Int} (t : Tri w h g a q W) (o : Obj) : Tri w h g a q (W.alloc o) := ⟨t.1.alloc o, t.2.1.alloc o, t.2.2.alloc t.2.2.size o⟩
theorem Tri.far2 {w W : World} {h g b : Nat} {a q : Int} (t : Tri w h g a q W) (h1 : h ≠ b) (h2 : g ≠ b) (h3 : w.heap.size ≤ b) (m : Int) :
    Tri w h g a q ((W.setCell ⟨b, 0, none⟩ (.int .i64 (hi m))).setCell ⟨b, 1, none⟩ (.int .u64 (lo m))) := ⟨t.1.far2 h1 m, t.2.1.far2 h2 m, below_set2 t.2.2 h3 m⟩
theorem Tri.set2 {w W : World} {h g : Nat} {a q : Int} (t : Tri w h g a q W) (h1 : h ≠ g) (h3 : w.heap.size ≤ g) (m : Int) :
    Tri w h g a m ((W.setCell ⟨g, 0, none⟩ (.int .i64 (hi m))).setCell ⟨g, 1, none⟩ (.int .u64 (lo m))) := ⟨t.1.far2 h1 m, t.2.1.set2 m, below_set2 t.2.2 h3 m⟩

/-- A new block of noughts, behind a call. -/
theorem zb_new {x u : World} (hb : Below (x.alloc (.cells #[.int .i64 0, .int .u64 0] 24)).heap.size (x.alloc (.cells #[.int .i64 0, .int .u64 0] 24)) u) : WBlk u x.heap.size 0 :=
  WBlk.below (n := 0) (WBlk.new x 0) hb (by simp)
theorem zb_newd {x u : World} (hb : Below (x.alloc (.cells #[.int .i64 0, .int .u64 0] 24)).drew.heap.size (x.alloc (.cells #[.int .i64 0, .int .u64 0] 24)).drew u) : WBlk u x.heap.size 0 :=
  WBlk.below (w := (x.alloc (.cells #[.int .i64 0, .int .u64 0] 24)).drew) (n := 0) (WBlk.new x 0) hb (by simp)
theorem zb_step {W u : World} {b : Nat} (z : WBlk W b 0) (hb : Below W.heap.size W u) : WBlk u b 0 := z.below hb (Blk.lt z)

/-- What the statement of the law's loop that makes ten times as much leaves: a third block, which holds it. -/
def TenRel (w : World) (h g : Nat) (a q m : Int) (s : Value) (u : World) : Prop :=
  ∃ b : Nat, s = .pointer (some ⟨b, 0, none⟩) ∧ h ≠ b ∧ g ≠ b ∧ w.heap.size ≤ b ∧ WBlk u b m ∧ Tri w h g a q u
theorem WBlk.back {W : World} {o : Obj} {g : Nat} {n : Int} (h : WBlk (W.alloc o) g n) (hg : g < W.heap.size) : WBlk W g n := (Below.heap_alloc W o g hg).symm.trans h
theorem tri_realloc {w W : World} {h g : Nat} {a q : Int} {o : Obj} (t : Tri w h g a q (W.alloc o)) (l1 : h < W.heap.size) (l2 : g < W.heap.size) (l3 : w.heap.size ≤ W.heap.size) (o' : Obj) : Tri w h g a q (W.alloc o') :=
  ⟨(t.1.back l1).alloc _, (t.2.1.back l2).alloc _, ⟨t.2.2.os, t.2.2.tape, t.2.2.output, by simp; omega, fun k hk => (Below.heap_alloc W o' k (by omega)).trans ((Below.heap_alloc W o k (by omega)).symm.trans (t.2.2.block k hk))⟩⟩
theorem ten_new {w W : World} {h g : Nat} {a q m : Int} (l1 : h < W.heap.size) (l2 : g < W.heap.size) (l3 : w.heap.size ≤ W.heap.size)
    (t : (W.alloc (.cells #[.int .i64 (hi m), .int .u64 (lo m)] 24)).cell? ⟨g, 0, none⟩ = some (.int .i64 (hi q)) ∧ (W.alloc (.cells #[.int .i64 (hi m), .int .u64 (lo m)] 24)).cell? ⟨g, 1, none⟩ = some (.int .u64 (lo q)) ∧ Tri w h g a q (W.alloc (.cells #[.int .i64 (hi m), .int .u64 (lo m)] 24))) :
    TenRel w h g a q m (.pointer (some ⟨W.heap.size, 0, none⟩)) (W.alloc (.cells #[.int .i64 (hi m), .int .u64 (lo m)] 24)) :=
  ⟨_, rfl, by omega, by omega, l3, WBlk.new _ _, t.2.2⟩
theorem ten_set {w W : World} {h g b : Nat} {a q m : Int} (l1 : h < b) (l2 : g < b) (l3 : w.heap.size ≤ b) (z : WBlk W b 0)
    (t : ((W.setCell ⟨b, 0, none⟩ (.int .i64 (hi m))).setCell ⟨b, 1, none⟩ (.int .u64 (lo m))).cell? ⟨g, 0, none⟩ = some (.int .i64 (hi q)) ∧ ((W.setCell ⟨b, 0, none⟩ (.int .i64 (hi m))).setCell ⟨b, 1, none⟩ (.int .u64 (lo m))).cell? ⟨g, 1, none⟩ = some (.int .u64 (lo q)) ∧ Tri w h g a q ((W.setCell ⟨b, 0, none⟩ (.int .i64 (hi m))).setCell ⟨b, 1, none⟩ (.int .u64 (lo m)))) :
    TenRel w h g a q m (.pointer (some ⟨b, 0, none⟩)) ((W.setCell ⟨b, 0, none⟩ (.int .i64 (hi m))).setCell ⟨b, 1, none⟩ (.int .u64 (lo m))) :=
  ⟨_, rfl, by omega, by omega, l3, z.set2 m, t.2.2⟩

theorem u8_48 {c : Int} (h : 48 ≤ c) (h' : c ≤ 57) : IntKind.u8.wrap (c - 48) = c - 48 := by rw [IntKind.wrap_u8']; omega
theorem i64_48 {c : Int} (h : 48 ≤ c) (h' : c ≤ 57) : IntKind.i64.wrap (c - 48) = c - 48 := IntWalk.i64_in _ (by omega)
theorem of_eq (x r : Int) (h : x = r) (hr : I64 r) (w : World) : Calls Try.prog 17 #[.int .i64 x] w fun e w' => e = .returned (Wd r) ∧ Below w.heap.size w w' := by
  subst h; exact of_any x hr w
theorem wblk_eq {u : World} {g : Nat} {x y : Int} (h : x = y) (k : WBlk u g y) : WBlk u g x := by subst h; exact k
theorem text_end_pos {u : World} {g : Nat} {S : ByteArray} {a : Int} (T : IsText S 0 a) (ha : IsW a) (h : WBlk u g (wr (a / 10 ^ (0 + top a 39 + 1 - S.size)))) : WBlk u g a := by
  have hs := T.size
  rw [show 0 + top a 39 + 1 - S.size = 0 by omega, show a / 10 ^ 0 = a by simp, wr_of ha] at h
  exact h
theorem text_zero {S : ByteArray} {a : Int} (T : IsText S 0 a) (ha : IsW a) (hS : S = ⟨(text a).toArray⟩) (h0 : 0 < S.size) (h : (S[0].toNat : Int) = 48) : S.toList = [48] := by
  have e := T.at_ 0 h0 (by omega)
  rw [h] at e
  have z := lead_zero a T.N0 T.N1 (by rw [show top a 39 = 0 + top a 39 - 0 by omega]; omega)
  subst z
  rw [hS, show text 0 = [48] by decide +kernel, ByteArray.toList_eq]
theorem text_end_neg {u : World} {g : Nat} {S : ByteArray} {a : Int} (T : IsText S 1 (-a)) (h : WBlk u g (wr (-a / 10 ^ (1 + top (-a) 39 + 1 - S.size)))) : WBlk u g (wr (-a)) := by
  have hs := T.size
  rw [show 1 + top (-a) 39 + 1 - S.size = 0 by omega, show -a / 10 ^ 0 = -a by simp] at h
  exact h
theorem text_round {S : ByteArray} {f k : Nat} {N Q Q2 Q4 Q5 c : Int} (T : IsText S f N) (hk : k < S.size) (_hf : f ≤ k) (h1 : wr (N / 10 ^ (f + top N 39 + 1 - k)) = Q) (h2 : wr (Q + Q) = Q2) (h4 : wr (Q2 + Q2) = Q4) (h5 : wr (Q4 + Q) = Q5)
    (hd : c = 48 + dg N (f + top N 39 - k)) : wr (wr (Q5 + Q5) + (c - 48)) = wr (N / 10 ^ (f + top N 39 + 1 - (k + 1))) := by
  have hs := T.size
  obtain ⟨j, hj⟩ : ∃ j, j = f + top N 39 - k := ⟨_, rfl⟩
  rw [← hj] at hd
  rw [show f + top N 39 + 1 - k = j + 1 by omega] at h1
  rw [show f + top N 39 + 1 - (k + 1) = j by omega, ← wr_ten N j, show c - 48 = dg N j by omega]
  subst h1 h2 h4 h5
  rfl

theorem text_start {u : World} {g f : Nat} {S : ByteArray} {N : Int} (T : IsText S f N) (h : WBlk u g 0) : WBlk u g (wr (N / 10 ^ (f + top N 39 + 1 - f))) := by
  rw [show f + top N 39 + 1 - f = top N 39 + 1 by omega, div39 N T.N0 T.N1]
  exact h

set_option maxRecDepth 100000 in
set_option maxHeartbeats 8000000 in
theorem textlaw_pos (a : Int) (S : ByteArray) (ha : IsW a) (h0 : 0 ≤ a) (hS : S = ⟨(text a).toArray⟩) (w : World) :
    Calls Try.prog 7 #[Wd a] w fun e w' => e = .returned (.bool true) ∧ Below w.heap.size w w' := by
  have T : IsText S 0 a := hS ▸ istext_pos a ha h0
  have z1 : 0 < S.size := by rw [T.size]; omega
  have z0 : 0 < S.size := by omega
  have z2 : S.size ≤ 40 := by rw [T.size]; have := top_39 a; omega
  have z3 : S.toList.isEmpty = false := by rw [ByteArray.toList_eq]; simp; intro h; simp [ByteArray.size, h] at z1
  have z4 : ((S[0].toNat : Int) == 45) = false := by
    have := T.at_ 0 z0 (by omega)
    have := dg_bd a (0 + top a 39 - 0)
    simp; omega
  have HS := Lib.hid hS
  have HT := Lib.hid T
  have HA := Lib.hid ha
  have e0 := hi0
  have e1 := lo0
  clear hS T ha
  go_enter Try.func7, Try.ntmps7
  go_wp2_with fail
  refine (text_str a S HA.out HS.out _).mono ?_
  rintro e w1 ⟨rfl, h1⟩
  go_wp2_with fail
  have y0 := h1.size
  simp only [World.size_alloc] at y0
  have hB : Below w.heap.size w (w1.alloc (Obj.cells #[.int .i64 0, .int .u64 0] 24)) := (((Below.refl _ w).alloc (Nat.le_refl _) _).trans (h1.mono (by simp))).alloc (by omega) _
  have r1 : WBlk (w1.alloc (Obj.cells #[.int .i64 0, .int .u64 0] 24)) w.heap.size a := ((WBlk.new w a).below h1 (by simp)).alloc _
  have r2 : WBlk (w1.alloc (Obj.cells #[.int .i64 0, .int .u64 0] 24)) w1.heap.size 0 := Blk.new _ _ _
  have G1 := Lib.hid r1
  have G2 := Lib.hid r2
  have GB := Lib.hid hB
  clear r1 r2 hB h1
  go_loopw [6] (fun q u => TextRel w w1.heap.size w.heap.size a S 0 a q u) (fun q _ => S.size - (intOf q).toNat)
  case atStart => exact ⟨0, by omega, by omega, rfl, G1.out, text_start HT.out G2.out, GB.out⟩
  case round =>
    obtain ⟨k, hf, hk, rfl, r1, r2, rB⟩ := hrel
    have R1 := Lib.hid r1
    have R2 := Lib.hid r2
    have RB := Lib.hid rB
    clear r1 r2 rB G1 G2 GB
    by_cases hlt : k < S.size
    · have hd := HT.out.at_ k hlt hf
      have hb := dg_bd a (0 + top a 39 - k)
      have D := Lib.hid hd
      have d1 : 48 ≤ (S[k].toNat : Int) := by omega
      have d2 : (S[k].toNat : Int) ≤ 57 := by omega
      have k0 := R2.out.c0
      have k1 := R2.out.c1
      have HQ : Hid (Tri w w.heap.size w1.heap.size a _ _) := ⟨R1.out, R2.out, RB.out⟩
      have HF := Lib.hid hf
      have g0 := Blk.lt R2.out
      have g1 := RB.out.size
      clear hd hb hf R1 R2 RB
      generalize hq : Go.Proofs.Ytinejcoajebdjaa.wr (a / 10 ^ (0 + top a 39 + 1 - k)) = Q at *
      obtain ⟨Q2, hq2⟩ : ∃ q, Go.Proofs.Ytinejcoajebdjaa.wr (Q + Q) = q := ⟨_, rfl⟩
      obtain ⟨Q4, hq4⟩ : ∃ q, Go.Proofs.Ytinejcoajebdjaa.wr (Q2 + Q2) = q := ⟨_, rfl⟩
      obtain ⟨Q5, hq5⟩ : ∃ q, Go.Proofs.Ytinejcoajebdjaa.wr (Q4 + Q) = q := ⟨_, rfl⟩
      have W1 := Lib.hid (show IsW Q from hq ▸ wr_IsW _)
      have W2 := Lib.hid (show IsW Q2 from hq2 ▸ wr_IsW _)
      have W4 := Lib.hid (show IsW Q4 from hq4 ▸ wr_IsW _)
      have W5 := Lib.hid (show IsW Q5 from hq5 ▸ wr_IsW _)
      have E1 := Lib.hid hq
      have E2 := Lib.hid hq2
      have E4 := Lib.hid hq4
      have E5 := Lib.hid hq5
      clear hq hq2 hq4 hq5
      go_wp2_with fail
      go_cut [7] (fun s7 wx => TenRel w w.heap.size w1.heap.size a Q Q5 s7 wx)
      case first =>
        go_region_held3 (fun u => u.cell? ⟨w1.heap.size, 0, none⟩ = some (.int .i64 (hi Q)) ∧ u.cell? ⟨w1.heap.size, 1, none⟩ = some (.int .u64 (lo Q)) ∧ Tri w w.heap.size w1.heap.size a Q u)
          (first | exact HQ.out.drew.s | exact (HQ.out.drew.step hb).s | (refine Tri.s (Tri.step (Tri.of_s ?_) hb); assumption) | exact (HQ.out.drew.alloc _).s | exact (HQ.out.alloc _).drew.s | exact ((HQ.out.alloc _).drew.step hb).s | (refine Tri.s (Tri.alloc (Tri.of_s ?_) _); assumption) | (refine Tri.s (tri_realloc (o := .cells #[.int .i64 0, .int .u64 0] 24) (Tri.of_s ?_) ?_ ?_ ?_ _) <;> first | assumption | omega) | (refine Tri.s (Tri.far2 (Tri.of_s ?_) ?_ ?_ ?_ _) <;> first | assumption | omega))
          (first
            | (go_at_call 23; (with_reducible refine (plus_any Q Q Q2 W1.out W1.out E2.out _).mono ?_); rintro e w' ⟨rfl, hb⟩; have hz := hb.size; (try simp at hz); (try have zb := Lib.hid (zb_new hb)); (try have zb := Lib.hid (zb_newd hb)); (try have zb := Lib.hid (zb_step zb.out hb)))
            | (go_at_call 23; (with_reducible refine (plus_any Q2 Q2 Q4 W2.out W2.out E4.out _).mono ?_); rintro e w' ⟨rfl, hb⟩; have hz := hb.size; (try simp at hz); (try have zb := Lib.hid (zb_new hb)); (try have zb := Lib.hid (zb_newd hb)); (try have zb := Lib.hid (zb_step zb.out hb)))
            | (go_at_call 23; (with_reducible refine (plus_any Q4 Q Q5 W4.out W1.out E5.out _).mono ?_); rintro e w' ⟨rfl, hb⟩; have hz := hb.size; (try simp at hz); (try have zb := Lib.hid (zb_new hb)); (try have zb := Lib.hid (zb_newd hb)); (try have zb := Lib.hid (zb_step zb.out hb)); (try (have zc0 := zb.out.c0; have zc1 := zb.out.c1; have zf0 := zb.out.z0; have zf1 := zb.out.z1))))
        all_goals
          go_wp2_with fail
          go_meet
          first
            | (refine ten_new ?_ ?_ ?_ ?_ <;> first | assumption | omega)
            | (refine ten_set ?_ ?_ ?_ zb.out ?_ <;> first | assumption | omega)
      case rest =>
        obtain ⟨b, rfl, n1, n2, n3, bQ, bT⟩ := hcut
        have YT : Hid (Tri w w.heap.size b a Q5 _) := ⟨bT.1, bQ, bT.2.2⟩
        have yg := Lib.hid bT.2.1
        have ng : w.heap.size ≠ w1.heap.size := by omega
        have ng3 : w.heap.size ≤ w1.heap.size := by omega
        have nb : b ≠ w1.heap.size := fun e => n2 e.symm
        have k2 := bQ.c0
        have k3 := bQ.c1
        have i0 : (0 : Int) ≤ (k : Int) := by omega
        have i1 : (k : Int) < (S.size : Int) := by omega
        have R := text_round HT.out hlt HF.out E1.out E2.out E4.out E5.out D.out
        obtain ⟨Q10, hq10⟩ : ∃ q, Go.Proofs.Ytinejcoajebdjaa.wr (Q5 + Q5) = q := ⟨_, rfl⟩
        rw [hq10] at R
        generalize hqn : Go.Proofs.Ytinejcoajebdjaa.wr (a / 10 ^ (0 + top a 39 + 1 - (k + 1))) = Qn at R
        have HQN := Lib.hid hqn
        clear hqn
        have W10 := Lib.hid (show IsW Q10 from hq10 ▸ wr_IsW _)
        have E10 := Lib.hid hq10
        have ER := Lib.hid R
        have ID := Lib.hid (show I64 ((S[k].toNat : Int) - 48) by unfold I64; omega)
        have E48 := Lib.hid (show IntKind.i64.wrap (IntKind.u8.wrap ((S[k].toNat : Int) - 48)) = (S[k].toNat : Int) - 48 by rw [u8_48 d1 d2, i64_48 d1 d2])
        clear R hq10 bT bQ k0 k1
        go_wp2_with fail
        go_region_held3 (fun u => u.cell? ⟨b, 0, none⟩ = some (.int .i64 (hi Q5)) ∧ u.cell? ⟨b, 1, none⟩ = some (.int .u64 (lo Q5)) ∧ Tri w w.heap.size b a Q5 u)
          (first | exact YT.out.drew.s | exact (YT.out.drew.step hb).s | (refine Tri.s (Tri.step (Tri.of_s ?_) hb); assumption) | (refine Tri.s (Tri.far2 (Tri.of_s ?_) ng nb ng3 _); assumption))
          (first
            | (go_at_call 17; refine (of_eq _ _ E48.out ID.out _).mono ?_; rintro e w' ⟨rfl, hb⟩; (first | have yg := Lib.hid (yg.out.below hb (Blk.lt yg.out)) | have yg := Lib.hid (WBlk.below (w := World.drew _) yg.out hb (Blk.lt yg.out))))
            | (go_at_call 23; (with_reducible refine (plus_any Q5 Q5 Q10 W5.out W5.out E10.out _).mono ?_); rintro e w' ⟨rfl, hb⟩; (first | have yg := Lib.hid (yg.out.below hb (Blk.lt yg.out)) | have yg := Lib.hid (WBlk.below (w := World.drew _) yg.out hb (Blk.lt yg.out))))
            | (go_at_call 23; (with_reducible refine (plus_any Q10 _ _ W10.out (IsW_of_I64 ID.out) ER.out _).mono ?_); rintro e w' ⟨rfl, hb⟩; have yg := Lib.hid (yg.out.below hb (Blk.lt yg.out)); have v0 := yg.out.c0; have v1 := yg.out.c1; have v2 := yg.out.z0; have v3 := yg.out.z1))
        all_goals
          rename_i hs
          have HS2 := Lib.hid hs
          clear hs
          go_wp2_with fail
          exact ⟨⟨k + 1, by have := HF.out; omega, by omega, by simp, HS2.out.2.2.1, wblk_eq HQN.out (yg.out.set2 _), HS2.out.2.2.2.2⟩, by simp [intOf]; omega⟩
    · obtain rfl : k = S.size := by omega
      have R3 := Lib.hid (text_end_pos HT.out HA.out R2.out)
      have h0' : 0 ≤ hi a := by unfold hi; omega
      have yh := R1.out
      clear R2
      go_wp2_with fail
      refine (known_any _).mono ?_
      rintro e w2 ⟨rfl, hb⟩
      have q1 := R1.out.below hb (Blk.lt R1.out)
      have q2 := R3.out.below hb (Blk.lt R3.out)
      have HB := Lib.hid (chain2 RB.out hb)
      have c0 := q1.c0
      have c1 := q1.c1
      have c2 := q2.c0
      have c3 := q2.c1
      clear hb q1 q2 yh
      go_wp2_with fail
      · go_ret
        exact ⟨by simp; omega, HB.out⟩
      · rename_i hx hy
        exact absurd (text_zero HT.out HA.out HS.out z0 hx) hy
      · go_ret
        exact ⟨by simp; omega, HB.out⟩

set_option maxRecDepth 100000 in
set_option maxHeartbeats 8000000 in
theorem textlaw_neg (a : Int) (S : ByteArray) (ha : IsW a) (h0 : a < 0) (hS : S = ⟨(text a).toArray⟩) (w : World) :
    Calls Try.prog 7 #[Wd a] w fun e w' => e = .returned (.bool true) ∧ Below w.heap.size w w' := by
  have T : IsText S 1 (-a) := hS ▸ istext_neg a ha h0
  have z1 : 1 < S.size := by rw [T.size]; omega
  have z0 : 0 < S.size := by omega
  have z2 : S.size ≤ 40 := by rw [T.size]; have := top_39 (-a); omega
  have z3 : S.toList.isEmpty = false := by rw [ByteArray.toList_eq]; simp; intro h; simp [ByteArray.size, h] at z1
  have z4 : ((S[0].toNat : Int) == 45) = true := by
    have e : S[0]? = some 45 := by rw [hS, text_neg h0]; rfl
    have e2 : S[0] = 45 := by simpa [getElem?_pos S 0 z0] using e
    rw [e2]; decide
  have HS := Lib.hid hS
  have HT := Lib.hid T
  have HA := Lib.hid ha
  have e0 := hi0
  have e1 := lo0
  clear hS T ha
  go_enter Try.func7, Try.ntmps7
  go_wp2_with fail
  refine (text_str a S HA.out HS.out _).mono ?_
  rintro e w1 ⟨rfl, h1⟩
  go_wp2_with fail
  have y0 := h1.size
  simp only [World.size_alloc] at y0
  have hB : Below w.heap.size w (w1.alloc (Obj.cells #[.int .i64 0, .int .u64 0] 24)) := (((Below.refl _ w).alloc (Nat.le_refl _) _).trans (h1.mono (by simp))).alloc (by omega) _
  have r1 : WBlk (w1.alloc (Obj.cells #[.int .i64 0, .int .u64 0] 24)) w.heap.size a := ((WBlk.new w a).below h1 (by simp)).alloc _
  have r2 : WBlk (w1.alloc (Obj.cells #[.int .i64 0, .int .u64 0] 24)) w1.heap.size 0 := Blk.new _ _ _
  have G1 := Lib.hid r1
  have G2 := Lib.hid r2
  have GB := Lib.hid hB
  clear r1 r2 hB h1
  go_loopw [6] (fun q u => TextRel w w1.heap.size w.heap.size a S 1 (-a) q u) (fun q _ => S.size - (intOf q).toNat)
  case atStart => exact ⟨1, by omega, by omega, rfl, G1.out, text_start HT.out G2.out, GB.out⟩
  case round =>
    obtain ⟨k, hf, hk, rfl, r1, r2, rB⟩ := hrel
    have R1 := Lib.hid r1
    have R2 := Lib.hid r2
    have RB := Lib.hid rB
    clear r1 r2 rB G1 G2 GB
    by_cases hlt : k < S.size
    · have hd := HT.out.at_ k hlt hf
      have hb := dg_bd (-a) (1 + top (-a) 39 - k)
      have D := Lib.hid hd
      have d1 : 48 ≤ (S[k].toNat : Int) := by omega
      have d2 : (S[k].toNat : Int) ≤ 57 := by omega
      have k0 := R2.out.c0
      have k1 := R2.out.c1
      have HQ : Hid (Tri w w.heap.size w1.heap.size a _ _) := ⟨R1.out, R2.out, RB.out⟩
      have HF := Lib.hid hf
      have g0 := Blk.lt R2.out
      have g1 := RB.out.size
      clear hd hb hf R1 R2 RB
      generalize hq : Go.Proofs.Ytinejcoajebdjaa.wr ((-a) / 10 ^ (1 + top (-a) 39 + 1 - k)) = Q at *
      obtain ⟨Q2, hq2⟩ : ∃ q, Go.Proofs.Ytinejcoajebdjaa.wr (Q + Q) = q := ⟨_, rfl⟩
      obtain ⟨Q4, hq4⟩ : ∃ q, Go.Proofs.Ytinejcoajebdjaa.wr (Q2 + Q2) = q := ⟨_, rfl⟩
      obtain ⟨Q5, hq5⟩ : ∃ q, Go.Proofs.Ytinejcoajebdjaa.wr (Q4 + Q) = q := ⟨_, rfl⟩
      have W1 := Lib.hid (show IsW Q from hq ▸ wr_IsW _)
      have W2 := Lib.hid (show IsW Q2 from hq2 ▸ wr_IsW _)
      have W4 := Lib.hid (show IsW Q4 from hq4 ▸ wr_IsW _)
      have W5 := Lib.hid (show IsW Q5 from hq5 ▸ wr_IsW _)
      have E1 := Lib.hid hq
      have E2 := Lib.hid hq2
      have E4 := Lib.hid hq4
      have E5 := Lib.hid hq5
      clear hq hq2 hq4 hq5
      go_wp2_with fail
      go_cut [7] (fun s7 wx => TenRel w w.heap.size w1.heap.size a Q Q5 s7 wx)
      case first =>
        go_region_held3 (fun u => u.cell? ⟨w1.heap.size, 0, none⟩ = some (.int .i64 (hi Q)) ∧ u.cell? ⟨w1.heap.size, 1, none⟩ = some (.int .u64 (lo Q)) ∧ Tri w w.heap.size w1.heap.size a Q u)
          (first | exact HQ.out.drew.s | exact (HQ.out.drew.step hb).s | (refine Tri.s (Tri.step (Tri.of_s ?_) hb); assumption) | exact (HQ.out.drew.alloc _).s | exact (HQ.out.alloc _).drew.s | exact ((HQ.out.alloc _).drew.step hb).s | (refine Tri.s (Tri.alloc (Tri.of_s ?_) _); assumption) | (refine Tri.s (tri_realloc (o := .cells #[.int .i64 0, .int .u64 0] 24) (Tri.of_s ?_) ?_ ?_ ?_ _) <;> first | assumption | omega) | (refine Tri.s (Tri.far2 (Tri.of_s ?_) ?_ ?_ ?_ _) <;> first | assumption | omega))
          (first
            | (go_at_call 23; (with_reducible refine (plus_any Q Q Q2 W1.out W1.out E2.out _).mono ?_); rintro e w' ⟨rfl, hb⟩; have hz := hb.size; (try simp at hz); (try have zb := Lib.hid (zb_new hb)); (try have zb := Lib.hid (zb_newd hb)); (try have zb := Lib.hid (zb_step zb.out hb)))
            | (go_at_call 23; (with_reducible refine (plus_any Q2 Q2 Q4 W2.out W2.out E4.out _).mono ?_); rintro e w' ⟨rfl, hb⟩; have hz := hb.size; (try simp at hz); (try have zb := Lib.hid (zb_new hb)); (try have zb := Lib.hid (zb_newd hb)); (try have zb := Lib.hid (zb_step zb.out hb)))
            | (go_at_call 23; (with_reducible refine (plus_any Q4 Q Q5 W4.out W1.out E5.out _).mono ?_); rintro e w' ⟨rfl, hb⟩; have hz := hb.size; (try simp at hz); (try have zb := Lib.hid (zb_new hb)); (try have zb := Lib.hid (zb_newd hb)); (try have zb := Lib.hid (zb_step zb.out hb)); (try (have zc0 := zb.out.c0; have zc1 := zb.out.c1; have zf0 := zb.out.z0; have zf1 := zb.out.z1))))
        all_goals
          go_wp2_with fail
          go_meet
          first
            | (refine ten_new ?_ ?_ ?_ ?_ <;> first | assumption | omega)
            | (refine ten_set ?_ ?_ ?_ zb.out ?_ <;> first | assumption | omega)
      case rest =>
        obtain ⟨b, rfl, n1, n2, n3, bQ, bT⟩ := hcut
        have YT : Hid (Tri w w.heap.size b a Q5 _) := ⟨bT.1, bQ, bT.2.2⟩
        have yg := Lib.hid bT.2.1
        have ng : w.heap.size ≠ w1.heap.size := by omega
        have ng3 : w.heap.size ≤ w1.heap.size := by omega
        have nb : b ≠ w1.heap.size := fun e => n2 e.symm
        have k2 := bQ.c0
        have k3 := bQ.c1
        have i0 : (0 : Int) ≤ (k : Int) := by omega
        have i1 : (k : Int) < (S.size : Int) := by omega
        have R := text_round HT.out hlt HF.out E1.out E2.out E4.out E5.out D.out
        obtain ⟨Q10, hq10⟩ : ∃ q, Go.Proofs.Ytinejcoajebdjaa.wr (Q5 + Q5) = q := ⟨_, rfl⟩
        rw [hq10] at R
        generalize hqn : Go.Proofs.Ytinejcoajebdjaa.wr ((-a) / 10 ^ (1 + top (-a) 39 + 1 - (k + 1))) = Qn at R
        have HQN := Lib.hid hqn
        clear hqn
        have W10 := Lib.hid (show IsW Q10 from hq10 ▸ wr_IsW _)
        have E10 := Lib.hid hq10
        have ER := Lib.hid R
        have ID := Lib.hid (show I64 ((S[k].toNat : Int) - 48) by unfold I64; omega)
        have E48 := Lib.hid (show IntKind.i64.wrap (IntKind.u8.wrap ((S[k].toNat : Int) - 48)) = (S[k].toNat : Int) - 48 by rw [u8_48 d1 d2, i64_48 d1 d2])
        clear R hq10 bT bQ k0 k1
        go_wp2_with fail
        go_region_held3 (fun u => u.cell? ⟨b, 0, none⟩ = some (.int .i64 (hi Q5)) ∧ u.cell? ⟨b, 1, none⟩ = some (.int .u64 (lo Q5)) ∧ Tri w w.heap.size b a Q5 u)
          (first | exact YT.out.drew.s | exact (YT.out.drew.step hb).s | (refine Tri.s (Tri.step (Tri.of_s ?_) hb); assumption) | (refine Tri.s (Tri.far2 (Tri.of_s ?_) ng nb ng3 _); assumption))
          (first
            | (go_at_call 17; refine (of_eq _ _ E48.out ID.out _).mono ?_; rintro e w' ⟨rfl, hb⟩; (first | have yg := Lib.hid (yg.out.below hb (Blk.lt yg.out)) | have yg := Lib.hid (WBlk.below (w := World.drew _) yg.out hb (Blk.lt yg.out))))
            | (go_at_call 23; (with_reducible refine (plus_any Q5 Q5 Q10 W5.out W5.out E10.out _).mono ?_); rintro e w' ⟨rfl, hb⟩; (first | have yg := Lib.hid (yg.out.below hb (Blk.lt yg.out)) | have yg := Lib.hid (WBlk.below (w := World.drew _) yg.out hb (Blk.lt yg.out))))
            | (go_at_call 23; (with_reducible refine (plus_any Q10 _ _ W10.out (IsW_of_I64 ID.out) ER.out _).mono ?_); rintro e w' ⟨rfl, hb⟩; have yg := Lib.hid (yg.out.below hb (Blk.lt yg.out)); have v0 := yg.out.c0; have v1 := yg.out.c1; have v2 := yg.out.z0; have v3 := yg.out.z1))
        all_goals
          rename_i hs
          have HS2 := Lib.hid hs
          clear hs
          go_wp2_with fail
          exact ⟨⟨k + 1, by have := HF.out; omega, by omega, by simp, HS2.out.2.2.1, wblk_eq HQN.out (yg.out.set2 _), HS2.out.2.2.2.2⟩, by simp [intOf]; omega⟩
    · obtain rfl : k = S.size := by omega
      have R3 := Lib.hid (text_end_neg HT.out R2.out)
      have h0' : hi a < 0 := by unfold hi; omega
      have ng3 : w.heap.size ≤ w1.heap.size := by omega
      have ng : w.heap.size ≠ w1.heap.size := by omega
      have E3 := Lib.hid (wr_neg2 a HA.out)
      have LZ : ((S[1].toNat : Int) == 48) = false := by
        have e := HT.out.at_ 1 z1 (by omega)
        have := lead_zero (-a) HT.out.N0 HT.out.N1
        rw [show 1 + top (-a) 39 - 1 = top (-a) 39 by omega] at e
        simp; intro hx; have := this (by omega); omega
      have LZ2 : ((S[1].toNat : Int) != 48) = true := by simpa using LZ
      have i1 : (1 : Int) < (S.size : Int) := by omega
      have c2 := R3.out.c0
      have c3 := R3.out.c1
      clear R2
      go_wp2_with fail
      refine (minus0 (Go.Proofs.Ytinejcoajebdjaa.wr (-a)) a (wr_IsW _) E3.out _).mono ?_
      rintro e w3 ⟨rfl, hb⟩
      have q1 := Lib.hid (R1.out.below hb (Blk.lt R1.out))
      have q3 := Lib.hid (R3.out.below hb (Blk.lt R3.out))
      have HB3 := Lib.hid (chain2 RB.out hb)
      clear hb c2 c3
      have c2 := q3.out.c0
      have c3 := q3.out.c1
      have v2 := q3.out.z0
      have v3 := q3.out.z1
      go_wp2_with fail
      have q4 := Lib.hid (q1.out.far2 ng a)
      have q5 := Lib.hid (q3.out.set2 a)
      have HB4 := Lib.hid (below_set2 HB3.out ng3 a)
      clear c2 c3 v2 v3
      refine (known_any _).mono ?_
      rintro e w2 ⟨rfl, hb⟩
      have y1 := q4.out.below hb (Blk.lt q4.out)
      have y2 := q5.out.below hb (Blk.lt q5.out)
      have HB := Lib.hid (chain2 HB4.out hb)
      have c0 := y1.c0
      have c1 := y1.c1
      have c2 := y2.c0
      have c3 := y2.c1
      clear hb y1 y2
      go_wp2_with fail
      go_ret
      exact ⟨by simp; omega, HB.out⟩

theorem textlaw_walk (a : Int) (ha : IsW a) (w : World) :
    Calls Try.prog 7 #[Wd a] w fun e w' => e = .returned (.bool true) ∧ Below w.heap.size w w' := by
  by_cases h : 0 ≤ a
  · exact textlaw_pos a _ ha h rfl w
  · exact textlaw_neg a _ ha (by omega) rfl w
end Go.Proofs.Ytinejcoajebdjaa
