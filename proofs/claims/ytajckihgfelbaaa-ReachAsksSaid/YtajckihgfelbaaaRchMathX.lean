/- Plain facts on who comes to whom. No program in sight. -/
import Derived.Test.YtajckihgfelbaaaAdjMath
namespace Go.Proofs.Ytajckihgfelbaaa.Rch
open Go Go.Proofs.Ytajckihgfelbaaa.Inst Go.Proofs.Ytajckihgfelbaaa.Adj

/-- An arc goes from the one to the other. -/
def ArcTo (I : InstD) (a b : Nat) : Prop := ∃ k : Nat, fitD I (k : Int) = true ∧ (arcAt I.arcs k).frm = (a : Int) ∧ (arcAt I.arcs k).to = (b : Int)
theorem fit_parts {I : InstD} {a : Int} (h : fitD I a = true) : 0 ≤ a ∧ a < I.arcs.length ∧ 0 ≤ (arcAt I.arcs a.toNat).frm ∧ (arcAt I.arcs a.toNat).frm < I.sup.length ∧ 0 ≤ (arcAt I.arcs a.toNat).to ∧ (arcAt I.arcs a.toNat).to < I.sup.length := by
  unfold fitD at h
  exact of_decide_eq_true h
theorem ArcTo.lt {I : InstD} {a b : Nat} (h : ArcTo I a b) : a < I.sup.length ∧ b < I.sup.length := by
  obtain ⟨k, hf, h1, h2⟩ := h
  have := fit_parts hf
  simp only [Int.toNat_natCast] at this
  omega

inductive Way (R : Nat → Nat → Prop) : Nat → Nat → Prop where
  | refl (a : Nat) : Way R a a
  | step {a b c : Nat} : Way R a b → R b c → Way R a c
section
variable {R : Nat → Nat → Prop} {a b c : Nat}
theorem Way.one (h : R a b) : Way R a b := .step (.refl a) h
theorem Way.trans (h : Way R a b) (g : Way R b c) : Way R a c := by
  induction g with
  | refl => exact h
  | step _ r ih => exact .step ih r
theorem Way.head (h : R a b) (g : Way R b c) : Way R a c := (Way.one h).trans g
/-- Backwards. -/
theorem Way.back (h : Way R a b) : Way (fun x y => R y x) b a := by
  induction h with
  | refl => exact .refl _
  | step _ r ih => exact Way.head r ih
theorem way_back : Way (fun x y => R y x) a b ↔ Way R b a := ⟨fun h => h.back, fun h => h.back⟩
theorem Way.inv {p : Nat → Prop} (h : Way R a b) (ha : p a) (hs : ∀ x y, p x → R x y → p y) : p b := by
  induction h with
  | refl => exact ha
  | step _ r ih => exact hs _ _ ih r
theorem Way.mono {S : Nat → Nat → Prop} (h : Way R a b) (hs : ∀ x y, R x y → S x y) : Way S a b := by
  induction h with
  | refl => exact .refl _
  | step _ r ih => exact .step ih (hs _ _ r)
/-- Out of a set: there is an arc that leaves it. -/
theorem Way.leaves {p : Nat → Prop} (h : Way R a b) (ha : p a) (hb : ¬ p b) : ∃ x y, Way R a x ∧ p x ∧ R x y ∧ ¬ p y ∧ Way R y b := by
  induction h with
  | refl => exact absurd ha hb
  | @step b c h r ih =>
    by_cases q : p b
    · exact ⟨b, c, h, q, r, hb, .refl _⟩
    · obtain ⟨x, y, h1, h2, h3, h4, h5⟩ := ih q
      exact ⟨x, y, h1, h2, h3, h4, .step h5 r⟩
end
theorem Way.lt {I : InstD} {a b : Nat} (h : Way (ArcTo I) a b) (ha : a < I.sup.length) : b < I.sup.length := h.inv (p := fun x => x < I.sup.length) ha (fun _ _ _ r => r.lt.2)
theorem Way.lt' {I : InstD} {a b : Nat} (h : Way (ArcTo I) a b) (hb : b < I.sup.length) : a < I.sup.length := by
  cases h with
  | refl => exact hb
  | step h r =>
    have := way_back.2 h
    exact this.inv (p := fun x => x < I.sup.length) r.lt.1 (fun _ _ _ r => r.lt.1)

/-! ### What is told -/
noncomputable def yes (p : Prop) : Bool := @decide p (Classical.propDecidable p)
theorem yes_iff {p : Prop} : yes p = true ↔ p := by unfold yes; exact @decide_eq_true_iff p (Classical.propDecidable p)
theorem yes_true {p : Prop} (h : p) : yes p = true := yes_iff.2 h
theorem yes_false {p : Prop} (h : ¬ p) : yes p = false := by
  cases e : yes p with
  | false => rfl
  | true => exact absurd (yes_iff.1 e) h
theorem yes_not {p : Prop} : yes p = false ↔ ¬ p := ⟨fun h q => Bool.noConfusion ((yes_true q).symm.trans h), yes_false⟩
theorem yes_same {p q : Prop} (h : p ↔ q) : yes p = yes q := by
  by_cases c : p
  · rw [yes_true c, yes_true (h.1 c)]
  · rw [yes_false c, yes_false (fun x => c (h.2 x))]
theorem yes_dec {p : Prop} {_ : Decidable p} : yes p = decide p := by
  by_cases c : p
  · rw [yes_true c, decide_eq_true c]
  · rw [yes_false c, decide_eq_false c]

/-- One of some comes to it. -/
def Hit (N : Nat) (R : Nat → Nat → Prop) (some : List Int) (n : Nat) : Prop := ∃ a : Nat, (a : Int) ∈ some ∧ a < N ∧ Way R a n
noncomputable def metL (N : Nat) (R : Nat → Nat → Prop) (some : List Int) : List Bool := (List.range N).map fun n => yes (Hit N R some n)
theorem metL_length (N : Nat) (R : Nat → Nat → Prop) (some : List Int) : (metL N R some).length = N := by simp [metL]
theorem metL_at (N : Nat) (R : Nat → Nat → Prop) (some : List Int) (n : Nat) (h : n < (metL N R some).length) : (metL N R some)[n] = yes (Hit N R some n) := by simp [metL]
abbrev Fro (I : InstD) : Nat → Nat → Prop := fun a b => ArcTo I b a
noncomputable def fromL (I : InstD) (some : List Int) : List Bool := metL I.sup.length (ArcTo I) some
noncomputable def toL (I : InstD) (some : List Int) : List Bool := metL I.sup.length (Fro I) some
/-- A list of marks is this one. -/
theorem marks_eq {N : Nat} {p : Nat → Prop} {l : List Bool} (hl : l.length = N) (h : ∀ n (hn : n < l.length), l[n] = true ↔ p n) : l = (List.range N).map fun n => yes (p n) := by
  apply List.ext_getElem
  · simp [hl]
  · intro i h1 h2
    simp only [List.getElem_map, List.getElem_range]
    have := h i h1
    by_cases c : p i
    · rw [yes_true c, this.2 c]
    · rw [yes_false c]
      cases e : l[i] with
      | false => rfl
      | true => exact absurd (this.1 e) c

/-- They come to one another. -/
def Mut (I : InstD) (a b : Nat) : Prop := Way (ArcTo I) a b ∧ Way (ArcTo I) b a
theorem Mut.refl (I : InstD) (a : Nat) : Mut I a a := ⟨.refl a, .refl a⟩
theorem Mut.symm {I : InstD} {a b : Nat} (h : Mut I a b) : Mut I b a := ⟨h.2, h.1⟩
theorem Mut.trans {I : InstD} {a b c : Nat} (h : Mut I a b) (g : Mut I b c) : Mut I a c := ⟨h.1.trans g.1, g.2.trans h.2⟩
/-- The least of them. -/
noncomputable def strongN (I : InstD) (n : Nat) : Nat := ((List.range n).find? fun m => yes (Mut I m n)).getD n
theorem strong_spec (I : InstD) (n : Nat) : Mut I (strongN I n) n ∧ strongN I n ≤ n ∧ ∀ m, m < strongN I n → ¬ Mut I m n := by
  unfold strongN
  cases e : (List.range n).find? fun m => yes (Mut I m n) with
  | none =>
    refine ⟨Mut.refl I n, Nat.le_refl _, fun m hm q => ?_⟩
    have := List.find?_eq_none.1 e m (by simpa using hm)
    exact this (yes_true q)
  | some s =>
    have h1 := List.find?_some e
    have h2 := List.mem_of_find?_eq_some e
    refine ⟨yes_iff.1 h1, by simp at h2; simp; omega, fun m hm q => ?_⟩
    simp only [Option.getD_some] at hm
    obtain ⟨_, as, bs, ha, hb⟩ := List.find?_eq_some_iff_append.1 e
    have hs : s < n := by simpa using h2
    have ms : m ∈ as := by
      have hl : ∀ i (h : i < as.length), as[i] = i := by
        intro i h
        have : (List.range n)[i]? = some as[i] := by rw [ha, List.getElem?_append_left h]; exact List.getElem?_eq_getElem h
        rw [List.getElem?_range (by have := congrArg List.length ha; simp at this; omega)] at this
        simpa using this.symm
      have hsl : as.length = s := by
        have : (List.range n)[as.length]? = some s := by rw [ha, List.getElem?_append_right (Nat.le_refl _)]; simp
        rw [List.getElem?_range (by have := congrArg List.length ha; simp at this; omega)] at this
        simpa using this
      have : as[m]'(by omega) = m := hl m (by omega)
      rw [← this]
      exact List.getElem_mem _
    have := hb m ms
    rw [yes_true q] at this
    cases this
theorem strong_eq {I : InstD} {n s : Nat} (h1 : Mut I s n) (h2 : ∀ m, m < s → ¬ Mut I m n) : strongN I n = s := by
  obtain ⟨g1, _, g3⟩ := strong_spec I n
  rcases Nat.lt_trichotomy (strongN I n) s with h | h | h
  · exact absurd g1 (h2 _ h)
  · exact h
  · exact absurd h1 (g3 _ h)
theorem strong_same {I : InstD} {a b : Nat} : strongN I a = strongN I b ↔ Mut I a b := by
  constructor
  · intro h
    have h1 := (strong_spec I a).1
    have h2 := (strong_spec I b).1
    rw [← h] at h2
    exact h1.symm.trans h2
  · intro h
    refine strong_eq ((strong_spec I b).1.trans h.symm) (fun m hm q => (strong_spec I b).2.2 m hm (q.trans h))
noncomputable def strongL (I : InstD) : List Nat := (List.range I.sup.length).map (strongN I)
theorem strongL_length (I : InstD) : (strongL I).length = I.sup.length := by simp [strongL]
/-- An arc that lies on a way back. -/
def BackP (I : InstD) (a : Nat) : Prop := fitD I (a : Int) = true ∧ Way (ArcTo I) (arcAt I.arcs a).to.toNat (arcAt I.arcs a).frm.toNat
noncomputable def backL (I : InstD) : List Bool := (List.range I.arcs.length).map fun a => yes (BackP I a)
theorem backL_length (I : InstD) : (backL I).length = I.arcs.length := by simp [backL]
theorem fit_nats {I : InstD} {a : Nat} (h : fitD I (a : Int) = true) : ∃ x y : Nat, (arcAt I.arcs a).frm = (x : Int) ∧ (arcAt I.arcs a).to = (y : Int) ∧ x < I.sup.length ∧ y < I.sup.length ∧ a < I.arcs.length ∧ ArcTo I x y := by
  have q := fit_parts h
  simp only [Int.toNat_natCast] at q
  refine ⟨(arcAt I.arcs a).frm.toNat, (arcAt I.arcs a).to.toNat, by omega, by omega, by omega, by omega, by omega, a, h, by omega, by omega⟩
theorem back_strong {I : InstD} {a x y : Nat} (h : fitD I (a : Int) = true) (hx : (arcAt I.arcs a).frm = (x : Int)) (hy : (arcAt I.arcs a).to = (y : Int)) : BackP I a ↔ strongN I x = strongN I y := by
  unfold BackP
  rw [strong_same, hx, hy]
  simp only [Int.toNat_natCast]
  have o : ArcTo I x y := ⟨a, h, hx, hy⟩
  exact ⟨fun q => ⟨Way.one o, q.2⟩, fun q => ⟨h, q.2⟩⟩

/-! ### Which nodes come next -/
def outN (I : InstD) (n : Nat) : List Nat := (outD I (n : Int)).map fun (a : Nat) => (otherD I (a : Int) (n : Int)).toNat
def insN (I : InstD) (n : Nat) : List Nat := (inD I (n : Int)).map fun (a : Nat) => (otherD I (a : Int) (n : Int)).toNat
theorem mem_someD {I : InstD} {n : Int} {o i : Bool} {a : Nat} : a ∈ someD I n o i ↔ fitD I (a : Int) = true ∧ touch o i n (arcAt I.arcs a) = true := by
  unfold someD someN
  rw [List.mem_filter]
  simp only [Bool.and_eq_true, List.mem_range]
  constructor
  · rintro ⟨_, h⟩; exact h
  · rintro ⟨h1, h2⟩
    have := fit_parts h1
    exact ⟨by omega, h1, h2⟩
theorem other_out {I : InstD} {n a : Nat} (h : a ∈ outD I (n : Int)) : otherD I (a : Int) (n : Int) = (arcAt I.arcs a).to := by
  obtain ⟨h1, h2⟩ := mem_someD.1 h
  unfold otherD
  rw [if_neg (by rw [h1]; simp)]
  simp only [Int.toNat_natCast]
  have : (arcAt I.arcs a).frm = (n : Int) := by unfold touch at h2; simpa using h2
  rw [if_pos this]
theorem other_in {I : InstD} {n a : Nat} (h : a ∈ inD I (n : Int)) : otherD I (a : Int) (n : Int) = (arcAt I.arcs a).frm := by
  obtain ⟨h1, h2⟩ := mem_someD.1 h
  unfold otherD
  rw [if_neg (by rw [h1]; simp)]
  simp only [Int.toNat_natCast]
  have : (arcAt I.arcs a).to = (n : Int) := by unfold touch at h2; simpa using h2
  by_cases c : (arcAt I.arcs a).frm = (n : Int)
  · rw [if_pos c, this, c]
  · rw [if_neg c, if_pos this]
theorem mem_outN {I : InstD} {n m : Nat} : m ∈ outN I n ↔ ArcTo I n m := by
  unfold outN
  rw [List.mem_map]
  constructor
  · rintro ⟨a, ha, rfl⟩
    rw [other_out ha]
    obtain ⟨h1, h2⟩ := mem_someD.1 ha
    obtain ⟨x, y, hx, hy, _⟩ := fit_nats h1
    refine ⟨a, h1, by unfold touch at h2; simpa using h2, by rw [hy]; simp⟩
  · rintro ⟨k, h1, h2, h3⟩
    have ha : k ∈ outD I (n : Int) := mem_someD.2 ⟨h1, by unfold touch; simp [h2]⟩
    exact ⟨k, ha, by rw [other_out ha, h3]; simp⟩
theorem mem_insN {I : InstD} {n m : Nat} : m ∈ insN I n ↔ ArcTo I m n := by
  unfold insN
  rw [List.mem_map]
  constructor
  · rintro ⟨a, ha, rfl⟩
    rw [other_in ha]
    obtain ⟨h1, h2⟩ := mem_someD.1 ha
    obtain ⟨x, y, hx, hy, _⟩ := fit_nats h1
    refine ⟨a, h1, by rw [hx]; simp, by unfold touch at h2; simpa using h2⟩
  · rintro ⟨k, h1, h2, h3⟩
    have ha : k ∈ inD I (n : Int) := mem_someD.2 ⟨h1, by unfold touch; simp [h3]⟩
    exact ⟨k, ha, by rw [other_in ha, h2]; simp⟩
theorem outN_length (I : InstD) (n : Nat) : (outN I n).length ≤ I.arcs.length := by unfold outN; rw [List.length_map]; exact someN_length I _ _ _ _
theorem insN_length (I : InstD) (n : Nat) : (insN I n).length ≤ I.arcs.length := by unfold insN; rw [List.length_map]; exact someN_length I _ _ _ _
end Go.Proofs.Ytajckihgfelbaaa.Rch
/- Marks by rounds: after as many rounds as nodes nothing is new. No program in sight. -/
namespace Go.Proofs.Ytajckihgfelbaaa.Rch
open Go Go.Proofs.Ytajckihgfelbaaa.Inst Go.Proofs.Ytajckihgfelbaaa.Adj

def onB (S : List Bool) (n : Nat) : Bool := S.getD n false
theorem onB_lt {S : List Bool} {n : Nat} (h : onB S n = true) : n < S.length := by
  unfold onB at h
  rcases Nat.lt_or_ge n S.length with q | q
  · exact q
  · simp [List.getD_eq_getElem?_getD, List.getElem?_eq_none q] at h
theorem onB_at {S : List Bool} {n : Nat} (h : n < S.length) : onB S n = S[n] := by simp [onB, h]
theorem onB_set (S : List Bool) (i n : Nat) (hi : i < S.length) : onB (S.set i true) n = true ↔ n = i ∨ onB S n = true := by
  unfold onB
  by_cases c : i = n
  · subst c; simp [hi]
  · have c2 : n ≠ i := fun e => c e.symm
    simp [c, c2]
theorem onB_set_false {S : List Bool} {i : Nat} (hi : i < S.length) (n : Nat) : onB (S.set i true) n = if n = i then true else onB S n := by
  by_cases c : n = i
  · rw [if_pos c]
    exact (onB_set S i n hi).2 (.inl c)
  · rw [if_neg c]
    cases e : onB S n with
    | true => exact (onB_set S i n hi).2 (.inr e)
    | false =>
      cases e2 : onB (S.set i true) n with
      | false => rfl
      | true =>
        rcases (onB_set S i n hi).1 e2 with h | h
        · exact absurd h c
        · rw [e] at h; cases h
theorem onB_none (N n : Nat) : onB (List.replicate N false) n = false := by
  unfold onB
  rw [List.getD_eq_getElem?_getD, List.getElem?_replicate]
  split <;> rfl
def cnt (S : List Bool) : Nat := S.countP fun b => b
theorem cnt_le : ∀ (S T : List Bool), S.length = T.length → (∀ n, onB S n = true → onB T n = true) → cnt S ≤ cnt T
  | [], [], _, _ => Nat.le_refl _
  | a :: S, b :: T, hl, h => by
    have ih := cnt_le S T (by simpa using hl) (fun n hn => h (n + 1) hn)
    have h0 := h 0
    unfold cnt at ih ⊢
    rw [List.countP_cons, List.countP_cons]
    cases a <;> cases b <;> simp [onB] at h0 ⊢ <;> omega
theorem cnt_lt : ∀ (S T : List Bool), S.length = T.length → (∀ n, onB S n = true → onB T n = true) → ∀ m, onB S m = false → onB T m = true → cnt S < cnt T
  | [], [], _, _, m, _, h2 => by simp [onB] at h2
  | a :: S, b :: T, hl, h, 0, h1, h2 => by
    have ih := cnt_le S T (by simpa using hl) (fun n hn => h (n + 1) hn)
    unfold cnt at ih ⊢
    rw [List.countP_cons, List.countP_cons]
    simp [onB] at h1 h2
    subst h1 h2
    simp
    omega
  | a :: S, b :: T, hl, h, m + 1, h1, h2 => by
    have ih := cnt_lt S T (by simpa using hl) (fun n hn => h (n + 1) hn) m h1 h2
    have h0 := h 0
    unfold cnt at ih ⊢
    rw [List.countP_cons, List.countP_cons]
    cases a <;> cases b <;> simp [onB] at h0 ⊢ <;> omega
theorem cnt_len (S : List Bool) : cnt S ≤ S.length := List.countP_le_length
theorem cnt_all {S : List Bool} (h : S.length ≤ cnt S) (n : Nat) (hn : n < S.length) : onB S n = true := by
  have q := List.countP_eq_length.1 (Nat.le_antisymm List.countP_le_length h)
  rw [onB_at hn]
  exact q _ (List.getElem_mem hn)

/-- The ends, as a round goes. -/
def endA (back : Bool) (x : ArcD) : Int := if back = true then x.to else x.frm
def endB (back : Bool) (x : ArcD) : Int := if back = true then x.frm else x.to
def Rel (I : InstD) (back : Bool) (a b : Nat) : Prop := ∃ k : Nat, fitD I (k : Int) = true ∧ endA back (arcAt I.arcs k) = (a : Int) ∧ endB back (arcAt I.arcs k) = (b : Int)
theorem rel_to (I : InstD) : Rel I false = ArcTo I := by
  funext a b
  exact propext ⟨fun ⟨k, h1, h2, h3⟩ => ⟨k, h1, h2, h3⟩, fun ⟨k, h1, h2, h3⟩ => ⟨k, h1, h2, h3⟩⟩
theorem rel_fro (I : InstD) : Rel I true = Fro I := by
  funext a b
  exact propext ⟨fun ⟨k, h1, h2, h3⟩ => ⟨k, h1, h3, h2⟩, fun ⟨k, h1, h2, h3⟩ => ⟨k, h1, h3, h2⟩⟩
/-- Marks, ahead of round r. -/
structure RoundIs (I : InstD) (back : Bool) (some : List Int) (S : List Bool) (r : Nat) : Prop where
  len : S.length = I.sup.length
  sound : ∀ n, onB S n = true → Hit I.sup.length (Rel I back) some n
  seeds : ∀ a : Nat, (a : Int) ∈ some → a < I.sup.length → onB S a = true
  prog : (∀ a b, Rel I back a b → onB S a = true → onB S b = true) ∨ r ≤ cnt S
/-- .. within a round, ahead of arc k; S0: as they were ahead of it. -/
structure MidIs (I : InstD) (back : Bool) (some : List Int) (S0 S : List Bool) (k : Nat) : Prop where
  len : S.length = I.sup.length
  sound : ∀ n, onB S n = true → Hit I.sup.length (Rel I back) some n
  more : ∀ n, onB S0 n = true → onB S n = true
  done : ∀ j : Nat, j < k → fitD I (j : Int) = true → ∀ a b : Nat, endA back (arcAt I.arcs j) = (a : Int) → endB back (arcAt I.arcs j) = (b : Int) → onB S0 a = true → onB S b = true
theorem RoundIs.mid {I : InstD} {back : Bool} {some : List Int} {S : List Bool} {r : Nat} (h : RoundIs I back some S r) : MidIs I back some S S 0 := ⟨h.len, h.sound, fun _ h => h, fun j hj => by omega⟩
theorem MidIs.skip {I : InstD} {back : Bool} {some : List Int} {S0 S : List Bool} {k : Nat} (h : MidIs I back some S0 S k) (hk : ∀ a b : Nat, fitD I (k : Int) = true → endA back (arcAt I.arcs k) = (a : Int) → endB back (arcAt I.arcs k) = (b : Int) → onB S a = false) : MidIs I back some S0 S (k + 1) := by
  refine ⟨h.len, h.sound, h.more, fun j hj hf a b h1 h2 h3 => ?_⟩
  by_cases c : j = k
  · subst c
    have := hk a b hf h1 h2
    rw [h.more a h3] at this
    cases this
  · exact h.done j (by omega) hf a b h1 h2 h3
theorem MidIs.mark {I : InstD} {back : Bool} {some : List Int} {S0 S : List Bool} {k a b : Nat} (h : MidIs I back some S0 S k) (hf : fitD I (k : Int) = true) (h1 : endA back (arcAt I.arcs k) = (a : Int)) (h2 : endB back (arcAt I.arcs k) = (b : Int)) (hb : b < S.length) (ha : onB S a = true) : MidIs I back some S0 (S.set b true) (k + 1) := by
  refine ⟨by rw [List.length_set]; exact h.len, fun n hn => ?_, fun n hn => (onB_set S b n hb).2 (.inr (h.more n hn)), fun j hj hfj a' b' e1 e2 e3 => ?_⟩
  · rcases (onB_set S b n hb).1 hn with e | e
    · subst e
      obtain ⟨s, hs, hl, hw⟩ := h.sound a ha
      exact ⟨s, hs, hl, .step hw ⟨k, hf, h1, h2⟩⟩
    · exact h.sound n e
  · refine (onB_set S b b' hb).2 ?_
    by_cases c : j = k
    · subst c
      left
      rw [h2] at e2
      omega
    · exact .inr (h.done j (by omega) hfj a' b' e1 e2 e3)
theorem MidIs.next {I : InstD} {back : Bool} {some : List Int} {S0 S : List Bool} {r : Nat} (h0 : RoundIs I back some S0 r) (h : MidIs I back some S0 S I.arcs.length) : RoundIs I back some S (r + 1) := by
  refine ⟨h.len, h.sound, fun a h1 h2 => h.more a (h0.seeds a h1 h2), ?_⟩
  have step : ∀ a b, Rel I back a b → onB S0 a = true → onB S b = true := by
    rintro a b ⟨k, hf, h1, h2⟩ h3
    have := fit_parts hf
    exact h.done k (by omega) hf a b h1 h2 h3
  by_cases c : ∀ n, onB S n = true → onB S0 n = true
  · exact .inl fun a b hr ha => step a b hr (c a ha)
  · right
    obtain ⟨n, hn⟩ := Classical.not_forall.1 c
    obtain ⟨h1, h2⟩ := Classical.not_imp.1 hn
    have h2 : onB S0 n = false := by simpa using h2
    have lt := cnt_lt S0 S (by rw [h0.len, h.len]) h.more n h2 h1
    rcases h0.prog with q | q
    · -- what was closed stays as it was: then nothing is new
      exfalso
      obtain ⟨s, hs, hl, hw⟩ := h.sound n h1
      have : onB S0 n = true := hw.inv (p := fun x => onB S0 x = true) (h0.seeds s hs hl) (fun x y hx hr => q x y hr hx)
      rw [h2] at this
      cases this
    · omega
theorem RoundIs.all {I : InstD} {back : Bool} {some : List Int} {S : List Bool} {r : Nat} (h : RoundIs I back some S r) (hr : I.sup.length ≤ r) : S = metL I.sup.length (Rel I back) some := by
  have cl : ∀ a b, Rel I back a b → onB S a = true → onB S b = true := by
    rcases h.prog with q | q
    · exact q
    · rintro a b ⟨k, hf, h1, h2⟩ _
      have q2 := fit_parts hf
      simp only [Int.toNat_natCast] at q2
      refine cnt_all (by rw [h.len]; omega) b ?_
      rw [h.len]
      unfold endB at h2
      split at h2 <;> omega
  refine marks_eq h.len (fun n hn => ?_)
  rw [← onB_at hn]
  constructor
  · exact h.sound n
  · rintro ⟨a, ha, hl, hw⟩
    exact hw.inv (p := fun x => onB S x = true) (h.seeds a ha hl) (fun x y hx hxy => cl x y hxy hx)
end Go.Proofs.Ytajckihgfelbaaa.Rch
/- One by one: what is left to do, and what was met. No program in sight. -/
namespace Go.Proofs.Ytajckihgfelbaaa.Rch
open Go Go.Proofs.Ytajckihgfelbaaa.Inst Go.Proofs.Ytajckihgfelbaaa.Adj

/-- What nodes that are not met yet may still bring. -/
def wtFrom (next : Nat → List Nat) (S : List Bool) : Nat → Nat
  | 0 => 0
  | k + 1 => wtFrom next S k + if onB S k = true then 0 else 2 + (next k).length
def wt (next : Nat → List Nat) (S : List Bool) : Nat := wtFrom next S S.length
theorem wtFrom_set (next : Nat → List Nat) (S : List Bool) (n : Nat) (hn : n < S.length) (hS : onB S n = false) : ∀ k, wtFrom next (S.set n true) k + (if n < k then 2 + (next n).length else 0) = wtFrom next S k
  | 0 => by simp [wtFrom]
  | k + 1 => by
    have ih := wtFrom_set next S n hn hS k
    have e := onB_set_false hn k
    unfold wtFrom
    rw [e]
    by_cases c : k = n
    · subst c
      rw [hS] at e ⊢
      simp at ih ⊢
      omega
    · rw [if_neg c]
      have : (n < k + 1) ↔ (n < k) := by omega
      simp only [this]
      omega
theorem wt_set (next : Nat → List Nat) (S : List Bool) (n : Nat) (hn : n < S.length) (hS : onB S n = false) : wt next (S.set n true) + (2 + (next n).length) = wt next S := by
  have := wtFrom_set next S n hn hS S.length
  rw [if_pos hn] at this
  unfold wt
  rw [List.length_set]
  exact this
theorem wtFrom_le (next : Nat → List Nat) (S : List Bool) (c : Nat) (h : ∀ n, (next n).length ≤ c) : ∀ k, wtFrom next S k ≤ k * (2 + c)
  | 0 => by simp [wtFrom]
  | k + 1 => by
    have ih := wtFrom_le next S c h k
    have := h k
    unfold wtFrom
    rw [Nat.succ_mul]
    split <;> omega
theorem wt_le (next : Nat → List Nat) (S : List Bool) (c : Nat) (h : ∀ n, (next n).length ≤ c) : wt next S ≤ S.length * (2 + c) := wtFrom_le next S c h _

/-- A walk from a node: st is left to do, fr was met; met0: what was met ahead of it. -/
structure SpreadIs (N : Nat) (next : Nat → List Nat) (met0 : List Bool) (start : Nat) (st : List Nat) (met : List Bool) (fr : List Nat) : Prop where
  len : met.length = N
  is : ∀ n, onB met n = true ↔ onB met0 n = true ∨ n ∈ fr
  new : ∀ n ∈ fr, onB met0 n = false ∧ Way (fun a b => b ∈ next a) start n
  nodup : fr.Nodup
  todo : ∀ n ∈ st, n < N ∧ Way (fun a b => b ∈ next a) start n
  closed : ∀ a ∈ fr, ∀ b ∈ next a, onB met b = true ∨ b ∈ st
  start : onB met start = true ∨ start ∈ st
section
variable {N : Nat} {next : Nat → List Nat} {met0 met : List Bool} {start : Nat} {st fr : List Nat}
theorem SpreadIs.begin (hl : met0.length = N) (hs : start < N) : SpreadIs N next met0 start [start] met0 [] :=
  ⟨hl, fun n => by simp, fun n hn => by simp at hn, .nil, fun n hn => by simp at hn; subst hn; exact ⟨hs, .refl _⟩, fun a ha => by simp at ha, .inr (by simp)⟩
theorem SpreadIs.lt (h : SpreadIs N next met0 start st met fr) : fr.length ≤ N := by
  have hN : ∀ n ∈ fr, n < N := fun n hn => by rw [← h.len]; exact onB_lt ((h.is n).2 (.inr hn))
  have : fr ⊆ List.range N := fun n hn => List.mem_range.2 (hN n hn)
  have := List.Nodup.length_le_of_subset h.nodup this
  rwa [List.length_range] at this
/-- The one on top was met. -/
theorem SpreadIs.skip {n : Nat} (h : SpreadIs N next met0 start (st ++ [n]) met fr) (hn : onB met n = true) : SpreadIs N next met0 start st met fr := by
  refine ⟨h.len, h.is, h.new, h.nodup, fun m hm => h.todo m (by simp [hm]), fun a ha b hb => ?_, ?_⟩
  · rcases h.closed a ha b hb with q | q
    · exact .inl q
    · rw [List.mem_append, List.mem_singleton] at q
      rcases q with q | rfl
      · exact .inr q
      · exact .inl hn
  · rcases h.start with q | q
    · exact .inl q
    · rw [List.mem_append, List.mem_singleton] at q
      rcases q with q | rfl
      · exact .inr q
      · exact .inl hn
theorem SpreadIs.meet {n : Nat} (h : SpreadIs N next met0 start (st ++ [n]) met fr) (hn : onB met n = false) (hx : ∀ b ∈ next n, b < N) : SpreadIs N next met0 start (st ++ next n) (met.set n true) (fr ++ [n]) := by
  obtain ⟨hl, hw⟩ := h.todo n (by simp)
  have hl2 : n < met.length := by rw [h.len]; exact hl
  refine ⟨by rw [List.length_set]; exact h.len, fun m => ?_, fun m hm => ?_, ?_, fun m hm => ?_, fun a ha b hb => ?_, ?_⟩
  · rw [onB_set met n m hl2, h.is m, List.mem_append, List.mem_singleton]
    constructor
    · rintro (q | q | q)
      · exact .inr (.inr q)
      · exact .inl q
      · exact .inr (.inl q)
    · rintro (q | q | q)
      · exact .inr (.inl q)
      · exact .inr (.inr q)
      · exact .inl q
  · rw [List.mem_append, List.mem_singleton] at hm
    rcases hm with q | rfl
    · exact h.new m q
    · refine ⟨?_, hw⟩
      cases e : onB met0 m with
      | false => rfl
      | true => rw [(h.is m).2 (.inl e)] at hn; cases hn
  · refine List.nodup_append.2 ⟨h.nodup, by simp, fun a ha b hb e => ?_⟩
    rw [List.mem_singleton] at hb
    subst hb e
    rw [(h.is a).2 (.inr ha)] at hn
    cases hn
  · rw [List.mem_append] at hm
    rcases hm with q | q
    · exact h.todo m (by simp [q])
    · exact ⟨hx m q, .step hw q⟩
  · rw [List.mem_append, List.mem_singleton] at ha
    rcases ha with q | rfl
    · rcases h.closed a q b hb with r | r
      · exact .inl ((onB_set met n b hl2).2 (.inr r))
      · rw [List.mem_append, List.mem_singleton] at r
        rcases r with r | rfl
        · exact .inr (by simp [r])
        · exact .inl ((onB_set met b b hl2).2 (.inl rfl))
    · exact .inr (by simp [hb])
  · rcases h.start with q | q
    · exact .inl ((onB_set met n start hl2).2 (.inr q))
    · rw [List.mem_append, List.mem_singleton] at q
      rcases q with q | rfl
      · exact .inr (by simp [q])
      · exact .inl ((onB_set met start start hl2).2 (.inl rfl))
/-- Nothing is left to do. -/
theorem SpreadIs.over (h : SpreadIs N next met0 start [] met fr) (h0 : ∀ a b, onB met0 a = true → b ∈ next a → onB met0 b = true) : (∀ n, onB met n = true ↔ onB met0 n = true ∨ Way (fun a b => b ∈ next a) start n) ∧ (∀ n, n ∈ fr ↔ onB met0 n = false ∧ Way (fun a b => b ∈ next a) start n) := by
  have cl : ∀ a b, onB met a = true → b ∈ next a → onB met b = true := by
    intro a b ha hb
    rcases (h.is a).1 ha with q | q
    · exact (h.is b).2 (.inl (h0 a b q hb))
    · rcases h.closed a q b hb with r | r
      · exact r
      · simp at r
  have hs : onB met start = true := by
    rcases h.start with q | q
    · exact q
    · simp at q
  have hw : ∀ n, Way (fun a b => b ∈ next a) start n → onB met n = true := fun n w => w.inv (p := fun x => onB met x = true) hs (fun x y hx r => cl x y hx r)
  constructor
  · intro n
    constructor
    · intro q
      rcases (h.is n).1 q with r | r
      · exact .inl r
      · exact .inr (h.new n r).2
    · rintro (q | q)
      · exact (h.is n).2 (.inl q)
      · exact hw n q
  · intro n
    constructor
    · exact h.new n
    · rintro ⟨q, w⟩
      rcases (h.is n).1 (hw n w) with r | r
      · rw [q] at r; cases r
      · exact r
end
end Go.Proofs.Ytajckihgfelbaaa.Rch
/- Nodes as they end; who comes to one another, by two goes. No program in sight. -/
namespace Go.Proofs.Ytajckihgfelbaaa.Rch
open Go Go.Proofs.Ytajckihgfelbaaa.Inst Go.Proofs.Ytajckihgfelbaaa.Adj

/-- What stands below all that a node leads to. -/
def nt (n : Nat) : Int := -(n : Int) - 1
theorem nt_inj {a b : Nat} (h : nt a = nt b) : a = b := by unfold nt at h; omega
theorem nt_ne (a b : Nat) : nt a ≠ (b : Int) := by unfold nt; omega
theorem split_app {α : Type} {st C A B : List α} {m : α} (h : st ++ C = A ++ m :: B) : (∃ B', st = A ++ m :: B' ∧ B = B' ++ C) ∨ ∃ A', A = st ++ A' ∧ C = A' ++ m :: B := by
  rcases List.append_eq_append_iff.1 h with ⟨a', h1, h2⟩ | ⟨c', h1, h2⟩
  · exact .inr ⟨a', h1, h2⟩
  · cases c' with
    | nil => exact .inr ⟨[], by simpa using h1.symm, by simpa using h2.symm⟩
    | cons x c' =>
      simp at h2
      obtain ⟨rfl, h2⟩ := h2
      exact .inl ⟨c', h1, h2⟩
theorem split_one {α : Type} {st A B : List α} {x m : α} (h : st ++ [x] = A ++ m :: B) : (∃ B', st = A ++ m :: B' ∧ B = B' ++ [x]) ∨ (A = st ∧ x = m ∧ B = []) := by
  rcases split_app h with q | ⟨A', h1, h2⟩
  · exact .inl q
  · right
    cases A' with
    | nil => simp at h1 h2; exact ⟨h1, h2.1, h2.2⟩
    | cons y A' => simp at h2

/-- A walk that ends nodes: st is left to do, the top last; those of done have ended. -/
structure EndIs (I : InstD) (st : List Int) (met : List Bool) (done : List Nat) : Prop where
  len : met.length = I.sup.length
  ok : ∀ e ∈ st, ∃ n : Nat, n < I.sup.length ∧ (e = (n : Int) ∨ e = nt n)
  is : ∀ n, onB met n = true ↔ n ∈ done ∨ nt n ∈ st
  nodup : done.Nodup
  disj : ∀ n, nt n ∈ st → n ∉ done
  once : ∀ A B n, st = A ++ nt n :: B → nt n ∉ A
  above : ∀ A B g, st = A ++ nt g :: B → (∀ n : Nat, ((n : Int) ∈ B ∨ nt n ∈ B) → Way (ArcTo I) g n) ∧ ∀ s : Nat, ArcTo I g s → onB met s = true ∨ (s : Int) ∈ B
  black : ∀ a ∈ done, ∀ s, ArcTo I a s → onB met s = true
  gray : ∀ A B g, st = A ++ nt g :: B → ∀ a ∈ done, Way (ArcTo I) a g → Way (ArcTo I) g a ∨ ∃ g', nt g' ∈ A ∧ Way (ArcTo I) a g'
  ends : ∀ A u B, done = A ++ u :: B → ∀ v, Way (ArcTo I) v u → Way (ArcTo I) u v ∨ ∃ x, x < I.sup.length ∧ x ∉ A ∧ x ≠ u ∧ Way (ArcTo I) v x
section
variable {I : InstD} {st : List Int} {met : List Bool} {done : List Nat}
theorem EndIs.new (I : InstD) : EndIs I [] (List.replicate I.sup.length false) [] where
  len := by simp
  ok e he := by simp at he
  is n := by rw [onB_none]; simp
  nodup := .nil
  disj n h := by simp at h
  once A B n h := by simp at h
  above A B g h := by simp at h
  black a ha := by simp at ha
  gray A B g h := by simp at h
  ends A u B h := by simp at h
theorem EndIs.begin (h : EndIs I [] met done) (n : Nat) (hn : n < I.sup.length) : EndIs I [(n : Int)] met done := by
  have no : ∀ A B g, [(n : Int)] = A ++ nt g :: B → False := by
    intro A B g e
    cases A with
    | nil => simp at e; exact nt_ne g n e.1.symm
    | cons y A => simp at e
  refine ⟨h.len, fun e he => ?_, fun m => ?_, h.nodup, fun m hm => ?_, fun A B m e => (no A B m e).elim, fun A B m e => (no A B m e).elim, h.black, fun A B m e => (no A B m e).elim, h.ends⟩
  · simp at he
    exact ⟨n, hn, .inl he⟩
  · rw [h.is m]
    simp [nt_ne]
  · simp [nt_ne] at hm
theorem EndIs.fin {u : Nat} (h : EndIs I (st ++ [nt u]) met done) : EndIs I st met (done ++ [u]) := by
  have out : ∀ A B g, st = A ++ nt g :: B → st ++ [nt u] = A ++ nt g :: (B ++ [nt u]) := fun A B g e => by rw [e]; simp
  have hu : nt u ∉ st := h.once st [] u rfl
  have hud : u ∉ done := h.disj u (by simp)
  obtain ⟨n, hn, he⟩ := h.ok (nt u) (by simp)
  have hul : u < I.sup.length := by
    rcases he with e | e
    · exact absurd e (nt_ne u n)
    · rw [nt_inj e]; exact hn
  refine ⟨h.len, fun e he => h.ok e (by simp [he]), fun m => ?_, ?_, fun m hm => ?_, fun A B m e => h.once A _ m (out A B m e), fun A B g e => ?_, fun a ha s r => ?_, fun A B g e a ha hw => ?_, fun A u' B e v hv => ?_⟩
  · rw [h.is m]
    simp only [List.mem_append, List.mem_singleton]
    constructor
    · rintro (q | q | q)
      · exact .inl (.inl q)
      · exact .inr q
      · exact .inl (.inr (nt_inj q))
    · rintro ((q | q) | q)
      · exact .inl q
      · exact .inr (.inr (by rw [q]))
      · exact .inr (.inl q)
  · refine List.nodup_append.2 ⟨h.nodup, by simp, fun a ha b hb e => ?_⟩
    rw [List.mem_singleton] at hb
    subst hb e
    exact hud ha
  · intro q
    rw [List.mem_append, List.mem_singleton] at q
    rcases q with q | rfl
    · exact h.disj m (by simp [hm]) q
    · exact hu hm
  · obtain ⟨h1, h2⟩ := h.above A _ g (out A B g e)
    refine ⟨fun n hn => h1 n (by rcases hn with q | q <;> simp [q]), fun s r => ?_⟩
    rcases h2 s r with q | q
    · exact .inl q
    · rw [List.mem_append, List.mem_singleton] at q
      rcases q with q | q
      · exact .inr q
      · exact absurd q.symm (nt_ne u s)
  · rw [List.mem_append, List.mem_singleton] at ha
    rcases ha with q | rfl
    · exact h.black a q s r
    · rcases (h.above st [] a rfl).2 s r with q | q
      · exact q
      · simp at q
  · rw [List.mem_append, List.mem_singleton] at ha
    rcases ha with q | rfl
    · exact h.gray A _ g (out A B g e) a q hw
    · exact .inl ((h.above A _ g (out A B g e)).1 a (.inr (by simp)))
  · rcases split_one e with ⟨B', h1, _⟩ | ⟨rfl, rfl, _⟩
    · exact h.ends A u' B' h1 v hv
    · by_cases c : v ∈ A
      · rcases h.gray st [] u rfl v c hv with q | ⟨g', hg, hw⟩
        · exact .inl q
        · right
          obtain ⟨n, hn, he⟩ := h.ok (nt g') (by simp [hg])
          have gl : g' < I.sup.length := by
            rcases he with e | e
            · exact absurd e (nt_ne g' n)
            · rw [nt_inj e]; exact hn
          exact ⟨g', gl, h.disj g' (by simp [hg]), fun e => hu (e ▸ hg), hw⟩
      · by_cases c2 : v = u
        · subst c2
          exact .inl (.refl _)
        · exact .inr ⟨v, hv.lt' hul, c, c2, .refl _⟩
theorem EndIs.skip {n : Nat} (h : EndIs I (st ++ [(n : Int)]) met done) (hn : onB met n = true) : EndIs I st met done := by
  have out : ∀ A B g, st = A ++ nt g :: B → st ++ [(n : Int)] = A ++ nt g :: (B ++ [(n : Int)]) := fun A B g e => by rw [e]; simp
  refine ⟨h.len, fun e he => h.ok e (by simp [he]), fun m => ?_, h.nodup, fun m hm => h.disj m (by simp [hm]), fun A B m e => h.once A _ m (out A B m e), fun A B g e => ?_, h.black, fun A B g e a ha hw => h.gray A _ g (out A B g e) a ha hw, h.ends⟩
  · rw [h.is m]
    simp [nt_ne]
  · obtain ⟨h1, h2⟩ := h.above A _ g (out A B g e)
    refine ⟨fun n hn => h1 n (by rcases hn with q | q <;> simp [q]), fun s r => ?_⟩
    rcases h2 s r with q | q
    · exact .inl q
    · rw [List.mem_append, List.mem_singleton] at q
      rcases q with q | q
      · exact .inr q
      · rw [Int.ofNat_inj] at q
        subst q
        exact .inl hn
abbrev ints (l : List Nat) : List Int := l.map fun (x : Nat) => (x : Int)
theorem mem_ints {l : List Nat} {n : Nat} : (n : Int) ∈ ints l ↔ n ∈ l := by
  rw [List.mem_map]
  exact ⟨fun ⟨a, h, e⟩ => by rw [← Int.ofNat_inj.1 e]; exact h, fun h => ⟨n, h, rfl⟩⟩
theorem nt_ints (l : List Nat) (n : Nat) : nt n ∉ ints l := by
  intro h
  rw [List.mem_map] at h
  obtain ⟨x, _, e⟩ := h
  exact nt_ne n x e.symm
theorem EndIs.meet {n : Nat} (h : EndIs I (st ++ [(n : Int)]) met done) (hn : onB met n = false) : EndIs I (st ++ (nt n :: ints (outN I n))) (met.set n true) done := by
  obtain ⟨k, hk, he⟩ := h.ok (n : Int) (by simp)
  have hl : n < I.sup.length := by
    rcases he with e | e
    · omega
    · exact absurd e.symm (nt_ne k n)
  have hl2 : n < met.length := by rw [h.len]; exact hl
  have ons : ∀ m, onB (met.set n true) m = true ↔ m = n ∨ onB met m = true := fun m => onB_set met n m hl2
  have hmk : nt n ∉ st := fun q => by rw [(h.is n).2 (.inr (by simp [q]))] at hn; cases hn
  have hnd : n ∉ done := fun q => by rw [(h.is n).2 (.inl q)] at hn; cases hn
  have out : ∀ A B g, st = A ++ nt g :: B → st ++ [(n : Int)] = A ++ nt g :: (B ++ [(n : Int)]) := fun A B g e => by rw [e]; simp
  have cases2 : ∀ A B g, st ++ (nt n :: ints (outN I n)) = A ++ nt g :: B → (∃ B', st = A ++ nt g :: B' ∧ B = B' ++ (nt n :: ints (outN I n))) ∨ (A = st ∧ g = n ∧ B = ints (outN I n)) := by
    intro A B g e
    rcases split_app e with q | ⟨A', h1, h2⟩
    · exact .inl q
    · right
      cases A' with
      | nil =>
        simp at h1 h2
        exact ⟨h1, (nt_inj h2.1).symm, h2.2.symm⟩
      | cons y A' =>
        simp only [List.cons_append, List.cons.injEq] at h2
        exact absurd (by rw [h2.2]; simp) (nt_ints (outN I n) g)
  have inst : ∀ m, nt m ∈ st ++ (nt n :: ints (outN I n)) ↔ nt m ∈ st ∨ m = n := by
    intro m
    rw [List.mem_append, List.mem_cons]
    constructor
    · rintro (q | q | q)
      · exact .inl q
      · exact .inr (nt_inj q)
      · exact absurd q (nt_ints _ _)
    · rintro (q | q)
      · exact .inl q
      · exact .inr (.inl (by rw [q]))
  have inold : ∀ m, nt m ∈ st ++ [(n : Int)] ↔ nt m ∈ st := fun m => by simp [nt_ne]
  refine ⟨by rw [List.length_set]; exact h.len, fun e he => ?_, fun m => ?_, h.nodup, fun m hm => ?_, fun A B m e => ?_, fun A B g e => ?_, fun a ha s r => (ons s).2 (.inr (h.black a ha s r)), fun A B g e a ha hw => ?_, h.ends⟩
  · rw [List.mem_append, List.mem_cons] at he
    rcases he with q | rfl | q
    · exact h.ok e (by simp [q])
    · exact ⟨n, hl, .inr rfl⟩
    · rw [List.mem_map] at q
      obtain ⟨x, hx, rfl⟩ := q
      exact ⟨x, (mem_outN.1 hx).lt.2, .inl rfl⟩
  · rw [ons, inst, h.is m, inold]
    constructor
    · rintro (q | q | q)
      · exact .inr (.inr q)
      · exact .inl q
      · exact .inr (.inl q)
    · rintro (q | q | q)
      · exact .inr (.inl q)
      · exact .inr (.inr q)
      · exact .inl q
  · rcases (inst m).1 hm with q | rfl
    · exact h.disj m ((inold m).2 q)
    · exact hnd
  · rcases cases2 A B m e with ⟨B', h1, _⟩ | ⟨rfl, rfl, _⟩
    · exact h.once A _ m (out A B' m h1)
    · exact hmk
  · rcases cases2 A B g e with ⟨B', h1, rfl⟩ | ⟨rfl, rfl, rfl⟩
    · obtain ⟨g1, g2⟩ := h.above A _ g (out A B' g h1)
      have gn : Way (ArcTo I) g n := g1 n (.inl (by simp))
      refine ⟨fun m hm => ?_, fun s r => ?_⟩
      · rcases hm with q | q
        · rw [List.mem_append, List.mem_cons] at q
          rcases q with q | q | q
          · exact g1 m (.inl (by simp [q]))
          · exact absurd q.symm (nt_ne n m)
          · exact .step gn (mem_outN.1 (mem_ints.1 q))
        · rw [List.mem_append, List.mem_cons] at q
          rcases q with q | q | q
          · exact g1 m (.inr (by simp [q]))
          · rw [nt_inj q]; exact gn
          · exact absurd q (nt_ints _ _)
      · rcases g2 s r with q | q
        · exact .inl ((ons s).2 (.inr q))
        · rw [List.mem_append, List.mem_singleton] at q
          rcases q with q | q
          · exact .inr (by simp [q])
          · rw [Int.ofNat_inj] at q
            exact .inl ((ons s).2 (.inl q))
    · refine ⟨fun m hm => ?_, fun s r => .inr (mem_ints.2 (mem_outN.2 r))⟩
      rcases hm with q | q
      · exact Way.one (mem_outN.1 (mem_ints.1 q))
      · exact absurd q (nt_ints _ _)
  · rcases cases2 A B g e with ⟨B', h1, _⟩ | ⟨rfl, rfl, _⟩
    · exact h.gray A _ g (out A B' g h1) a ha hw
    · right
      obtain ⟨x, y, w1, w2, w3, w4, _⟩ := hw.leaves (p := fun z => z ∈ done) ha hnd
      have hy := h.black x w2 y w3
      rcases (h.is y).1 hy with q | q
      · exact absurd q w4
      · exact ⟨y, (inold y).1 q, .step w1 w3⟩
end

/-- All have ended. -/
structure Ended (I : InstD) (done : List Nat) : Prop where
  all : ∀ n, n < I.sup.length → n ∈ done
  lt : ∀ n ∈ done, n < I.sup.length
  nodup : done.Nodup
  ends : ∀ A u B, done = A ++ u :: B → ∀ v, Way (ArcTo I) v u → Way (ArcTo I) u v ∨ ∃ x ∈ B, Way (ArcTo I) v x
theorem Ended.length {I : InstD} {done : List Nat} (h : Ended I done) : done.length = I.sup.length := by
  have h1 := List.Nodup.length_le_of_subset h.nodup (fun n hn => List.mem_range.2 (h.lt n hn))
  have h2 := List.Nodup.length_le_of_subset (List.nodup_range (n := I.sup.length)) (fun n hn => h.all n (List.mem_range.1 hn))
  rw [List.length_range] at h1 h2
  omega
theorem EndIs.over {I : InstD} {met : List Bool} {done : List Nat} (h : EndIs I [] met done) (ha : ∀ n, n < I.sup.length → onB met n = true) : Ended I done := by
  have all : ∀ n, n < I.sup.length → n ∈ done := fun n hn => by
    rcases (h.is n).1 (ha n hn) with q | q
    · exact q
    · simp at q
  refine ⟨all, fun n hn => ?_, h.nodup, fun A u B e v hv => ?_⟩
  · rw [← h.len]
    exact onB_lt ((h.is n).2 (.inl hn))
  · rcases h.ends A u B e v hv with q | ⟨x, h1, h2, h3, h4⟩
    · exact .inl q
    · right
      have hx := all x h1
      rw [e, List.mem_append, List.mem_cons] at hx
      rcases hx with q | q | q
      · exact absurd q h2
      · exact absurd q h3
      · exact ⟨x, q, h4⟩
theorem EndIs.done_le {I : InstD} {st : List Int} {met : List Bool} {done : List Nat} (h : EndIs I st met done) : done.length ≤ I.sup.length := by
  have h1 := List.Nodup.length_le_of_subset h.nodup (fun n hn => List.mem_range.2 (show n < I.sup.length by rw [← h.len]; exact onB_lt ((h.is n).2 (.inl hn))))
  rwa [List.length_range] at h1

/-! ### The second go -/
/-- Behind those of B, in done = A ++ B. -/
structure StrongIs (I : InstD) (B : List Nat) (met : List Bool) (fst : List Nat) : Prop where
  len : met.length = I.sup.length
  flen : fst.length = I.sup.length
  hm : ∀ n, onB met n = true ↔ ∃ y ∈ B, Way (ArcTo I) n y
  hf : ∀ n, onB met n = true → fst.getD n 0 = strongN I n
theorem StrongIs.closed {I : InstD} {B : List Nat} {met : List Bool} {fst : List Nat} (h : StrongIs I B met fst) : ∀ a b, onB met a = true → b ∈ insN I a → onB met b = true := by
  intro a b ha hb
  obtain ⟨y, hy, hw⟩ := (h.hm a).1 ha
  exact (h.hm b).2 ⟨y, hy, Way.head (mem_insN.1 hb) hw⟩
theorem ins_way {I : InstD} {u n : Nat} : Way (fun a b => b ∈ insN I a) u n ↔ Way (ArcTo I) n u := by
  rw [← way_back (R := ArcTo I)]
  exact ⟨fun h => h.mono fun x y q => mem_insN.1 q, fun h => h.mono fun x y q => mem_insN.2 q⟩
theorem out_way {I : InstD} {u n : Nat} : Way (fun a b => b ∈ outN I a) u n ↔ Way (ArcTo I) u n := ⟨fun h => h.mono fun x y q => mem_outN.1 q, fun h => h.mono fun x y q => mem_outN.2 q⟩
/-- The group of the next one. -/
theorem StrongIs.group {I : InstD} {done A B : List Nat} {u : Nat} {met met' : List Bool} {fst gr : List Nat} (hE : Ended I done) (hd : done = A ++ u :: B) (h : StrongIs I B met fst)
    (hm : ∀ n, onB met' n = true ↔ onB met n = true ∨ Way (fun a b => b ∈ insN I a) u n) (hg : ∀ n, n ∈ gr ↔ onB met n = false ∧ Way (fun a b => b ∈ insN I a) u n) (hl : met'.length = I.sup.length) :
    (∀ n, onB met' n = true ↔ ∃ y ∈ u :: B, Way (ArcTo I) n y) ∧ (gr = [] → ∀ n, onB met' n = onB met n) ∧ ∀ n ∈ gr, ∀ m, m ∈ gr ↔ Mut I m n := by
  refine ⟨fun n => ?_, fun e n => ?_, fun n hn m => ?_⟩
  · rw [hm n, h.hm n, ins_way]
    constructor
    · rintro (⟨y, h1, h2⟩ | q)
      · exact ⟨y, by simp [h1], h2⟩
      · exact ⟨u, by simp, q⟩
    · rintro ⟨y, h1, h2⟩
      rw [List.mem_cons] at h1
      rcases h1 with rfl | h1
      · exact .inr h2
      · exact .inl ⟨y, h1, h2⟩
  · subst e
    cases q : onB met n with
    | true => exact (hm n).2 (.inl q)
    | false =>
      cases q2 : onB met' n with
      | false => rfl
      | true =>
        rcases (hm n).1 q2 with r | r
        · rw [q] at r; cases r
        · exact absurd ((hg n).2 ⟨q, r⟩) (by simp)
  · have mutu : ∀ x, x ∈ gr → Mut I x u := by
      intro x hx
      obtain ⟨h1, h2⟩ := (hg x).1 hx
      rw [ins_way] at h2
      refine ⟨h2, ?_⟩
      rcases hE.ends A u B hd x h2 with q | ⟨y, hy, hw⟩
      · exact q
      · rw [(h.hm x).2 ⟨y, hy, hw⟩] at h1
        cases h1
    constructor
    · intro hm2
      exact (mutu m hm2).trans (mutu n hn).symm
    · intro hmn
      have hmu := hmn.trans (mutu n hn)
      refine (hg m).2 ⟨?_, ins_way.2 hmu.1⟩
      cases q : onB met m with
      | false => rfl
      | true =>
        obtain ⟨y, hy, hw⟩ := (h.hm m).1 q
        have : onB met n = true := (h.hm n).2 ⟨y, hy, hmn.2.trans hw⟩
        rw [((hg n).1 hn).1] at this
        cases this
theorem StrongIs.skip {I : InstD} {B : List Nat} {u : Nat} {met met' : List Bool} {fst : List Nat} (h : StrongIs I B met fst) (hl : met'.length = I.sup.length) (h1 : ∀ n, onB met' n = true ↔ ∃ y ∈ u :: B, Way (ArcTo I) n y) (h2 : ∀ n, onB met' n = onB met n) : StrongIs I (u :: B) met' fst :=
  ⟨hl, h.flen, h1, fun n hn => h.hf n (by rw [← h2 n]; exact hn)⟩
/-- As many of a group as have their number. -/
def setAll (fst : List Nat) (low : Nat) (l : List Nat) : List Nat := l.foldl (fun f m => f.set m low) fst
theorem setAll_length (low : Nat) : ∀ (l fst : List Nat), (setAll fst low l).length = fst.length
  | [], _ => rfl
  | m :: l, fst => by
    show (setAll (fst.set m low) low l).length = _
    rw [setAll_length low l, List.length_set]
theorem setAll_snoc (fst : List Nat) (low : Nat) (l : List Nat) (m : Nat) : setAll fst low (l ++ [m]) = (setAll fst low l).set m low := by simp [setAll]
theorem setAll_get (low : Nat) (n : Nat) : ∀ (l fst : List Nat), n < fst.length → (setAll fst low l).getD n 0 = if n ∈ l then low else fst.getD n 0
  | [], _, _ => by simp [setAll]
  | m :: l, fst, hn => by
    show (setAll (fst.set m low) low l).getD n 0 = _
    rw [setAll_get low n l _ (by rw [List.length_set]; exact hn)]
    by_cases c : n ∈ l
    · rw [if_pos c, if_pos (by simp [c])]
    · rw [if_neg c]
      by_cases c2 : n = m
      · subst c2
        rw [if_pos (by simp)]
        simp [hn]
      · have c3 : m ≠ n := fun e => c2 e.symm
        rw [if_neg (by simp [c, c2])]
        simp [c3]
theorem StrongIs.step {I : InstD} {B : List Nat} {u low : Nat} {met met' : List Bool} {fst gr : List Nat} (h : StrongIs I B met fst) (hl : met'.length = I.sup.length) (h1 : ∀ n, onB met' n = true ↔ ∃ y ∈ u :: B, Way (ArcTo I) n y)
    (hm : ∀ n, onB met' n = true ↔ onB met n = true ∨ Way (fun a b => b ∈ insN I a) u n) (hg : ∀ n, n ∈ gr ↔ onB met n = false ∧ Way (fun a b => b ∈ insN I a) u n) (h3 : ∀ n ∈ gr, ∀ m, m ∈ gr ↔ Mut I m n) (hlow : low ∈ gr) (hle : ∀ m ∈ gr, low ≤ m) : StrongIs I (u :: B) met' (setAll fst low gr) := by
  refine ⟨hl, by rw [setAll_length]; exact h.flen, h1, fun n hn => ?_⟩
  have hlt : n < fst.length := by
    have := onB_lt hn
    rw [h.flen]
    omega
  rw [setAll_get low n gr fst hlt]
  by_cases c : n ∈ gr
  · rw [if_pos c]
    refine (strong_eq ((h3 n c low).1 hlow) (fun m hlm hmn => ?_)).symm
    have := hle m ((h3 n c m).2 hmn)
    omega
  · rw [if_neg c]
    refine h.hf n ?_
    rcases (hm n).1 hn with q | q
    · exact q
    · cases e : onB met n with
      | true => rfl
      | false => exact absurd ((hg n).2 ⟨e, q⟩) c
theorem StrongIs.over {I : InstD} {done : List Nat} {met : List Bool} {fst : List Nat} (hE : Ended I done) (h : StrongIs I done met fst) : fst = strongL I := by
  apply List.ext_getElem
  · rw [h.flen, strongL_length]
  · intro i h1 h2
    have hi : i < I.sup.length := by rw [← h.flen]; exact h1
    have := h.hf i ((h.hm i).2 ⟨i, hE.all i hi, .refl _⟩)
    rw [List.getD_eq_getElem?_getD, List.getElem?_eq_getElem h1] at this
    simp only [strongL, List.getElem_map, List.getElem_range]
    exact this
theorem StrongIs.new (I : InstD) : StrongIs I [] (List.replicate I.sup.length false) (List.replicate I.sup.length 0) :=
  ⟨by simp, by simp, fun n => by rw [onB_none]; simp, fun n hn => by rw [onB_none] at hn; cases hn⟩
end Go.Proofs.Ytajckihgfelbaaa.Rch
/- Nodes as arcs go. No program in sight. -/
namespace Go.Proofs.Ytajckihgfelbaaa.Rch
open Go Go.Proofs.Ytajckihgfelbaaa.Inst Go.Proofs.Ytajckihgfelbaaa.Adj

/-- Each arc into it is out of one that was told. -/
def Free (I : InstD) (told : List Nat) (n : Nat) : Prop := ∀ m, ArcTo I m n → m ∈ told
noncomputable def nextD (I : InstD) (told : List Nat) : Option Nat := (List.range I.sup.length).find? fun n => yes (n ∉ told ∧ Free I told n)
theorem next_some {I : InstD} {told : List Nat} {n : Nat} : nextD I told = some n ↔ n < I.sup.length ∧ (n ∉ told ∧ Free I told n) ∧ ∀ m, m < n → ¬ (m ∉ told ∧ Free I told m) := by
  unfold nextD
  rw [List.find?_range_eq_some]
  constructor
  · rintro ⟨h1, h2, h3⟩
    refine ⟨by simpa using h2, yes_iff.1 h1, fun m hm q => ?_⟩
    have := h3 m hm
    rw [yes_true q] at this
    cases this
  · rintro ⟨h1, h2, h3⟩
    exact ⟨yes_true h2, by simpa using h1, fun m hm => by rw [yes_false (h3 m hm)]; rfl⟩
theorem next_none {I : InstD} {told : List Nat} : nextD I told = none ↔ ∀ n, n < I.sup.length → ¬ (n ∉ told ∧ Free I told n) := by
  unfold nextD
  rw [List.find?_eq_none]
  constructor
  · intro h n hn q
    exact h n (by simpa using hn) (yes_true q)
  · intro h n hn q
    exact h n (by simpa using hn) (yes_iff.1 q)
noncomputable def orderN (I : InstD) : Nat → List Nat
  | 0 => []
  | k + 1 => match nextD I (orderN I k) with
    | none => orderN I k
    | some n => orderN I k ++ [n]
theorem orderN_some {I : InstD} {k n : Nat} (h : nextD I (orderN I k) = some n) : orderN I (k + 1) = orderN I k ++ [n] := by
  conv => lhs; unfold orderN
  rw [h]
theorem orderN_none {I : InstD} {k : Nat} (h : nextD I (orderN I k) = none) : orderN I (k + 1) = orderN I k := by
  conv => lhs; unfold orderN
  rw [h]
theorem orderN_stuck {I : InstD} {k : Nat} (h : nextD I (orderN I k) = none) : ∀ j, orderN I (k + j) = orderN I k
  | 0 => rfl
  | j + 1 => by
    have ih := orderN_stuck h j
    rw [← Nat.add_assoc, orderN_none (by rw [ih]; exact h), ih]
noncomputable def orderL (I : InstD) : List Nat := orderN I I.sup.length
noncomputable def okD (I : InstD) : Bool := decide ((orderL I).length = I.sup.length)
/-- What is told as an order. -/
noncomputable def toldL (I : InstD) : List Nat := if okD I = true then orderL I else []
theorem orderN_length {I : InstD} : ∀ k, (orderN I k).length ≤ k
  | 0 => by simp [orderN]
  | k + 1 => by
    have := orderN_length (I := I) k
    cases e : nextD I (orderN I k) with
    | none => rw [orderN_none e]; omega
    | some n => rw [orderN_some e]; simp; omega
/-- As long as it is not stuck. -/
theorem orderN_full {I : InstD} {k : Nat} (h : nextD I (orderN I k) ≠ none) : (orderN I k).length = k := by
  induction k with
  | zero => simp [orderN]
  | succ k ih =>
    cases e : nextD I (orderN I k) with
    | none => exact absurd (by rw [orderN_none e]; exact e) h
    | some n => rw [orderN_some e]; simp [ih (by rw [e]; simp)]
structure OrdIs (I : InstD) (told : List Nat) : Prop where
  nodup : told.Nodup
  lt : ∀ n ∈ told, n < I.sup.length
  ahead : ∀ A n B, told = A ++ n :: B → ∀ m, ArcTo I m n → m ∈ A
theorem order_is (I : InstD) : ∀ k, OrdIs I (orderN I k)
  | 0 => ⟨.nil, fun n hn => by simp [orderN] at hn, fun A n B e => by simp [orderN] at e⟩
  | k + 1 => by
    have ih := order_is I k
    cases e : nextD I (orderN I k) with
    | none => rw [orderN_none e]; exact ih
    | some n =>
      obtain ⟨h1, ⟨h2, h3⟩, _⟩ := next_some.1 e
      rw [orderN_some e]
      refine ⟨List.nodup_append.2 ⟨ih.nodup, by simp, fun a ha b hb q => ?_⟩, fun m hm => ?_, fun A m B q x hx => ?_⟩
      · rw [List.mem_singleton] at hb
        subst hb q
        exact h2 ha
      · rw [List.mem_append, List.mem_singleton] at hm
        rcases hm with q | rfl
        · exact ih.lt m q
        · exact h1
      · rcases List.append_eq_append_iff.1 q with ⟨a', e1, e2⟩ | ⟨c', e1, e2⟩
        · cases a' with
          | nil =>
            simp at e1 e2
            obtain ⟨rfl, -⟩ := e2
            rw [e1]
            exact h3 x hx
          | cons y a' => simp at e2
        · cases c' with
          | nil =>
            simp at e1 e2
            obtain ⟨rfl, -⟩ := e2
            rw [← e1]
            exact h3 x hx
          | cons y c' =>
            simp at e2
            obtain ⟨rfl, -⟩ := e2
            exact ih.ahead A m c' e1 x hx
theorem order_le (I : InstD) (k : Nat) : (orderN I k).length ≤ I.sup.length := by
  have h := order_is I k
  have h1 := List.Nodup.length_le_of_subset h.nodup (fun n hn => List.mem_range.2 (h.lt n hn))
  rwa [List.length_range] at h1
/-- It ended. -/
theorem order_end {I : InstD} {told : List Nat} (h : told = orderN I told.length) (hn : nextD I told = none) : told = orderL I := by
  have hl : told.length ≤ I.sup.length := by have := order_le I told.length; rw [← h] at this; exact this
  have := orderN_stuck (k := told.length) (by rw [← h]; exact hn) (I.sup.length - told.length)
  rw [Nat.add_sub_cancel' hl] at this
  unfold orderL
  rw [this]
  exact h
theorem order_full {I : InstD} {told : List Nat} (h : told = orderN I told.length) (hn : told.length = I.sup.length) : told = orderL I := by
  unfold orderL
  rw [← hn]
  exact h
theorem ok_true {I : InstD} (h : (orderL I).length = I.sup.length) : okD I = true ∧ toldL I = orderL I := by
  have : okD I = true := decide_eq_true h
  exact ⟨this, by unfold toldL; rw [if_pos this]⟩
theorem ok_false {I : InstD} (h : (orderL I).length ≠ I.sup.length) : okD I = false ∧ toldL I = [] := by
  have : okD I = false := decide_eq_false h
  exact ⟨this, by unfold toldL; rw [if_neg (by rw [this]; simp)]⟩

/-! ### There is an order just if no arc lies on a way back -/
theorem cycle {R : Nat → Nat → Prop} : ∀ k (U : List Nat), U.length ≤ k → U ≠ [] → (∀ u ∈ U, ∃ p ∈ U, R p u) → ∃ x y, R x y ∧ Way R y x
  | 0, U, h, h0, _ => absurd (List.length_eq_zero_iff.1 (by omega)) h0
  | k + 1, [], _, h0, _ => absurd rfl h0
  | k + 1, u :: V, h, _, hp => by
    by_cases c : ∃ p, Way R u p ∧ R p u
    · obtain ⟨p, h1, h2⟩ := c
      exact ⟨p, u, h2, h1⟩
    · refine cycle k (V.filter fun v => yes (∃ p, Way R v p ∧ R p u)) ?_ ?_ ?_
      · have := List.length_filter_le (fun v => yes (∃ p, Way R v p ∧ R p u)) V
        simp at h
        omega
      · obtain ⟨p, hpu, hr⟩ := hp u (by simp)
        rw [List.mem_cons] at hpu
        rcases hpu with rfl | hpu
        · exact absurd ⟨p, .refl _, hr⟩ c
        · intro e
          have : p ∈ V.filter fun v => yes (∃ p, Way R v p ∧ R p u) := List.mem_filter.2 ⟨hpu, yes_true ⟨p, .refl _, hr⟩⟩
          rw [e] at this
          simp at this
      · intro v hv
        obtain ⟨hvV, hy⟩ := List.mem_filter.1 hv
        obtain ⟨p, w, r⟩ := yes_iff.1 hy
        obtain ⟨q, hq, hqv⟩ := hp v (by simp [hvV])
        rw [List.mem_cons] at hq
        rcases hq with rfl | hq
        · exact absurd ⟨p, Way.head hqv w, r⟩ c
        · exact ⟨q, List.mem_filter.2 ⟨hq, yes_true ⟨p, Way.head hqv w, r⟩⟩, hqv⟩
theorem full_all {I : InstD} {l : List Nat} (hn : l.Nodup) (hl : l.length = I.sup.length) (hlt : ∀ n ∈ l, n < I.sup.length) : ∀ n, n < I.sup.length → n ∈ l := by
  intro n hn2
  refine Classical.byContradiction fun c => ?_
  have h1 : (n :: l).Nodup := List.nodup_cons.2 ⟨c, hn⟩
  have h2 := List.Nodup.length_le_of_subset h1 (fun m hm => List.mem_range.2 (show m < I.sup.length by
    rw [List.mem_cons] at hm
    rcases hm with rfl | hm
    · exact hn2
    · exact hlt m hm))
  rw [List.length_range, List.length_cons] at h2
  omega
theorem ok_all {I : InstD} (h : okD I = true) : ∀ n, n < I.sup.length → n ∈ orderL I :=
  full_all (order_is I _).nodup (of_decide_eq_true h) (order_is I _).lt
/-- Arcs go on. -/
theorem ok_goes {I : InstD} (h : okD I = true) {a b : Nat} (r : ArcTo I a b) : (orderL I).idxOf a < (orderL I).idxOf b := by
  have hb := ok_all h b r.lt.2
  have hl := List.idxOf_lt_length_of_mem hb
  have e : orderL I = (orderL I).take ((orderL I).idxOf b) ++ b :: (orderL I).drop ((orderL I).idxOf b + 1) := by
    conv => lhs; rw [← List.take_append_drop ((orderL I).idxOf b) (orderL I)]
    rw [List.drop_eq_getElem_cons hl]
    congr 2
    exact List.getElem_idxOf hl
  have ha := (order_is I _).ahead _ b _ e a r
  have h2 := List.idxOf_lt_length_of_mem ha
  have h3 : (orderL I).idxOf a = ((orderL I).take ((orderL I).idxOf b)).idxOf a := by
    conv => lhs; rw [e]
    rw [List.idxOf_append, if_pos ha]
  rw [List.length_take] at h2
  omega
theorem ok_way {I : InstD} (h : okD I = true) {a b : Nat} (w : Way (ArcTo I) a b) : (orderL I).idxOf a ≤ (orderL I).idxOf b := by
  induction w with
  | refl => exact Nat.le_refl _
  | step _ r ih => exact Nat.le_of_lt (Nat.lt_of_le_of_lt ih (ok_goes h r))
theorem ok_back {I : InstD} : okD I = true ↔ ∀ a : Nat, ¬ BackP I a := by
  constructor
  · rintro h a ⟨hf, hw⟩
    obtain ⟨x, y, hx, hy, _, _, _, r⟩ := fit_nats hf
    rw [hx, hy] at hw
    simp only [Int.toNat_natCast] at hw
    have := ok_goes h r
    have := ok_way h hw
    omega
  · intro h
    refine Classical.byContradiction fun c => ?_
    have c2 : (orderL I).length ≠ I.sup.length := fun q => c (ok_true q).1
    have hst : nextD I (orderL I) = none := by
      refine Classical.byContradiction fun q => c2 ?_
      exact orderN_full q
    have hno := next_none.1 hst
    have hne : (List.range I.sup.length).filter (fun n => decide (n ∉ orderL I)) ≠ [] := by
      intro q
      have hall : ∀ n, n < I.sup.length → n ∈ orderL I := by
        intro n hn
        refine Classical.byContradiction fun q2 => ?_
        have : n ∈ (List.range I.sup.length).filter (fun n => decide (n ∉ orderL I)) := List.mem_filter.2 ⟨List.mem_range.2 hn, decide_eq_true q2⟩
        rw [q] at this
        simp at this
      have h2 := List.Nodup.length_le_of_subset (List.nodup_range (n := I.sup.length)) (fun n hn => hall n (List.mem_range.1 hn))
      rw [List.length_range] at h2
      have := order_le I I.sup.length
      unfold orderL at h2 c2
      omega
    obtain ⟨x, y, r, w⟩ := cycle (R := ArcTo I) _ _ (Nat.le_refl _) hne (fun u hu => by
      obtain ⟨hu1, hu2⟩ := List.mem_filter.1 hu
      have hu1 := List.mem_range.1 hu1
      have hu2 := of_decide_eq_true hu2
      have := hno u hu1
      obtain ⟨m, hm⟩ := Classical.not_forall.1 (fun q : Free I (orderL I) u => this ⟨hu2, q⟩)
      obtain ⟨h1, h2⟩ := Classical.not_imp.1 hm
      exact ⟨m, List.mem_filter.2 ⟨List.mem_range.2 h1.lt.1, decide_eq_true h2⟩, h1⟩)
    obtain ⟨k, hf, h1, h2⟩ := r
    refine h k ⟨hf, ?_⟩
    rw [h1, h2]
    simpa using w

/-! ### How many arcs a node waits for -/
def wC (I : InstD) (told : List Nat) (n : Nat) : Nat := (List.range I.arcs.length).countP fun (k : Nat) => fitD I (k : Int) && decide ((arcAt I.arcs k).to = (n : Int)) && !(told.contains (arcAt I.arcs k).frm.toNat)
theorem countP_split {α : Type} (p q r : α → Bool) (h : ∀ x, p x = (q x || r x)) (h2 : ∀ x, ¬ (q x = true ∧ r x = true)) : ∀ l : List α, l.countP p = l.countP q + l.countP r
  | [] => rfl
  | x :: l => by
    have ih := countP_split p q r h h2 l
    rw [List.countP_cons, List.countP_cons, List.countP_cons, ih, h x]
    have := h2 x
    cases hq : q x <;> cases hr : r x <;> simp [hq, hr] at this ⊢ <;> omega
theorem out_count (I : InstD) (n m : Nat) : (outN I n).count m = (List.range I.arcs.length).countP fun (k : Nat) => fitD I (k : Int) && decide ((arcAt I.arcs k).to = (m : Int)) && decide ((arcAt I.arcs k).frm = (n : Int)) := by
  unfold outN List.count
  rw [List.countP_map]
  unfold outD someD someN
  rw [List.countP_filter]
  apply List.countP_congr
  intro k hk
  simp only [Function.comp]
  by_cases c : k ∈ outD I (n : Int)
  · obtain ⟨h1, h2⟩ := mem_someD.1 c
    obtain ⟨x, y, hx, hy, _⟩ := fit_nats h1
    rw [other_out c, h1, h2, hy]
    have h3 : (arcAt I.arcs k).frm = (n : Int) := by unfold touch at h2; simpa using h2
    rw [h3]
    have : y = m ↔ (y : Int) = (m : Int) := by omega
    simp [this]
  · have c2 : ¬ (fitD I (k : Int) = true ∧ touch true false (n : Int) (arcAt I.arcs k) = true) := fun q => c (mem_someD.2 q)
    unfold touch at c2 ⊢
    simp at c2 ⊢
    constructor
    · rintro ⟨_, h1, h2⟩
      exact absurd h2 (c2 h1)
    · rintro ⟨⟨h1, _⟩, h2⟩
      exact absurd h2 (c2 h1)
theorem wC_step {I : InstD} {told : List Nat} {u : Nat} (hu : u ∉ told) (m : Nat) : wC I told m = wC I (told ++ [u]) m + (outN I u).count m := by
  rw [out_count]
  unfold wC
  apply countP_split
  · intro k
    cases hf : fitD I (k : Int) with
    | false => simp
    | true =>
      obtain ⟨x, y, hx, hy, _⟩ := fit_nats hf
      rw [hx, hy]
      simp only [Int.toNat_natCast, Bool.true_and]
      by_cases c : x = u
      · subst c
        simp [hu]
      · have : ¬ ((x : Int) = (u : Int)) := by omega
        simp [c, this]
  · rintro k ⟨h1, h2⟩
    simp at h1 h2
    rw [h2.2] at h1
    simp at h1
theorem wC_free {I : InstD} {told : List Nat} {n : Nat} : wC I told n = 0 ↔ Free I told n := by
  unfold wC
  rw [List.countP_eq_zero]
  constructor
  · intro h m ⟨k, hf, h1, h2⟩
    have := fit_parts hf
    have := h k (List.mem_range.2 (by omega))
    rw [hf, h1, h2] at this
    simpa using this
  · intro h k hk q
    simp at q
    obtain ⟨⟨h1, h2⟩, h3⟩ := q
    obtain ⟨x, y, hx, hy, _, _, _, r⟩ := fit_nats h1
    rw [hx] at h3
    simp at h3
    refine h3 (h x ?_)
    rw [hy] at h2
    have : y = n := by omega
    rw [← this]
    exact r
theorem wC_new (I : InstD) (n : Nat) : wC I [] n = (inD I (n : Int)).length := by
  unfold wC inD someD someN
  rw [List.countP_eq_length_filter]
  congr 1
  apply List.filter_congr
  intro k _
  unfold touch
  simp

/-- Counted down. -/
def decs (W : List Nat) (l : List Nat) : List Nat := l.foldl (fun W m => W.set m (W.getD m 0 - 1)) W
theorem decs_snoc (W l : List Nat) (m : Nat) : decs W (l ++ [m]) = (decs W l).set m ((decs W l).getD m 0 - 1) := by simp [decs]
theorem decs_length : ∀ (l W : List Nat), (decs W l).length = W.length
  | [], _ => rfl
  | m :: l, W => by
    show (decs (W.set m _) l).length = _
    rw [decs_length l, List.length_set]
theorem decs_get (n : Nat) : ∀ (l W : List Nat), n < W.length → (decs W l).getD n 0 = W.getD n 0 - l.count n
  | [], _, _ => by simp [decs]
  | m :: l, W, hn => by
    show (decs (W.set m _) l).getD n 0 = _
    rw [decs_get n l _ (by rw [List.length_set]; exact hn), List.count_cons]
    by_cases c : m = n
    · subst c
      simp [hn]
      omega
    · have c2 : n ≠ m := fun e => c e.symm
      simp [c]
/-- Those that wait for none any more. -/
def freeL (W : List Nat) (l : List Nat) : Nat → List Nat
  | 0 => []
  | j + 1 => freeL W l j ++ if (decs W (l.take (j + 1))).getD (l.getD j 0) 0 = 0 then [l.getD j 0] else []
theorem freeL_length (W l : List Nat) : ∀ j, (freeL W l j).length ≤ j
  | 0 => by simp [freeL]
  | j + 1 => by
    have := freeL_length W l j
    unfold freeL
    rw [List.length_append]
    split <;> simp <;> omega
theorem take_snoc (l : List Nat) (j : Nat) (h : j < l.length) : l.take (j + 1) = l.take j ++ [l.getD j 0] := by
  rw [List.take_succ_eq_append_getElem h]
  simp [h]
theorem freeL_is {W l : List Nat} (hl : ∀ m ∈ l, m < W.length) (hc : ∀ m, l.count m ≤ W.getD m 0) : ∀ j, j ≤ l.length → (freeL W l j).Nodup ∧ ∀ x, x ∈ freeL W l j ↔ x ∈ l.take j ∧ (decs W (l.take j)).getD x 0 = 0
  | 0, _ => ⟨.nil, fun x => by simp [freeL]⟩
  | j + 1, hj => by
    obtain ⟨h1, h2⟩ := freeL_is hl hc j (by omega)
    have et := take_snoc l j (by omega)
    obtain ⟨m, hm⟩ : ∃ m, m = l.getD j 0 := ⟨_, rfl⟩
    have hml : m ∈ l := by rw [hm, List.getD_eq_getElem?_getD, List.getElem?_eq_getElem (by omega)]; exact List.getElem_mem _
    have hmW := hl m hml
    rw [← hm] at et
    have g : ∀ x, x < W.length → (decs W (l.take (j + 1))).getD x 0 = W.getD x 0 - (l.take (j + 1)).count x := fun x hx => decs_get x _ _ hx
    have g0 : ∀ x, x < W.length → (decs W (l.take j)).getD x 0 = W.getD x 0 - (l.take j).count x := fun x hx => decs_get x _ _ hx
    have cnt : (l.take (j + 1)).count m = (l.take j).count m + 1 := by rw [et, List.count_append]; simp
    have cle : (l.take (j + 1)).count m ≤ W.getD m 0 := Nat.le_trans (List.Sublist.count_le m (List.take_sublist _ _)) (hc m)
    have mno : m ∉ freeL W l j := fun q => by
      have := ((h2 m).1 q).2
      rw [g0 m hmW] at this
      omega
    have oth : ∀ x, x ≠ m → (l.take (j + 1)).count x = (l.take j).count x := fun x hx => by rw [et, List.count_append, List.count_eq_zero_of_not_mem (a := x) (l := [m]) (by simpa using hx)]; rfl
    have lt : ∀ x, x ∈ l.take j → x < W.length := fun x hx => hl x (List.mem_of_mem_take hx)
    have key : ∀ x, x ∈ freeL W l j ↔ x ≠ m ∧ x ∈ l.take j ∧ (decs W (l.take (j + 1))).getD x 0 = 0 := by
      intro x
      constructor
      · intro q
        have hx : x ≠ m := fun e => mno (e ▸ q)
        obtain ⟨q1, q2⟩ := (h2 x).1 q
        refine ⟨hx, q1, ?_⟩
        rw [g x (lt x q1), oth x hx, ← g0 x (lt x q1)]
        exact q2
      · rintro ⟨hx, q1, q2⟩
        refine (h2 x).2 ⟨q1, ?_⟩
        rw [g x (lt x q1), oth x hx, ← g0 x (lt x q1)] at q2
        exact q2
    unfold freeL
    rw [← hm]
    by_cases c : (decs W (l.take (j + 1))).getD m 0 = 0
    · rw [if_pos c]
      refine ⟨List.nodup_append.2 ⟨h1, by simp, fun a ha b hb e => ?_⟩, fun x => ?_⟩
      · rw [List.mem_singleton] at hb
        subst hb e
        exact mno ha
      · rw [List.mem_append, List.mem_singleton, key x]
        constructor
        · rintro (⟨_, q1, q2⟩ | rfl)
          · exact ⟨by rw [et]; simp [q1], q2⟩
          · exact ⟨by rw [et]; simp, c⟩
        · rintro ⟨q1, q2⟩
          by_cases e : x = m
          · exact .inr e
          · rw [et, List.mem_append, List.mem_singleton] at q1
            exact .inl ⟨e, q1.resolve_right e, q2⟩
    · rw [if_neg c, List.append_nil]
      refine ⟨h1, fun x => ?_⟩
      rw [key x]
      constructor
      · rintro ⟨_, q1, q2⟩
        exact ⟨by rw [et]; simp [q1], q2⟩
      · rintro ⟨q1, q2⟩
        have e : x ≠ m := fun e => c (e ▸ q2)
        rw [et, List.mem_append, List.mem_singleton] at q1
        exact ⟨e, q1.resolve_right e, q2⟩

/-- A walk that tells nodes as arcs go: h waits to be told. -/
structure KahnIs (I : InstD) (h W told : List Nat) : Prop where
  run : told = orderN I told.length
  len : W.length = I.sup.length
  wait : ∀ n, n < I.sup.length → W.getD n 0 = wC I told n
  nodup : h.Nodup
  is : ∀ n, n ∈ h ↔ n < I.sup.length ∧ n ∉ told ∧ wC I told n = 0
theorem KahnIs.ord {I : InstD} {h W told : List Nat} (H : KahnIs I h W told) : OrdIs I told := by
  have := order_is I told.length
  rwa [← H.run] at this
theorem KahnIs.perm {I : InstD} {h h' W told : List Nat} (H : KahnIs I h W told) (p : h.Perm h') : KahnIs I h' W told := ⟨H.run, H.len, H.wait, p.nodup_iff.1 H.nodup, fun n => by rw [← p.mem_iff]; exact H.is n⟩
theorem KahnIs.count {I : InstD} {n : Nat} {h W told : List Nat} (H : KahnIs I (n :: h) W told) : ∀ m, (outN I n).count m ≤ W.getD m 0 := by
  intro m
  by_cases c : m < I.sup.length
  · rw [H.wait m c]
    have := wC_step (I := I) ((H.is n).1 (by simp)).2.1 m
    omega
  · rw [List.count_eq_zero_of_not_mem (fun q => c (mem_outN.1 q).lt.2)]
    exact Nat.zero_le _
theorem KahnIs.step {I : InstD} {n : Nat} {h W told : List Nat} (H : KahnIs I (n :: h) W told) (hmin : ∀ m ∈ h, n ≤ m) :
    KahnIs I (h ++ freeL W (outN I n) (outN I n).length) (decs W (outN I n)) (told ++ [n]) := by
  obtain ⟨hn1, hn2, hn3⟩ := (H.is n).1 (by simp)
  have hnx : nextD I (orderN I told.length) = some n := by
    rw [← H.run]
    refine next_some.2 ⟨hn1, ⟨hn2, wC_free.1 hn3⟩, fun m hm q => ?_⟩
    have : m ∈ n :: h := (H.is m).2 ⟨by omega, q.1, wC_free.2 q.2⟩
    rw [List.mem_cons] at this
    rcases this with e | e
    · omega
    · have := hmin m e; omega
  have ws := fun m => wC_step (I := I) hn2 m
  have hlt : ∀ m ∈ outN I n, m < W.length := fun m hm => by rw [H.len]; exact (mem_outN.1 hm).lt.2
  obtain ⟨f1, f2⟩ := freeL_is hlt H.count _ (Nat.le_refl _)
  rw [List.take_length] at f2
  have gd : ∀ m, m < I.sup.length → (decs W (outN I n)).getD m 0 = wC I (told ++ [n]) m := by
    intro m hm
    rw [decs_get m _ _ (by rw [H.len]; exact hm), H.wait m hm, ws m]
    omega
  have fmem : ∀ x, x ∈ freeL W (outN I n) (outN I n).length ↔ x ∈ outN I n ∧ wC I (told ++ [n]) x = 0 := by
    intro x
    rw [f2 x]
    constructor
    · rintro ⟨q1, q2⟩
      exact ⟨q1, by rw [← gd x (mem_outN.1 q1).lt.2]; exact q2⟩
    · rintro ⟨q1, q2⟩
      exact ⟨q1, by rw [gd x (mem_outN.1 q1).lt.2]; exact q2⟩
  have noloop : n ∉ outN I n := fun q => hn2 (wC_free.1 hn3 n (mem_outN.1 q))
  have hnd := List.nodup_cons.1 H.nodup
  refine ⟨?_, by rw [decs_length]; exact H.len, gd, ?_, fun x => ?_⟩
  · rw [List.length_append, List.length_singleton, orderN_some hnx, ← H.run]
  · refine List.nodup_append.2 ⟨hnd.2, f1, fun a ha b hb e => ?_⟩
    subst e
    have q1 := ((H.is a).1 (by simp [ha])).2.2
    have q2 := ((fmem a).1 hb).1
    have := ws a
    have c := List.count_pos_iff.2 q2
    omega
  · rw [List.mem_append, fmem x]
    constructor
    · rintro (q | ⟨q1, q2⟩)
      · obtain ⟨a1, a2, a3⟩ := (H.is x).1 (by simp [q])
        refine ⟨a1, fun r => ?_, ?_⟩
        · rw [List.mem_append, List.mem_singleton] at r
          rcases r with r | rfl
          · exact a2 r
          · exact hnd.1 q
        · have := ws x; omega
      · refine ⟨(mem_outN.1 q1).lt.2, fun r => ?_, q2⟩
        rw [List.mem_append, List.mem_singleton] at r
        rcases r with r | rfl
        · -- told already: then each arc into it is out of one that was told
          obtain ⟨A, B, e⟩ := List.append_of_mem r
          have := H.ord.ahead A x B e n (mem_outN.1 q1)
          exact hn2 (by rw [e]; simp [this])
        · exact noloop q1
    · rintro ⟨a1, a2, a3⟩
      by_cases c : x ∈ outN I n
      · exact .inr ⟨c, a3⟩
      · left
        have hx : x ∈ n :: h := (H.is x).2 ⟨a1, fun r => a2 (by simp [r]), by
          have := ws x
          rw [List.count_eq_zero_of_not_mem c] at this
          omega⟩
        rw [List.mem_cons] at hx
        rcases hx with rfl | hx
        · exact absurd (by simp) a2
        · exact hx
theorem KahnIs.over {I : InstD} {W told : List Nat} (H : KahnIs I [] W told) : told = orderL I :=
  order_end H.run (next_none.2 fun n hn q => by
    have := (H.is n).2 ⟨hn, q.1, wC_free.2 q.2⟩
    simp at this)
end Go.Proofs.Ytajckihgfelbaaa.Rch
/- A heap in a list: the least stands first. No program in sight. -/
namespace Go.Proofs.Ytajckihgfelbaaa.Rch
open Go

def at' (l : List Int) (i : Nat) : Int := l.getD i 0
theorem at_get {l : List Int} {i : Nat} (h : i < l.length) : at' l i = l[i] := by unfold at'; simp [h]
def swapL (l : List Int) (i j : Nat) : List Int := (l.set i (at' l j)).set j (at' l i)
theorem swapL_length (l : List Int) (i j : Nat) : (swapL l i j).length = l.length := by simp [swapL]
theorem swapL_perm {l : List Int} {i j : Nat} (hi : i < l.length) (hj : j < l.length) : (swapL l i j).Perm l := by
  unfold swapL
  rw [at_get hi, at_get hj]
  exact List.set_set_perm hi hj
theorem swapL_at {l : List Int} {i j : Nat} (hi : i < l.length) (hj : j < l.length) (k : Nat) : at' (swapL l i j) k = if k = j then at' l i else if k = i then at' l j else at' l k := by
  unfold swapL at'
  rw [List.getD_eq_getElem?_getD, List.getElem?_set, List.getElem?_set]
  by_cases c : j = k
  · subst c
    simp [hj]
  · have c2 : ¬ k = j := fun e => c e.symm
    rw [if_neg c, if_neg c2]
    by_cases d : i = k
    · subst d
      simp [hi]
    · have d2 : ¬ k = i := fun e => d e.symm
      rw [if_neg d, if_neg d2, List.getD_eq_getElem?_getD]

/-- The first n of it are in order. -/
def Heap (l : List Int) (n : Nat) : Prop := ∀ k, 0 < k → k < n → at' l ((k - 1) / 2) ≤ at' l k
theorem Heap.least {l : List Int} {n : Nat} (h : Heap l n) : ∀ k, k < n → at' l 0 ≤ at' l k := by
  intro k
  induction k using Nat.strongRecOn with
  | _ k ih =>
    intro hk
    by_cases c : k = 0
    · subst c; exact Int.le_refl _
    · have := ih ((k - 1) / 2) (by omega) (by omega)
      have := h k (by omega) hk
      omega
/-- .. but for j, which may be less than the one above it. -/
def HeapUp (l : List Int) (n j : Nat) : Prop := (∀ k, 0 < k → k < n → k ≠ j → at' l ((k - 1) / 2) ≤ at' l k) ∧ ∀ k, 0 < k → k < n → (k - 1) / 2 = j → 0 < j → at' l ((j - 1) / 2) ≤ at' l k
theorem HeapUp.top {l : List Int} {n : Nat} (h : HeapUp l n 0) : Heap l n := fun k h0 hk => h.1 k h0 hk (by omega)
theorem HeapUp.done {l : List Int} {n j : Nat} (h : HeapUp l n j) (hj : at' l ((j - 1) / 2) ≤ at' l j) : Heap l n := fun k h0 hk => by
  by_cases c : k = j
  · subst c; exact hj
  · exact h.1 k h0 hk c
theorem HeapUp.step {l : List Int} {n j : Nat} (h : HeapUp l n j) (hn : n ≤ l.length) (hjn : j < n) (h0 : 0 < j) (hlt : at' l j < at' l ((j - 1) / 2)) : HeapUp (swapL l ((j - 1) / 2) j) n ((j - 1) / 2) := by
  have hi : (j - 1) / 2 < l.length := by omega
  have hj : j < l.length := by omega
  have sw := swapL_at hi hj
  have ij : (j - 1) / 2 < j := by omega
  constructor
  · intro k k0 kn kne
    rw [sw, sw]
    by_cases c : k = j
    · subst c
      rw [if_neg (by omega), if_pos rfl, if_pos rfl]
      omega
    · rw [if_neg c, if_neg kne]
      by_cases d : (k - 1) / 2 = j
      · rw [if_pos d]
        exact h.2 k k0 kn d h0
      · rw [if_neg d]
        by_cases e : (k - 1) / 2 = (j - 1) / 2
        · rw [if_pos e]
          have := h.1 k k0 kn c
          rw [e] at this
          omega
        · rw [if_neg e]
          exact h.1 k k0 kn c
  · intro k k0 kn kp i0
    have hii := h.1 ((j - 1) / 2) i0 (by omega) (by omega)
    rw [sw, sw, if_neg (by omega), if_neg (by omega)]
    by_cases c : k = j
    · rw [if_pos c]
      exact hii
    · rw [if_neg c, if_neg (by omega)]
      have := h.1 k k0 kn c
      rw [kp] at this
      omega
/-- .. but for i, which may be greater than those below it. -/
def HeapDn (l : List Int) (n i : Nat) : Prop := (∀ k, 0 < k → k < n → (k - 1) / 2 ≠ i → at' l ((k - 1) / 2) ≤ at' l k) ∧ ∀ k, 0 < k → k < n → (k - 1) / 2 = i → 0 < i → at' l ((i - 1) / 2) ≤ at' l k
theorem HeapDn.leaf {l : List Int} {n i : Nat} (h : HeapDn l n i) (hn : n ≤ 2 * i + 1) : Heap l n := fun k h0 hk => h.1 k h0 hk (by omega)
/-- The lesser one of those below. -/
theorem HeapDn.done {l : List Int} {n i j : Nat} (h : HeapDn l n i) (hle : ∀ k, k < n → (k = 2 * i + 1 ∨ k = 2 * i + 2) → at' l j ≤ at' l k) (hge : at' l i ≤ at' l j) : Heap l n := fun k h0 hk => by
  by_cases c : (k - 1) / 2 = i
  · have := hle k hk (by omega)
    rw [c]
    omega
  · exact h.1 k h0 hk c
theorem HeapDn.step {l : List Int} {n i j : Nat} (h : HeapDn l n i) (hn : n ≤ l.length) (hjn : j < n) (hj : j = 2 * i + 1 ∨ j = 2 * i + 2) (hle : ∀ k, k < n → (k = 2 * i + 1 ∨ k = 2 * i + 2) → at' l j ≤ at' l k) (hlt : at' l j < at' l i) : HeapDn (swapL l i j) n j := by
  have hi : i < l.length := by omega
  have hj2 : j < l.length := by omega
  have sw := swapL_at hi hj2
  have pj : (j - 1) / 2 = i := by omega
  constructor
  · intro k k0 kn kne
    rw [sw, sw]
    by_cases c : k = j
    · subst c
      rw [if_neg (by omega), if_pos pj, if_pos rfl]
      omega
    · rw [if_neg c]
      rw [if_neg kne]
      by_cases d : (k - 1) / 2 = i
      · rw [if_pos d, if_neg (by omega)]
        exact hle k kn (by omega)
      · rw [if_neg d]
        by_cases e : k = i
        · subst e
          rw [if_pos rfl]
          exact h.2 j (by omega) hjn pj k0
        · rw [if_neg e]
          exact h.1 k k0 kn d
  · intro k k0 kn kp j0
    rw [sw, sw, pj, if_neg (by omega), if_pos rfl, if_neg (by omega), if_neg (by omega)]
    have := h.1 k k0 kn (by omega)
    rw [kp] at this
    exact this
theorem HeapDn.first {l : List Int} {n : Nat} (h : Heap l (n + 1)) (hn : n < l.length) : HeapDn (swapL l 0 n) n 0 := by
  have sw := swapL_at (show 0 < l.length by omega) hn
  refine ⟨fun k k0 kn kne => ?_, fun k _ _ _ h0 => absurd h0 (by omega)⟩
  rw [sw, sw, if_neg (by omega), if_neg kne, if_neg (by omega), if_neg (by omega)]
  exact h k k0 (by omega)
theorem Heap.snoc {l : List Int} (h : Heap l l.length) (x : Int) : HeapUp (l ++ [x]) (l ++ [x]).length l.length := by
  have e : ∀ k, k < l.length → at' (l ++ [x]) k = at' l k := fun k hk => by
    unfold at'
    rw [List.getD_eq_getElem?_getD, List.getD_eq_getElem?_getD, List.getElem?_append_left hk]
  refine ⟨fun k k0 kn kne => ?_, fun k k0 kn kp j0 => ?_⟩
  · simp at kn
    rw [e _ (by omega), e k (by omega)]
    exact h k k0 (by omega)
  · simp at kn
    omega
theorem Heap.take {l : List Int} {n : Nat} (h : Heap l n) (hn : n ≤ l.length) : Heap (l.take n) (l.take n).length := by
  rw [List.length_take, Nat.min_eq_left hn]
  have e : ∀ k, k < n → at' (l.take n) k = at' l k := fun k hk => by
    unfold at'
    rw [List.getD_eq_getElem?_getD, List.getD_eq_getElem?_getD, List.getElem?_take_of_lt hk]
  intro k k0 kn
  rw [e _ (by omega), e k kn]
  exact h k k0 kn
end Go.Proofs.Ytajckihgfelbaaa.Rch
