/- PLAIN FACTS: the keys rise; what take makes of them. -/
import Derived.Test.YtdoedjmdcmgddaaGreatK1
namespace Go.Proofs.YtdoedjmdcmgddaaGreat
set_option linter.unusedVariables false
set_option linter.unusedSimpArgs false
open Go.Lib

theorem cmp_gt : ∀ (a b : List UInt8), (0 < compareBytes a b) ↔ Op.bytesLess b a = true
  | [], [] => by simp [compareBytes, Op.bytesLess]
  | [], _ :: _ => by simp [compareBytes, Op.bytesLess]
  | _ :: _, [] => by simp [compareBytes, Op.bytesLess]
  | a :: x, b :: y => by
    have ih := cmp_gt x y
    simp only [compareBytes, Op.bytesLess]
    by_cases h1 : a < b
    · have h2 : ¬ b < a := UInt8.lt_asymm h1
      have : ¬ (b == a) = true := by
        intro h; have := eq_of_beq h; subst this; exact absurd h1 (UInt8.lt_irrefl _)
      simp [h1, h2, this]
    · by_cases h2 : b < a
      · simp [h1, h2]
      · have e : a = b := by
          refine Decidable.of_not_not fun h => ?_
          rcases UInt8.lt_or_lt_of_ne h with h | h
          · exact h1 h
          · exact h2 h
        subst e
        simp [h1, ih]

theorem less_irrefl (a : ByteArray) : less a a = false := by
  have h := (cmpN_eq a a).2 rfl
  have := cmpN_lt a a
  cases e : less a a with
  | false => rfl
  | true => have := this.2 e; omega

theorem less_tri (a b : ByteArray) : less a b = true ∨ a = b ∨ less b a = true := by
  rcases Int.lt_trichotomy (cmpN a b) 0 with h | h | h
  · exact .inl ((cmpN_lt a b).1 h)
  · exact .inr (.inl ((cmpN_eq a b).1 h))
  · exact .inr (.inr ((cmp_gt _ _).1 h))

theorem bless_trans : ∀ (a b c : List UInt8), Op.bytesLess a b = true → Op.bytesLess b c = true → Op.bytesLess a c = true
  | a, b, [], _, h2 => by simp [Op.bytesLess] at h2
  | [], b, _ :: _, _, _ => by simp [Op.bytesLess]
  | x :: a, [], _ :: _, h1, _ => by simp [Op.bytesLess] at h1
  | x :: a, y :: b, z :: c, h1, h2 => by
    have ih := bless_trans a b c
    simp only [Op.bytesLess, Bool.or_eq_true, Bool.and_eq_true, beq_iff_eq, decide_eq_true_eq] at h1 h2 ⊢
    rcases h1 with h1 | ⟨rfl, h1⟩
    · rcases h2 with h2 | ⟨rfl, h2⟩
      · exact .inl (UInt8.lt_trans h1 h2)
      · exact .inl h1
    · rcases h2 with h2 | ⟨rfl, h2⟩
      · exact .inl h2
      · exact .inr ⟨rfl, ih h1 h2⟩

theorem less_trans {a b c : ByteArray} (h1 : less a b = true) (h2 : less b c = true) : less a c = true := bless_trans _ _ _ h1 h2
theorem less_asymm {a b : ByteArray} (h : less a b = true) : less b a = false := by
  cases e : less b a with
  | false => rfl
  | true => have := less_trans h e; rw [less_irrefl] at this; cases this

/-- The keys stand in order. -/
def Sorted (l : List Ky) : Prop := l.Pairwise fun a b => less a.name b.name = true

theorem Sorted.rises : ∀ {l : List Ky}, Sorted l → Rises l
  | [], _ => ⟨fun name i h => by simp at h⟩
  | k :: r, h => by
    obtain ⟨h1, h2⟩ := List.pairwise_cons.1 h
    have ih := Sorted.rises h2
    refine ⟨fun name i hi => ?_⟩
    by_cases hk : less k.name name = true
    · cases i with
      | zero => simp [nameAt, lowPos, hk]
      | succ i =>
        have := ih.tail name i (by simpa using hi)
        simpa [nameAt, lowPos, hk] using this
    · cases i with
      | zero => simp [nameAt, lowPos, hk]
      | succ i =>
        have hi' : i < r.length := by simpa using hi
        have hx : r[i]? = some r[i] := List.getElem?_eq_getElem hi'
        have hlt := h1 r[i] (List.getElem_mem hi')
        have : ¬ less r[i].name name = true := fun h' => hk (less_trans hlt h')
        simp [nameAt, lowPos, hk, hx, this]

theorem takeKy_found (name : ByteArray) (val : Int) : ∀ {l : List Ky}, Sorted l → ∀ {i : Nat} {k : Ky}, lowPos name l = i → l[i]? = some k → k.name = name → takeKy name val l = l.set i (k.more val)
  | [], _, i, k, _, hk, _ => by simp at hk
  | y :: r, h, i, k, hi, hk, hn => by
    obtain ⟨h1, h2⟩ := List.pairwise_cons.1 h
    by_cases hy : less y.name name = true
    · have hne : ¬ y.name = name := fun e => by rw [e, less_irrefl] at hy; cases hy
      have hna : less name y.name = false := less_asymm hy
      simp only [lowPos, hy] at hi
      subst hi
      have := takeKy_found name val h2 (i := lowPos name r) (k := k) rfl (by simpa using hk) hn
      simp [takeKy, hne, hna, this]
    · simp only [lowPos, hy] at hi
      subst hi
      simp at hk
      subst hk
      simp [takeKy, hn]

theorem takeKy_new (name : ByteArray) (val : Int) : ∀ {l : List Ky}, Sorted l → ∀ {i : Nat}, lowPos name l = i → ¬ (i < l.length ∧ nameAt l i = name) → takeKy name val l = l.take i ++ [(⟨name, 0, 0, 0⟩ : Ky).more val] ++ l.drop i
  | [], _, i, hi, _ => by simp [takeKy]
  | y :: r, h, i, hi, hno => by
    obtain ⟨h1, h2⟩ := List.pairwise_cons.1 h
    by_cases hy : less y.name name = true
    · have hne : ¬ y.name = name := fun e => by rw [e, less_irrefl] at hy; cases hy
      have hna : less name y.name = false := less_asymm hy
      simp only [lowPos, hy] at hi
      subst hi
      have := takeKy_new name val h2 (i := lowPos name r) rfl (by
        intro ⟨a, b⟩
        exact hno ⟨by simp; omega, by simpa [nameAt] using b⟩)
      simp [takeKy, hne, hna, this]
    · simp only [lowPos, hy] at hi
      subst hi
      have hne : ¬ y.name = name := fun e => hno ⟨by simp, by simpa [nameAt] using e⟩
      have hna : less name y.name = true := by
        rcases less_tri y.name name with h' | h' | h'
        · exact absurd h' hy
        · exact absurd h' hne
        · exact h'
      simp [takeKy, hne, hna]

end Go.Proofs.YtdoedjmdcmgddaaGreat
