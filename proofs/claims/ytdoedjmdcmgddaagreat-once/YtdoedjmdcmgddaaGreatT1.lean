/- A HEAP OF AT MOST FOUR AND A SORTED LIST: no program text. -/
import Derived.Test.YtdoedjmdcmgddaaGreatF3
import Derived.Test.YtdoedjmdcmgddaaGreatG1
namespace Go.Proofs.YtdoedjmdcmgddaaGreat
set_option linter.unusedVariables false
set_option linter.unusedSimpArgs false

/-- A heap of at most four. -/
def Hp : List Wt → Prop
  | [] => True
  | [_] => True
  | [a, b] => a.num ≤ b.num
  | [a, b, c] => a.num ≤ b.num ∧ a.num ≤ c.num
  | [a, b, c, d] => a.num ≤ b.num ∧ a.num ≤ c.num ∧ b.num ≤ d.num
  | _ => False

theorem up_heap (q : List Wt) (x : Wt) (hl : q.length ≤ 3) (hh : Hp q) : Hp (upFn (q.length + 1) (q ++ [x]) q.length) ∧ (upFn (q.length + 1) (q ++ [x]) q.length).Perm (x :: q) := by
  classical
  match q, hl, hh with
  | [], _, _ => exact ⟨by simp [upFn, Hp], by simp [upFn]⟩
  | [a], _, _ =>
    by_cases h : x.num < a.num
    · simp [upFn, swapL, numAt, h, Hp]; omega
    · simp [upFn, swapL, numAt, h, Hp]
      exact ⟨by omega, .swap _ _ _⟩
  | [a, b], _, hh =>
    simp only [Hp] at hh
    by_cases h : x.num < a.num
    · simp [upFn, swapL, numAt, h, Hp]
      exact ⟨by omega, .swap _ _ _⟩
    · simp [upFn, swapL, numAt, h, Hp]
      refine ⟨by omega, List.perm_iff_count.2 fun y => ?_⟩
      simp only [List.count_cons, List.count_nil]; omega
  | [a, b, c], _, hh =>
    simp only [Hp] at hh
    by_cases h : x.num < b.num
    · by_cases h' : x.num < a.num
      · simp [upFn, swapL, numAt, h, h', Hp]
        refine ⟨by omega, List.perm_iff_count.2 fun y => ?_⟩
        simp only [List.count_cons, List.count_nil]; omega
      · simp [upFn, swapL, numAt, h, h', Hp]
        refine ⟨by omega, List.perm_iff_count.2 fun y => ?_⟩
        simp only [List.count_cons, List.count_nil]; omega
    · simp [upFn, swapL, numAt, h, Hp]
      refine ⟨by omega, List.perm_iff_count.2 fun y => ?_⟩
      simp only [List.count_cons, List.count_nil]; omega
  | _ :: _ :: _ :: _ :: _, hl, _ => simp at hl

theorem pop_heap (x : Wt) (r : List Wt) (hl : r.length ≤ 3) (hh : Hp (x :: r)) :
    (downFn r.length (swapL (x :: r) 0 r.length) 0 r.length)[r.length]? = some x ∧ Hp ((downFn r.length (swapL (x :: r) 0 r.length) 0 r.length).take r.length) ∧ ((downFn r.length (swapL (x :: r) 0 r.length) 0 r.length).take r.length).Perm r := by
  classical
  match r, hl, hh with
  | [], _, _ => simp [downFn, swapL, Hp]
  | [a], _, _ => simp [downFn, swapL, Hp]
  | [a, b], _, hh =>
    simp only [Hp] at hh
    by_cases h : a.num < b.num
    · simp [downFn, swapL, numAt, h, Hp]; omega
    · simp [downFn, swapL, numAt, h, Hp]
      exact ⟨by omega, .swap _ _ _⟩
  | [a, b, c], _, hh =>
    simp only [Hp] at hh
    by_cases h : b.num < a.num
    · by_cases h' : b.num < c.num
      · simp [downFn, swapL, numAt, h, h', Hp]
        refine ⟨by omega, List.perm_iff_count.2 fun y => ?_⟩
        simp only [List.count_cons, List.count_nil]; omega
      · simp [downFn, swapL, numAt, h, h', Hp]
        refine ⟨by omega, List.perm_iff_count.2 fun y => ?_⟩
        simp only [List.count_cons, List.count_nil]; omega
    · by_cases h' : a.num < c.num
      · simp [downFn, swapL, numAt, h, h', Hp]
        refine ⟨by omega, List.perm_iff_count.2 fun y => ?_⟩
        simp only [List.count_cons, List.count_nil]; omega
      · simp [downFn, swapL, numAt, h, h', Hp]
        refine ⟨by omega, List.perm_iff_count.2 fun y => ?_⟩
        simp only [List.count_cons, List.count_nil]; omega
  | _ :: _ :: _ :: _ :: _, hl, _ => simp at hl

theorem Hp.least {x : Wt} {r : List Wt} (h : Hp (x :: r)) : ∀ y ∈ r, x.num ≤ y.num := by
  match r, h with
  | [], _ => simp
  | [a], h => simpa [Hp] using h
  | [a, b], h => simpa [Hp] using h
  | [a, b, c], h => simp only [Hp] at h; simp; omega
  | _ :: _ :: _ :: _ :: _, h => exact h.elim

/-- Their numbers rise. -/
def Up (l : List Wt) : Prop := l.Pairwise fun a b => a.num < b.num

theorem put_up (x : Wt) : ∀ {l : List Wt}, Up l → (∀ y ∈ l, y.num ≠ x.num) → Up (putW x l) ∧ (putW x l).Perm (x :: l)
  | [], _, _ => by simp [putW, Up]
  | y :: r, h, hn => by
    have h' := List.pairwise_cons.1 h
    obtain ⟨i1, i2⟩ := put_up x (l := r) h'.2 (fun z hz => hn z (by simp [hz]))
    by_cases hlt : x.num < y.num
    · simp only [putW, if_pos hlt]
      refine ⟨List.pairwise_cons.2 ⟨fun z hz => ?_, h⟩, .refl _⟩
      rcases List.mem_cons.1 hz with rfl | hz
      · exact hlt
      · have := h'.1 z hz; omega
    · simp only [putW, if_neg hlt]
      refine ⟨List.pairwise_cons.2 ⟨fun z hz => ?_, i1⟩, (List.Perm.cons y i2).trans (.swap _ _ _)⟩
      rcases List.mem_cons.1 (i2.mem_iff.1 hz) with rfl | hz
      · have := hn y (by simp); omega
      · exact h'.1 z hz

/-- What drains a heap drains the sorted list. -/
theorem drain_tie : ∀ (f : Nat) (b : Int) (q ws : List Wt) (ks : List Ky), q.length < f → q.length ≤ 4 → Hp q → Up ws → q.Perm ws →
    (drainH f b q ks).1 = (drainW b ws ks).1 ∧ (drainH f b q ks).2.2 = (drainW b ws ks).2.2 ∧ Hp (drainH f b q ks).2.1 ∧ Up (drainW b ws ks).2.1 ∧ (drainH f b q ks).2.1.Perm (drainW b ws ks).2.1
  | 0, _, q, _, _, hf, _, _, _, _ => by omega
  | f + 1, b, [], ws, ks, _, _, _, hu, hp => by
    obtain rfl : ws = [] := List.Perm.eq_nil hp.symm
    simp [drainH, drainW, Hp, Up]
  | f + 1, b, x :: r, ws, ks, hf, hl, hh, hu, hp => by
    match ws, hu, hp with
    | [], _, hp => exact absurd hp.length_eq (by simp)
    | y :: s, hu, hp =>
      have hu' := List.pairwise_cons.1 hu
      have hxy : x = y := by
        have hx : x ∈ y :: s := hp.mem_iff.1 (by simp)
        have hy : y ∈ x :: r := hp.mem_iff.2 (by simp)
        rcases List.mem_cons.1 hx with h | h
        · exact h
        · rcases List.mem_cons.1 hy with h2 | h2
          · exact h2.symm
          · have := hu'.1 x h
            have := hh.least y h2
            omega
      subst hxy
      have hp' : r.Perm s := List.Perm.cons_inv hp
      by_cases hb : x.num = b
      · obtain ⟨e, h1, h2⟩ := pop_heap x r (by simp at hl; omega) hh
        have ih := drain_tie f (b + 1) ((downFn r.length (swapL (x :: r) 0 r.length) 0 r.length).take r.length) s (takeKy x.key x.val ks) (by rw [h2.length_eq]; simp at hf; omega) (by rw [h2.length_eq]; simp at hl; omega) h1 hu'.2 (h2.trans hp')
        simp only [drainH, drainW, if_pos hb, e]
        exact ih
      · simp only [drainH, drainW, if_neg hb]
        exact ⟨trivial, trivial, hh, hu, hp⟩

/-- The numbers in order. -/
theorem nums_tie {q ws : List Wt} (hu : Up ws) (hp : q.Perm ws) : theNums q = ws.map (·.num) := by
  unfold theNums
  refine List.Perm.eq_of_pairwise (le := fun a b => a ≤ b) (fun a b _ _ h1 h2 => by omega) ?_ ?_ ((List.mergeSort_perm _ _).trans (hp.map _))
  · have := List.pairwise_mergeSort (le := fun x y : Int => decide (x ≤ y)) (by simp; omega) (by simp; omega) (q.map (·.num))
    simpa using this
  · rw [List.pairwise_map]
    exact hu.imp (fun h => by omega)

/-- What is left lies above the base. -/
theorem drain_above : ∀ (b : Int) (ws : List Wt) (ks : List Ky) (hi : Int), Up ws → (∀ y ∈ ws, b ≤ y.num ∧ y.num < hi) →
    (∀ y ∈ (drainW b ws ks).2.1, (drainW b ws ks).1 < y.num ∧ y.num < hi) ∧ b ≤ (drainW b ws ks).1 ∧ (drainW b ws ks).1 + (drainW b ws ks).2.1.length = b + ws.length ∧ counts (drainW b ws ks).2.2 = counts ks + ((drainW b ws ks).1 - b) ∧ (∀ y ∈ (drainW b ws ks).2.1, y ∈ ws)
  | b, [], ks, hi, _, _ => by simp [drainW]
  | b, x :: r, ks, hi, hu, h => by
    have hu' := List.pairwise_cons.1 hu
    by_cases hb : x.num = b
    · obtain ⟨h1, h2, h3, h4, h5⟩ := drain_above (b + 1) r (takeKy x.key x.val ks) hi hu'.2 (fun y hy => by have := hu'.1 y hy; have := h y (by simp [hy]); omega)
      simp only [drainW, if_pos hb]
      rw [counts_takeKy] at h4
      exact ⟨h1, by omega, by simp; omega, by omega, fun y hy => by simp [h5 y hy]⟩
    · simp only [drainW, if_neg hb]
      refine ⟨fun y hy => ?_, by omega, trivial, by omega, fun y hy => hy⟩
      have h0 := h x (by simp)
      have := h y hy
      rcases List.mem_cons.1 hy with rfl | hy
      · omega
      · have := hu'.1 y hy; omega

/-- Few numbers, few places. -/
theorem up_short : ∀ (l : List Wt) (lo hi : Int), Up l → (∀ y ∈ l, lo ≤ y.num ∧ y.num < hi) → lo ≤ hi → (l.length : Int) ≤ hi - lo
  | [], lo, hi, _, _, h => by simp; omega
  | x :: r, lo, hi, hu, h, _ => by
    have hu' := List.pairwise_cons.1 hu
    have h0 := h x (by simp)
    have := up_short r (x.num + 1) hi hu'.2 (fun y hy => by have := hu'.1 y hy; have := h y (by simp [hy]); omega) (by omega)
    simp; omega

end Go.Proofs.YtdoedjmdcmgddaaGreat
