/- slices.Sort, slices.Compact IN OWNED ROWS. -/
import Derived.Test.YtdoedjmdcmgddaaGreatI1
import Derived.Lib.SortBridgeS
import Derived.Lib.SmallJoins
import Derived.Lib.SlicesCompact
namespace Go.Proofs.YtdoedjmdcmgddaaGreat
set_option linter.unusedVariables false
set_option linter.unusedSimpArgs false
open Go.RowKit Go.Lib Go.Sort

theorem grow_chg (w : World) (os : Array Obj) : Chg (fun _ => False) w (grow w os) :=
  ⟨rfl, rfl, rfl, by simp [grow], fun k hk _ => heap_grow_old w os hk⟩

theorem row_holds {α : Type} [Inhabited α] (enc : α → Value) {w : World} {ds : List α} {lo : Nat} {e : TypeId} {g n cap : Nat} (hr : w.ownsRow lo e 1 (.slice (some ⟨g, 0, none⟩) n cap) n (ds.map enc)) : Holds enc w g 0 ds.toArray := by
  intro j hj
  have hj' : j < ds.length := by simpa using hj
  refine ⟨?_, row_frozen hr _⟩
  rw [Nat.zero_add]
  refine row_cell hr ?_
  rw [List.getElem?_map, List.getElem?_eq_getElem hj', getElem!_pos _ j hj]
  simp

/-- The world behind a sort, or the like, of a row of the call's own. -/
theorem row_put {α : Type} [Inhabited α] (enc : α → Value) (w : World) (ds ys : List α) {lo : Nat} {e : TypeId} {g n cap : Nat} (hr : w.ownsRow lo e 1 (.slice (some ⟨g, 0, none⟩) n cap) n (ds.map enc)) (hl : ys.length = n) (q : Nat) (os : Array Obj) :
    (grow (putRow enc (Sort.ahead w q) g 0 ys.toArray) os).ownsRow lo e 1 (.slice (some ⟨g, 0, none⟩) n cap) n (ys.map enc) ∧ Chg (fun k => k = g) w (grow (putRow enc (Sort.ahead w q) g 0 ys.toArray) os) := by
  have hdl : ds.length = n := by have := hr.1; simpa using this
  have hH : Holds enc w g 0 ds.toArray := by
    intro j hj
    have hj' : j < ds.length := by simpa using hj
    refine ⟨?_, row_frozen hr _⟩
    rw [Nat.zero_add]
    refine row_cell hr ?_
    rw [List.getElem?_map, List.getElem?_eq_getElem hj', getElem!_pos _ j hj]
    simp
  rw [putRow_eq_setCells enc w g 0 ds.toArray ys q hH (by simp [hl, hdl])]
  have hr' : (w.drewN q).ownsRow lo e 1 (.slice (some ⟨g, 0, none⟩) n cap) n (ds.map enc) := hr
  obtain ⟨r1, c1⟩ := row_setCells (ys.map enc) 0 (w.drewN q) (ds.map enc) hr' (by simp [hl, hdl])
  have e1 : (ds.map enc).take 0 ++ ys.map enc ++ (ds.map enc).drop (0 + (ys.map enc).length) = ys.map enc := by
    simp [hl, hdl]
  rw [e1] at r1
  have c0 : Chg (fun k => k = g) w (w.drewN q) := ⟨rfl, rfl, rfl, Nat.le_refl _, fun _ _ _ => rfl⟩
  exact ⟨(grow_chg _ os).row' r1 (fun _ _ h => h.elim), (c0.trans c1 (fun _ _ h => h)).trans (grow_chg _ os) (fun _ _ h => h.elim)⟩

/-- A row's beginning. -/
theorem row_front {w : World} {lo : Nat} {e : TypeId} {size g n cap : Nat} {xs : List Value} (h : w.ownsRow lo e size (.slice (some ⟨g, 0, none⟩) n cap) n xs) (m : Nat) (hm : m ≤ n) : w.ownsRow lo e size (.slice (some ⟨g, 0, none⟩) m cap) m (xs.take (m * size)) := by
  rcases h.2 with ⟨hv, _⟩ | ⟨g', cap', cur, hv, hb, hg, hn, hmx, hs, ht⟩
  · simp at hv
  · simp at hv
    obtain ⟨rfl, rfl⟩ := hv
    have hle : m * size ≤ n * size := Nat.mul_le_mul_right _ hm
    refine ⟨by rw [List.length_take, h.1]; omega, .inr ⟨g, cap, cur, rfl, hb, hg, by omega, hmx, hs, ?_⟩⟩
    rw [← ht, List.take_take, Nat.min_eq_left hle]

theorem mem_upTo {α : Type} [DecidableEq α] [Inhabited α] (d : Array α) (x : α) : ∀ m, x ∈ compactUpTo d m ↔ ∃ j, j < m ∧ d[j]! = x
  | 0 => by simp [compactUpTo]
  | m + 1 => by
    rw [compactUpTo_succ, List.mem_append, mem_upTo d x m]
    constructor
    · rintro (⟨j, hj, h⟩ | h)
      · exact ⟨j, by omega, h⟩
      · split at h
        · simp at h; exact ⟨m, by omega, h.symm⟩
        · simp at h
    · rintro ⟨j, hj, h⟩
      rcases Nat.lt_or_ge j m with hjm | hjm
      · exact .inl ⟨j, hjm, h⟩
      · obtain rfl : j = m := by omega
        by_cases hk : keeps d j = true
        · right; simp [hk, h]
        · left
          have : ¬ (j = 0 ∨ d[j]! ≠ d[j - 1]!) := by simpa [keeps] using hk
          have h0 : j ≠ 0 := fun e => this (.inl e)
          have h1 : d[j]! = d[j - 1]! := Decidable.of_not_not fun e => this (.inr e)
          exact ⟨j - 1, by omega, h1.symm.trans h⟩

theorem mem_compact {α : Type} [DecidableEq α] [Inhabited α] (zs : List α) (x : α) : x ∈ compact zs ↔ x ∈ zs := by
  unfold compact
  rw [mem_upTo]
  constructor
  · rintro ⟨j, hj, rfl⟩
    rw [getElem!_pos _ j (by simpa using hj)]
    simp
  · intro h
    obtain ⟨j, hj, rfl⟩ := List.getElem_of_mem h
    exact ⟨j, hj, by rw [getElem!_pos _ j (by simpa using hj)]; simp⟩

/-- Of a row that rises nothing comes twice. -/
theorem nodup_upTo {α : Type} [DecidableEq α] [Inhabited α] (le : α → α → Prop) (anti : ∀ a b, le a b → le b a → a = b) (d : Array α) (hs : ∀ i j, i < j → j < d.size → le d[i]! d[j]!) (hrefl : ∀ a, le a a) : ∀ m, m ≤ d.size → (compactUpTo d m).Nodup
  | 0, _ => by simp [compactUpTo]
  | m + 1, hm => by
    have ih := nodup_upTo le anti d hs hrefl m (by omega)
    rw [compactUpTo_succ]
    by_cases hk : keeps d m = true
    · rw [if_pos hk, List.nodup_append]
      refine ⟨ih, by simp, ?_⟩
      intro a ha b hb
      simp at hb
      subst hb
      rintro rfl
      obtain ⟨j, hj, he⟩ := (mem_upTo d d[m]! m).1 ha
      have hk' : m = 0 ∨ d[m]! ≠ d[m - 1]! := by simpa [keeps] using hk
      have h0 : d[m]! ≠ d[m - 1]! := hk'.resolve_left (by omega)
      apply h0
      have l1 : le d[m - 1]! d[m]! := hs (m - 1) m (by omega) (by omega)
      have l2 : le d[m]! d[m - 1]! := by
        rw [← he]
        rcases Nat.lt_or_ge j (m - 1) with h | h
        · exact hs j (m - 1) h (by omega)
        · obtain rfl : j = m - 1 := by omega
          exact hrefl _
      exact anti _ _ l2 l1
    · rw [if_neg hk]; simpa using ih

end Go.Proofs.YtdoedjmdcmgddaaGreat
