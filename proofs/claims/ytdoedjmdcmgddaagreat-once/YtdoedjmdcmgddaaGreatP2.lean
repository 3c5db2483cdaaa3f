/- PLAIN FACTS: what take keeps of a ledger. -/
import Derived.Test.YtdoedjmdcmgddaaGreatP1
import Derived.Test.YtdoedjmdcmgddaaGreatK3
namespace Go.Proofs.YtdoedjmdcmgddaaGreat
set_option linter.unusedVariables false
set_option linter.unusedSimpArgs false
open Go.Lib

theorem mem_takeKy (name : ByteArray) (val : Int) : ∀ (l : List Ky) (k : Ky), k ∈ takeKy name val l → k ∈ l ∨ (∃ y ∈ l, y.name = name ∧ k = y.more val) ∨ k = (⟨name, 0, 0, 0⟩ : Ky).more val
  | [], k, h => by simp [takeKy] at h; exact .inr (.inr h)
  | y :: r, k, h => by
    unfold takeKy at h
    split at h
    · rename_i hy
      rcases List.mem_cons.1 h with rfl | h
      · exact .inr (.inl ⟨y, by simp, hy, rfl⟩)
      · exact .inl (by simp [h])
    · split at h
      · rcases List.mem_cons.1 h with rfl | h
        · exact .inr (.inr rfl)
        · exact .inl h
      · rcases List.mem_cons.1 h with rfl | h
        · exact .inl (by simp)
        · rcases mem_takeKy name val r k h with h | ⟨z, hz, h⟩ | h
          · exact .inl (by simp [h])
          · exact .inr (.inl ⟨z, by simp [hz], h⟩)
          · exact .inr (.inr h)

theorem takeKy_name_mem (name : ByteArray) (val : Int) (l : List Ky) (k : Ky) (h : k ∈ takeKy name val l) : k.name = name ∨ ∃ y ∈ l, y.name = k.name := by
  rcases mem_takeKy name val l k h with h | ⟨z, hz, hn, h⟩ | h
  · exact .inr ⟨k, h, rfl⟩
  · exact .inl (by rw [h]; exact hn)
  · exact .inl (by rw [h]; rfl)

theorem takeKy_sorted (name : ByteArray) (val : Int) : ∀ {l : List Ky}, Sorted l → Sorted (takeKy name val l)
  | [], _ => by simp [takeKy, Sorted]
  | y :: r, h => by
    obtain ⟨h1, h2⟩ := List.pairwise_cons.1 h
    unfold takeKy
    split
    · rename_i hy
      exact List.pairwise_cons.2 ⟨fun z hz => h1 z hz, h2⟩
    · rename_i hy
      split
      · rename_i hl
        refine List.pairwise_cons.2 ⟨fun z hz => ?_, h⟩
        rcases List.mem_cons.1 hz with rfl | hz
        · exact hl
        · exact less_trans hl (h1 z hz)
      · rename_i hl
        refine List.pairwise_cons.2 ⟨fun z hz => ?_, takeKy_sorted name val h2⟩
        rcases takeKy_name_mem name val r z hz with h' | ⟨u, hu, h'⟩
        · rw [h']
          rcases less_tri y.name name with h'' | h'' | h''
          · exact h''
          · exact absurd h'' hy
          · exact absurd h'' hl
        · rw [← h']; exact h1 u hu

theorem counts_takeKy (name : ByteArray) (val : Int) : ∀ (l : List Ky), counts (takeKy name val l) = counts l + 1
  | [] => by simp [takeKy, counts, Ky.more]
  | y :: r => by
    unfold takeKy
    split
    · simp [counts, Ky.more]; omega
    · split
      · simp [counts, Ky.more]; omega
      · simp [counts, counts_takeKy name val r]; omega

/-- A ledger into which m more may come. -/
structure Led (ks : List Ky) (m : Int) : Prop where
  sorted : Sorted ks
  first : ∀ k ∈ ks, ∃ c r, k.name.data.toList = c :: r ∧ okFirst c = true
  fold : ∀ k ∈ ks, 0 ≤ k.fold ∧ k.fold ≤ 4294967295
  count : ∀ k ∈ ks, 0 ≤ k.count
  total : counts ks + m ≤ 1000

theorem count_le : ∀ {ks : List Ky}, (∀ k ∈ ks, 0 ≤ k.count) → ∀ k ∈ ks, k.count ≤ counts ks ∧ 0 ≤ counts ks
  | [], _, k, h => by simp at h
  | y :: r, hc, k, h => by
    have h0 : 0 ≤ counts r := by
      clear h
      induction r with
      | nil => simp [counts]
      | cons z r ih =>
        have := ih (fun k hk => hc k (by rcases List.mem_cons.1 hk with rfl | hk <;> simp [*]))
        have := hc z (by simp)
        simp [counts]; omega
    have hy := hc y (by simp)
    rcases List.mem_cons.1 h with rfl | h
    · simp [counts]; omega
    · have := count_le (fun k hk => hc k (by simp [hk])) k h
      simp [counts]; omega

theorem counts_nonneg {ks : List Ky} (hc : ∀ k ∈ ks, 0 ≤ k.count) : 0 ≤ counts ks := by
  induction ks with
  | nil => simp [counts]
  | cons z r ih =>
    have := ih (fun k hk => hc k (by simp [hk]))
    have := hc z (by simp)
    simp [counts]; omega

theorem Led.ok {ks : List Ky} {m : Int} (h : Led ks m) (hm : 0 ≤ m) : ∀ k ∈ ks, k.ok := fun k hk =>
  ⟨h.first k hk, h.fold k hk, h.count k hk, by have := (count_le h.count k hk).1; have := h.total; omega⟩

theorem foldOne_range {name : ByteArray} {n f v : Int} {c : UInt8} {r : List UInt8} (hk : name.data.toList = c :: r) (hn : 0 ≤ n ∧ n ≤ 4294967295) (hf : 0 ≤ f ∧ f ≤ 4294967295) (hv : 0 ≤ v ∧ v ≤ 4294967295) : 0 ≤ foldOne name n f v ∧ foldOne name n f v ≤ 4294967295 := by
  rw [foldOne_c hk]
  split
  · exact hn
  · split
    · constructor <;> omega
    · split
      · exact hv
      · constructor <;> omega

theorem Led.take {ks : List Ky} {m : Int} (h : Led ks m) (hm : 1 ≤ m) {name : ByteArray} {val : Int} {c : UInt8} {r : List UInt8} (hk : name.data.toList = c :: r) (hc : okFirst c = true) (hv : 0 ≤ val ∧ val ≤ 4294967295) : Led (takeKy name val ks) (m - 1) := by
  have hcn := counts_nonneg h.count
  have ht := h.total
  refine ⟨takeKy_sorted name val h.sorted, fun k hk' => ?_, fun k hk' => ?_, fun k hk' => ?_, ?_⟩
  · rcases mem_takeKy name val ks k hk' with h' | ⟨z, hz, hn, rfl⟩ | rfl
    · exact h.first k h'
    · exact h.first z hz
    · exact ⟨c, r, hk, hc⟩
  · rcases mem_takeKy name val ks k hk' with h' | ⟨z, hz, hn, rfl⟩ | rfl
    · exact h.fold k h'
    · obtain ⟨c', r', h1, h2⟩ := h.first z hz
      have := (count_le h.count z hz).1
      have := h.count z hz
      exact foldOne_range h1 (by omega) (h.fold z hz) hv
    · exact foldOne_range (name := name) hk (show (0 : Int) ≤ 0 + 1 ∧ (0 : Int) + 1 ≤ 4294967295 by decide) (show (0 : Int) ≤ 0 ∧ (0 : Int) ≤ 4294967295 by decide) hv
  · rcases mem_takeKy name val ks k hk' with h' | ⟨z, hz, hn, rfl⟩ | rfl
    · exact h.count k h'
    · have := h.count z hz; simp [Ky.more]; omega
    · simp [Ky.more]
  · rw [counts_takeKy]; omega

end Go.Proofs.YtdoedjmdcmgddaaGreat
