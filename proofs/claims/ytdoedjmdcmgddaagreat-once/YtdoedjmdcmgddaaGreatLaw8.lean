/- Once, THE PURE PART: what the ledger holds of each key. -/
import Derived.Test.YtdoedjmdcmgddaaGreatLaw7
namespace Go.Proofs.YtdoedjmdcmgddaaGreat
set_option linter.unusedVariables false
set_option linter.unusedSimpArgs false
open Go.RowKit

/-- How many of these have the key, and their fold. -/
def tallyOne (name : ByteArray) (p : Int × Int) (x : Rec) : Int × Int := if x.key = name then (p.1 + 1, foldOne name (p.1 + 1) p.2 x.value) else p
def tally (name : ByteArray) (l : List Rec) : Int × Int := l.foldl (tallyOne name) (0, 0)

theorem tally_snoc (name : ByteArray) (l : List Rec) (x : Rec) : tally name (l ++ [x]) = tallyOne name (tally name l) x := by
  unfold tally
  rw [List.foldl_append]; rfl

theorem tally_none (name : ByteArray) : ∀ (l : List Rec) (p : Int × Int), (∀ x ∈ l, x.key ≠ name) → l.foldl (tallyOne name) p = p
  | [], p, _ => rfl
  | x :: r, p, h => by
    rw [List.foldl_cons]
    have : tallyOne name p x = p := by unfold tallyOne; rw [if_neg (h x (by simp))]
    rw [this]
    exact tally_none name r p (fun y hy => h y (by simp [hy]))

theorem tally_grow (name : ByteArray) : ∀ (l : List Rec) (p : Int × Int), p.1 ≤ (l.foldl (tallyOne name) p).1 ∧ (l.foldl (tallyOne name) p).1 ≤ p.1 + l.length
  | [], p => by simp
  | x :: r, p => by
    obtain ⟨h1, h2⟩ := tally_grow name r (tallyOne name p x)
    have h3 : p.1 ≤ (tallyOne name p x).1 ∧ (tallyOne name p x).1 ≤ p.1 + 1 := by
      unfold tallyOne
      split
      · simp only; omega
      · omega
    rw [List.foldl_cons]
    simp only [List.length_cons]
    omega

/-- Where the count is whole already, so is the fold. -/
theorem tally_stop (name : ByteArray) : ∀ (l : List Rec) (p : Int × Int), (l.foldl (tallyOne name) p).1 = p.1 → l.foldl (tallyOne name) p = p
  | [], p, _ => rfl
  | x :: r, p, h => by
    rw [List.foldl_cons] at h ⊢
    have h2 := (tally_grow name r (tallyOne name p x)).1
    have h3 : tallyOne name p x = p := by
      unfold tallyOne at h2 h ⊢
      split
      · rename_i e
        rw [if_pos e] at h2 h
        simp only at h2
        omega
      · rfl
    rw [h3] at h ⊢
    exact tally_stop name r p h

theorem tally_take_next (name : ByteArray) (l : List Rec) (i : Nat) (x : Rec) (h : l[i]? = some x) : tally name (l.take (i + 1)) = tallyOne name (tally name (l.take i)) x := by
  obtain ⟨hl, e⟩ := List.getElem?_eq_some_iff.1 h
  rw [List.take_succ_eq_append_getElem hl, e, tally_snoc]

theorem tally_take_le (name : ByteArray) (l : List Rec) (i : Nat) : 0 ≤ (tally name (l.take i)).1 ∧ (tally name (l.take i)).1 ≤ (tally name l).1 ∧ (tally name l).1 ≤ l.length := by
  have h1 := tally_grow name (l.take i) (0, 0)
  have h2 := tally_grow name (l.drop i) (tally name (l.take i))
  have h3 := tally_grow name l (0, 0)
  have e : (l.drop i).foldl (tallyOne name) (tally name (l.take i)) = tally name l := by
    unfold tally
    rw [← List.foldl_append, List.take_append_drop]
  rw [e] at h2
  unfold tally at *
  simp only at *
  omega

theorem tally_take_stop (name : ByteArray) (l : List Rec) (i : Nat) (h : (tally name (l.take i)).1 = (tally name l).1) : tally name (l.take i) = tally name l := by
  have e : (l.drop i).foldl (tallyOne name) (tally name (l.take i)) = tally name l := by
    unfold tally
    rw [← List.foldl_append, List.take_append_drop]
  rw [← e]
  exact (tally_stop name _ _ (by rw [e, h])).symm

theorem takeKy_cases (name : ByteArray) (val : Int) : ∀ {ks : List Ky}, Sorted ks → ∀ k ∈ takeKy name val ks, (k ∈ ks ∧ k.name ≠ name) ∨ (∃ y ∈ ks, y.name = name ∧ k = y.more val) ∨ (k = (⟨name, 0, 0, 0⟩ : Ky).more val ∧ ∀ y ∈ ks, y.name ≠ name)
  | [], _, k, h => by
    simp [takeKy] at h
    exact .inr (.inr ⟨h, by simp⟩)
  | z :: r, hs, k, h => by
    obtain ⟨h1, h2⟩ := List.pairwise_cons.1 hs
    unfold takeKy at h
    split at h
    · rename_i e
      rcases List.mem_cons.1 h with rfl | hk
      · exact .inr (.inl ⟨z, by simp, e, rfl⟩)
      · refine .inl ⟨by simp [hk], fun e2 => ?_⟩
        have := h1 k hk
        rw [e, e2, less_irrefl] at this
        cases this
    · rename_i e
      split at h
      · rename_i hl
        have hr : ∀ y ∈ z :: r, y.name ≠ name := fun y hy e2 => by
          rcases List.mem_cons.1 hy with rfl | hy
          · exact e e2
          · have := less_trans hl (h1 y hy)
            rw [e2, less_irrefl] at this
            cases this
        rcases List.mem_cons.1 h with rfl | hk
        · exact .inr (.inr ⟨rfl, hr⟩)
        · exact .inl ⟨hk, hr k hk⟩
      · rcases List.mem_cons.1 h with rfl | hk
        · exact .inl ⟨by simp, e⟩
        · rcases takeKy_cases name val h2 k hk with ⟨g1, g2⟩ | ⟨y, g1, g2, g3⟩ | ⟨g1, g2⟩
          · exact .inl ⟨by simp [g1], g2⟩
          · exact .inr (.inl ⟨y, by simp [g1], g2, g3⟩)
          · refine .inr (.inr ⟨g1, fun y hy => ?_⟩)
            rcases List.mem_cons.1 hy with rfl | hy
            · exact e
            · exact g2 y hy

theorem takeKy_has (name : ByteArray) (val : Int) : ∀ (ks : List Ky), (∃ k ∈ takeKy name val ks, k.name = name) ∧ ∀ y ∈ ks, ∃ k ∈ takeKy name val ks, k.name = y.name
  | [] => by simp [takeKy, Ky.more]
  | z :: r => by
    obtain ⟨⟨k, hk, ek⟩, h⟩ := takeKy_has name val r
    unfold takeKy
    split
    · rename_i e
      refine ⟨⟨z.more val, by simp, e⟩, fun y hy => ?_⟩
      rcases List.mem_cons.1 hy with rfl | hy
      · exact ⟨y.more val, by simp, rfl⟩
      · exact ⟨y, by simp [hy], rfl⟩
    · split
      · refine ⟨⟨_, List.mem_cons_self, rfl⟩, fun y hy => ⟨y, List.mem_cons_of_mem _ hy, rfl⟩⟩
      · refine ⟨⟨k, by simp [hk], ek⟩, fun y hy => ?_⟩
        rcases List.mem_cons.1 hy with rfl | hy
        · exact ⟨y, by simp, rfl⟩
        · obtain ⟨k', g1, g2⟩ := h y hy
          exact ⟨k', by simp [g1], g2⟩

/-- The ledger is the tally. -/
theorem keysOf_tally (l : List Rec) : Sorted (keysOf l []) ∧ (∀ k ∈ keysOf l [], (k.count, k.fold) = tally k.name l) ∧ (∀ x ∈ l, ∃ k ∈ keysOf l [], k.name = x.key) := by
  suffices h : ∀ n : Nat, ∀ l : List Rec, l.length = n → Sorted (keysOf l []) ∧ (∀ k ∈ keysOf l [], (k.count, k.fold) = tally k.name l) ∧ (∀ x ∈ l, ∃ k ∈ keysOf l [], k.name = x.key) from h _ l rfl
  intro n
  induction n with
  | zero =>
    intro l hl
    have : l = [] := List.length_eq_zero_iff.1 hl
    subst this
    exact ⟨List.Pairwise.nil, by simp [keysOf], by simp⟩
  | succ n ih =>
    intro l hl
    obtain ⟨r, x, rfl⟩ : ∃ r x, l = r ++ [x] := ⟨l.dropLast, l.getLast (by intro h; rw [h] at hl; simp at hl), (List.dropLast_concat_getLast _).symm⟩
    obtain ⟨h1, h2, h3⟩ := ih r (by simpa using hl)
    have e : keysOf (r ++ [x]) [] = takeKy x.key x.value (keysOf r []) := by rw [keysOf_append]; rfl
    rw [e]
    refine ⟨takeKy_sorted _ _ h1, fun k hk => ?_, fun y hy => ?_⟩
    · rw [tally_snoc]
      rcases takeKy_cases _ _ h1 k hk with ⟨g1, g2⟩ | ⟨y, g1, g2, g3⟩ | ⟨g1, g2⟩
      · have := h2 k g1
        rw [← this]
        unfold tallyOne
        rw [if_neg (fun e => g2 e.symm)]
      · have := h2 y g1
        rw [g3]
        simp only [Ky.more]
        rw [← this]
        unfold tallyOne
        rw [if_pos g2.symm]
      · have h0 : tally x.key r = (0, 0) := tally_none _ _ _ (fun y hy e => by
          obtain ⟨k', q1, q2⟩ := h3 y hy
          exact g2 k' q1 (q2.trans e))
        rw [g1]
        simp only [Ky.more]
        rw [h0]
        unfold tallyOne
        rw [if_pos rfl]
    · obtain ⟨t1, t2⟩ := takeKy_has x.key x.value (keysOf r [])
      rcases List.mem_append.1 hy with hy | hy
      · obtain ⟨k, q1, q2⟩ := h3 y hy
        obtain ⟨k', q3, q4⟩ := t2 k q1
        exact ⟨k', q3, q4.trans q2⟩
      · simp at hy
        subst hy
        exact t1

/-- What is kept of a key that is there. -/
theorem OInv.key {all ol : List Rec} {s : St} (h : OInv all ol s) (hn : Numbered all) {k : Ky} (hk : k ∈ s.keys) : k.name ∈ names4 ∧ k.count = (tally k.name ol).1 ∧ k.fold = (tally k.name ol).2 := by
  have hm := h.names hn k.name (by unfold St.names; exact List.mem_append.2 (.inl (List.mem_map.2 ⟨k, hk, rfl⟩)))
  rw [h.keys] at hk
  have := (keysOf_tally ol).2.1 k hk
  rw [← this]
  exact ⟨hm, rfl, rfl⟩

theorem OInv.whole {all ol : List Rec} {s : St} (h : OInv all ol s) : counts s.keys = ol.length := by
  rw [h.keys, counts_keysOf]; simp [counts]

/-- All were taken. -/
theorem OInv.all {all ol : List Rec} {s : St} (h : OInv all ol s) (hn : Numbered all) (hb : ∀ (i : Nat) (l : Ln), s.lanes[i]? = some l → (ofS all i).length ≤ l.base) : ol.length = all.length := by
  have ht := ofS_total all (fun x hx => ⟨(hn.each x hx).1, (hn.each x hx).2.1⟩)
  have hs := h.sum
  have hl := h.lane
  have h4 := h.four
  match e : s.lanes, h4 with
  | [l0, l1, l2, l3], _ =>
    rw [e] at hb hl hs
    have r0 := hb 0 l0 rfl
    have r1 := hb 1 l1 rfl
    have r2 := hb 2 l2 rfl
    have r3 := hb 3 l3 rfl
    have q0 := (hl 0 l0 rfl).hi
    have q1 := (hl 1 l1 rfl).hi
    have q2 := (hl 2 l2 rfl).hi
    have q3 := (hl 3 l3 rfl).hi
    simp only [bases] at hs
    omega

end Go.Proofs.YtdoedjmdcmgddaaGreat
