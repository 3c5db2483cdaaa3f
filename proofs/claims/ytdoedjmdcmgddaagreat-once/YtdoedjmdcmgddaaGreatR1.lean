/- THE PROGRAM'S RELAY IS THE DOCUMENT'S. -/
import Derived.Test.YtdoedjmdcmgddaaGreatT3
import Derived.Test.YtdoedjmdcmgddaaGreatH2
import Derived.Test.YtdoedjmdcmgddaaGreatH4
namespace Go.Proofs.YtdoedjmdcmgddaaGreat
set_option linter.unusedVariables false
set_option linter.unusedSimpArgs false
open Go.RowKit Go.Lib Go.Conc.Locks

def RelCase (w : World) (b : Nat) (F : Nat → Prop) : Option St → Prop
  | none => Head w b 1 true
  | some s => Head w b 0 false ∧ ∃ E B V vk Q ks, FlowAt w 0 b 6 E B V vk Q ks ∧ FlowFit E B Q ks ∧ Ties E B Q ks s ∧ ∀ k, Rows V vk k → F k

/-- A relay in memory. -/
def RelAt (w : World) (a : Addr) (o : Option St) (F : Nat → Prop) : Prop := ∃ b, a = ⟨b, 0, none⟩ ∧ F b ∧ (∀ k, F k → k < w.heap.size) ∧ RelCase w b F o

theorem row_same {w w' : World} {b : Nat} {e : TypeId} {n m : Nat} {v : Value} {xs : List Value} (hr : w.ownsRow b e n v m xs) (h : ∀ k, v.ownBlock = some k → w'.heap[k]? = w.heap[k]?) : w'.ownsRow b e n v m xs := by
  refine ⟨hr.1, ?_⟩
  rcases hr.2 with hn | ⟨g, cap, cur, hv, hb, hg, r⟩
  · exact .inl hn
  · exact .inr ⟨g, cap, cur, hv, hb, (h g (by rw [hv]; rfl)).trans hg, r⟩

theorem Head.same {w w' : World} {b : Nat} {d : Int} {c : Bool} (h : Head w b d c) (hb : w'.heap[b]? = w.heap[b]?) : Head w' b d c :=
  ⟨(World.cell?_of_block (w := w) hb).trans h.mu, (World.cell?_of_block (w := w) hb).trans h.dn, (World.cell?_of_block (w := w) hb).trans h.om, (World.cell?_of_block (w := w) hb).trans h.cl, fun j => (World.frozen?_of_block (w := w) hb).trans (h.fz j)⟩

theorem FlowAt.same {w w' : World} {b o : Nat} {E B : Nat → Int} {V : Nat → Value} {vk : Value} {Q : Nat → List Wt} {ks : List Ky} (h : FlowAt w 0 b o E B V vk Q ks) (hb : w'.heap[b]? = w.heap[b]?) (hr : ∀ k, Rows V vk k → w'.heap[k]? = w.heap[k]?) : FlowAt w' 0 b o E B V vk Q ks :=
  ⟨⟨fun i hi => (World.cell?_of_block (w := w) hb).trans (h.cells.ep i hi), fun i hi => (World.cell?_of_block (w := w) hb).trans (h.cells.ba i hi), fun i hi => (World.cell?_of_block (w := w) hb).trans (h.cells.qu i hi), (World.cell?_of_block (w := w) hb).trans h.cells.le⟩,
   fun j => (World.frozen?_of_block (w := w) hb).trans (h.froz j), fun i hi => row_same (h.rows i hi) (fun k hk => hr k (.inl ⟨i, hi, hk⟩)), row_same h.keys (fun k hk => hr k (.inr hk)), h.own, h.ownk, h.sep, h.sepk, Nat.zero_le _⟩

theorem rel_lt {w : World} {a : Addr} {o : Option St} {F : Nat → Prop} {k : Nat} (h : RelAt w a o F) (hk : F k) : k < w.heap.size := by
  obtain ⟨b, _, _, h1, _⟩ := h
  exact h1 k hk

theorem rel_stable {w w' : World} {a : Addr} {o : Option St} {F : Nat → Prop} (h : RelAt w a o F) (hs : ∀ k, F k → w'.heap[k]? = w.heap[k]?) : RelAt w' a o F := by
  obtain ⟨b, rfl, hb, h1, h2⟩ := h
  refine ⟨b, rfl, hb, fun k hk => ?_, ?_⟩
  · have e := hs k hk
    rw [Array.getElem?_eq_getElem (h1 k hk)] at e
    exact (Array.getElem?_eq_some_iff.1 e).1
  · cases o with
    | none => exact Head.same h2 (hs b hb)
    | some s =>
      obtain ⟨h3, E, B, V, vk, Q, ks, h4, h5, h6, h7⟩ := h2
      exact ⟨h3.same (hs b hb), E, B, V, vk, Q, ks, h4.same (hs b hb) (fun k hk => hs k (h7 k hk)), h5, h6, h7⟩

theorem rel_new (w : World) : Calls Tryz.prog 9 #[] w fun e w' => ∃ a F, e = .returned (.pointer (some a)) ∧ RelAt w' a (some St.init) F ∧ (∀ k, F k → w.heap.size ≤ k) ∧ Chg (fun _ => False) w w' := by
  refine (New_cells w).mono ?_
  rintro e w' ⟨rfl, hw⟩
  refine ⟨_, fun k => k = w.heap.size, rfl, ⟨w.heap.size, rfl, rfl, fun k hk => by rw [hw, World.size_alloc]; omega, ?_, fun _ => 0, fun _ => 0, fun _ => .slice none 0 0, .slice none 0 0, fun _ => [], [], ?_, ?_, ?_, ?_⟩, fun k hk => by omega, by rw [hw]; exact (Chg.refl _ w).alloc _⟩
  · rw [hw]
    exact ⟨World.cell?_alloc_at _ _ _ _ rfl, World.cell?_alloc_at _ _ _ _ rfl, World.cell?_alloc_at _ _ _ _ rfl, World.cell?_alloc_at _ _ _ _ rfl, fun j => World.frozen?_alloc_at _ _ _ _ rfl⟩
  · rw [hw]
    refine ⟨⟨fun i hi => ?_, fun i hi => ?_, fun i hi => ?_, World.cell?_alloc_at _ _ _ _ rfl⟩, fun j => World.frozen?_alloc_at _ _ _ _ rfl, fun i hi => World.ownsRow_nil _ _ _ _, World.ownsRow_nil _ _ _ _, fun i hi => by simp [Value.ownBlock], by simp [Value.ownBlock], fun i j _ _ _ g hg => by simp [Value.ownBlock] at hg, fun i _ g hg => by simp [Value.ownBlock] at hg, Nat.zero_le _⟩
    · rcases (by omega : i = 0 ∨ i = 1 ∨ i = 2 ∨ i = 3) with rfl | rfl | rfl | rfl <;> exact World.cell?_alloc_at _ _ _ _ rfl
    · rcases (by omega : i = 0 ∨ i = 1 ∨ i = 2 ∨ i = 3) with rfl | rfl | rfl | rfl <;> exact World.cell?_alloc_at _ _ _ _ rfl
    · rcases (by omega : i = 0 ∨ i = 1 ∨ i = 2 ∨ i = 3) with rfl | rfl | rfl | rfl <;> exact World.cell?_alloc_at _ _ _ _ rfl
  · exact ⟨fun i hi => by simp, by simp, ⟨List.Pairwise.nil, by simp, by simp, by simp, by simp [counts, qLens]⟩, fun i hi => by simp [counts], fun i hi x hx => by simp at hx⟩
  · refine ⟨rfl, rfl, fun i hi => ⟨Ln.init, ?_, rfl, rfl, List.Pairwise.nil, .refl _, trivial, by simp [Ln.init]⟩, fun i hi => by simp, by simp [St.names, St.init, Ln.init, distinct], by simp⟩
    rcases (by omega : i = 0 ∨ i = 1 ∨ i = 2 ∨ i = 3) with rfl | rfl | rfl | rfl <;> rfl
  · intro k hk
    rcases hk with ⟨i, _, hk⟩ | hk <;> simp [Value.ownBlock] at hk

theorem rel_accept {w : World} {a : Addr} {o : Option St} {F : Nat → Prop} (x : Rec) (h : RelAt w a o F) (hx : x.fits) : Calls Tryz.prog 12 #[.pointer (some a), x.value'] w fun e w' =>
    ∃ F', e = .returned (.tuple #[.int .i64 (accept? o x).1.1, .int .i64 (accept? o x).1.2]) ∧ RelAt w' a (accept? o x).2 F' ∧ (∀ k, F' k → F k ∨ w.heap.size ≤ k) ∧ Chg F w w' := by
  obtain ⟨b, rfl, hb, h1, h2⟩ := h
  cases o with
  | none =>
    refine (accept_closed b x w h2).mono ?_
    rintro e w' ⟨rfl, g1, g2⟩
    exact ⟨F, rfl, ⟨b, rfl, hb, fun k hk => Nat.lt_of_lt_of_le (h1 k hk) g2.size, g1⟩, fun k hk => .inl hk, g2.mono (fun k hk => by rw [hk]; exact hb)⟩
  | some s =>
    obtain ⟨h3, E, B, V, vk, Q, ks, h4, h5, h6, h7⟩ := h2
    obtain ⟨t1, t2, t3⟩ := accept_tie h6 h5 x hx
    refine (accept_open h3 h4 h5 x hx).mono ?_
    rintro e w' ⟨rfl, g1, V', vk', g2, g3, g4⟩
    refine ⟨fun k => F k ∨ (w.heap.size ≤ k ∧ k < w'.heap.size), by simp only [accept?]; rw [t1], ⟨b, rfl, .inl hb, fun k hk => ?_, g1, _, _, V', vk', _, _, g2, t3, t2, fun k hk => ?_⟩, fun k hk => hk.imp id (fun h => h.1), g4.mono (fun k hk => ?_)⟩
    · rcases hk with hk | hk
      · exact Nat.lt_of_lt_of_le (h1 k hk) g4.size
      · exact hk.2
    · have hlt : k < w'.heap.size := by
        rcases hk with ⟨i, hi, hk⟩ | hk
        · exact ((g2.rows i hi).lt k hk).2
        · exact (g2.keys.lt k hk).2
      rcases g3 k hk with h | h
      · exact .inl (h7 k h)
      · exact .inr ⟨h, hlt⟩
    · rcases hk with rfl | hk
      · exact hb
      · exact h7 k hk

theorem rel_close {w : World} {a : Addr} {o : Option St} {F : Nat → Prop} (h : RelAt w a o F) : Calls Tryz.prog 18 #[.pointer (some a)] w fun e w' =>
    e = .returned (.int .i64 (errno? o)) ∧ RelAt w' a none F ∧ Chg F w w' := by
  obtain ⟨b, rfl, hb, h1, h2⟩ := h
  cases o with
  | none =>
    refine (close_done h2).mono ?_
    rintro e w' ⟨rfl, g1, g2⟩
    exact ⟨rfl, ⟨b, rfl, hb, fun k hk => Nat.lt_of_lt_of_le (h1 k hk) g2.size, g1⟩, g2.mono (fun k hk => by rw [hk]; exact hb)⟩
  | some s =>
    obtain ⟨h3, E, B, V, vk, Q, ks, h4, h5, h6, h7⟩ := h2
    refine (close_open h3 h4.cells).mono ?_
    rintro e w' ⟨rfl, g1, g2⟩
    exact ⟨rfl, ⟨b, rfl, hb, fun k hk => Nat.lt_of_lt_of_le (h1 k hk) g2.size, g1⟩, g2.mono (fun k hk => by rw [hk]; exact hb)⟩

theorem rel_state {w : World} {a : Addr} {o : Option St} {F : Nat → Prop} (h : RelAt w a o F) : Calls Tryz.prog 16 #[.pointer (some a)] w fun e w' =>
    ∃ vs vk, e = .returned (.tuple #[.agg #[vs, vk], .int .i64 (errno? o)]) ∧ StateAt w' w.heap.size vs vk (state? o) ∧ RelAt w' a o F ∧ Chg F w w' := by
  obtain ⟨b, rfl, hb, h1, h2⟩ := h
  cases o with
  | none =>
    refine (state_closed b w h2).mono ?_
    rintro e w' ⟨rfl, g1, g2⟩
    exact ⟨_, _, rfl, ⟨⟨[], rfl, World.ownsRow_nil _ _ _ _, fun i l u hl => by simp [state?] at hl⟩, World.ownsRow_nil _ _ _ _⟩, ⟨b, rfl, hb, fun k hk => Nat.lt_of_lt_of_le (h1 k hk) g2.size, g1⟩, g2.mono (fun k hk => by rw [hk]; exact hb)⟩
  | some s =>
    obtain ⟨h3, E, B, V, vk, Q, ks, h4, h5, h6, h7⟩ := h2
    refine (state_open h3 h4 (fun i hi => by have := h5.ql i hi; omega) h5.kl).mono ?_
    rintro e w' ⟨vs, vk', U, rfl, g1, g2, g3, g4, g5, g6⟩
    refine ⟨vs, vk', rfl, ⟨⟨[U 0, U 1, U 2, U 3], ?_, ?_, fun i l u hl hu => ?_⟩, ?_⟩, ⟨b, rfl, hb, fun k hk => Nat.lt_of_lt_of_le (h1 k hk) g6.size, g4, E, B, V, vk, Q, ks, g5, h5, h6, h7⟩, g6.mono (fun k hk => by rw [hk]; exact hb)⟩
    · simp [state?, h6.four]
    · obtain ⟨l0, c0, p0⟩ := h6.lane 0 (by omega)
      obtain ⟨l1, c1, p1⟩ := h6.lane 1 (by omega)
      obtain ⟨l2, c2, p2⟩ := h6.lane 2 (by omega)
      obtain ⟨l3, c3, p3⟩ := h6.lane 3 (by omega)
      have h4' := h6.four
      simp only [state?]
      match hs : s.lanes, h4' with
      | [x0, x1, x2, x3], _ =>
        rw [hs] at c0 c1 c2 c3
        simp at c0 c1 c2 c3
        subst c0 c1 c2 c3
        simpa [sessCells, sessU, p0.ep, p0.ba, p1.ep, p1.ba, p2.ep, p2.ba, p3.ep, p3.ba] using g1
    · have hi : i < 4 := by
        have := (List.getElem?_eq_some_iff.1 hl).1
        simp only [state?] at this
        rw [h6.four] at this
        exact this
      have hu' : u = U i := by
        rcases (by omega : i = 0 ∨ i = 1 ∨ i = 2 ∨ i = 3) with rfl | rfl | rfl | rfl <;> simp at hu <;> exact hu.symm
      obtain ⟨l', c, p⟩ := h6.lane i hi
      have : l' = l := by simp only [state?] at hl; rw [hl] at c; exact (Option.some.inj c).symm
      subst this
      have := g2 i hi
      rw [nums_tie p.up p.perm, p.perm.length_eq] at this
      rw [hu']
      unfold ints' at this
      rw [List.map_map] at this
      exact this
    · simp only [state?]
      rw [h6.keys]; exact g3

/-- The program's calls are the document's. -/
theorem rel_fine {w : World} {a : Addr} {s : St} {F : Nat → Prop} (h : RelAt w a (some s) F) : s.fine := by
  obtain ⟨b, _, _, _, h⟩ := h
  obtain ⟨_, E, B, V, vk, Q, ks, _, h5, h6, _⟩ := h
  exact h6.fine h5

theorem api : Api RelAt := ⟨rel_lt, rel_stable, rel_fine, rel_new, fun x h hx => rel_accept x h hx, rel_state, rel_close⟩

end Go.Proofs.YtdoedjmdcmgddaaGreat
