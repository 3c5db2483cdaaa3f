/- The relay's calls, WALKED: State. -/
import Derived.Test.YtdoedjmdcmgddaaGreatH1
namespace Go.Proofs.YtdoedjmdcmgddaaGreat
set_option linter.unusedVariables false
set_option linter.unusedSimpArgs false
open Go.RowKit Go.Lib Go.Conc.Locks

set_option maxHeartbeats 400000 in
theorem state_closed (b : Nat) (w : World) (h : Head w b 1 true) :
    Calls Tryz.prog 16 #[.pointer (some ⟨b, 0, none⟩)] w fun e w' => e = .returned (.tuple #[.agg #[.slice none 0 0, .slice none 0 0], .int .i64 1]) ∧ Head w' b 1 true ∧ Chg (fun k => k = b) w w' := by
  have hbl : b < w.heap.size := World.block_lt_of_cell? _ _ h.mu
  have hne : ¬ w.heap.size = b := by omega
  have cW : Chg (fun _ => False) w (w.alloc (Obj.cells #[.slice none 0 0, .slice none 0 0] 52)) := (Chg.refl _ w).alloc _
  have hW := h.chg cW id
  have hlk := lock_rel b _ hW.mu (hW.fz 0)
  go_enter_defers Tryz.func16, Tryz.ntmps16
  go_wp2_with (go_at_call 26; refine hlk.mono ?_; rintro _ w1 ⟨rfl, h1⟩; have c5 := (h1.slots.cell 5 (by omega)).trans hW.cl; have a0 := h1.chg.cellAt (World.cell?_alloc_at (w := w) #[.slice none 0 0, .slice none 0 0] 52 w.heap.size 0 rfl) hne; have a1 := h1.chg.cellAt (World.cell?_alloc_at (w := w) #[.slice none 0 0, .slice none 0 0] 52 w.heap.size 1 rfl) hne; have hfz : ∀ j, w1.frozen? ⟨w.heap.size, j, none⟩ = false := fun j => (World.frozen?_of_block (h1.chg.block w.heap.size (by simp) hne)).trans (World.frozen?_alloc_at _ _ _ _ rfl); have f0 := hfz 0; have f1 := hfz 1; simp only [List.getElem_toArray, List.getElem_cons_zero, List.getElem_cons_succ] at a0 a1)
  have g2 : Chg (fun k => k = w.heap.size) w1 ((w1.setCell ⟨w.heap.size, 0, none⟩ (.slice none 0 0)).setCell ⟨w.heap.size, 1, none⟩ (.slice none 0 0)) := ((Chg.refl (fun k => k = w.heap.size) w1).setCell (p := ⟨w.heap.size, 0, none⟩) (fun _ => rfl) _).setCell (p := ⟨w.heap.size, 1, none⟩) (fun _ => rfl) _
  have hbl1 : b < w1.heap.size := Nat.lt_of_lt_of_le (Nat.lt_of_lt_of_le hbl cW.size) h1.chg.size
  have s2 : Slots b (fun j => j = 0) w1 ((w1.setCell ⟨w.heap.size, 0, none⟩ (.slice none 0 0)).setCell ⟨w.heap.size, 1, none⟩ (.slice none 0 0)) := Slots.of_chg _ g2 hbl1 (fun e => hne e.symm)
  have m1 := h1.cell hW.mu
  have m2 := g2.cellAt m1 (fun e => hne e.symm)
  have z2 := (s2.frozen 0).trans ((h1.slots.frozen 0).trans (hW.fz 0))
  have n0 : (w1.setCell ⟨w.heap.size, 0, none⟩ (.slice none 0 0)).cell? ⟨w.heap.size, 1, none⟩ = some (.slice none 0 0) := (World.cell?_setCell_other _ _ _ _ (by simp)).trans a1
  refine door (v := .tuple #[.agg #[.slice none 0 0, .slice none 0 0], .int .i64 1]) m2 z2 ?_ ⟨rfl, hW.back (h1.slots.trans s2 (fun j hj => hj)) (fun j hj => .inl hj) m2, ?_⟩
  · simp [results, Tryz.results16, go_sem, a0, a1, hne, fun e : b = w.heap.size => hne e.symm]
  · exact (((cW.mono (fun _ h => h.elim)).trans h1.chg (fun _ _ h => h)).trans g2 (fun n hn h => by omega)).setCell (p := ⟨b, 0, none⟩) (fun _ => rfl) _

set_option maxRecDepth 100000 in
set_option maxHeartbeats 1000000 in
theorem state_open {w : World} {lo b : Nat} {E B : Nat → Int} {V : Nat → Value} {vk : Value} {Q : Nat → List Wt} {ks : List Ky} (h : Head w b 0 false) (hF : FlowAt w lo b 6 E B V vk Q ks) (hq : ∀ i, i < 4 → (Q i).length ≤ 4) (hk : ks.length ≤ 4) :
    Calls Tryz.prog 16 #[.pointer (some ⟨b, 0, none⟩)] w fun e w' => ∃ (vs vk' : Value) (U : Nat → Value), e = .returned (.tuple #[.agg #[vs, vk'], .int .i64 0]) ∧
      w'.ownsRow w.heap.size 56 3 vs 4 (sessU E B U 4) ∧ (∀ i, i < 4 → w'.ownsRow w.heap.size 3 1 (U i) (Q i).length (ints' (theNums (Q i)))) ∧ w'.ownsRow w.heap.size 60 4 vk' ks.length (keyCells ks) ∧
      Head w' b 0 false ∧ FlowAt w' lo b 6 E B V vk Q ks ∧ Chg (fun k => k = b) w w' := by
  have hbl : b < w.heap.size := World.block_lt_of_cell? _ _ h.mu
  have hne : ¬ w.heap.size = b := by omega
  have cW : Chg (fun _ => False) w (w.alloc (Obj.cells #[.slice none 0 0, .slice none 0 0] 52)) := (Chg.refl _ w).alloc _
  have hW := h.chg cW id
  have hFW := hF.chg hbl cW id (fun _ _ _ _ => id) (fun _ _ => id)
  have hlk := lock_rel b _ hW.mu (hW.fz 0)
  go_enter_defers Tryz.func16, Tryz.ntmps16
  go_wp2_with (go_at_call 26; refine hlk.mono ?_; rintro _ w1 ⟨rfl, h1⟩; have c5 := (h1.slots.cell 5 (by omega)).trans hW.cl; have hF1 := hFW.beside h1.slots (fun j hj => .inl (by omega)) h1.chg; have a0 := h1.chg.cellAt (World.cell?_alloc_at (w := w) #[.slice none 0 0, .slice none 0 0] 52 w.heap.size 0 rfl) hne; have a1 := h1.chg.cellAt (World.cell?_alloc_at (w := w) #[.slice none 0 0, .slice none 0 0] 52 w.heap.size 1 rfl) hne; have hfz : ∀ j, w1.frozen? ⟨w.heap.size, j, none⟩ = false := fun j => (World.frozen?_of_block (h1.chg.block w.heap.size (by simp) hne)).trans (World.frozen?_alloc_at _ _ _ _ rfl); simp only [List.getElem_toArray, List.getElem_cons_zero, List.getElem_cons_succ] at a0 a1)
  have hsz1 : w.heap.size < w1.heap.size := by have := h1.chg.size; rw [World.size_alloc] at this; omega
  have hst := flowState_any hF1 hq hk
  go_wp2_with (go_at_call 32; refine hst.mono ?_; rintro _ w2 ⟨vs, vk', U, rfl, r1, r2, r3, c12⟩; obtain ⟨ps, cs, rfl⟩ := row_any r1; obtain ⟨pk, ck, rfl⟩ := row_any r3; have b0 := c12.cellAt a0 id; have b1 := c12.cellAt a1 id; have hfz2 : ∀ j, w2.frozen? ⟨w.heap.size, j, none⟩ = false := fun j => (World.frozen?_of_block (c12.block w.heap.size hsz1 id)).trans (hfz j); have f0 := hfz2 0; have f1 := hfz2 1)
  obtain ⟨w3, hw3⟩ : ∃ w3, w3 = (w2.setCell ⟨w.heap.size, 0, none⟩ (.slice ps 4 cs)).setCell ⟨w.heap.size, 1, none⟩ (.slice pk ks.length ck) := ⟨_, rfl⟩
  have g2 : Chg (fun k => k = w.heap.size) w2 w3 := by
    rw [hw3]; exact ((Chg.refl (fun k => k = w.heap.size) w2).setCell (p := ⟨w.heap.size, 0, none⟩) (fun _ => rfl) _).setCell (p := ⟨w.heap.size, 1, none⟩) (fun _ => rfl) _
  have d0 : w3.cell? ⟨w.heap.size, 0, none⟩ = some (.slice ps 4 cs) := by
    rw [hw3]; exact (World.cell?_setCell_other _ _ _ _ (by simp)).trans (World.cell?_setCell_same _ _ _ b0)
  have d1 : w3.cell? ⟨w.heap.size, 1, none⟩ = some (.slice pk ks.length ck) := by
    rw [hw3]; exact World.cell?_setCell_same _ _ _ ((World.cell?_setCell_other _ _ _ _ (by simp)).trans b1)
  rw [← hw3]
  have hbl1 : b < w1.heap.size := by omega
  have hbl2 : b < w2.heap.size := Nat.lt_of_lt_of_le hbl1 c12.size
  have s12 : Slots b (fun j => j = 0) w1 w2 := Slots.of_chg _ c12 hbl1 id
  have s23 : Slots b (fun j => j = 0) w2 w3 := Slots.of_chg _ g2 hbl2 (fun e => hne e.symm)
  have m1 := h1.cell hW.mu
  have m3 := g2.cellAt (c12.cellAt m1 id) (fun e => hne e.symm)
  have sall := (h1.slots.trans s12 (fun j hj => hj)).trans s23 (fun j hj => hj)
  have z3 := (sall.frozen 0).trans (hW.fz 0)
  have s34 : Slots b (fun j => j = 0) w3 (w3.setCell ⟨b, 0, none⟩ (.int .i32 0)) := (Slots.refl b _ w3).setCell (p := ⟨b, 0, none⟩) _ (fun _ => rfl)
  have g3 : Chg (fun k => k = b) w3 (w3.setCell ⟨b, 0, none⟩ (.int .i32 0)) := (Chg.refl (fun k => k = b) w3).setCell (p := ⟨b, 0, none⟩) (fun _ => rfl) _
  have hF3 := (hF1.chg hbl1 c12 id (fun _ _ _ _ => id) (fun _ _ => id)).chg hbl2 g2 (fun e => hne e.symm) (fun i hi k hk e => by have := ((hF.rows i hi).lt k hk).2; omega) (fun k hk e => by have := (hF.keys.lt k hk).2; omega)
  refine door (v := .tuple #[.agg #[.slice ps 4 cs, .slice pk ks.length ck], .int .i64 0]) m3 z3 ?_ ⟨_, _, U, rfl, ?_, fun i hi => ?_, ?_, hW.back sall (fun j hj => .inl hj) m3, hF3.beside s34 (fun j hj => .inl (by omega)) g3, ?_⟩
  · simp [results, Tryz.results16, go_sem, d0, d1, hne, fun e : b = w.heap.size => hne e.symm]
  · exact row_lower (g3.row (g2.row r1 (fun k hk => .inl (by omega))) (fun k hk => .inl (by omega))) (by omega)
  · exact row_lower (g3.row (g2.row (r2 i hi) (fun k hk => .inl (by omega))) (fun k hk => .inl (by omega))) (by omega)
  · exact row_lower (g3.row (g2.row r3 (fun k hk => .inl (by omega))) (fun k hk => .inl (by omega))) (by omega)
  · exact ((((cW.mono (fun _ h => h.elim)).trans h1.chg (fun _ _ h => h)).trans c12 (fun _ _ h => h.elim)).trans g2 (fun n hn h => by omega)).trans g3 (fun _ _ h => h)

end Go.Proofs.YtdoedjmdcmgddaaGreat
