/- The relay's calls, WALKED: Close. -/
import Derived.Test.YtdoedjmdcmgddaaGreatH3
namespace Go.Proofs.YtdoedjmdcmgddaaGreat
set_option linter.unusedVariables false
set_option linter.unusedSimpArgs false
open Go.RowKit Go.Lib Go.Conc.Locks

set_option maxRecDepth 100000 in
set_option maxHeartbeats 1000000 in
theorem close_open {w : World} {b : Nat} {E B : Nat → Int} {V : Nat → Value} {vk : Value} (h : Head w b 0 false) (hF : FlowCells w b 6 E B V vk) :
    Calls Tryz.prog 18 #[.pointer (some ⟨b, 0, none⟩)] w fun e w' => e = .returned (.int .i64 0) ∧ Head w' b 1 true ∧ Chg (fun k => k = b) w w' := by
  have hbl : b < w.heap.size := World.block_lt_of_cell? _ _ h.mu
  have hne : ¬ w.heap.size = b := by omega
  have hmf : ∀ (fn : Fn) (first cap : Array Value) (w : World), (Instr.makeFunc fn first cap).run Tryz.prog w = .ok (.func fn first cap) w := fun _ _ _ _ => rfl
  have cW : Chg (fun _ => False) w (w.alloc (Obj.cells #[.pointer (some ⟨b, 0, none⟩)] 28)) := (Chg.refl _ w).alloc _
  have hW := h.chg cW id
  have hlk := lock_rel b _ hW.mu (hW.fz 0)
  go_enter_defers Tryz.func18, Tryz.ntmps18
  go_wp2_with (first | (go_at_call 26; refine hlk.mono ?_; rintro _ w1 ⟨rfl, h1⟩; have a0 := h1.chg.cellAt (World.cell?_alloc_at (w := w) #[.pointer (some ⟨b, 0, none⟩)] 28 w.heap.size 0 rfl) hne; have c12 : Chg (fun _ => False) w1 (w1.alloc (Obj.cells #[.int .i64 1] 39)) := (Chg.refl _ w1).alloc _; have a1 := c12.cellAt a0 id; simp only [List.getElem_toArray, List.getElem_cons_zero, List.getElem_cons_succ] at a0 a1; clear hlk) | (go_at_call 33; have hbl1 : b < w1.heap.size := Nat.lt_of_lt_of_le (Nat.lt_of_lt_of_le hbl cW.size) h1.chg.size; have s02 := h1.slots.trans (Slots.of_chg (fun j => j = 0) c12 hbl1 id) (fun j hj => hj); have hFW := (hF.chg cW id); have hF2 : FlowCells (w1.alloc (Obj.cells #[.int .i64 1] 39)) b 6 E B V vk := ⟨fun i hi => (s02.cell _ (by omega)).trans (hFW.ep i hi), fun i hi => (s02.cell _ (by omega)).trans (hFW.ba i hi), fun i hi => (s02.cell _ (by omega)).trans (hFW.qu i hi), (s02.cell _ (by omega)).trans hFW.le⟩; have hdo := do_first b w.heap.size w1.heap.size false (.int .i64 1) (w1.alloc (Obj.cells #[.int .i64 1] 39)) hF2 a1 ((s02.cell 2 (by omega)).trans hW.dn) ((s02.cell 3 (by omega)).trans hW.om) ((s02.cell 5 (by omega)).trans hW.cl) (World.cell?_alloc_at _ _ _ _ rfl) (World.frozen?_alloc_at _ _ _ _ rfl) (fun j => (s02.frozen j).trans (hW.fz j)) (fun e => hne e.symm) (by omega); refine hdo.mono ?_; rintro _ w3 ⟨rfl, t2, t3, t5, tp, ts, tc⟩))
  have m1 := h1.cell hW.mu
  have m3 : w3.cell? ⟨b, 0, none⟩ = some (.int .i32 1) := (ts.cell 0 (by omega)).trans (c12.cellAt m1 id)
  have z3 : ∀ j, w3.frozen? ⟨b, j, none⟩ = false := fun j => (ts.frozen j).trans ((s02.frozen j).trans (hW.fz j))
  have sl : Slots b (fun j => j = 0) w3 (w3.setCell ⟨b, 0, none⟩ (.int .i32 0)) := (Slots.refl b _ w3).setCell (p := ⟨b, 0, none⟩) _ (fun _ => rfl)
  have hsz : w.heap.size ≤ w1.heap.size := Nat.le_trans cW.size h1.chg.size
  refine door (v := .int .i64 0) m3 (z3 0) ?_ ⟨rfl, ⟨World.cell?_setCell_same _ _ _ m3, (sl.cell 2 (by omega)).trans t2, (sl.cell 3 (by omega)).trans t3, (sl.cell 5 (by omega)).trans t5, fun j => (sl.frozen j).trans (z3 j)⟩, ?_⟩
  · simp [results, Tryz.results18, go_sem]
  · exact ((((cW.mono (fun _ h => h.elim)).trans h1.chg (fun _ _ h => h)).trans c12 (fun _ _ h => h.elim)).trans tc (fun n hn h => by rcases h with h | h <;> omega)).setCell (p := ⟨b, 0, none⟩) (fun _ => rfl) _

set_option maxRecDepth 100000 in
set_option maxHeartbeats 1000000 in
theorem close_done {w : World} {b : Nat} (h : Head w b 1 true) :
    Calls Tryz.prog 18 #[.pointer (some ⟨b, 0, none⟩)] w fun e w' => e = .returned (.int .i64 1) ∧ Head w' b 1 true ∧ Chg (fun k => k = b) w w' := by
  have hbl : b < w.heap.size := World.block_lt_of_cell? _ _ h.mu
  have hne : ¬ w.heap.size = b := by omega
  have hmf : ∀ (fn : Fn) (first cap : Array Value) (w : World), (Instr.makeFunc fn first cap).run Tryz.prog w = .ok (.func fn first cap) w := fun _ _ _ _ => rfl
  have cW : Chg (fun _ => False) w (w.alloc (Obj.cells #[.pointer (some ⟨b, 0, none⟩)] 28)) := (Chg.refl _ w).alloc _
  have hW := h.chg cW id
  have hlk := lock_rel b _ hW.mu (hW.fz 0)
  go_enter_defers Tryz.func18, Tryz.ntmps18
  go_wp2_with (first | (go_at_call 26; refine hlk.mono ?_; rintro _ w1 ⟨rfl, h1⟩; have a0 := h1.chg.cellAt (World.cell?_alloc_at (w := w) #[.pointer (some ⟨b, 0, none⟩)] 28 w.heap.size 0 rfl) hne; have c12 : Chg (fun _ => False) w1 (w1.alloc (Obj.cells #[.int .i64 1] 39)) := (Chg.refl _ w1).alloc _; have a1 := c12.cellAt a0 id; simp only [List.getElem_toArray, List.getElem_cons_zero, List.getElem_cons_succ] at a0 a1; clear hlk) | (go_at_call 33; have hbl1 : b < w1.heap.size := Nat.lt_of_lt_of_le (Nat.lt_of_lt_of_le hbl cW.size) h1.chg.size; have s02 := h1.slots.trans (Slots.of_chg (fun j => j = 0) c12 hbl1 id) (fun j hj => hj); have hdo := fun f => do_done b f (w1.alloc (Obj.cells #[.int .i64 1] 39)) ((s02.cell 2 (by omega)).trans hW.dn); refine (hdo _).mono ?_; rintro _ w3 ⟨rfl, rfl⟩))
  have m1 := h1.cell hW.mu
  have m3 := c12.cellAt m1 id
  have z3 := (s02.frozen 0).trans (hW.fz 0)
  refine door (v := .int .i64 1) m3 z3 ?_ ⟨rfl, hW.back s02 (fun j hj => .inl hj) m3, ?_⟩
  · simp [results, Tryz.results18, go_sem]
  · exact (((cW.mono (fun _ h => h.elim)).trans h1.chg (fun _ _ h => h)).trans c12 (fun _ _ h => h.elim)).setCell (p := ⟨b, 0, none⟩) (fun _ => rfl) _

def closedErr (c : Bool) : Int := if c then 1 else 0

set_option maxHeartbeats 400000 in
theorem check_any {w : World} {b : Nat} {d : Int} {c : Bool} (h : Head w b d c) :
    Calls Tryz.prog 61 #[.pointer (some ⟨b, 0, none⟩)] w fun e w' => e = .returned (.int .i64 (closedErr c)) ∧ Head w' b d c ∧ Slots b (fun j => j = 0) w w' ∧ Chg (fun k => k = b) w w' := by
  have hlk := lock_rel b _ h.mu (h.fz 0)
  cases c with
  | true =>
    go_enter_defers Tryz.func61, Tryz.ntmps61
    go_wp2_with (go_at_call 26; refine hlk.mono ?_; rintro _ w1 ⟨rfl, h1⟩; have c5 := (h1.slots.cell 5 (by omega)).trans h.cl)
    refine door (v := .int .i64 1) (h1.cell h.mu) ((h1.slots.frozen 0).trans (h.fz 0)) ?_ ⟨rfl, h.back h1.slots (fun j hj => .inl hj) (h1.cell h.mu), h1.slots.setCell (p := ⟨b, 0, none⟩) _ (fun _ => rfl), h1.chg.setCell (p := ⟨b, 0, none⟩) (fun _ => rfl) _⟩
    simp [results, Tryz.results61, go_sem]
  | false =>
    go_enter_defers Tryz.func61, Tryz.ntmps61
    go_wp2_with (go_at_call 26; refine hlk.mono ?_; rintro _ w1 ⟨rfl, h1⟩; have c5 := (h1.slots.cell 5 (by omega)).trans h.cl)
    refine door (v := .int .i64 0) (h1.cell h.mu) ((h1.slots.frozen 0).trans (h.fz 0)) ?_ ⟨rfl, h.back h1.slots (fun j hj => .inl hj) (h1.cell h.mu), h1.slots.setCell (p := ⟨b, 0, none⟩) _ (fun _ => rfl), h1.chg.setCell (p := ⟨b, 0, none⟩) (fun _ => rfl) _⟩
    simp [results, Tryz.results61, go_sem]

end Go.Proofs.YtdoedjmdcmgddaaGreat
