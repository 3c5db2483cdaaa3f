import Derived.RegionCalls
import Derived.Test.YthedkdbgfdjlkaaGreatDoorPack1
import Derived.Test.YthedkdbgfdjlkaaGreatDoorPack2
import Derived.Test.YthedkdbgfdjlkaaGreatDoorPack3
import Derived.Test.YthedkdbgfdjlkaaGreatDoorPack4
import Derived.Test.YthedkdbgfdjlkaaGreatDoorPack5
namespace Go.Proofs.YthedkdbgfdjlkaaGreatDoor
set_option linter.unusedVariables false
set_option linter.unusedSimpArgs false
open Go.RowKit Go.Lib Go.Conc.Locks
set_option maxHeartbeats 400000 in
theorem state_closed (b : Nat) (w : World) (h : Head w b 1 true) :
    Calls Tryz.prog 16 #[.pointer (some ⟨b, 0, none⟩)] w fun e w' => e = .returned (.tuple #[.agg #[.slice none 0 0, .slice none 0 0], .int .i64 1]) ∧ Head w' b 1 true ∧ Chg (fun k => k = b) w w' := by
  have hbl : b < w.heap.size := World.block_lt_of_cell? _ _ h.mu
  have hne : ¬ w.heap.size = b := by omega
  have cW : Chg (fun _ => False) w (w.alloc (Obj.cells #[.slice none 0 0, .slice none 0 0] 46)) := (Chg.refl _ w).alloc _
  have hW := h.chg cW id
  have hlk := lock_rel b _ hW.mu (hW.fz 0)
  go_enter_defers Tryz.func16, Tryz.ntmps16
  go_wp2_with (go_at_call 36; refine hlk.mono ?_; rintro _ w1 ⟨rfl, h1⟩; have c5 := (h1.slots.cell 5 (by omega)).trans hW.cl; have a0 := h1.chg.cellAt (World.cell?_alloc_at (w := w) #[.slice none 0 0, .slice none 0 0] 46 w.heap.size 0 rfl) hne; have a1 := h1.chg.cellAt (World.cell?_alloc_at (w := w) #[.slice none 0 0, .slice none 0 0] 46 w.heap.size 1 rfl) hne; have hfz : ∀ j, w1.frozen? ⟨w.heap.size, j, none⟩ = false := fun j => (World.frozen?_of_block (h1.chg.block w.heap.size (by simp) hne)).trans (World.frozen?_alloc_at _ _ _ _ rfl); have f0 := hfz 0; have f1 := hfz 1; simp only [List.getElem_toArray, List.getElem_cons_zero, List.getElem_cons_succ] at a0 a1)
  have g2 : Chg (fun k => k = w.heap.size) w1 ((w1.setCell ⟨w.heap.size, 0, none⟩ (.slice none 0 0)).setCell ⟨w.heap.size, 1, none⟩ (.slice none 0 0)) := ((Chg.refl (fun k => k = w.heap.size) w1).setCell (p := ⟨w.heap.size, 0, none⟩) (fun _ => rfl) _).setCell (p := ⟨w.heap.size, 1, none⟩) (fun _ => rfl) _
  have hbl1 : b < w1.heap.size := Nat.lt_of_lt_of_le (Nat.lt_of_lt_of_le hbl cW.size) h1.chg.size
  have s2 : Slots b (fun j => j = 0) w1 ((w1.setCell ⟨w.heap.size, 0, none⟩ (.slice none 0 0)).setCell ⟨w.heap.size, 1, none⟩ (.slice none 0 0)) := Slots.of_chg _ g2 hbl1 (fun e => hne e.symm)
  have m1 := h1.cell hW.mu
  have m2 := g2.cellAt m1 (fun e => hne e.symm)
  have z2 := (s2.frozen 0).trans ((h1.slots.frozen 0).trans (hW.fz 0))
  have n0 : (w1.setCell ⟨w.heap.size, 0, none⟩ (.slice none 0 0)).cell? ⟨w.heap.size, 1, none⟩ = some (.slice none 0 0) := (World.cell?_setCell_other _ _ _ _ (by simp)).trans a1
  refine door (v := .tuple #[.agg #[.slice none 0 0, .slice none 0 0], .int .i64 1]) m2 z2 ?_ ⟨rfl, hW.back (h1.slots.trans s2 (fun j hj => hj)) (fun j hj => .inl hj) m2, ?_⟩
  · simp [results, Tryz.results16, go_sem, a0, a1, hne, fun e : b = w.heap.size => hne e.symm]
  · exact (((cW.mono (fun _ h => h.elim)).trans h1.chg (fun _ _ h => h)).trans g2 (fun n hn h => by omega)).setCell (p := ⟨b, 0, none⟩) (fun _ => rfl) _
set_option maxRecDepth 100000 in
set_option maxHeartbeats 1000000 in
theorem state_open {w : World} {lo b : Nat} {E B : Nat → Int} {V : Nat → Value} {vk vb : Value} {Q S : Nat → List Wt} {ks : List Ky} {T : List UInt8} (h : Head w b 0 false) (hF : FlowAt w lo b 6 E B V vk Q ks) (hq : ∀ i, i < 4 → (Q i).length ≤ 4) (hk : ks.length ≤ 4) (hS : ∀ i, i < 4 → Up (S i) ∧ (Q i).Perm (S i)) (hT : TapeAt w b V vk vb T) :
    Calls Tryz.prog 16 #[.pointer (some ⟨b, 0, none⟩)] w fun e w' => ∃ (vs vk' : Value) (U : Nat → Value), e = .returned (.tuple #[.agg #[vs, vk'], .int .i64 0]) ∧
      w'.ownsRow w.heap.size 121 3 vs 4 (sessU E B U 4) ∧ (∀ i, i < 4 → w'.ownsRow w.heap.size 3 1 (U i) (Q i).length (ints' (theNums (Q i)))) ∧ w'.ownsRow w.heap.size 87 4 vk' ks.length (keyCells ks) ∧
      (∀ i j, i < 4 → j < 4 → i ≠ j → ∀ g, (U i).ownBlock = some g → (U j).ownBlock ≠ some g) ∧ Head w' b 0 false ∧ FlowAt w' lo b 6 E B V vk Q ks ∧ TapeAt w' b V vk vb T ∧ Chg (fun k => k = b) w w' := by
  have hbl : b < w.heap.size := World.block_lt_of_cell? _ _ h.mu
  have hne : ¬ w.heap.size = b := by omega
  have cW : Chg (fun _ => False) w (w.alloc (Obj.cells #[.slice none 0 0, .slice none 0 0] 46)) := (Chg.refl _ w).alloc _
  have hW := h.chg cW id
  have hFW := hF.chg hbl cW id (fun _ _ _ _ => id) (fun _ _ => id)
  have hTW := hT.chg cW id (fun _ _ => id)
  have hlk := lock_rel b _ hW.mu (hW.fz 0)
  go_enter_defers Tryz.func16, Tryz.ntmps16
  go_wp2_with (go_at_call 36; refine hlk.mono ?_; rintro _ w1 ⟨rfl, h1⟩; have c5 := (h1.slots.cell 5 (by omega)).trans hW.cl; have hF1 := hFW.beside h1.slots (fun j hj => .inl (by omega)) h1.chg; have hT1 := hTW.beside h1.slots (by omega) h1.chg; have a0 := h1.chg.cellAt (World.cell?_alloc_at (w := w) #[.slice none 0 0, .slice none 0 0] 46 w.heap.size 0 rfl) hne; have a1 := h1.chg.cellAt (World.cell?_alloc_at (w := w) #[.slice none 0 0, .slice none 0 0] 46 w.heap.size 1 rfl) hne; have hfz : ∀ j, w1.frozen? ⟨w.heap.size, j, none⟩ = false := fun j => (World.frozen?_of_block (h1.chg.block w.heap.size (by simp) hne)).trans (World.frozen?_alloc_at _ _ _ _ rfl); simp only [List.getElem_toArray, List.getElem_cons_zero, List.getElem_cons_succ] at a0 a1)
  have hsz1 : w.heap.size < w1.heap.size := by have := h1.chg.size; rw [World.size_alloc] at this; omega
  have hst := flowState_any hF1 hq hk hS
  go_wp2_with (go_at_call 38; refine hst.mono ?_; rintro _ w2 ⟨vs, vk', U, rfl, r1, r2, r3, hap, c12⟩; obtain ⟨ps, cs, rfl⟩ := row_any r1; obtain ⟨pk, ck, rfl⟩ := row_any r3; have b0 := c12.cellAt a0 id; have b1 := c12.cellAt a1 id; have hfz2 : ∀ j, w2.frozen? ⟨w.heap.size, j, none⟩ = false := fun j => (World.frozen?_of_block (c12.block w.heap.size hsz1 id)).trans (hfz j); have f0 := hfz2 0; have f1 := hfz2 1)
  obtain ⟨w3, hw3⟩ : ∃ w3, w3 = (w2.setCell ⟨w.heap.size, 0, none⟩ (.slice ps 4 cs)).setCell ⟨w.heap.size, 1, none⟩ (.slice pk ks.length ck) := ⟨_, rfl⟩
  have g2 : Chg (fun k => k = w.heap.size) w2 w3 := by
    rw [hw3]; exact ((Chg.refl (fun k => k = w.heap.size) w2).setCell (p := ⟨w.heap.size, 0, none⟩) (fun _ => rfl) _).setCell (p := ⟨w.heap.size, 1, none⟩) (fun _ => rfl) _
  have d0 : w3.cell? ⟨w.heap.size, 0, none⟩ = some (.slice ps 4 cs) := by
    rw [hw3]; exact (World.cell?_setCell_other _ _ _ _ (by simp)).trans (World.cell?_setCell_same _ _ _ b0)
  have d1 : w3.cell? ⟨w.heap.size, 1, none⟩ = some (.slice pk ks.length ck) := by
    rw [hw3]; exact World.cell?_setCell_same _ _ _ ((World.cell?_setCell_other _ _ _ _ (by simp)).trans b1)
  rw [← hw3]
  have hbl1 : b < w1.heap.size := by omega
  have hbl2 : b < w2.heap.size := Nat.lt_of_lt_of_le hbl1 c12.size
  have s12 : Slots b (fun j => j = 0) w1 w2 := Slots.of_chg _ c12 hbl1 id
  have s23 : Slots b (fun j => j = 0) w2 w3 := Slots.of_chg _ g2 hbl2 (fun e => hne e.symm)
  have m1 := h1.cell hW.mu
  have m3 := g2.cellAt (c12.cellAt m1 id) (fun e => hne e.symm)
  have sall := (h1.slots.trans s12 (fun j hj => hj)).trans s23 (fun j hj => hj)
  have z3 := (sall.frozen 0).trans (hW.fz 0)
  have s34 : Slots b (fun j => j = 0) w3 (w3.setCell ⟨b, 0, none⟩ (.int .i32 0)) := (Slots.refl b _ w3).setCell (p := ⟨b, 0, none⟩) _ (fun _ => rfl)
  have g3 : Chg (fun k => k = b) w3 (w3.setCell ⟨b, 0, none⟩ (.int .i32 0)) := (Chg.refl (fun k => k = b) w3).setCell (p := ⟨b, 0, none⟩) (fun _ => rfl) _
  have hF3 := (hF1.chg hbl1 c12 id (fun _ _ _ _ => id) (fun _ _ => id)).chg hbl2 g2 (fun e => hne e.symm) (fun i hi k hk e => by have := ((hF.rows i hi).lt k hk).2; omega) (fun k hk e => by have := (hF.keys.lt k hk).2; omega)
  have hT3 := (hT1.chg c12 id (fun _ _ => id)).chg g2 (fun e => hne e.symm) (fun k hk e => by have := (hT.row.lt k hk).2; omega)
  refine door (v := .tuple #[.agg #[.slice ps 4 cs, .slice pk ks.length ck], .int .i64 0]) m3 z3 ?_ ⟨_, _, U, rfl, ?_, fun i hi => ?_, ?_, hap, hW.back sall (fun j hj => .inl hj) m3, hF3.beside s34 (fun j hj => .inl (by omega)) g3, hT3.beside s34 (by omega) g3, ?_⟩
  · simp [results, Tryz.results16, go_sem, d0, d1, hne, fun e : b = w.heap.size => hne e.symm]
  · exact row_lower (g3.row (g2.row r1 (fun k hk => .inl (by omega))) (fun k hk => .inl (by omega))) (by omega)
  · exact row_lower (g3.row (g2.row (r2 i hi) (fun k hk => .inl (by omega))) (fun k hk => .inl (by omega))) (by omega)
  · exact row_lower (g3.row (g2.row r3 (fun k hk => .inl (by omega))) (fun k hk => .inl (by omega))) (by omega)
  · exact ((((cW.mono (fun _ h => h.elim)).trans h1.chg (fun _ _ h => h)).trans c12 (fun _ _ h => h.elim)).trans g2 (fun n hn h => by omega)).trans g3 (fun _ _ h => h)
end Go.Proofs.YthedkdbgfdjlkaaGreatDoor

namespace Go.Proofs.YthedkdbgfdjlkaaGreatDoor
set_option linter.unusedVariables false
set_option linter.unusedSimpArgs false
open Go.RowKit Go.Lib Go.Conc.Locks
set_option maxHeartbeats 400000 in
theorem boolLoad_any (a : Addr) (d : Int) (w : World) (hd : d = 0 ∨ d = 1) (hc : w.cell? a = some (.int .u32 d)) : Calls Tryz.prog 80 #[.pointer (some a)] w fun e w' => e = .returned (.bool (d != 0)) ∧ w' = w := by
  have hl := run_call_load (P := Tryz.prog) Tryz.func123 (by kernel_rfl) (by kernel_rfl) (by kernel_rfl) .u32 (by kernel_rfl) (w := w) (a := a) (x := d) hc
  rcases hd with rfl | rfl
  · go_enter Tryz.func80, Tryz.ntmps80
    go_wp2
    go_ret
    exact ⟨rfl, rfl⟩
  · go_enter Tryz.func80, Tryz.ntmps80
    go_wp2
    go_ret
    exact ⟨rfl, rfl⟩
set_option maxHeartbeats 400000 in
theorem boolStore_deferred (a : Addr) (x : Value) (u : FrameMode) (w : World) (hc : w.cell? a = some x) (hz : w.frozen? a = false) :
    CallsD Tryz.prog 124 #[.pointer (some a), .bool true] u w fun e u' w' => u' = u ∧ (e = .returned (.tuple #[]) ∧ w' = w.drew.setCell a (.int .u32 1)) := by
  have hc' : w.drew.cell? a = some x := by go_simp
  have hz' : w.drew.frozen? a = false := by go_simp
  have hst := run_call_store (P := Tryz.prog) Tryz.func152 (by kernel_rfl) (by kernel_rfl) (by kernel_rfl) (by kernel_rfl) (k := .u32) (y := 1) hc' hz'
  go_enter_d Tryz.func124, Tryz.ntmps124
  go_wp2
  go_region_calls
  all_goals (go_end0; exact ⟨rfl, rfl⟩)
set_option maxRecDepth 100000 in
set_option maxHeartbeats 1600000 in
theorem close1_any (b r p : Nat) (c : Bool) (y : Value) (w : World) {E B : Nat → Int} {V : Nat → Value} {vk vb : Value} (hF : FlowCells w b 6 E B V vk) (hvb : w.cell? ⟨b, 19, none⟩ = some vb) (hr : w.cell? ⟨r, 0, none⟩ = some (.pointer (some ⟨b, 0, none⟩))) (hc : w.cell? ⟨b, 5, none⟩ = some (.bool c)) (hp : w.cell? ⟨p, 0, none⟩ = some y) (hzp : w.frozen? ⟨p, 0, none⟩ = false) (hz : ∀ j, w.frozen? ⟨b, j, none⟩ = false)
    (hrb : b ≠ r) (hpb : b ≠ p) :
    Calls Tryz.prog 45 #[.pointer (some ⟨r, 0, none⟩), .pointer (some ⟨p, 0, none⟩)] w fun e w' => e = .returned (.tuple #[]) ∧ w'.cell? ⟨b, 5, none⟩ = some (.bool true) ∧ w'.cell? ⟨p, 0, none⟩ = some (.int .i64 0) ∧ Slots b (fun j => 5 ≤ j) w w' ∧ Chg (fun k => k = b ∨ k = p) w w' := by
  have e0 := hF.ep 0 (by omega); have e1 := hF.ep 1 (by omega); have e2 := hF.ep 2 (by omega); have e3 := hF.ep 3 (by omega)
  have b0 := hF.ba 0 (by omega); have b1 := hF.ba 1 (by omega); have b2 := hF.ba 2 (by omega); have b3 := hF.ba 3 (by omega)
  have v0 := hF.qu 0 (by omega); have v1 := hF.qu 1 (by omega); have v2 := hF.qu 2 (by omega); have v3 := hF.qu 3 (by omega)
  have kk := hF.le
  simp only [Nat.zero_mul, Nat.one_mul, Nat.add_zero, Nat.reduceMul, Nat.reduceAdd] at e0 e1 e2 e3 b0 b1 b2 b3 v0 v1 v2 v3 kk
  have f5 := hz 5; have f6 := hz 6; have f7 := hz 7; have f8 := hz 8; have f9 := hz 9; have f10 := hz 10; have f11 := hz 11; have f12 := hz 12; have f13 := hz 13; have f14 := hz 14; have f15 := hz 15; have f16 := hz 16; have f17 := hz 17; have f18 := hz 18; have f19 := hz 19
  obtain ⟨w1, hw1⟩ : ∃ w1, w1 = w.setCell ⟨b, 5, none⟩ (.bool true) := ⟨_, rfl⟩
  have s1 : Slots b (fun j => 5 ≤ j) w w1 := by rw [hw1]; exact (Slots.refl b _ w).setCell (p := ⟨b, 5, none⟩) _ (fun _ => by simp)
  have c1 : Chg (fun k => k = b ∨ k = p) w w1 := by rw [hw1]; exact (Chg.refl (fun k => k = b ∨ k = p) w).setCell (p := ⟨b, 5, none⟩) (fun _ => .inl rfl) _
  have t5 : w1.cell? ⟨b, 5, none⟩ = some (.bool true) := by rw [hw1]; exact World.cell?_setCell_same _ _ _ hc
  have hfin : ∀ W, Slots b (fun j => 6 ≤ j) w1 W → Chg (fun k => k = b) w1 W → (W.setCell ⟨p, 0, none⟩ (.int .i64 0)).cell? ⟨b, 5, none⟩ = some (.bool true) ∧ (W.setCell ⟨p, 0, none⟩ (.int .i64 0)).cell? ⟨p, 0, none⟩ = some (.int .i64 0) ∧ Slots b (fun j => 5 ≤ j) w (W.setCell ⟨p, 0, none⟩ (.int .i64 0)) ∧ Chg (fun k => k = b ∨ k = p) w (W.setCell ⟨p, 0, none⟩ (.int .i64 0)) := fun W sl cg => by
    have hp1 : w1.cell? ⟨p, 0, none⟩ = some y := by rw [hw1]; exact (World.cell?_setCell_other _ _ _ _ (fun e => hpb (congrArg Addr.block e))).trans hp
    exact ⟨(World.cell?_setCell_other _ _ _ _ (fun e => hpb (congrArg Addr.block e).symm)).trans ((sl.cell 5 (by omega)).trans t5), World.cell?_setCell_same _ _ _ (cg.cellAt hp1 (fun e => hpb e.symm)),
      (s1.trans sl (fun j hj => by omega)).setCell (p := ⟨p, 0, none⟩) _ (fun e => absurd e.symm hpb), (c1.trans cg (fun _ _ h => .inl h)).setCell (p := ⟨p, 0, none⟩) (fun _ => .inr rfl) _⟩
  have HFIN : Hid (∀ W, Slots b (fun j => 6 ≤ j) w1 W → Chg (fun k => k = b) w1 W → _) := hfin
  clear hfin t5
  go_enter Tryz.func45, Tryz.ntmps45
  go_wp2_with fail
  rw [← hw1]
  have d5 : ∀ j, j ≠ 5 → w1.cell? ⟨b, j, none⟩ = w.cell? ⟨b, j, none⟩ := fun j hj => by rw [hw1]; exact World.cell?_setCell_other _ _ _ _ (fun e => hj (congrArg Addr.off e).symm)
  have g6 := (d5 6 (by omega)).trans e0; have g7 := (d5 7 (by omega)).trans b0; have g8 := (d5 8 (by omega)).trans v0; have g9 := (d5 9 (by omega)).trans e1; have g10 := (d5 10 (by omega)).trans b1; have g11 := (d5 11 (by omega)).trans v1; have g12 := (d5 12 (by omega)).trans e2; have g13 := (d5 13 (by omega)).trans b2; have g14 := (d5 14 (by omega)).trans v2; have g15 := (d5 15 (by omega)).trans e3; have g16 := (d5 16 (by omega)).trans b3; have g17 := (d5 17 (by omega)).trans v3; have g18 := (d5 18 (by omega)).trans kk; have g19 := (d5 19 (by omega)).trans hvb
  have l6 := (s1.frozen 6).trans f6; have l7 := (s1.frozen 7).trans f7; have l8 := (s1.frozen 8).trans f8; have l9 := (s1.frozen 9).trans f9; have l10 := (s1.frozen 10).trans f10; have l11 := (s1.frozen 11).trans f11; have l12 := (s1.frozen 12).trans f12; have l13 := (s1.frozen 13).trans f13; have l14 := (s1.frozen 14).trans f14; have l15 := (s1.frozen 15).trans f15; have l16 := (s1.frozen 16).trans f16; have l17 := (s1.frozen 17).trans f17; have l18 := (s1.frozen 18).trans f18; have l19 := (s1.frozen 19).trans f19
  have hr1 : w1.cell? ⟨r, 0, none⟩ = some (.pointer (some ⟨b, 0, none⟩)) := by rw [hw1]; exact (World.cell?_setCell_other _ _ _ _ (fun e => hrb (congrArg Addr.block e))).trans hr
  have hp1 : w1.cell? ⟨p, 0, none⟩ = some y := by rw [hw1]; exact (World.cell?_setCell_other _ _ _ _ (fun e => hpb (congrArg Addr.block e))).trans hp
  have hzp1 : w1.frozen? ⟨p, 0, none⟩ = false := by rw [hw1, World.frozen?_setCell]; exact hzp
  clear d5 hw1
  go_region
  go_wp2_with fail
  go_end0
  obtain ⟨sl, cg⟩ := setCells_slots b [.int .i64 0, .int .i64 0, .slice none 0 0, .int .i64 0, .int .i64 0, .slice none 0 0, .int .i64 0, .int .i64 0, .slice none 0 0, .int .i64 0, .int .i64 0, .slice none 0 0, .slice none 0 0, .slice none 0 0] 6 w1
  simp only [World.setCells, Nat.reduceAdd] at sl cg
  have hF := HFIN.out _ (sl.mono (T := fun j => 6 ≤ j) (fun j hj => hj.1)) cg
  refine ⟨rfl, ?_, ?_, ?_, ?_⟩
  · rw [World.cell?_drew]; exact hF.1
  · rw [World.cell?_drew]; exact hF.2.1
  · exact hF.2.2.1.quiet ((Quiet.refl _).drew)
  · exact hF.2.2.2.drew
set_option maxRecDepth 100000 in
set_option maxHeartbeats 1600000 in
theorem slow_any (b r p : Nat) (c : Bool) (y : Value) (w : World) {E B : Nat → Int} {V : Nat → Value} {vk vb : Value} (hF : FlowCells w b 6 E B V vk) (hvb : w.cell? ⟨b, 19, none⟩ = some vb) (hr : w.cell? ⟨r, 0, none⟩ = some (.pointer (some ⟨b, 0, none⟩))) (hd : w.cell? ⟨b, 2, none⟩ = some (.int .u32 0)) (hm : w.cell? ⟨b, 3, none⟩ = some (.int .i32 0)) (hc : w.cell? ⟨b, 5, none⟩ = some (.bool c)) (hp : w.cell? ⟨p, 0, none⟩ = some y) (hzp : w.frozen? ⟨p, 0, none⟩ = false) (hz : ∀ j, w.frozen? ⟨b, j, none⟩ = false)
    (hrb : b ≠ r) (hpb : b ≠ p) :
    Calls Tryz.prog 81 #[.pointer (some ⟨b, 2, none⟩), .func (.func 45) #[] #[.pointer (some ⟨r, 0, none⟩), .pointer (some ⟨p, 0, none⟩)]] w fun e w' => e = .returned (.tuple #[]) ∧
      w'.cell? ⟨b, 2, none⟩ = some (.int .u32 1) ∧ w'.cell? ⟨b, 3, none⟩ = some (.int .i32 0) ∧ w'.cell? ⟨b, 5, none⟩ = some (.bool true) ∧ w'.cell? ⟨p, 0, none⟩ = some (.int .i64 0) ∧ Slots b (fun j => 2 ≤ j) w w' ∧ Chg (fun k => k = b ∨ k = p) w w' := by
  have hlk := Go.MuLone.lock_free Tryz.muLib ⟨b, 3, none⟩ w hm (hz 3)
  have hnot : ∀ (x : Bool) (w : World), (Op.unary .not (.bool x)).run Tryz.prog w = .ok (.bool (!x)) w := fun _ _ => rfl
  obtain ⟨w1, hw1⟩ : ∃ w1, w1 = w.setCell ⟨b, 3, none⟩ (.int .i32 1) := ⟨_, rfl⟩
  have s1 : Slots b (fun j => j = 3) w w1 := by rw [hw1]; exact (Slots.refl b _ w).setCell (p := ⟨b, 3, none⟩) _ (fun _ => rfl)
  have c1 : Chg (fun k => k = b) w w1 := by rw [hw1]; exact (Chg.refl (fun k => k = b) w).setCell (p := ⟨b, 3, none⟩) (fun _ => rfl) _
  have m1 : w1.cell? ⟨b, 3, none⟩ = some (.int .i32 1) := by rw [hw1]; exact World.cell?_setCell_same _ _ _ hm
  rw [← hw1] at hlk
  have hlk' : Calls Tryz.prog 36 #[.pointer (some ⟨b, 3, none⟩)] w fun e w' => e = .returned (.tuple #[]) ∧ w' = w1 := hlk
  have hF1 : FlowCells w1 b 6 E B V vk := ⟨fun i hi => (s1.cell _ (by omega)).trans (hF.ep i hi), fun i hi => (s1.cell _ (by omega)).trans (hF.ba i hi), fun i hi => (s1.cell _ (by omega)).trans (hF.qu i hi), (s1.cell _ (by omega)).trans hF.le⟩
  have hzp1 : w1.frozen? ⟨p, 0, none⟩ = false := (World.frozen?_of_block (c1.block p (World.block_lt_of_cell? _ _ hp) (fun e => hpb e.symm))).trans hzp
  have d1 := (s1.cell 2 (by omega)).trans hd
  have hcl := close1_any b r p c y w1 hF1 ((s1.cell 19 (by omega)).trans hvb) (c1.cellAt hr (fun e => hrb e.symm)) ((s1.cell 5 (by omega)).trans hc) (c1.cellAt hp (fun e => hpb e.symm)) hzp1 (fun j => (s1.frozen j).trans (hz j)) hrb hpb
  have hbl := boolLoad_any ⟨b, 2, none⟩ 0 w1 (.inl rfl) d1
  clear hw1 hlk
  go_enter_defers Tryz.func81, Tryz.ntmps81
  go_wp2_with (first | (go_at_call 36; refine hlk'.mono ?_; rintro _ w1a ⟨rfl, rfl⟩) | (go_at_call 80; refine hbl.mono ?_; rintro _ w1b ⟨rfl, rfl⟩) | (go_at_call 45; refine hcl.mono ?_; rintro _ w2 ⟨rfl, t1, t2, t3, t4⟩))
  have d2 : w2.cell? ⟨b, 2, none⟩ = some (.int .u32 0) := (t3.cell 2 (by omega)).trans d1
  have z2 : ∀ j, w2.frozen? ⟨b, j, none⟩ = false := fun j => (t3.frozen j).trans ((s1.frozen j).trans (hz j))
  have m2 : w2.cell? ⟨b, 3, none⟩ = some (.int .i32 1) := (t3.cell 3 (by omega)).trans m1
  refine leaves_cons (f := 124) (args := #[.pointer (some ⟨b, 2, none⟩), .bool true]) (by simp) (by kernel_rfl) ?_
  refine (boolStore_deferred ⟨b, 2, none⟩ (.int .u32 0) .returning _ d2 (z2 2)).mono ?_
  rintro e u' w3 ⟨rfl, rfl, hw3⟩
  have s3 : Slots b (fun j => j = 2) w2 w3 := by rw [hw3]; exact ((Slots.refl b (fun j => j = 2) w2).quiet ((Quiet.refl w2).drew)).setCell (p := ⟨b, 2, none⟩) _ (fun _ => rfl)
  have c3 : Chg (fun k => k = b) w2 w3 := by rw [hw3]; exact ((Chg.refl (fun k => k = b) w2).drew).setCell (p := ⟨b, 2, none⟩) (fun _ => rfl) _
  have d3 : w3.cell? ⟨b, 2, none⟩ = some (.int .u32 1) := by rw [hw3]; exact World.cell?_setCell_same _ _ _ (by rw [World.cell?_drew]; exact d2)
  have m3 := (s3.cell 3 (by omega)).trans m2
  have z3 := (s3.frozen 3).trans (z2 3)
  refine leaves_cons (f := 37) (args := #[.pointer (some ⟨b, 3, none⟩)]) (by simp [settle]) (by kernel_rfl) ?_
  refine (Go.MuLone.unlock_deferred Tryz.muLib ⟨b, 3, none⟩ _ _ m3 z3).mono ?_
  rintro e u' w4 ⟨rfl, rfl, hw4⟩
  have s4 : Slots b (fun j => j = 3) w3 w4 := by rw [hw4]; exact (Slots.refl b _ w3).setCell (p := ⟨b, 3, none⟩) _ (fun _ => rfl)
  have c4 : Chg (fun k => k = b) w3 w4 := by rw [hw4]; exact (Chg.refl (fun k => k = b) w3).setCell (p := ⟨b, 3, none⟩) (fun _ => rfl) _
  have m4 : w4.cell? ⟨b, 3, none⟩ = some (.int .i32 0) := by rw [hw4]; exact World.cell?_setCell_same _ _ _ m3
  refine ⟨.tuple #[], results_none rfl _ _ _, rfl, (s4.cell 2 (by omega)).trans d3, m4, (s4.cell 5 (by omega)).trans ((s3.cell 5 (by omega)).trans t1), c4.cellAt (c3.cellAt t2 (fun e => hpb e.symm)) (fun e => hpb e.symm), ?_, ?_⟩
  · exact (((s1.mono (fun j hj => by omega)).trans t3 (fun j hj => by omega)).trans s3 (fun j hj => by omega)).trans s4 (fun j hj => by omega)
  · exact (((c1.mono (fun k hk => .inl hk)).trans t4 (fun _ _ h => h)).trans c3 (fun _ _ h => .inl h)).trans c4 (fun _ _ h => .inl h)
set_option maxHeartbeats 400000 in
theorem do_first (b r p : Nat) (c : Bool) (y : Value) (w : World) {E B : Nat → Int} {V : Nat → Value} {vk vb : Value} (hF : FlowCells w b 6 E B V vk) (hvb : w.cell? ⟨b, 19, none⟩ = some vb) (hr : w.cell? ⟨r, 0, none⟩ = some (.pointer (some ⟨b, 0, none⟩))) (hd : w.cell? ⟨b, 2, none⟩ = some (.int .u32 0)) (hm : w.cell? ⟨b, 3, none⟩ = some (.int .i32 0)) (hc : w.cell? ⟨b, 5, none⟩ = some (.bool c)) (hp : w.cell? ⟨p, 0, none⟩ = some y) (hzp : w.frozen? ⟨p, 0, none⟩ = false) (hz : ∀ j, w.frozen? ⟨b, j, none⟩ = false)
    (hrb : b ≠ r) (hpb : b ≠ p) :
    Calls Tryz.prog 44 #[.pointer (some ⟨b, 2, none⟩), .func (.func 45) #[] #[.pointer (some ⟨r, 0, none⟩), .pointer (some ⟨p, 0, none⟩)]] w fun e w' => e = .returned (.tuple #[]) ∧
      w'.cell? ⟨b, 2, none⟩ = some (.int .u32 1) ∧ w'.cell? ⟨b, 3, none⟩ = some (.int .i32 0) ∧ w'.cell? ⟨b, 5, none⟩ = some (.bool true) ∧ w'.cell? ⟨p, 0, none⟩ = some (.int .i64 0) ∧ Slots b (fun j => 2 ≤ j) w w' ∧ Chg (fun k => k = b ∨ k = p) w w' := by
  have hsl := slow_any b r p c y w hF hvb hr hd hm hc hp hzp hz hrb hpb
  have hnot : ∀ (x : Bool) (w : World), (Op.unary .not (.bool x)).run Tryz.prog w = .ok (.bool (!x)) w := fun _ _ => rfl
  have hbl := boolLoad_any ⟨b, 2, none⟩ 0 w (.inl rfl) hd
  go_enter Tryz.func44, Tryz.ntmps44
  go_wp2_with (first | (go_at_call 80; refine hbl.mono ?_; rintro _ w1b ⟨rfl, rfl⟩) | (go_at_call 81; refine hsl.mono ?_; rintro _ w2 ⟨rfl, t⟩))
  go_end0
  exact ⟨rfl, t⟩
set_option maxHeartbeats 400000 in
theorem do_done (b : Nat) (f : Value) (w : World) (hd : w.cell? ⟨b, 2, none⟩ = some (.int .u32 1)) :
    Calls Tryz.prog 44 #[.pointer (some ⟨b, 2, none⟩), f] w fun e w' => e = .returned (.tuple #[]) ∧ w' = w := by
  have hnot : ∀ (x : Bool) (w : World), (Op.unary .not (.bool x)).run Tryz.prog w = .ok (.bool (!x)) w := fun _ _ => rfl
  have hbl := boolLoad_any ⟨b, 2, none⟩ 1 w (.inr rfl) hd
  go_enter Tryz.func44, Tryz.ntmps44
  go_wp2_with (go_at_call 80; refine hbl.mono ?_; rintro _ w1b ⟨rfl, rfl⟩)
  go_end0
  exact ⟨rfl, rfl⟩
end Go.Proofs.YthedkdbgfdjlkaaGreatDoor

namespace Go.Proofs.YthedkdbgfdjlkaaGreatDoor
set_option linter.unusedVariables false
set_option linter.unusedSimpArgs false
open Go.RowKit Go.Lib Go.Conc.Locks
set_option maxRecDepth 100000 in
set_option maxHeartbeats 1000000 in
theorem close_open {w : World} {b : Nat} {E B : Nat → Int} {V : Nat → Value} {vk vb : Value} (h : Head w b 0 false) (hF : FlowCells w b 6 E B V vk) (hvb : w.cell? ⟨b, 19, none⟩ = some vb) :
    Calls Tryz.prog 24 #[.pointer (some ⟨b, 0, none⟩)] w fun e w' => e = .returned (.int .i64 0) ∧ Head w' b 1 true ∧ Chg (fun k => k = b) w w' := by
  have hbl : b < w.heap.size := World.block_lt_of_cell? _ _ h.mu
  have hne : ¬ w.heap.size = b := by omega
  have hmf : ∀ (fn : Fn) (first cap : Array Value) (w : World), (Instr.makeFunc fn first cap).run Tryz.prog w = .ok (.func fn first cap) w := fun _ _ _ _ => rfl
  have cW : Chg (fun _ => False) w (w.alloc (Obj.cells #[.pointer (some ⟨b, 0, none⟩)] 27)) := (Chg.refl _ w).alloc _
  have hW := h.chg cW id
  have hlk := lock_rel b _ hW.mu (hW.fz 0)
  go_enter_defers Tryz.func24, Tryz.ntmps24
  go_wp2_with (first | (go_at_call 36; refine hlk.mono ?_; rintro _ w1 ⟨rfl, h1⟩; have a0 := h1.chg.cellAt (World.cell?_alloc_at (w := w) #[.pointer (some ⟨b, 0, none⟩)] 27 w.heap.size 0 rfl) hne; have c12 : Chg (fun _ => False) w1 (w1.alloc (Obj.cells #[.int .i64 1] 39)) := (Chg.refl _ w1).alloc _; have a1 := c12.cellAt a0 id; simp only [List.getElem_toArray, List.getElem_cons_zero, List.getElem_cons_succ] at a0 a1; clear hlk) | (go_at_call 44; have hbl1 : b < w1.heap.size := Nat.lt_of_lt_of_le (Nat.lt_of_lt_of_le hbl cW.size) h1.chg.size; have s02 := h1.slots.trans (Slots.of_chg (fun j => j = 0) c12 hbl1 id) (fun j hj => hj); have hFW := (hF.chg cW id); have hF2 : FlowCells (w1.alloc (Obj.cells #[.int .i64 1] 39)) b 6 E B V vk := ⟨fun i hi => (s02.cell _ (by omega)).trans (hFW.ep i hi), fun i hi => (s02.cell _ (by omega)).trans (hFW.ba i hi), fun i hi => (s02.cell _ (by omega)).trans (hFW.qu i hi), (s02.cell _ (by omega)).trans hFW.le⟩; have hdo := do_first b w.heap.size w1.heap.size false (.int .i64 1) (w1.alloc (Obj.cells #[.int .i64 1] 39)) hF2 ((s02.cell 19 (by omega)).trans (cW.cellAt hvb id)) a1 ((s02.cell 2 (by omega)).trans hW.dn) ((s02.cell 3 (by omega)).trans hW.om) ((s02.cell 5 (by omega)).trans hW.cl) (World.cell?_alloc_at _ _ _ _ rfl) (World.frozen?_alloc_at _ _ _ _ rfl) (fun j => (s02.frozen j).trans (hW.fz j)) (fun e => hne e.symm) (by omega); refine hdo.mono ?_; rintro _ w3 ⟨rfl, t2, t3, t5, tp, ts, tc⟩))
  have m1 := h1.cell hW.mu
  have m3 : w3.cell? ⟨b, 0, none⟩ = some (.int .i32 1) := (ts.cell 0 (by omega)).trans (c12.cellAt m1 id)
  have z3 : ∀ j, w3.frozen? ⟨b, j, none⟩ = false := fun j => (ts.frozen j).trans ((s02.frozen j).trans (hW.fz j))
  have sl : Slots b (fun j => j = 0) w3 (w3.setCell ⟨b, 0, none⟩ (.int .i32 0)) := (Slots.refl b _ w3).setCell (p := ⟨b, 0, none⟩) _ (fun _ => rfl)
  have hsz : w.heap.size ≤ w1.heap.size := Nat.le_trans cW.size h1.chg.size
  refine door (v := .int .i64 0) m3 (z3 0) ?_ ⟨rfl, ⟨World.cell?_setCell_same _ _ _ m3, (sl.cell 2 (by omega)).trans t2, (sl.cell 3 (by omega)).trans t3, (sl.cell 5 (by omega)).trans t5, fun j => (sl.frozen j).trans (z3 j)⟩, ?_⟩
  · simp [results, Tryz.results24, go_sem]
  · exact ((((cW.mono (fun _ h => h.elim)).trans h1.chg (fun _ _ h => h)).trans c12 (fun _ _ h => h.elim)).trans tc (fun n hn h => by rcases h with h | h <;> omega)).setCell (p := ⟨b, 0, none⟩) (fun _ => rfl) _
set_option maxRecDepth 100000 in
set_option maxHeartbeats 1000000 in
theorem close_done {w : World} {b : Nat} (h : Head w b 1 true) :
    Calls Tryz.prog 24 #[.pointer (some ⟨b, 0, none⟩)] w fun e w' => e = .returned (.int .i64 1) ∧ Head w' b 1 true ∧ Chg (fun k => k = b) w w' := by
  have hbl : b < w.heap.size := World.block_lt_of_cell? _ _ h.mu
  have hne : ¬ w.heap.size = b := by omega
  have hmf : ∀ (fn : Fn) (first cap : Array Value) (w : World), (Instr.makeFunc fn first cap).run Tryz.prog w = .ok (.func fn first cap) w := fun _ _ _ _ => rfl
  have cW : Chg (fun _ => False) w (w.alloc (Obj.cells #[.pointer (some ⟨b, 0, none⟩)] 27)) := (Chg.refl _ w).alloc _
  have hW := h.chg cW id
  have hlk := lock_rel b _ hW.mu (hW.fz 0)
  go_enter_defers Tryz.func24, Tryz.ntmps24
  go_wp2_with (first | (go_at_call 36; refine hlk.mono ?_; rintro _ w1 ⟨rfl, h1⟩; have a0 := h1.chg.cellAt (World.cell?_alloc_at (w := w) #[.pointer (some ⟨b, 0, none⟩)] 27 w.heap.size 0 rfl) hne; have c12 : Chg (fun _ => False) w1 (w1.alloc (Obj.cells #[.int .i64 1] 39)) := (Chg.refl _ w1).alloc _; have a1 := c12.cellAt a0 id; simp only [List.getElem_toArray, List.getElem_cons_zero, List.getElem_cons_succ] at a0 a1; clear hlk) | (go_at_call 44; have hbl1 : b < w1.heap.size := Nat.lt_of_lt_of_le (Nat.lt_of_lt_of_le hbl cW.size) h1.chg.size; have s02 := h1.slots.trans (Slots.of_chg (fun j => j = 0) c12 hbl1 id) (fun j hj => hj); have hdo := fun f => do_done b f (w1.alloc (Obj.cells #[.int .i64 1] 39)) ((s02.cell 2 (by omega)).trans hW.dn); refine (hdo _).mono ?_; rintro _ w3 ⟨rfl, rfl⟩))
  have m1 := h1.cell hW.mu
  have m3 := c12.cellAt m1 id
  have z3 := (s02.frozen 0).trans (hW.fz 0)
  refine door (v := .int .i64 1) m3 z3 ?_ ⟨rfl, hW.back s02 (fun j hj => .inl hj) m3, ?_⟩
  · simp [results, Tryz.results24, go_sem]
  · exact (((cW.mono (fun _ h => h.elim)).trans h1.chg (fun _ _ h => h)).trans c12 (fun _ _ h => h.elim)).setCell (p := ⟨b, 0, none⟩) (fun _ => rfl) _
end Go.Proofs.YthedkdbgfdjlkaaGreatDoor

namespace Go.Proofs.YthedkdbgfdjlkaaGreatDoor
set_option linter.unusedVariables false
set_option linter.unusedSimpArgs false
open Go.RowKit Go.Lib Go.Conc.Locks
set_option maxHeartbeats 400000 in
theorem shrink_closed (b : Nat) (w : World) (h : Head w b 1 true) :
    Calls Tryz.prog 20 #[.pointer (some ⟨b, 0, none⟩)] w fun e w' => e = .returned (.int .i64 1) ∧ Head w' b 1 true ∧ Chg (fun k => k = b) w w' := by
  have hlk := lock_rel b _ h.mu (h.fz 0)
  go_enter_defers Tryz.func20, Tryz.ntmps20
  go_wp2_with (go_at_call 36; refine hlk.mono ?_; rintro _ w1 ⟨rfl, h1⟩; have c5 := (h1.slots.cell 5 (by omega)).trans h.cl)
  refine door (v := .int .i64 1) (h1.cell h.mu) ((h1.slots.frozen 0).trans (h.fz 0)) ?_ ⟨rfl, h.back h1.slots (fun j hj => .inl hj) (h1.cell h.mu), h1.chg.setCell (p := ⟨b, 0, none⟩) (fun _ => rfl) _⟩
  simp [results, Tryz.results20, go_sem]
set_option maxRecDepth 100000 in
set_option maxHeartbeats 1000000 in
theorem shrink_open {w : World} {b : Nat} {E B : Nat → Int} {V : Nat → Value} {vk vb : Value} {Q S : Nat → List Wt} {ks : List Ky} {T : List UInt8} (h : Head w b 0 false) (hF : FlowAt w 0 b 6 E B V vk Q ks) (hT : TapeAt w b V vk vb T) (hq : ∀ i, i < 4 → (Q i).length ≤ 4) (hk : ks.length ≤ 4) (hS : ∀ i, i < 4 → Up (S i) ∧ (Q i).Perm (S i))
    (hE : ∀ i, i < 4 → 0 ≤ E i ∧ E i ≤ 9223372036854775807) (hB : ∀ i, i < 4 → 0 ≤ B i ∧ B i ≤ 9223372036854775807) (hK : ∀ k ∈ ks, k.plain) (hR : ∀ x ∈ recsU E S 4, x.plain) :
    Calls Tryz.prog 20 #[.pointer (some ⟨b, 0, none⟩)] w fun e w' => e = .returned (.int .i64 0) ∧ Head w' b 0 false ∧ FlowAt w' 0 b 6 E B V vk Q ks ∧ (∃ vb', TapeAt w' b V vk vb' (headU E B S ks) ∧ ∀ k, vb'.ownBlock = some k → w.heap.size ≤ k) ∧ Chg (fun k => k = b) w w' := by
  have hbl : b < w.heap.size := World.block_lt_of_cell? _ _ h.mu
  have hlk := lock_rel b _ h.mu (h.fz 0)
  have HH : Hid (∀ (W : World), FlowAt W 0 b 6 E B V vk Q ks → Calls Tryz.prog 31 #[.pointer (some ⟨b, 6, none⟩)] W fun e w' => ∃ v, e = .returned v ∧ RowB w' W.heap.size v (headU E B S ks) ∧ Chg (fun _ => False) W w') := fun W hW => Head_any hW hq hk hS hE hB hK hR
  obtain ⟨T3, hT3⟩ : ∃ T3, T3 = headU E B S ks := ⟨_, rfl⟩
  rw [← hT3] at HH
  have HT3 : Hid (T3 = headU E B S ks) := hT3
  clear hT3
  have h19 := hT.cell
  obtain ⟨p0, c0, hv0⟩ := hT.row.any
  go_enter_defers Tryz.func20, Tryz.ntmps20
  go_wp2_with (first | (go_at_call 36; refine hlk.mono ?_; rintro _ w1 ⟨rfl, h1⟩; have c5 := (h1.slots.cell 5 (by omega)).trans h.cl; have hF1 := hF.beside h1.slots (fun j hj => .inl (by omega)) h1.chg; have tc := (h1.slots.cell 19 (by omega)).trans h19; have z19 := (h1.slots.frozen 19).trans (h.fz 19); have hbl1 : b < w1.heap.size := World.block_lt_of_cell? _ _ tc) | (go_at_call 31; refine (HH.out _ hF1).mono ?_; rintro _ w3 ⟨v3, rfl, r3, c13⟩; have k19 := c13.cellAt tc id; have k19z : w3.frozen? ⟨b, 19, none⟩ = false := (World.frozen?_of_block (w := w1) (c13.block b hbl1 id)).trans z19; obtain ⟨p3, c3, rfl⟩ := r3.any))
  have m1 := h1.cell h.mu
  have hz01 := h1.chg.size
  have s13 : Slots b (fun j => j = 19) w1 w3 := Slots.of_chg _ c13 hbl1 id
  obtain ⟨w4, hw4⟩ : ∃ w4, w4 = w3.setCell ⟨b, 19, none⟩ (.slice p3 T3.length c3) := ⟨_, rfl⟩
  have s34 : Slots b (fun j => j = 19) w3 w4 := by rw [hw4]; exact (Slots.refl b _ w3).setCell (p := ⟨b, 19, none⟩) _ (fun _ => rfl)
  have c34 : Chg (fun k => k = b) w3 w4 := by rw [hw4]; exact (Chg.refl (fun k => k = b) w3).setCell (p := ⟨b, 19, none⟩) (fun _ => rfl) _
  have k4 : w4.cell? ⟨b, 19, none⟩ = some (.slice p3 T3.length c3) := by rw [hw4]; exact World.cell?_setCell_same _ _ _ k19
  have s14 := s13.trans s34 (fun j hj => hj)
  have c14 : Chg (fun k => k = b) w1 w4 := (c13.mono (fun _ h => h.elim)).trans c34 (fun _ _ h => h)
  have own3 : (Value.slice p3 T3.length c3).ownBlock ≠ some b := fun e => by have := (r3.lt b e).1; omega
  have m4 : w4.cell? ⟨b, 0, none⟩ = some (.int .i32 1) := (s14.cell 0 (by omega)).trans m1
  have z4 : w4.frozen? ⟨b, 0, none⟩ = false := (s14.frozen 0).trans ((h1.slots.frozen 0).trans (h.fz 0))
  have g2 : Chg (fun k => k = b) w4 (w4.setCell ⟨b, 0, none⟩ (.int .i32 0)) := (Chg.refl (fun k => k = b) w4).setCell (p := ⟨b, 0, none⟩) (fun _ => rfl) _
  have s2 : Slots b (fun j => j = 0) w4 (w4.setCell ⟨b, 0, none⟩ (.int .i32 0)) := (Slots.refl b _ w4).setCell (p := ⟨b, 0, none⟩) _ (fun _ => rfl)
  have f4 := hF1.beside s14 (fun j hj => .inr (by omega)) c14
  have tt : TapeAt w4 b V vk (.slice p3 T3.length c3) T3 := ⟨k4, (r3.lower (Nat.zero_le _)).chg c34 (fun k hk e => own3 (by rw [← e]; exact hk)), own3, fun k hk hr => by
    have := (r3.lt k hk).1
    rcases hr with ⟨i, hi, hr⟩ | hr
    · have := ((hF1.rows i hi).lt k hr).2; omega
    · have := (hF1.keys.lt k hr).2; omega⟩
  rw [← hw4]
  refine door (v := .int .i64 0) m4 z4 ?_ ⟨rfl, h.back ((h1.slots.mono (T := fun j => j = 0 ∨ 6 ≤ j) (fun j hj => .inl hj)).trans s14 (fun j hj => by omega)) (fun j hj => hj) m4, f4.beside s2 (fun j hj => .inl (by omega)) g2, ⟨_, ?_, fun k hk => by have := (r3.lt k hk).1; omega⟩, (h1.chg.trans c14 (fun _ _ h => h)).trans g2 (fun _ _ h => h)⟩
  · simp [results, Tryz.results20, go_sem]
  · rw [← HT3.out]
    exact tt.beside s2 (by omega) g2
end Go.Proofs.YthedkdbgfdjlkaaGreatDoor

namespace Go.Proofs.YthedkdbgfdjlkaaGreatDoor
set_option linter.unusedVariables false
set_option linter.unusedSimpArgs false
open Go.RowKit Go.Lib Go.Conc.Locks
def RelCase (T : List UInt8) (w : World) (b : Nat) (F : Nat → Prop) : Option St → Prop
  | none => Head w b 1 true
  | some s => Head w b 0 false ∧ ∃ E B V vk vb Q ks, FlowAt w 0 b 6 E B V vk Q ks ∧ FlowFit E B Q ks ∧ Ties E B Q ks s ∧ (∀ k, Rows V vk k → F k) ∧ TapeAt w b V vk vb T ∧ (∀ k, vb.ownBlock = some k → F k) ∧ s.sound
def RelT (T : List UInt8) (w : World) (a : Addr) (o : Option St) (F : Nat → Prop) : Prop := ∃ b, a = ⟨b, 0, none⟩ ∧ F b ∧ (∀ k, F k → k < w.heap.size) ∧ RelCase T w b F o
theorem row_same {w w' : World} {b : Nat} {e : TypeId} {n m : Nat} {v : Value} {xs : List Value} (hr : w.ownsRow b e n v m xs) (h : ∀ k, v.ownBlock = some k → w'.heap[k]? = w.heap[k]?) : w'.ownsRow b e n v m xs := by
  refine ⟨hr.1, ?_⟩
  rcases hr.2 with hn | ⟨g, cap, cur, hv, hb, hg, r⟩
  · exact .inl hn
  · exact .inr ⟨g, cap, cur, hv, hb, (h g (by rw [hv]; rfl)).trans hg, r⟩
theorem Head.same {w w' : World} {b : Nat} {d : Int} {c : Bool} (h : Head w b d c) (hb : w'.heap[b]? = w.heap[b]?) : Head w' b d c :=
  ⟨(World.cell?_of_block (w := w) hb).trans h.mu, (World.cell?_of_block (w := w) hb).trans h.dn, (World.cell?_of_block (w := w) hb).trans h.om, (World.cell?_of_block (w := w) hb).trans h.cl, fun j => (World.frozen?_of_block (w := w) hb).trans (h.fz j)⟩
theorem FlowAt.same {w w' : World} {b o : Nat} {E B : Nat → Int} {V : Nat → Value} {vk : Value} {Q : Nat → List Wt} {ks : List Ky} (h : FlowAt w 0 b o E B V vk Q ks) (hb : w'.heap[b]? = w.heap[b]?) (hr : ∀ k, Rows V vk k → w'.heap[k]? = w.heap[k]?) : FlowAt w' 0 b o E B V vk Q ks :=
  ⟨⟨fun i hi => (World.cell?_of_block (w := w) hb).trans (h.cells.ep i hi), fun i hi => (World.cell?_of_block (w := w) hb).trans (h.cells.ba i hi), fun i hi => (World.cell?_of_block (w := w) hb).trans (h.cells.qu i hi), (World.cell?_of_block (w := w) hb).trans h.cells.le⟩,
   fun j => (World.frozen?_of_block (w := w) hb).trans (h.froz j), fun i hi => row_same (h.rows i hi) (fun k hk => hr k (.inl ⟨i, hi, hk⟩)), row_same h.keys (fun k hk => hr k (.inr hk)), h.own, h.ownk, h.sep, h.sepk, Nat.zero_le _⟩
theorem relT_lt {T : List UInt8} {w : World} {a : Addr} {o : Option St} {F : Nat → Prop} {k : Nat} (h : RelT T w a o F) (hk : F k) : k < w.heap.size := by
  obtain ⟨b, _, _, h1, _⟩ := h
  exact h1 k hk
theorem relT_stable {T : List UInt8} {w w' : World} {a : Addr} {o : Option St} {F : Nat → Prop} (h : RelT T w a o F) (hs : ∀ k, F k → w'.heap[k]? = w.heap[k]?) : RelT T w' a o F := by
  obtain ⟨b, rfl, hb, h1, h2⟩ := h
  refine ⟨b, rfl, hb, fun k hk => ?_, ?_⟩
  · have e := hs k hk
    rw [Array.getElem?_eq_getElem (h1 k hk)] at e
    exact (Array.getElem?_eq_some_iff.1 e).1
  · cases o with
    | none => exact Head.same h2 (hs b hb)
    | some s =>
      obtain ⟨h3, E, B, V, vk, vb, Q, ks, h4, h5, h6, h7, h8, h9, h10⟩ := h2
      exact ⟨h3.same (hs b hb), E, B, V, vk, vb, Q, ks, h4.same (hs b hb) (fun k hk => hs k (h7 k hk)), h5, h6, h7, ⟨(World.cell?_of_block (w := w) (hs b hb)).trans h8.cell, h8.row.same (fun k hk => hs k (h9 k hk)), h8.own, h8.sep⟩, h9, h10⟩
theorem recsU_lanes {E B : Nat → Int} {Q S : Nat → List Wt} {ks : List Ky} {s : St} (h : Ties E B Q ks s) (hS : ∀ i, i < 4 → ∃ l, s.lanes[i]? = some l ∧ S i = l.ws) : headU E B S ks = encHead s ∧ recsU E S 4 = s.recs := by
  obtain ⟨l0, c0, p0⟩ := h.lane 0 (by omega)
  obtain ⟨l1, c1, p1⟩ := h.lane 1 (by omega)
  obtain ⟨l2, c2, p2⟩ := h.lane 2 (by omega)
  obtain ⟨l3, c3, p3⟩ := h.lane 3 (by omega)
  obtain ⟨m0, d0, e0⟩ := hS 0 (by omega)
  obtain ⟨m1, d1, e1⟩ := hS 1 (by omega)
  obtain ⟨m2, d2, e2⟩ := hS 2 (by omega)
  obtain ⟨m3, d3, e3⟩ := hS 3 (by omega)
  rw [c0] at d0; rw [c1] at d1; rw [c2] at d2; rw [c3] at d3
  cases d0; cases d1; cases d2; cases d3
  have h4' := h.four
  match hs : s.lanes, h4' with
  | [x0, x1, x2, x3], _ =>
    rw [hs] at c0 c1 c2 c3
    simp at c0 c1 c2 c3
    subst c0 c1 c2 c3
    have hr : recsU E S 4 = s.recs := by
      unfold St.recs
      rw [hs]
      simp [recsU, recsFrom, e0, e1, e2, e3, p0.ep, p1.ep, p2.ep, p3.ep]
    refine ⟨?_, hr⟩
    unfold headU encHead
    rw [hr, h.keys, hs]
    simp [sessE, encSess, p0.ep, p0.ba, p1.ep, p1.ba, p2.ep, p2.ba, p3.ep, p3.ba]
theorem lanes_S {E B : Nat → Int} {Q : Nat → List Wt} {ks : List Ky} {s : St} (h : Ties E B Q ks s) : ∃ S : Nat → List Wt, (∀ i, i < 4 → ∃ l, s.lanes[i]? = some l ∧ S i = l.ws) ∧ ∀ i, i < 4 → Up (S i) ∧ (Q i).Perm (S i) := by
  refine ⟨fun i => match s.lanes[i]? with | some l => l.ws | none => [], fun i hi => ?_, fun i hi => ?_⟩
  · obtain ⟨l, c, p⟩ := h.lane i hi
    exact ⟨l, c, by simp [c]⟩
  · obtain ⟨l, c, p⟩ := h.lane i hi
    simp only [c]
    exact ⟨p.up, p.perm⟩
theorem encHead_init : encHead St.init = headU (fun _ => 0) (fun _ => 0) (fun _ => []) [] := by
  simp [encHead, headU, St.init, Ln.init, St.recs, recsFrom, recsU, sessE, encSess]
end Go.Proofs.YthedkdbgfdjlkaaGreatDoor

namespace Go.Proofs.YthedkdbgfdjlkaaGreatDoor
set_option linter.unusedVariables false
set_option linter.unusedSimpArgs false
open Go.RowKit
variable {R : Nat → World → Addr → Option St → (Nat → Prop) → Prop}
def heldS : List Ky → Int
  | [] => 0
  | k :: r => k.held + heldS r
def St.pot (s : St) : Nat := 512 + 32 * (s.records + heldS s.keys).toNat
def RQ (R : Nat → World → Addr → Option St → (Nat → Prop) → Prop) (w : World) (a : Addr) : Option St → (Nat → Prop) → Prop
  | none, F => ∃ n, n ≤ roomy ∧ R n w a none F
  | some s, F => (∀ l ∈ s.lanes, l.epoch = 0) ∧ ∃ n, n ≤ s.pot ∧ R n w a (some s) F
theorem heldS_takeKy (name : ByteArray) (val : Int) : ∀ ks : List Ky, heldS (takeKy name val ks) = heldS ks
  | [] => by simp [takeKy, heldS, Ky.more]
  | k :: r => by
    have := heldS_takeKy name val r
    unfold takeKy
    split
    · simp [heldS, Ky.more]
    · split
      · simp [heldS, Ky.more]
      · simp [heldS, this]
theorem heldS_drain : ∀ (b : Int) (ws : List Wt) (ks : List Ky), heldS (drainW b ws ks).2.2 = heldS ks
  | b, [], ks => by simp [drainW]
  | b, x :: r, ks => by
    by_cases hb : x.num = b
    · have := heldS_drain (b + 1) r (takeKy x.key x.val ks)
      rw [heldS_takeKy] at this
      simp only [drainW, if_pos hb]
      exact this
    · simp only [drainW, if_neg hb]
theorem heldS_le : ∀ {ks : List Ky}, (∀ k ∈ ks, 1 ≤ k.count ∧ 0 ≤ k.held ∧ k.held ≤ k.count) → 0 ≤ heldS ks ∧ heldS ks ≤ counts ks
  | [], _ => by simp [heldS, counts]
  | k :: r, h => by
    have h1 := heldS_le (ks := r) (fun y hy => h y (by simp [hy]))
    have h2 := h k (by simp)
    simp [heldS, counts]; omega
theorem zero_accept {s : St} (x : Rec) (hx : x.epoch = 0) (h0 : ∀ l ∈ s.lanes, l.epoch = 0) :
    (∀ l ∈ (accept s x).2.lanes, l.epoch = 0) ∧ ((accept s x).2 = s ∨ ((accept s x).2.records = s.records + 1 ∧ heldS (accept s x).2.keys = heldS s.keys)) := by
  unfold accept
  split
  · exact ⟨h0, .inl rfl⟩
  · split
    · exact ⟨h0, .inl rfl⟩
    · split
      · exact ⟨h0, .inl rfl⟩
      · rename_i l hl
        have hle : l.epoch = 0 := h0 l (List.mem_of_getElem? hl)
        have ht : l.turned x.epoch = l := by unfold Ln.turned; rw [if_neg (by omega)]
        unfold acceptIn
        simp only [ht]
        split
        · exact ⟨h0, .inl rfl⟩
        · split
          · exact ⟨h0, .inl rfl⟩
          · split
            · exact ⟨h0, .inl rfl⟩
            · split
              · exact ⟨h0, .inl rfl⟩
              · split
                · exact ⟨h0, .inl rfl⟩
                · simp only
                  refine ⟨fun y hy => ?_, .inr ⟨?_, heldS_drain _ _ _⟩⟩
                  · rcases List.mem_or_eq_of_mem_set hy with h | h
                    · exact h0 y h
                    · rw [h]; exact hle
                  · have h1 := drain_len l.base (putW ⟨x.number, x.key, x.value⟩ l.ws) s.keys
                    rw [putW_length] at h1
                    unfold St.records
                    simp only
                    rw [waits_set _ _ _ _ hl]
                    simp only
                    omega
theorem hold_same (name : ByteArray) (n : Int) : ∀ {ks : List Ky} {k : Ky}, findKy name ks = some k → (n ≤ k.held ∧ holdKy name n ks = ks) ∨ heldS (holdKy name n ks) ≥ heldS ks + 1
  | [], k, h => by simp [findKy] at h
  | y :: r, k, h => by
    unfold findKy at h
    unfold holdKy
    split at h
    · rename_i hy
      obtain rfl : y = k := by simpa using h
      rw [if_pos hy]
      by_cases hn : n ≤ y.held
      · exact .inl ⟨hn, by rw [show max y.held n = y.held by omega]⟩
      · refine .inr ?_
        simp [heldS]; omega
    · rename_i hy
      rw [if_neg hy]
      rcases hold_same name n h with ⟨h1, h2⟩ | h2
      · exact .inl ⟨h1, by rw [h2]⟩
      · refine .inr ?_
        simp [heldS]; omega
theorem zero_answer {s : St} (key : ByteArray) (n : Int) : (answer s key n).2.lanes = s.lanes ∧ (answer s key n).2.records = s.records ∧ ((answer s key n).2 = s ∨ heldS (answer s key n).2.keys ≥ heldS s.keys + 1) := by
  unfold answer
  split
  · exact ⟨rfl, rfl, .inl rfl⟩
  · split
    · exact ⟨rfl, rfl, .inl rfl⟩
    · rename_i k hk
      split
      · exact ⟨rfl, rfl, .inl rfl⟩
      · refine ⟨rfl, ?_, ?_⟩
        · unfold St.records; simp only; rw [counts_hold]
        · rcases hold_same key n hk with ⟨_, h2⟩ | h2
          · exact .inl (by simp only; rw [h2])
          · exact .inr h2
theorem pot_room {s : St} (h : s.fine) : s.pot ≤ roomy ∧ 0 ≤ s.records ∧ 0 ≤ heldS s.keys := by
  obtain ⟨h1, h2⟩ := heldS_le h.key
  have h3 := h.total
  have h4 := (waits_ge (ls := s.lanes)).1
  have h5 := keys_le (fun k hk => (h.key k hk).1)
  unfold St.pot roomy
  unfold St.records at h3 ⊢
  omega
theorem ApiN.zero (H : ApiN R) : Api (RQ R) where
  lt := by
    intro w a o F k h hk
    cases o with
    | none => obtain ⟨n, _, h⟩ := h; exact H.lt h hk
    | some s => obtain ⟨_, n, _, h⟩ := h; exact H.lt h hk
  stable := by
    intro w w' a o F h hs
    cases o with
    | none => obtain ⟨n, hn, h⟩ := h; exact ⟨n, hn, H.stable h hs⟩
    | some s => obtain ⟨h0, n, hn, h⟩ := h; exact ⟨h0, n, hn, H.stable h hs⟩
  fine := by
    intro w a s F h
    obtain ⟨_, n, _, h⟩ := h
    exact H.fine h
  new := fun w => (H.new w).mono fun e w' ⟨a, F, h1, h2, h3, h4⟩ => ⟨a, F, h1, ⟨by simp [St.init, Ln.init], 512, by unfold St.pot; omega, h2⟩, h3, h4⟩
  accept := by
    intro w a o F x h hx hf
    cases o with
    | none =>
      obtain ⟨n, hn, h⟩ := h
      refine (H.accept x h hn hf).mono ?_
      rintro e w' ⟨F', m, h1, h2, h3, h4, h5, h6⟩
      exact ⟨F', h1, ⟨m, by rw [h6 rfl]; exact hn, h2⟩, h3, h4⟩
    | some s =>
      obtain ⟨h0, n, hn, h⟩ := h
      have hfi := H.fine h
      obtain ⟨p1, p2, p3⟩ := pot_room hfi
      refine (H.accept x h (Nat.le_trans hn p1) hf).mono ?_
      rintro e w' ⟨F', m, h1, h2, h3, h4, h5, h6⟩
      obtain ⟨z1, z2⟩ := zero_accept x hx h0
      refine ⟨F', h1, ⟨z1, m, ?_, h2⟩, h3, h4⟩
      rcases z2 with z2 | ⟨z2, z3⟩
      · rw [z2]
        have : m = n := h6 (by simp only [accept?]; rw [z2])
        omega
      · unfold St.pot at hn ⊢
        rw [z2, z3]
        omega
  state := by
    intro w a o F h
    cases o with
    | none =>
      obtain ⟨n, hn, h⟩ := h
      refine (H.state h).mono ?_
      rintro e w' ⟨vs, vk, h1, h2, h3, h4⟩
      exact ⟨vs, vk, h1, h2, ⟨n, hn, h3⟩, h4⟩
    | some s =>
      obtain ⟨h0, n, hn, h⟩ := h
      refine (H.state h).mono ?_
      rintro e w' ⟨vs, vk, h1, h2, h3, h4⟩
      exact ⟨vs, vk, h1, h2, ⟨h0, n, hn, h3⟩, h4⟩
  close := by
    intro w a o F h
    cases o with
    | none =>
      obtain ⟨n, hn, h⟩ := h
      refine (H.close h).mono ?_
      rintro e w' ⟨h1, h2, h3⟩
      exact ⟨h1, ⟨n, hn, h2⟩, h3⟩
    | some s =>
      obtain ⟨h0, n, hn, h⟩ := h
      have := (pot_room (H.fine h)).1
      refine (H.close h).mono ?_
      rintro e w' ⟨h1, h2, h3⟩
      exact ⟨h1, ⟨n, Nat.le_trans hn this, h2⟩, h3⟩
theorem ApiSN.zero (H : ApiN R) (HS : ApiSN R) : ApiS (RQ R) where
  puts := by
    intro w a o F h
    cases o with
    | none =>
      obtain ⟨n, hn, h⟩ := h
      refine (HS.puts h).mono ?_
      rintro e w' ⟨vp, h1, h2, h3, h4⟩
      exact ⟨vp, h1, h2, ⟨n, hn, h3⟩, h4⟩
    | some s =>
      obtain ⟨h0, n, hn, h⟩ := h
      refine (HS.puts h).mono ?_
      rintro e w' ⟨vp, h1, h2, h3, h4⟩
      exact ⟨vp, h1, h2, ⟨h0, n, hn, h3⟩, h4⟩
  answer := by
    intro w a o F key n h hk hi
    cases o with
    | none =>
      obtain ⟨m, hm, h⟩ := h
      refine (HS.answer key n h hm hk hi).mono ?_
      rintro e w' ⟨F', m', h1, h2, h3, h4, h5, h6⟩
      exact ⟨F', h1, ⟨m', by rw [h6 rfl]; exact hm, h2⟩, h3, h4⟩
    | some s =>
      obtain ⟨h0, m, hm, h⟩ := h
      have hfi := H.fine h
      obtain ⟨p1, p2, p3⟩ := pot_room hfi
      refine (HS.answer key n h (Nat.le_trans hm p1) hk hi).mono ?_
      rintro e w' ⟨F', m', h1, h2, h3, h4, h5, h6⟩
      obtain ⟨z1, z2, z3⟩ := zero_answer (s := s) key n
      refine ⟨F', h1, ⟨(show ∀ l ∈ (Go.Proofs.YthedkdbgfdjlkaaGreatDoor.answer s key n).2.lanes, l.epoch = 0 by rw [z1]; exact h0), m', ?_, h2⟩, h3, h4⟩
      rcases z3 with z3 | z3
      · rw [z3]
        have : m' = m := h6 (by simp only [answer?]; rw [z3])
        omega
      · unfold St.pot at hm ⊢
        rw [z2]
        omega
end Go.Proofs.YthedkdbgfdjlkaaGreatDoor

namespace Go.Proofs.YthedkdbgfdjlkaaGreatDoor
set_option linter.unusedVariables false
set_option linter.unusedSimpArgs false
open Go.RowKit Go.Lib Go.Conc.Locks
theorem relT_new (w : World) : Calls Tryz.prog 11 #[] w fun e w' => ∃ a F, e = .returned (.pointer (some a)) ∧ RelT (encHead St.init) w' a (some St.init) F ∧ (∀ k, F k → w.heap.size ≤ k) ∧ Chg (fun _ => False) w w' := by
  refine (New_cells w).mono ?_
  rintro e w' ⟨v, w1, rfl, r1, c1, hw⟩
  have hz := c1.size
  have cA : Chg (fun _ => False) w1 w' := by rw [hw]; exact chg_alloc _ _
  have hs : w'.heap.size = w1.heap.size + 1 := by rw [hw]; simp
  have nb : v.ownBlock ≠ some w1.heap.size := fun e => by have := (r1.lt _ e).2; omega
  refine ⟨_, fun k => k = w1.heap.size ∨ v.ownBlock = some k, rfl, ⟨w1.heap.size, rfl, .inl rfl, fun k hk => ?_, ?_, fun _ => 0, fun _ => 0, fun _ => .slice none 0 0, .slice none 0 0, v, fun _ => [], [], ?_, ?_, ?_, ?_, ?_, fun k hk => .inr hk, sound_init⟩, fun k hk => ?_, c1.trans cA (fun _ _ h => h)⟩
  · rcases hk with rfl | hk
    · omega
    · have := (r1.lt k hk).2; omega
  · rw [hw]
    exact ⟨World.cell?_alloc_at _ _ _ _ rfl, World.cell?_alloc_at _ _ _ _ rfl, World.cell?_alloc_at _ _ _ _ rfl, World.cell?_alloc_at _ _ _ _ rfl, fun j => World.frozen?_alloc_at _ _ _ _ rfl⟩
  · rw [hw]
    refine ⟨⟨fun i hi => ?_, fun i hi => ?_, fun i hi => ?_, World.cell?_alloc_at _ _ _ _ rfl⟩, fun j => World.frozen?_alloc_at _ _ _ _ rfl, fun i hi => World.ownsRow_nil _ _ _ _, World.ownsRow_nil _ _ _ _, fun i hi => by simp [Value.ownBlock], by simp [Value.ownBlock], fun i j _ _ _ g hg => by simp [Value.ownBlock] at hg, fun i _ g hg => by simp [Value.ownBlock] at hg, Nat.zero_le _⟩
    · rcases (by omega : i = 0 ∨ i = 1 ∨ i = 2 ∨ i = 3) with rfl | rfl | rfl | rfl <;> exact World.cell?_alloc_at _ _ _ _ rfl
    · rcases (by omega : i = 0 ∨ i = 1 ∨ i = 2 ∨ i = 3) with rfl | rfl | rfl | rfl <;> exact World.cell?_alloc_at _ _ _ _ rfl
    · rcases (by omega : i = 0 ∨ i = 1 ∨ i = 2 ∨ i = 3) with rfl | rfl | rfl | rfl <;> exact World.cell?_alloc_at _ _ _ _ rfl
  · exact ⟨fun i hi => by simp, by simp, ⟨List.Pairwise.nil, by simp, by simp, by simp, by simp [counts, qLens]⟩, fun i hi => by simp [counts], fun i hi x hx => by simp at hx⟩
  · refine ⟨rfl, rfl, fun i hi => ⟨Ln.init, ?_, rfl, rfl, List.Pairwise.nil, .refl _, trivial, by simp [Ln.init]⟩, fun i hi => by simp, by simp [St.names, St.init, Ln.init, distinct], by simp⟩
    rcases (by omega : i = 0 ∨ i = 1 ∨ i = 2 ∨ i = 3) with rfl | rfl | rfl | rfl <;> rfl
  · intro k hk
    rcases hk with ⟨i, _, hk⟩ | hk <;> simp [Value.ownBlock] at hk
  · rw [encHead_init]
    refine ⟨by rw [hw]; exact World.cell?_alloc_at _ _ _ _ rfl, (r1.lower (Nat.zero_le _)).chg cA (fun _ _ h => h), nb, fun k _ hr => ?_⟩
    rcases hr with ⟨i, _, hr⟩ | hr <;> simp [Value.ownBlock] at hr
  · rcases hk with rfl | hk
    · omega
    · exact (r1.lt k hk).1
def tapeAcc (T : List UInt8) (x : Rec) (o o' : Option St) (T' : List UInt8) : Prop := (T' = T ∧ o' = o) ∨ (T' = T ++ encAcc x ∧ o' ≠ o ∧ (encAcc x).length ≤ 32)
theorem acc_short {E B : Nat → Int} {Q : Nat → List Wt} {ks : List Ky} (hf : FlowFit E B Q ks) {x : Rec} (hx : x.fits) (h : (accF E B Q ks x).2.isSome = true) : (encAcc x).length ≤ 32 := by
  unfold accF at h
  by_cases hb : recErr x ≠ 0
  · rw [if_pos hb] at h; cases h
  · rw [if_neg hb] at h
    have hgood : recErr x = 0 := by simpa using hb
    by_cases he : x.epoch < E x.session.toNat
    · rw [if_pos he] at h; cases h
    · rw [if_neg he] at h
      unfold recErr at hgood
      split at hgood
      · cases hgood
      · rename_i h1
        split at hgood
        · cases hgood
        · rename_i h2
          have hk : okKey x.key = true := by
            cases e : okKey x.key
            · exact absurd (.inl e) h2
            · rfl
          obtain ⟨f1, f2, f3, f4, _⟩ := hx
          unfold inInt at f1 f2 f3 f4
          have hq0 := qLens_nonneg Q 4
          have htot := hf.led.total
          have hba := hf.ba x.session.toNat (by omega)
          have hn : x.number ≤ 16000 := by
            unfold accH at h
            by_cases hn : ¬ (0 ≤ x.number ∧ x.number < tB E B x.session.toNat x.epoch + 4)
            · rw [if_pos hn] at h; cases h
            · have : tB E B x.session.toNat x.epoch ≤ 1000 := by
                unfold tB
                split
                · omega
                · omega
              omega
          have := encRec_len (x := x) (by omega) (by omega) hn hk (by omega)
          unfold encAcc
          simp only [List.length_cons]
          omega
theorem relT_accept {T : List UInt8} {w : World} {a : Addr} {o : Option St} {F : Nat → Prop} (x : Rec) (h : RelT T w a o F) (hTl : T.length ≤ 140737488351500) (hx : x.fits) : Calls Tryz.prog 22 #[.pointer (some a), x.value'] w fun e w' =>
    ∃ F' T', e = .returned (.tuple #[.int .i64 (accept? o x).1.1, .int .i64 (accept? o x).1.2]) ∧ RelT T' w' a (accept? o x).2 F' ∧ tapeAcc T x o (accept? o x).2 T' ∧ (∀ k, F' k → F k ∨ w.heap.size ≤ k) ∧ Chg F w w' := by
  obtain ⟨b, rfl, hb, h1, h2⟩ := h
  cases o with
  | none =>
    refine (accept_closed b x w h2).mono ?_
    rintro e w' ⟨rfl, g1, g2⟩
    exact ⟨F, T, rfl, ⟨b, rfl, hb, fun k hk => Nat.lt_of_lt_of_le (h1 k hk) g2.size, g1⟩, .inl ⟨rfl, rfl⟩, fun k hk => .inl hk, g2.mono (fun k hk => by rw [hk]; exact hb)⟩
  | some s =>
    obtain ⟨h3, E, B, V, vk, vb, Q, ks, h4, h5, h6, h7, h8, h9, h10⟩ := h2
    obtain ⟨t1, t2, t3, t4, t5⟩ := accept_tie h6 h5 x hx
    have hsnd := sound_accept h10 (h6.fine h5) x
    refine (accept_open h3 h4 h5 (fun i hi => (h6.eps i hi).1) h8 hTl x hx).mono ?_
    rintro e w' ⟨rfl, g1, V', vk', vb', g2, g3, g4, g5, g6⟩
    refine ⟨fun k => F k ∨ (w.heap.size ≤ k ∧ k < w'.heap.size), _, by simp only [accept?]; rw [t1], ⟨b, rfl, .inl hb, fun k hk => ?_, g1, _, _, V', vk', vb', _, _, g2, t3, t2, fun k hk => ?_, g3, fun k hk => ?_, hsnd⟩, ?_, fun k hk => hk.imp id (fun h => h.1), g6.mono (fun k hk => ?_)⟩
    · rcases hk with hk | hk
      · exact Nat.lt_of_lt_of_le (h1 k hk) g6.size
      · exact hk.2
    · have hlt : k < w'.heap.size := by
        rcases hk with ⟨i, hi, hk⟩ | hk
        · exact ((g2.rows i hi).lt k hk).2
        · exact (g2.keys.lt k hk).2
      rcases g4 k hk with h | h
      · exact .inl (h7 k h)
      · exact .inr ⟨h, hlt⟩
    · rcases g5 k hk with h | h
      · exact .inl (h9 k h)
      · exact .inr ⟨h, (g3.row.lt k hk).2⟩
    · cases hch : (accF E B Q ks x).2.isSome with
      | false =>
        refine .inl ⟨rfl, ?_⟩
        have hn : (accF E B Q ks x).2 = none := by simpa using hch
        simp only [accept?]
        rw [t5 hn]
      | true =>
        refine .inr ⟨rfl, ?_, acc_short h5 hx hch⟩
        simp only [accept?]
        exact fun e => t4 hch (Option.some.inj e)
    · rcases hk with rfl | hk | hk
      · exact hb
      · exact h7 k hk
      · exact h9 k hk
theorem relT_close {T : List UInt8} {w : World} {a : Addr} {o : Option St} {F : Nat → Prop} (h : RelT T w a o F) : Calls Tryz.prog 24 #[.pointer (some a)] w fun e w' =>
    e = .returned (.int .i64 (errno? o)) ∧ RelT T w' a none F ∧ Chg F w w' := by
  obtain ⟨b, rfl, hb, h1, h2⟩ := h
  cases o with
  | none =>
    refine (close_done h2).mono ?_
    rintro e w' ⟨rfl, g1, g2⟩
    exact ⟨rfl, ⟨b, rfl, hb, fun k hk => Nat.lt_of_lt_of_le (h1 k hk) g2.size, g1⟩, g2.mono (fun k hk => by rw [hk]; exact hb)⟩
  | some s =>
    obtain ⟨h3, E, B, V, vk, vb, Q, ks, h4, h5, h6, h7, h8, h9, h10⟩ := h2
    refine (close_open h3 h4.cells h8.cell).mono ?_
    rintro e w' ⟨rfl, g1, g2⟩
    exact ⟨rfl, ⟨b, rfl, hb, fun k hk => Nat.lt_of_lt_of_le (h1 k hk) g2.size, g1⟩, g2.mono (fun k hk => by rw [hk]; exact hb)⟩
structure StateOf (w : World) (lo : Nat) (vs vk : Value) (s : St) (us : List Value) : Prop where
  len : us.length = s.lanes.length
  sess : w.ownsRow lo 121 3 vs s.lanes.length (sessCells s.lanes us)
  wait : ∀ (i : Nat) (l : Ln) (u : Value), s.lanes[i]? = some l → us[i]? = some u → w.ownsRow lo 3 1 u l.ws.length l.nums
  keys : w.ownsRow lo 87 4 vk s.keys.length (keyCells s.keys)
  apart : ∀ (i j : Nat) (u v : Value), us[i]? = some u → us[j]? = some v → i ≠ j → ∀ g, u.ownBlock = some g → v.ownBlock ≠ some g
theorem StateOf.stateAt {w : World} {lo : Nat} {vs vk : Value} {s : St} {us : List Value} (h : StateOf w lo vs vk s us) : StateAt w lo vs vk s := ⟨⟨us, h.len, h.sess, h.wait⟩, h.keys⟩
theorem relT_stateOf {T : List UInt8} {w : World} {a : Addr} {o : Option St} {F : Nat → Prop} (h : RelT T w a o F) : Calls Tryz.prog 16 #[.pointer (some a)] w fun e w' =>
    ∃ vs vk us, e = .returned (.tuple #[.agg #[vs, vk], .int .i64 (errno? o)]) ∧ StateOf w' w.heap.size vs vk (state? o) us ∧ RelT T w' a o F ∧ Chg F w w' := by
  obtain ⟨b, rfl, hb, h1, h2⟩ := h
  cases o with
  | none =>
    refine (state_closed b w h2).mono ?_
    rintro e w' ⟨rfl, g1, g2⟩
    exact ⟨_, _, [], rfl, ⟨rfl, World.ownsRow_nil _ _ _ _, fun i l u hl => by simp [state?] at hl, World.ownsRow_nil _ _ _ _, fun i j u v hu => by simp at hu⟩, ⟨b, rfl, hb, fun k hk => Nat.lt_of_lt_of_le (h1 k hk) g2.size, g1⟩, g2.mono (fun k hk => by rw [hk]; exact hb)⟩
  | some s =>
    obtain ⟨h3, E, B, V, vk, vb, Q, ks, h4, h5, h6, h7, h8, h9, h10⟩ := h2
    obtain ⟨S, _, hS⟩ := lanes_S h6
    refine (state_open h3 h4 (fun i hi => by have := h5.ql i hi; omega) h5.kl hS h8).mono ?_
    rintro e w' ⟨vs, vk', U, rfl, g1, g2, g3, hap, g4, g5, g7, g6⟩
    refine ⟨vs, vk', [U 0, U 1, U 2, U 3], rfl, ⟨?_, ?_, fun i l u hl hu => ?_, ?_, fun i j u v hu hv hij g hg => ?_⟩, ⟨b, rfl, hb, fun k hk => Nat.lt_of_lt_of_le (h1 k hk) g6.size, g4, E, B, V, vk, vb, Q, ks, g5, h5, h6, h7, g7, h9, h10⟩, g6.mono (fun k hk => by rw [hk]; exact hb)⟩
    · simp [state?, h6.four]
    · obtain ⟨l0, c0, p0⟩ := h6.lane 0 (by omega)
      obtain ⟨l1, c1, p1⟩ := h6.lane 1 (by omega)
      obtain ⟨l2, c2, p2⟩ := h6.lane 2 (by omega)
      obtain ⟨l3, c3, p3⟩ := h6.lane 3 (by omega)
      have h4' := h6.four
      simp only [state?]
      match hs : s.lanes, h4' with
      | [x0, x1, x2, x3], _ =>
        rw [hs] at c0 c1 c2 c3
        simp at c0 c1 c2 c3
        subst c0 c1 c2 c3
        simpa [sessCells, sessU, p0.ep, p0.ba, p1.ep, p1.ba, p2.ep, p2.ba, p3.ep, p3.ba] using g1
    · have hi : i < 4 := by
        have := (List.getElem?_eq_some_iff.1 hl).1
        simp only [state?] at this
        rw [h6.four] at this
        exact this
      have hu' : u = U i := by
        rcases (by omega : i = 0 ∨ i = 1 ∨ i = 2 ∨ i = 3) with rfl | rfl | rfl | rfl <;> simp at hu <;> exact hu.symm
      obtain ⟨l', c, p⟩ := h6.lane i hi
      have : l' = l := by simp only [state?] at hl; rw [hl] at c; exact (Option.some.inj c).symm
      subst this
      have := g2 i hi
      rw [nums_tie p.up p.perm, p.perm.length_eq] at this
      rw [hu']
      unfold ints' at this
      rw [List.map_map] at this
      exact this
    · simp only [state?]
      rw [h6.keys]; exact g3
    · have li : i < 4 := by simpa using (List.getElem?_eq_some_iff.1 hu).1
      have lj : j < 4 := by simpa using (List.getElem?_eq_some_iff.1 hv).1
      have eu : u = U i := by
        rcases (by omega : i = 0 ∨ i = 1 ∨ i = 2 ∨ i = 3) with rfl | rfl | rfl | rfl <;> simp at hu <;> exact hu.symm
      have ev : v = U j := by
        rcases (by omega : j = 0 ∨ j = 1 ∨ j = 2 ∨ j = 3) with rfl | rfl | rfl | rfl <;> simp at hv <;> exact hv.symm
      subst eu ev
      exact hap i j li lj hij g hg
theorem relT_fine {T : List UInt8} {w : World} {a : Addr} {s : St} {F : Nat → Prop} (h : RelT T w a (some s) F) : s.fine := by
  obtain ⟨b, _, _, _, h⟩ := h
  obtain ⟨_, E, B, V, vk, vb, Q, ks, _, h5, h6, _⟩ := h
  exact h6.fine h5
theorem relT_good {T : List UInt8} {w : World} {a : Addr} {s : St} {F : Nat → Prop} (h : RelT T w a (some s) F) : s.good := by
  obtain ⟨b, _, _, _, h⟩ := h
  obtain ⟨_, E, B, V, vk, vb, Q, ks, _, h5, h6, _⟩ := h
  refine ⟨by rw [h6.keys]; exact h5.kl, by rw [h6.keys]; exact h5.led.sorted, fun l hl => ?_⟩
  obtain ⟨i, hi, e⟩ := List.getElem_of_mem hl
  have hi4 : i < 4 := by rw [← h6.four]; exact hi
  obtain ⟨l', g1, g2⟩ := h6.lane i hi4
  have : l' = l := by rw [List.getElem?_eq_getElem hi, e] at g1; exact (Option.some.inj g1).symm
  subst this
  exact ⟨g2.up, fun y hy => by rw [g2.ba]; exact g2.win y hy⟩
theorem relT_puts {T : List UInt8} {w : World} {a : Addr} {o : Option St} {F : Nat → Prop} (h : RelT T w a o F) : Calls Tryz.prog 19 #[.pointer (some a)] w fun e w' =>
    ∃ vp, e = .returned (.tuple #[vp, .int .i64 (errno? o)]) ∧ w'.ownsRow w.heap.size 63 3 vp (puts? o).length (putCells (puts? o)) ∧ RelT T w' a o F ∧ Chg F w w' := by
  obtain ⟨b, rfl, hb, h1, h2⟩ := h
  cases o with
  | none =>
    refine (puts_closed b w h2).mono ?_
    rintro e w' ⟨rfl, g1, g2⟩
    exact ⟨_, rfl, World.ownsRow_nil _ _ _ _, ⟨b, rfl, hb, fun k hk => Nat.lt_of_lt_of_le (h1 k hk) g2.size, g1⟩, g2.mono (fun k hk => by rw [hk]; exact hb)⟩
  | some s =>
    obtain ⟨h3, E, B, V, vk, vb, Q, ks, h4, h5, h6, h7, h8, h9, h10⟩ := h2
    refine (puts_open h3 h4 h5.kl h8).mono ?_
    rintro e w' ⟨vp, rfl, g1, g2, g3, g5, g4⟩
    refine ⟨vp, rfl, ?_, ⟨b, rfl, hb, fun k hk => Nat.lt_of_lt_of_le (h1 k hk) g4.size, g2, E, B, V, vk, vb, Q, ks, g3, h5, h6, h7, g5, h9, h10⟩, g4.mono (fun k hk => by rw [hk]; exact hb)⟩
    simp only [puts?]
    rw [h6.keys]
    exact g1
def tapeAnsw (T : List UInt8) (key : ByteArray) (n : Int) (o o' : Option St) (T' : List UInt8) : Prop := (T' = T ∧ o' = o) ∨ (T' = T ++ encAns key n ∧ o' ≠ o ∧ (encAns key n).length ≤ 32)
theorem ans_ch {E B : Nat → Int} {Q : Nat → List Wt} {ks : List Ky} {s : St} (h : Ties E B Q ks s) (hf : FlowFit E B Q ks) (key : ByteArray) (n : Int) (hn : inInt n) :
    (ansCh ks key n = false → (Go.Proofs.YthedkdbgfdjlkaaGreatDoor.answer s key n).2 = s) ∧ (ansCh ks key n = true → (Go.Proofs.YthedkdbgfdjlkaaGreatDoor.answer s key n).2 ≠ s ∧ (encAns key n).length ≤ 32) := by
  unfold ansCh Go.Proofs.YthedkdbgfdjlkaaGreatDoor.answer
  rw [h.keys]
  by_cases hok : okKey key = false
  · rw [if_pos hok, if_pos hok]
    exact ⟨fun _ => rfl, fun hh => by cases hh⟩
  · rw [if_neg hok, if_neg hok]
    have hok' : okKey key = true := by simpa using hok
    cases hk : findKy key ks with
    | none => exact ⟨fun _ => rfl, fun hh => by cases hh⟩
    | some k =>
      simp only
      by_cases hb : n < 0 ∨ k.count < n
      · rw [if_pos hb, if_pos hb]
        exact ⟨fun _ => rfl, fun hh => by cases hh⟩
      · rw [if_neg hb, if_neg hb]
        rcases hold_same key n hk with ⟨h1, h2⟩ | h2
        · refine ⟨fun _ => by simp only; rw [h2, ← h.keys], fun hh => ?_⟩
          simp at hh
          omega
        · refine ⟨fun hh => ?_, fun _ => ⟨fun e => ?_, ?_⟩⟩
          · simp at hh
            have h3 : holdKy key n ks = ks := by
              have : ∀ {l : List Ky} {k : Ky}, findKy key l = some k → n ≤ k.held → holdKy key n l = l := by
                intro l
                induction l with
                | nil => intro k hk; simp [findKy] at hk
                | cons y r ih =>
                  intro k hk hle
                  unfold findKy at hk
                  unfold holdKy
                  split at hk
                  · rename_i hy
                    obtain rfl : y = k := by simpa using hk
                    rw [if_pos hy, show max y.held n = y.held by omega]
                  · rename_i hy
                    rw [if_neg hy, ih hk hle]
              exact this hk hh
            rw [h3] at h2
            omega
          · have := congrArg St.keys e
            simp only at this
            rw [this, h.keys] at h2
            omega
          · have hm := findKy_in hk
            have hq0 := qLens_nonneg Q 4
            have htot := hf.led.total
            have hc := (count_le hf.led.count k hm.1).1
            have l1 := encKey_len hok'
            have l2 := encInt_len2 (z := n) (by omega)
            unfold encAns
            simp only [List.length_cons, List.length_append]
            omega
theorem relT_answer {T : List UInt8} {w : World} {a : Addr} {o : Option St} {F : Nat → Prop} (key : ByteArray) (n : Int) (h : RelT T w a o F) (hTl : T.length ≤ 140737488351500) (hkey : key.size ≤ maxLen) (hn : inInt n) : Calls Tryz.prog 23 #[.pointer (some a), .string key, .int .i64 n] w fun e w' =>
    ∃ F' T', e = .returned (.int .i64 (answer? o key n).1) ∧ RelT T' w' a (answer? o key n).2 F' ∧ tapeAnsw T key n o (answer? o key n).2 T' ∧ (∀ k, F' k → F k ∨ w.heap.size ≤ k) ∧ Chg F w w' := by
  obtain ⟨b, rfl, hb, h1, h2⟩ := h
  cases o with
  | none =>
    refine (answer_closed b key n w h2).mono ?_
    rintro e w' ⟨rfl, g1, g2⟩
    exact ⟨F, T, rfl, ⟨b, rfl, hb, fun k hk => Nat.lt_of_lt_of_le (h1 k hk) g2.size, g1⟩, .inl ⟨rfl, rfl⟩, fun k hk => .inl hk, g2.mono (fun k hk => by rw [hk]; exact hb)⟩
  | some s =>
    obtain ⟨h3, E, B, V, vk, vb, Q, ks, h4, h5, h6, h7, h8, h9, h10⟩ := h2
    obtain ⟨t1, t2, t3⟩ := ansF_fit h6 h5 key n
    obtain ⟨u1, u2⟩ := ans_ch h6 h5 key n hn
    have hq0 := qLens_nonneg Q 4
    have htot := h5.led.total
    have hsnd := sound_answer h10 key n
    refine (answer_open h3 h4 h5.led.sorted h5.kl (fun k hk => ?_) h8 hTl key n hkey hn).mono ?_
    · have h8 := h6.held k hk
      have h9 := (count_le h5.led.count k hk).1
      omega
    · rintro e w' ⟨rfl, g1, g2, ⟨vb', g4, g5⟩, g3⟩
      refine ⟨fun k => F k ∨ (w.heap.size ≤ k ∧ k < w'.heap.size), _, by simp only [answer?]; rw [t1], ⟨b, rfl, .inl hb, fun k hk => ?_, g1, E, B, V, vk, vb', Q, _, g2, t2, t3, fun k hk => .inl (h7 k hk), g4, fun k hk => ?_, hsnd⟩, ?_, fun k hk => hk.imp id (fun h => h.1), g3.mono (fun k hk => ?_)⟩
      · rcases hk with hk | hk
        · exact Nat.lt_of_lt_of_le (h1 k hk) g3.size
        · exact hk.2
      · rcases g5 k hk with h | h
        · exact .inl (h9 k h)
        · exact .inr ⟨h, (g4.row.lt k hk).2⟩
      · cases hch : ansCh ks key n with
        | false =>
          refine .inl ⟨rfl, ?_⟩
          simp only [answer?]
          rw [u1 hch]
        | true =>
          refine .inr ⟨rfl, ?_, (u2 hch).2⟩
          simp only [answer?]
          exact fun e => (u2 hch).1 (Option.some.inj e)
      · rcases hk with rfl | hk | hk
        · exact hb
        · exact h7 k (.inr hk)
        · exact h9 k hk
end Go.Proofs.YthedkdbgfdjlkaaGreatDoor

namespace Go.Proofs.YthedkdbgfdjlkaaGreatDoor
set_option linter.unusedVariables false
set_option linter.unusedSimpArgs false
open Go.RowKit Go.Lib Go.Conc.Locks
section
variable {E B : Nat → Int} {Q : Nat → List Wt} {ks : List Ky} {s : St}
theorem keys_plain (h : Ties E B Q ks s) (hf : FlowFit E B Q ks) (hs : s.sound) : ∀ k ∈ ks, k.plain ∧ okKey k.name = true ∧ k.count ≤ 1000 ∧ k.fold ≤ 4294967295 ∧ k.held ≤ 1000 := by
  intro k hk
  have hq0 := qLens_nonneg Q 4
  have htot := hf.led.total
  have hc := (count_le hf.led.count k hk).1
  have hh := h.held k hk
  have hfo := hf.led.fold k hk
  have hn : okKey k.name = true := hs.kname k (by rw [h.keys]; exact hk)
  have hsz := okKey_size hn
  exact ⟨⟨by omega, by omega, by omega, by omega⟩, hn, by omega, by omega, by omega⟩
theorem recs_plain (h : Ties E B Q ks s) (hf : FlowFit E B Q ks) (hs : s.sound) : ∀ x ∈ s.recs, x.plain ∧ x.session ≤ 127 ∧ x.epoch ≤ 9223372036854775807 ∧ x.number ≤ 16000 ∧ okKey x.key = true ∧ x.value ≤ 4294967295 := by
  intro x hx
  obtain ⟨j, l, y, h1, h2, h3⟩ := mem_recsFrom hx
  have hj : j < 4 := by rw [← h.four]; exact (List.getElem?_eq_some_iff.1 h1).1
  obtain ⟨l', g1, g2⟩ := h.lane j hj
  have : l' = l := by rw [h1] at g1; exact (Option.some.inj g1).symm
  subst this
  have hq0 := qLens_nonneg Q 4
  have htot := hf.led.total
  have he := h.eps j hj
  have hb := hf.ba j hj
  have hw := g2.win y h2
  obtain ⟨w1, w2, w3⟩ := hs.wt l' (List.mem_of_getElem? h1) y h2
  have hsz := okKey_size w1
  have hep := g2.ep
  rw [h3]
  refine ⟨⟨?_, ?_, ?_, ?_, ?_⟩, ?_, ?_, ?_, w1, ?_⟩ <;> simp only <;> omega
theorem head_short (h : Ties E B Q ks s) (hf : FlowFit E B Q ks) (hs : s.sound) : (encHead s).length ≤ 512 := by
  have hk := keys_plain h hf hs
  have hr := recs_plain h hf hs
  have hq0 := qLens_nonneg Q 4
  have htot := hf.led.total
  have l1 : (s.lanes.flatMap encSess).length ≤ 4 * 11 := by
    have := flat_len encSess 11 (l := s.lanes) (fun l hl => by
      have hfi := (h.fine hf).lane l hl
      have a1 := encInt_len9 (z := l.epoch) (by omega)
      have a2 := encInt_len2 (z := l.base) (by omega)
      unfold encSess encInts
      simp only [List.flatMap_cons, List.flatMap_nil, List.append_nil, List.length_append]
      omega)
    rw [h.four] at this
    exact this
  have l2 : (s.keys.flatMap encKy).length ≤ 4 * 16 := by
    have h1 := flat_len encKy 16 (l := s.keys) (fun k hk' => by
      rw [h.keys] at hk'
      obtain ⟨_, b1, b2, b3, b4⟩ := hk k hk'
      have a1 := encKey_len b1
      have a2 := encInt_len2 (z := k.count) (by omega)
      have a3 := encInt_len5 (z := k.fold) (by omega)
      have a4 := encInt_len2 (z := k.held) (by omega)
      unfold encKy encInts
      simp only [List.flatMap_cons, List.flatMap_nil, List.append_nil, List.length_append]
      omega)
    have h2 : s.keys.length ≤ 4 := by rw [h.keys]; exact hf.kl
    exact Nat.le_trans h1 (Nat.mul_le_mul_right _ h2)
  have l3 : s.recs.length ≤ 12 := by
    obtain ⟨S, hS1, hS⟩ := lanes_S h
    have hr := (recsU_lanes h hS1).2
    have : (recsU E S 4).length ≤ 12 := by
      have e : ∀ i, i < 4 → (S i).length ≤ 3 := fun i hi => by rw [(hS i hi).2.length_eq.symm]; exact hf.ql i hi
      have e0 := e 0 (by omega); have e1 := e 1 (by omega); have e2 := e 2 (by omega); have e3 := e 3 (by omega)
      simp [recsU]; omega
    rw [hr] at this
    exact this
  have l4 : (s.recs.flatMap encRec).length ≤ 12 * 24 := by
    have h1 := flat_len encRec 24 (l := s.recs) (fun x hx => by
      obtain ⟨_, b1, b2, b3, b4, b5⟩ := hr x hx
      exact encRec_len b1 b2 b3 b4 b5)
    exact Nat.le_trans h1 (Nat.mul_le_mul_right _ l3)
  have l5 := encInt_len1 (z := (s.keys.length : Int)) (by rw [h.keys]; have := hf.kl; omega)
  have l6 := encInt_len1 (z := (s.recs.length : Int)) (by omega)
  have l7 : markB.length = 8 := rfl
  unfold encHead
  simp only [List.length_append]
  omega
end
def tapeShr (T : List UInt8) : Option St → List UInt8
  | none => T
  | some s => encHead s
theorem relT_shrink {T : List UInt8} {w : World} {a : Addr} {o : Option St} {F : Nat → Prop} (h : RelT T w a o F) : Calls Tryz.prog 20 #[.pointer (some a)] w fun e w' =>
    ∃ F', e = .returned (.int .i64 (errno? o)) ∧ RelT (tapeShr T o) w' a o F' ∧ (∀ k, F' k → F k ∨ w.heap.size ≤ k) ∧ Chg F w w' := by
  obtain ⟨b, rfl, hb, h1, h2⟩ := h
  cases o with
  | none =>
    refine (shrink_closed b w h2).mono ?_
    rintro e w' ⟨rfl, g1, g2⟩
    exact ⟨F, rfl, ⟨b, rfl, hb, fun k hk => Nat.lt_of_lt_of_le (h1 k hk) g2.size, g1⟩, fun k hk => .inl hk, g2.mono (fun k hk => by rw [hk]; exact hb)⟩
  | some s =>
    obtain ⟨h3, E, B, V, vk, vb, Q, ks, h4, h5, h6, h7, h8, h9, h10⟩ := h2
    obtain ⟨S, hS1, hS⟩ := lanes_S h6
    obtain ⟨e1, e2⟩ := recsU_lanes h6 hS1
    have hq0 := qLens_nonneg Q 4
    have htot := h5.led.total
    refine (shrink_open h3 h4 h8 (fun i hi => by have := h5.ql i hi; omega) h5.kl hS h6.eps (fun i hi => by have := h5.ba i hi; omega) (fun k hk => (keys_plain h6 h5 h10 k hk).1) (fun x hx => (recs_plain h6 h5 h10 x (by rw [← e2]; exact hx)).1)).mono ?_
    rintro e w' ⟨rfl, g1, g2, ⟨vb', g3, g4⟩, g5⟩
    rw [e1] at g3
    refine ⟨fun k => F k ∨ (w.heap.size ≤ k ∧ k < w'.heap.size), rfl, ⟨b, rfl, .inl hb, fun k hk => ?_, g1, E, B, V, vk, vb', Q, ks, g2, h5, h6, fun k hk => .inl (h7 k hk), g3, fun k hk => .inr ⟨g4 k hk, (g3.row.lt k hk).2⟩, h10⟩, fun k hk => hk.imp id (fun h => h.1), g5.mono (fun k hk => by rw [hk]; exact hb)⟩
    rcases hk with hk | hk
    · exact Nat.lt_of_lt_of_le (h1 k hk) g5.size
    · exact hk.2
theorem relT_short {T : List UInt8} {w : World} {a : Addr} {s : St} {F : Nat → Prop} (h : RelT T w a (some s) F) : (encHead s).length ≤ 512 := by
  obtain ⟨b, _, _, _, h⟩ := h
  obtain ⟨_, E, B, V, vk, vb, Q, ks, _, h5, h6, _, _, _, h10⟩ := h
  exact head_short h6 h5 h10
theorem init_short : (encHead St.init).length ≤ 512 := by
  have e : (encHead St.init).length = 18 := by
    simp [encHead, St.init, Ln.init, St.recs, recsFrom, encSess, encInts, encInt, markB, encNum_small]
  omega
end Go.Proofs.YthedkdbgfdjlkaaGreatDoor
