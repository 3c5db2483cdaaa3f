import Derived.RegionCalls
import Derived.Test.YtcgjdpdbojcoiaaGreatB1
import Derived.Test.YtcgjdpdbojcoiaaGreatB2
import Derived.Test.YtcgjdpdbojcoiaaGreatB3
import Derived.Test.YtcgjdpdbojcoiaaGreatB4
/- The relay's calls, WALKED: State. -/
namespace Go.Proofs.YtcgjdpdbojcoiaaGreat
set_option linter.unusedVariables false
set_option linter.unusedSimpArgs false
open Go.RowKit Go.Lib Go.Conc.Locks

set_option maxHeartbeats 400000 in
theorem state_closed (b : Nat) (w : World) (h : Head w b 1 true) :
    Calls Tryz.prog 18 #[.pointer (some ⟨b, 0, none⟩)] w fun e w' => e = .returned (.tuple #[.agg #[.slice none 0 0, .slice none 0 0], .int .i64 1]) ∧ Head w' b 1 true ∧ Chg (fun k => k = b) w w' := by
  have hbl : b < w.heap.size := World.block_lt_of_cell? _ _ h.mu
  have hne : ¬ w.heap.size = b := by omega
  have cW : Chg (fun _ => False) w (w.alloc (Obj.cells #[.slice none 0 0, .slice none 0 0] 52)) := (Chg.refl _ w).alloc _
  have hW := h.chg cW id
  have hlk := lock_rel b _ hW.mu (hW.fz 0)
  go_enter_defers Tryz.func18, Tryz.ntmps18
  go_wp2_with (go_at_call 33; refine hlk.mono ?_; rintro _ w1 ⟨rfl, h1⟩; have c5 := (h1.slots.cell 5 (by omega)).trans hW.cl; have a0 := h1.chg.cellAt (World.cell?_alloc_at (w := w) #[.slice none 0 0, .slice none 0 0] 52 w.heap.size 0 rfl) hne; have a1 := h1.chg.cellAt (World.cell?_alloc_at (w := w) #[.slice none 0 0, .slice none 0 0] 52 w.heap.size 1 rfl) hne; have hfz : ∀ j, w1.frozen? ⟨w.heap.size, j, none⟩ = false := fun j => (World.frozen?_of_block (h1.chg.block w.heap.size (by simp) hne)).trans (World.frozen?_alloc_at _ _ _ _ rfl); have f0 := hfz 0; have f1 := hfz 1; simp only [List.getElem_toArray, List.getElem_cons_zero, List.getElem_cons_succ] at a0 a1)
  have g2 : Chg (fun k => k = w.heap.size) w1 ((w1.setCell ⟨w.heap.size, 0, none⟩ (.slice none 0 0)).setCell ⟨w.heap.size, 1, none⟩ (.slice none 0 0)) := ((Chg.refl (fun k => k = w.heap.size) w1).setCell (p := ⟨w.heap.size, 0, none⟩) (fun _ => rfl) _).setCell (p := ⟨w.heap.size, 1, none⟩) (fun _ => rfl) _
  have hbl1 : b < w1.heap.size := Nat.lt_of_lt_of_le (Nat.lt_of_lt_of_le hbl cW.size) h1.chg.size
  have s2 : Slots b (fun j => j = 0) w1 ((w1.setCell ⟨w.heap.size, 0, none⟩ (.slice none 0 0)).setCell ⟨w.heap.size, 1, none⟩ (.slice none 0 0)) := Slots.of_chg _ g2 hbl1 (fun e => hne e.symm)
  have m1 := h1.cell hW.mu
  have m2 := g2.cellAt m1 (fun e => hne e.symm)
  have z2 := (s2.frozen 0).trans ((h1.slots.frozen 0).trans (hW.fz 0))
  have n0 : (w1.setCell ⟨w.heap.size, 0, none⟩ (.slice none 0 0)).cell? ⟨w.heap.size, 1, none⟩ = some (.slice none 0 0) := (World.cell?_setCell_other _ _ _ _ (by simp)).trans a1
  refine door (v := .tuple #[.agg #[.slice none 0 0, .slice none 0 0], .int .i64 1]) m2 z2 ?_ ⟨rfl, hW.back (h1.slots.trans s2 (fun j hj => hj)) (fun j hj => .inl hj) m2, ?_⟩
  · simp [results, Tryz.results18, go_sem, a0, a1, hne, fun e : b = w.heap.size => hne e.symm]
  · exact (((cW.mono (fun _ h => h.elim)).trans h1.chg (fun _ _ h => h)).trans g2 (fun n hn h => by omega)).setCell (p := ⟨b, 0, none⟩) (fun _ => rfl) _

set_option maxRecDepth 100000 in
set_option maxHeartbeats 1000000 in
theorem state_open {w : World} {lo b : Nat} {E B : Nat → Int} {V : Nat → Value} {vk : Value} {Q : Nat → List Wt} {ks : List Ky} (h : Head w b 0 false) (hF : FlowAt w lo b 6 E B V vk Q ks) (hq : ∀ i, i < 4 → (Q i).length ≤ 4) (hk : ks.length ≤ 4) :
    Calls Tryz.prog 18 #[.pointer (some ⟨b, 0, none⟩)] w fun e w' => ∃ (vs vk' : Value) (U : Nat → Value), e = .returned (.tuple #[.agg #[vs, vk'], .int .i64 0]) ∧
      w'.ownsRow w.heap.size 56 3 vs 4 (sessU E B U 4) ∧ (∀ i, i < 4 → w'.ownsRow w.heap.size 3 1 (U i) (Q i).length (ints' (theNums (Q i)))) ∧ w'.ownsRow w.heap.size 60 4 vk' ks.length (keyCells ks) ∧
      Head w' b 0 false ∧ FlowAt w' lo b 6 E B V vk Q ks ∧ Chg (fun k => k = b) w w' := by
  have hbl : b < w.heap.size := World.block_lt_of_cell? _ _ h.mu
  have hne : ¬ w.heap.size = b := by omega
  have cW : Chg (fun _ => False) w (w.alloc (Obj.cells #[.slice none 0 0, .slice none 0 0] 52)) := (Chg.refl _ w).alloc _
  have hW := h.chg cW id
  have hFW := hF.chg hbl cW id (fun _ _ _ _ => id) (fun _ _ => id)
  have hlk := lock_rel b _ hW.mu (hW.fz 0)
  go_enter_defers Tryz.func18, Tryz.ntmps18
  go_wp2_with (go_at_call 33; refine hlk.mono ?_; rintro _ w1 ⟨rfl, h1⟩; have c5 := (h1.slots.cell 5 (by omega)).trans hW.cl; have hF1 := hFW.beside h1.slots (fun j hj => .inl (by omega)) h1.chg; have a0 := h1.chg.cellAt (World.cell?_alloc_at (w := w) #[.slice none 0 0, .slice none 0 0] 52 w.heap.size 0 rfl) hne; have a1 := h1.chg.cellAt (World.cell?_alloc_at (w := w) #[.slice none 0 0, .slice none 0 0] 52 w.heap.size 1 rfl) hne; have hfz : ∀ j, w1.frozen? ⟨w.heap.size, j, none⟩ = false := fun j => (World.frozen?_of_block (h1.chg.block w.heap.size (by simp) hne)).trans (World.frozen?_alloc_at _ _ _ _ rfl); simp only [List.getElem_toArray, List.getElem_cons_zero, List.getElem_cons_succ] at a0 a1)
  have hsz1 : w.heap.size < w1.heap.size := by have := h1.chg.size; rw [World.size_alloc] at this; omega
  have hst := flowState_any hF1 hq hk
  go_wp2_with (go_at_call 37; refine hst.mono ?_; rintro _ w2 ⟨vs, vk', U, rfl, r1, r2, r3, c12⟩; obtain ⟨ps, cs, rfl⟩ := row_any r1; obtain ⟨pk, ck, rfl⟩ := row_any r3; have b0 := c12.cellAt a0 id; have b1 := c12.cellAt a1 id; have hfz2 : ∀ j, w2.frozen? ⟨w.heap.size, j, none⟩ = false := fun j => (World.frozen?_of_block (c12.block w.heap.size hsz1 id)).trans (hfz j); have f0 := hfz2 0; have f1 := hfz2 1)
  obtain ⟨w3, hw3⟩ : ∃ w3, w3 = (w2.setCell ⟨w.heap.size, 0, none⟩ (.slice ps 4 cs)).setCell ⟨w.heap.size, 1, none⟩ (.slice pk ks.length ck) := ⟨_, rfl⟩
  have g2 : Chg (fun k => k = w.heap.size) w2 w3 := by
    rw [hw3]; exact ((Chg.refl (fun k => k = w.heap.size) w2).setCell (p := ⟨w.heap.size, 0, none⟩) (fun _ => rfl) _).setCell (p := ⟨w.heap.size, 1, none⟩) (fun _ => rfl) _
  have d0 : w3.cell? ⟨w.heap.size, 0, none⟩ = some (.slice ps 4 cs) := by
    rw [hw3]; exact (World.cell?_setCell_other _ _ _ _ (by simp)).trans (World.cell?_setCell_same _ _ _ b0)
  have d1 : w3.cell? ⟨w.heap.size, 1, none⟩ = some (.slice pk ks.length ck) := by
    rw [hw3]; exact World.cell?_setCell_same _ _ _ ((World.cell?_setCell_other _ _ _ _ (by simp)).trans b1)
  rw [← hw3]
  have hbl1 : b < w1.heap.size := by omega
  have hbl2 : b < w2.heap.size := Nat.lt_of_lt_of_le hbl1 c12.size
  have s12 : Slots b (fun j => j = 0) w1 w2 := Slots.of_chg _ c12 hbl1 id
  have s23 : Slots b (fun j => j = 0) w2 w3 := Slots.of_chg _ g2 hbl2 (fun e => hne e.symm)
  have m1 := h1.cell hW.mu
  have m3 := g2.cellAt (c12.cellAt m1 id) (fun e => hne e.symm)
  have sall := (h1.slots.trans s12 (fun j hj => hj)).trans s23 (fun j hj => hj)
  have z3 := (sall.frozen 0).trans (hW.fz 0)
  have s34 : Slots b (fun j => j = 0) w3 (w3.setCell ⟨b, 0, none⟩ (.int .i32 0)) := (Slots.refl b _ w3).setCell (p := ⟨b, 0, none⟩) _ (fun _ => rfl)
  have g3 : Chg (fun k => k = b) w3 (w3.setCell ⟨b, 0, none⟩ (.int .i32 0)) := (Chg.refl (fun k => k = b) w3).setCell (p := ⟨b, 0, none⟩) (fun _ => rfl) _
  have hF3 := (hF1.chg hbl1 c12 id (fun _ _ _ _ => id) (fun _ _ => id)).chg hbl2 g2 (fun e => hne e.symm) (fun i hi k hk e => by have := ((hF.rows i hi).lt k hk).2; omega) (fun k hk e => by have := (hF.keys.lt k hk).2; omega)
  refine door (v := .tuple #[.agg #[.slice ps 4 cs, .slice pk ks.length ck], .int .i64 0]) m3 z3 ?_ ⟨_, _, U, rfl, ?_, fun i hi => ?_, ?_, hW.back sall (fun j hj => .inl hj) m3, hF3.beside s34 (fun j hj => .inl (by omega)) g3, ?_⟩
  · simp [results, Tryz.results18, go_sem, d0, d1, hne, fun e : b = w.heap.size => hne e.symm]
  · exact row_lower (g3.row (g2.row r1 (fun k hk => .inl (by omega))) (fun k hk => .inl (by omega))) (by omega)
  · exact row_lower (g3.row (g2.row (r2 i hi) (fun k hk => .inl (by omega))) (fun k hk => .inl (by omega))) (by omega)
  · exact row_lower (g3.row (g2.row r3 (fun k hk => .inl (by omega))) (fun k hk => .inl (by omega))) (by omega)
  · exact ((((cW.mono (fun _ h => h.elim)).trans h1.chg (fun _ _ h => h)).trans c12 (fun _ _ h => h.elim)).trans g2 (fun n hn h => by omega)).trans g3 (fun _ _ h => h)

end Go.Proofs.YtcgjdpdbojcoiaaGreat

/- The relay's calls, WALKED: Close. -/
namespace Go.Proofs.YtcgjdpdbojcoiaaGreat
set_option linter.unusedVariables false
set_option linter.unusedSimpArgs false
open Go.RowKit Go.Lib Go.Conc.Locks

set_option maxHeartbeats 400000 in
theorem boolLoad_any (a : Addr) (d : Int) (w : World) (hd : d = 0 ∨ d = 1) (hc : w.cell? a = some (.int .u32 d)) : Calls Tryz.prog 70 #[.pointer (some a)] w fun e w' => e = .returned (.bool (d != 0)) ∧ w' = w := by
  have hl := run_call_load (P := Tryz.prog) Tryz.func101 (by kernel_rfl) (by kernel_rfl) (by kernel_rfl) .u32 (by kernel_rfl) (w := w) (a := a) (x := d) hc
  rcases hd with rfl | rfl
  · go_enter Tryz.func70, Tryz.ntmps70
    go_wp2
    go_ret
    exact ⟨rfl, rfl⟩
  · go_enter Tryz.func70, Tryz.ntmps70
    go_wp2
    go_ret
    exact ⟨rfl, rfl⟩

set_option maxHeartbeats 400000 in
theorem boolStore_deferred (a : Addr) (x : Value) (u : FrameMode) (w : World) (hc : w.cell? a = some x) (hz : w.frozen? a = false) :
    CallsD Tryz.prog 102 #[.pointer (some a), .bool true] u w fun e u' w' => u' = u ∧ (e = .returned (.tuple #[]) ∧ w' = w.drew.setCell a (.int .u32 1)) := by
  have hc' : w.drew.cell? a = some x := by go_simp
  have hz' : w.drew.frozen? a = false := by go_simp
  have hst := run_call_store (P := Tryz.prog) Tryz.func125 (by kernel_rfl) (by kernel_rfl) (by kernel_rfl) (by kernel_rfl) (k := .u32) (y := 1) hc' hz'
  go_enter_d Tryz.func102, Tryz.ntmps102
  go_wp2
  go_region_calls
  all_goals (go_end0; exact ⟨rfl, rfl⟩)

/-- Close's closure. -/
theorem close1_any (b r p : Nat) (c : Bool) (y : Value) (w : World) {E B : Nat → Int} {V : Nat → Value} {vk : Value} (hF : FlowCells w b 6 E B V vk) (hr : w.cell? ⟨r, 0, none⟩ = some (.pointer (some ⟨b, 0, none⟩))) (hc : w.cell? ⟨b, 5, none⟩ = some (.bool c)) (hp : w.cell? ⟨p, 0, none⟩ = some y) (hzp : w.frozen? ⟨p, 0, none⟩ = false) (hz : ∀ j, w.frozen? ⟨b, j, none⟩ = false)
    (hrb : b ≠ r) (hpb : b ≠ p) :
    Calls Tryz.prog 39 #[.pointer (some ⟨r, 0, none⟩), .pointer (some ⟨p, 0, none⟩)] w fun e w' => e = .returned (.tuple #[]) ∧ w'.cell? ⟨b, 5, none⟩ = some (.bool true) ∧ w'.cell? ⟨p, 0, none⟩ = some (.int .i64 0) ∧ Slots b (fun j => 5 ≤ j) w w' ∧ Chg (fun k => k = b ∨ k = p) w w' := by
  have e0 := hF.ep 0 (by omega); have e1 := hF.ep 1 (by omega); have e2 := hF.ep 2 (by omega); have e3 := hF.ep 3 (by omega)
  have b0 := hF.ba 0 (by omega); have b1 := hF.ba 1 (by omega); have b2 := hF.ba 2 (by omega); have b3 := hF.ba 3 (by omega)
  have v0 := hF.qu 0 (by omega); have v1 := hF.qu 1 (by omega); have v2 := hF.qu 2 (by omega); have v3 := hF.qu 3 (by omega)
  have kk := hF.le
  simp only [Nat.zero_mul, Nat.one_mul, Nat.add_zero, Nat.reduceMul, Nat.reduceAdd] at e0 e1 e2 e3 b0 b1 b2 b3 v0 v1 v2 v3 kk
  have f5 := hz 5; have f6 := hz 6; have f7 := hz 7; have f8 := hz 8; have f9 := hz 9; have f10 := hz 10; have f11 := hz 11; have f12 := hz 12; have f13 := hz 13; have f14 := hz 14; have f15 := hz 15; have f16 := hz 16; have f17 := hz 17; have f18 := hz 18
  go_enter Tryz.func39, Tryz.ntmps39
  go_wp2_with fail
  go_end0
  refine ⟨rfl, ?_⟩
  have hs : ∀ j, j < 14 → (w.cell? ⟨b, 5 + j, none⟩).isSome = true := fun j hj => by
    rcases j with _ | j
    · simp [hc]
    · rw [show 5 + (j + 1) = 6 + j by omega]
      by_cases h12 : j = 12
      · subst h12; rw [hF.le]; rfl
      · rcases (by omega : j % 3 = 0 ∨ j % 3 = 1 ∨ j % 3 = 2) with h3 | h3 | h3
        · rw [show 6 + j = 6 + j / 3 * 3 by omega, hF.ep (j / 3) (by omega)]; rfl
        · rw [show 6 + j = 6 + j / 3 * 3 + 1 by omega, hF.ba (j / 3) (by omega)]; rfl
        · rw [show 6 + j = 6 + j / 3 * 3 + 2 by omega, hF.qu (j / 3) (by omega)]; rfl
  have hin := World.cell?_setCells_in b [.bool true, .int .i64 0, .int .i64 0, .slice none 0 0, .int .i64 0, .int .i64 0, .slice none 0 0, .int .i64 0, .int .i64 0, .slice none 0 0, .int .i64 0, .int .i64 0, .slice none 0 0, .slice none 0 0] 5 w (fun j hj => hs j hj) 0 (by decide)
  obtain ⟨sl, cg⟩ := setCells_slots b [.bool true, .int .i64 0, .int .i64 0, .slice none 0 0, .int .i64 0, .int .i64 0, .slice none 0 0, .int .i64 0, .int .i64 0, .slice none 0 0, .int .i64 0, .int .i64 0, .slice none 0 0, .slice none 0 0] 5 w
  exact ⟨(World.cell?_setCell_other _ _ _ _ (fun e => hpb (congrArg Addr.block e).symm)).trans hin, World.cell?_setCell_same _ _ _ (cg.cellAt hp (fun e => hpb e.symm)),
    (sl.mono (fun j hj => hj.1)).setCell (p := ⟨p, 0, none⟩) _ (fun e => absurd e.symm hpb), (cg.mono (fun k hk => .inl hk)).setCell (p := ⟨p, 0, none⟩) (fun _ => .inr rfl) _⟩

set_option maxRecDepth 100000 in
set_option maxHeartbeats 1600000 in
/-- doSlow, not yet done. -/
theorem slow_any (b r p : Nat) (c : Bool) (y : Value) (w : World) {E B : Nat → Int} {V : Nat → Value} {vk : Value} (hF : FlowCells w b 6 E B V vk) (hr : w.cell? ⟨r, 0, none⟩ = some (.pointer (some ⟨b, 0, none⟩))) (hd : w.cell? ⟨b, 2, none⟩ = some (.int .u32 0)) (hm : w.cell? ⟨b, 3, none⟩ = some (.int .i32 0)) (hc : w.cell? ⟨b, 5, none⟩ = some (.bool c)) (hp : w.cell? ⟨p, 0, none⟩ = some y) (hzp : w.frozen? ⟨p, 0, none⟩ = false) (hz : ∀ j, w.frozen? ⟨b, j, none⟩ = false)
    (hrb : b ≠ r) (hpb : b ≠ p) :
    Calls Tryz.prog 71 #[.pointer (some ⟨b, 2, none⟩), .func (.func 39) #[] #[.pointer (some ⟨r, 0, none⟩), .pointer (some ⟨p, 0, none⟩)]] w fun e w' => e = .returned (.tuple #[]) ∧
      w'.cell? ⟨b, 2, none⟩ = some (.int .u32 1) ∧ w'.cell? ⟨b, 3, none⟩ = some (.int .i32 0) ∧ w'.cell? ⟨b, 5, none⟩ = some (.bool true) ∧ w'.cell? ⟨p, 0, none⟩ = some (.int .i64 0) ∧ Slots b (fun j => 2 ≤ j) w w' ∧ Chg (fun k => k = b ∨ k = p) w w' := by
  have hlk := Go.MuLone.lock_free Tryz.muLib ⟨b, 3, none⟩ w hm (hz 3)
  have hnot : ∀ (x : Bool) (w : World), (Op.unary .not (.bool x)).run Tryz.prog w = .ok (.bool (!x)) w := fun _ _ => rfl
  obtain ⟨w1, hw1⟩ : ∃ w1, w1 = w.setCell ⟨b, 3, none⟩ (.int .i32 1) := ⟨_, rfl⟩
  have s1 : Slots b (fun j => j = 3) w w1 := by rw [hw1]; exact (Slots.refl b _ w).setCell (p := ⟨b, 3, none⟩) _ (fun _ => rfl)
  have c1 : Chg (fun k => k = b) w w1 := by rw [hw1]; exact (Chg.refl (fun k => k = b) w).setCell (p := ⟨b, 3, none⟩) (fun _ => rfl) _
  have m1 : w1.cell? ⟨b, 3, none⟩ = some (.int .i32 1) := by rw [hw1]; exact World.cell?_setCell_same _ _ _ hm
  rw [← hw1] at hlk
  have hlk' : Calls Tryz.prog 33 #[.pointer (some ⟨b, 3, none⟩)] w fun e w' => e = .returned (.tuple #[]) ∧ w' = w1 := hlk
  have hF1 : FlowCells w1 b 6 E B V vk := ⟨fun i hi => (s1.cell _ (by omega)).trans (hF.ep i hi), fun i hi => (s1.cell _ (by omega)).trans (hF.ba i hi), fun i hi => (s1.cell _ (by omega)).trans (hF.qu i hi), (s1.cell _ (by omega)).trans hF.le⟩
  have hzp1 : w1.frozen? ⟨p, 0, none⟩ = false := (World.frozen?_of_block (c1.block p (World.block_lt_of_cell? _ _ hp) (fun e => hpb e.symm))).trans hzp
  have d1 := (s1.cell 2 (by omega)).trans hd
  have hcl := close1_any b r p c y w1 hF1 (c1.cellAt hr (fun e => hrb e.symm)) ((s1.cell 5 (by omega)).trans hc) (c1.cellAt hp (fun e => hpb e.symm)) hzp1 (fun j => (s1.frozen j).trans (hz j)) hrb hpb
  have hbl := boolLoad_any ⟨b, 2, none⟩ 0 w1 (.inl rfl) d1
  clear hw1 hlk
  go_enter_defers Tryz.func71, Tryz.ntmps71
  go_wp2_with (first | (go_at_call 33; refine hlk'.mono ?_; rintro _ w1a ⟨rfl, rfl⟩) | (go_at_call 70; refine hbl.mono ?_; rintro _ w1b ⟨rfl, rfl⟩) | (go_at_call 39; refine hcl.mono ?_; rintro _ w2 ⟨rfl, t1, t2, t3, t4⟩))
  have d2 : w2.cell? ⟨b, 2, none⟩ = some (.int .u32 0) := (t3.cell 2 (by omega)).trans d1
  have z2 : ∀ j, w2.frozen? ⟨b, j, none⟩ = false := fun j => (t3.frozen j).trans ((s1.frozen j).trans (hz j))
  have m2 : w2.cell? ⟨b, 3, none⟩ = some (.int .i32 1) := (t3.cell 3 (by omega)).trans m1
  refine leaves_cons (f := 102) (args := #[.pointer (some ⟨b, 2, none⟩), .bool true]) (by simp) (by kernel_rfl) ?_
  refine (boolStore_deferred ⟨b, 2, none⟩ (.int .u32 0) .returning _ d2 (z2 2)).mono ?_
  rintro e u' w3 ⟨rfl, rfl, hw3⟩
  have s3 : Slots b (fun j => j = 2) w2 w3 := by rw [hw3]; exact ((Slots.refl b (fun j => j = 2) w2).quiet ((Quiet.refl w2).drew)).setCell (p := ⟨b, 2, none⟩) _ (fun _ => rfl)
  have c3 : Chg (fun k => k = b) w2 w3 := by rw [hw3]; exact ((Chg.refl (fun k => k = b) w2).drew).setCell (p := ⟨b, 2, none⟩) (fun _ => rfl) _
  have d3 : w3.cell? ⟨b, 2, none⟩ = some (.int .u32 1) := by rw [hw3]; exact World.cell?_setCell_same _ _ _ (by rw [World.cell?_drew]; exact d2)
  have m3 := (s3.cell 3 (by omega)).trans m2
  have z3 := (s3.frozen 3).trans (z2 3)
  refine leaves_cons (f := 34) (args := #[.pointer (some ⟨b, 3, none⟩)]) (by simp [settle]) (by kernel_rfl) ?_
  refine (Go.MuLone.unlock_deferred Tryz.muLib ⟨b, 3, none⟩ _ _ m3 z3).mono ?_
  rintro e u' w4 ⟨rfl, rfl, hw4⟩
  have s4 : Slots b (fun j => j = 3) w3 w4 := by rw [hw4]; exact (Slots.refl b _ w3).setCell (p := ⟨b, 3, none⟩) _ (fun _ => rfl)
  have c4 : Chg (fun k => k = b) w3 w4 := by rw [hw4]; exact (Chg.refl (fun k => k = b) w3).setCell (p := ⟨b, 3, none⟩) (fun _ => rfl) _
  have m4 : w4.cell? ⟨b, 3, none⟩ = some (.int .i32 0) := by rw [hw4]; exact World.cell?_setCell_same _ _ _ m3
  refine ⟨.tuple #[], results_none rfl _ _ _, rfl, (s4.cell 2 (by omega)).trans d3, m4, (s4.cell 5 (by omega)).trans ((s3.cell 5 (by omega)).trans t1), c4.cellAt (c3.cellAt t2 (fun e => hpb e.symm)) (fun e => hpb e.symm), ?_, ?_⟩
  · exact (((s1.mono (fun j hj => by omega)).trans t3 (fun j hj => by omega)).trans s3 (fun j hj => by omega)).trans s4 (fun j hj => by omega)
  · exact (((c1.mono (fun k hk => .inl hk)).trans t4 (fun _ _ h => h)).trans c3 (fun _ _ h => .inl h)).trans c4 (fun _ _ h => .inl h)

set_option maxHeartbeats 400000 in
theorem do_first (b r p : Nat) (c : Bool) (y : Value) (w : World) {E B : Nat → Int} {V : Nat → Value} {vk : Value} (hF : FlowCells w b 6 E B V vk) (hr : w.cell? ⟨r, 0, none⟩ = some (.pointer (some ⟨b, 0, none⟩))) (hd : w.cell? ⟨b, 2, none⟩ = some (.int .u32 0)) (hm : w.cell? ⟨b, 3, none⟩ = some (.int .i32 0)) (hc : w.cell? ⟨b, 5, none⟩ = some (.bool c)) (hp : w.cell? ⟨p, 0, none⟩ = some y) (hzp : w.frozen? ⟨p, 0, none⟩ = false) (hz : ∀ j, w.frozen? ⟨b, j, none⟩ = false)
    (hrb : b ≠ r) (hpb : b ≠ p) :
    Calls Tryz.prog 38 #[.pointer (some ⟨b, 2, none⟩), .func (.func 39) #[] #[.pointer (some ⟨r, 0, none⟩), .pointer (some ⟨p, 0, none⟩)]] w fun e w' => e = .returned (.tuple #[]) ∧
      w'.cell? ⟨b, 2, none⟩ = some (.int .u32 1) ∧ w'.cell? ⟨b, 3, none⟩ = some (.int .i32 0) ∧ w'.cell? ⟨b, 5, none⟩ = some (.bool true) ∧ w'.cell? ⟨p, 0, none⟩ = some (.int .i64 0) ∧ Slots b (fun j => 2 ≤ j) w w' ∧ Chg (fun k => k = b ∨ k = p) w w' := by
  have hsl := slow_any b r p c y w hF hr hd hm hc hp hzp hz hrb hpb
  have hnot : ∀ (x : Bool) (w : World), (Op.unary .not (.bool x)).run Tryz.prog w = .ok (.bool (!x)) w := fun _ _ => rfl
  have hbl := boolLoad_any ⟨b, 2, none⟩ 0 w (.inl rfl) hd
  go_enter Tryz.func38, Tryz.ntmps38
  go_wp2_with (first | (go_at_call 70; refine hbl.mono ?_; rintro _ w1b ⟨rfl, rfl⟩) | (go_at_call 71; refine hsl.mono ?_; rintro _ w2 ⟨rfl, t⟩))
  go_end0
  exact ⟨rfl, t⟩

set_option maxHeartbeats 400000 in
theorem do_done (b : Nat) (f : Value) (w : World) (hd : w.cell? ⟨b, 2, none⟩ = some (.int .u32 1)) :
    Calls Tryz.prog 38 #[.pointer (some ⟨b, 2, none⟩), f] w fun e w' => e = .returned (.tuple #[]) ∧ w' = w := by
  have hnot : ∀ (x : Bool) (w : World), (Op.unary .not (.bool x)).run Tryz.prog w = .ok (.bool (!x)) w := fun _ _ => rfl
  have hbl := boolLoad_any ⟨b, 2, none⟩ 1 w (.inr rfl) hd
  go_enter Tryz.func38, Tryz.ntmps38
  go_wp2_with (go_at_call 70; refine hbl.mono ?_; rintro _ w1b ⟨rfl, rfl⟩)
  go_end0
  exact ⟨rfl, rfl⟩

end Go.Proofs.YtcgjdpdbojcoiaaGreat

/- The relay's calls, WALKED: Close. -/
namespace Go.Proofs.YtcgjdpdbojcoiaaGreat
set_option linter.unusedVariables false
set_option linter.unusedSimpArgs false
open Go.RowKit Go.Lib Go.Conc.Locks

set_option maxRecDepth 100000 in
set_option maxHeartbeats 1000000 in
theorem close_open {w : World} {b : Nat} {E B : Nat → Int} {V : Nat → Value} {vk : Value} (h : Head w b 0 false) (hF : FlowCells w b 6 E B V vk) :
    Calls Tryz.prog 20 #[.pointer (some ⟨b, 0, none⟩)] w fun e w' => e = .returned (.int .i64 0) ∧ Head w' b 1 true ∧ Chg (fun k => k = b) w w' := by
  have hbl : b < w.heap.size := World.block_lt_of_cell? _ _ h.mu
  have hne : ¬ w.heap.size = b := by omega
  have hmf : ∀ (fn : Fn) (first cap : Array Value) (w : World), (Instr.makeFunc fn first cap).run Tryz.prog w = .ok (.func fn first cap) w := fun _ _ _ _ => rfl
  have cW : Chg (fun _ => False) w (w.alloc (Obj.cells #[.pointer (some ⟨b, 0, none⟩)] 28)) := (Chg.refl _ w).alloc _
  have hW := h.chg cW id
  have hlk := lock_rel b _ hW.mu (hW.fz 0)
  go_enter_defers Tryz.func20, Tryz.ntmps20
  go_wp2_with (first | (go_at_call 33; refine hlk.mono ?_; rintro _ w1 ⟨rfl, h1⟩; have a0 := h1.chg.cellAt (World.cell?_alloc_at (w := w) #[.pointer (some ⟨b, 0, none⟩)] 28 w.heap.size 0 rfl) hne; have c12 : Chg (fun _ => False) w1 (w1.alloc (Obj.cells #[.int .i64 1] 39)) := (Chg.refl _ w1).alloc _; have a1 := c12.cellAt a0 id; simp only [List.getElem_toArray, List.getElem_cons_zero, List.getElem_cons_succ] at a0 a1; clear hlk) | (go_at_call 38; have hbl1 : b < w1.heap.size := Nat.lt_of_lt_of_le (Nat.lt_of_lt_of_le hbl cW.size) h1.chg.size; have s02 := h1.slots.trans (Slots.of_chg (fun j => j = 0) c12 hbl1 id) (fun j hj => hj); have hFW := (hF.chg cW id); have hF2 : FlowCells (w1.alloc (Obj.cells #[.int .i64 1] 39)) b 6 E B V vk := ⟨fun i hi => (s02.cell _ (by omega)).trans (hFW.ep i hi), fun i hi => (s02.cell _ (by omega)).trans (hFW.ba i hi), fun i hi => (s02.cell _ (by omega)).trans (hFW.qu i hi), (s02.cell _ (by omega)).trans hFW.le⟩; have hdo := do_first b w.heap.size w1.heap.size false (.int .i64 1) (w1.alloc (Obj.cells #[.int .i64 1] 39)) hF2 a1 ((s02.cell 2 (by omega)).trans hW.dn) ((s02.cell 3 (by omega)).trans hW.om) ((s02.cell 5 (by omega)).trans hW.cl) (World.cell?_alloc_at _ _ _ _ rfl) (World.frozen?_alloc_at _ _ _ _ rfl) (fun j => (s02.frozen j).trans (hW.fz j)) (fun e => hne e.symm) (by omega); refine hdo.mono ?_; rintro _ w3 ⟨rfl, t2, t3, t5, tp, ts, tc⟩))
  have m1 := h1.cell hW.mu
  have m3 : w3.cell? ⟨b, 0, none⟩ = some (.int .i32 1) := (ts.cell 0 (by omega)).trans (c12.cellAt m1 id)
  have z3 : ∀ j, w3.frozen? ⟨b, j, none⟩ = false := fun j => (ts.frozen j).trans ((s02.frozen j).trans (hW.fz j))
  have sl : Slots b (fun j => j = 0) w3 (w3.setCell ⟨b, 0, none⟩ (.int .i32 0)) := (Slots.refl b _ w3).setCell (p := ⟨b, 0, none⟩) _ (fun _ => rfl)
  have hsz : w.heap.size ≤ w1.heap.size := Nat.le_trans cW.size h1.chg.size
  refine door (v := .int .i64 0) m3 (z3 0) ?_ ⟨rfl, ⟨World.cell?_setCell_same _ _ _ m3, (sl.cell 2 (by omega)).trans t2, (sl.cell 3 (by omega)).trans t3, (sl.cell 5 (by omega)).trans t5, fun j => (sl.frozen j).trans (z3 j)⟩, ?_⟩
  · simp [results, Tryz.results20, go_sem]
  · exact ((((cW.mono (fun _ h => h.elim)).trans h1.chg (fun _ _ h => h)).trans c12 (fun _ _ h => h.elim)).trans tc (fun n hn h => by rcases h with h | h <;> omega)).setCell (p := ⟨b, 0, none⟩) (fun _ => rfl) _

set_option maxRecDepth 100000 in
set_option maxHeartbeats 1000000 in
theorem close_done {w : World} {b : Nat} (h : Head w b 1 true) :
    Calls Tryz.prog 20 #[.pointer (some ⟨b, 0, none⟩)] w fun e w' => e = .returned (.int .i64 1) ∧ Head w' b 1 true ∧ Chg (fun k => k = b) w w' := by
  have hbl : b < w.heap.size := World.block_lt_of_cell? _ _ h.mu
  have hne : ¬ w.heap.size = b := by omega
  have hmf : ∀ (fn : Fn) (first cap : Array Value) (w : World), (Instr.makeFunc fn first cap).run Tryz.prog w = .ok (.func fn first cap) w := fun _ _ _ _ => rfl
  have cW : Chg (fun _ => False) w (w.alloc (Obj.cells #[.pointer (some ⟨b, 0, none⟩)] 28)) := (Chg.refl _ w).alloc _
  have hW := h.chg cW id
  have hlk := lock_rel b _ hW.mu (hW.fz 0)
  go_enter_defers Tryz.func20, Tryz.ntmps20
  go_wp2_with (first | (go_at_call 33; refine hlk.mono ?_; rintro _ w1 ⟨rfl, h1⟩; have a0 := h1.chg.cellAt (World.cell?_alloc_at (w := w) #[.pointer (some ⟨b, 0, none⟩)] 28 w.heap.size 0 rfl) hne; have c12 : Chg (fun _ => False) w1 (w1.alloc (Obj.cells #[.int .i64 1] 39)) := (Chg.refl _ w1).alloc _; have a1 := c12.cellAt a0 id; simp only [List.getElem_toArray, List.getElem_cons_zero, List.getElem_cons_succ] at a0 a1; clear hlk) | (go_at_call 38; have hbl1 : b < w1.heap.size := Nat.lt_of_lt_of_le (Nat.lt_of_lt_of_le hbl cW.size) h1.chg.size; have s02 := h1.slots.trans (Slots.of_chg (fun j => j = 0) c12 hbl1 id) (fun j hj => hj); have hdo := fun f => do_done b f (w1.alloc (Obj.cells #[.int .i64 1] 39)) ((s02.cell 2 (by omega)).trans hW.dn); refine (hdo _).mono ?_; rintro _ w3 ⟨rfl, rfl⟩))
  have m1 := h1.cell hW.mu
  have m3 := c12.cellAt m1 id
  have z3 := (s02.frozen 0).trans (hW.fz 0)
  refine door (v := .int .i64 1) m3 z3 ?_ ⟨rfl, hW.back s02 (fun j hj => .inl hj) m3, ?_⟩
  · simp [results, Tryz.results20, go_sem]
  · exact (((cW.mono (fun _ h => h.elim)).trans h1.chg (fun _ _ h => h)).trans c12 (fun _ _ h => h.elim)).setCell (p := ⟨b, 0, none⟩) (fun _ => rfl) _

def closedErr (c : Bool) : Int := if c then 1 else 0

set_option maxHeartbeats 400000 in
theorem check_any {w : World} {b : Nat} {d : Int} {c : Bool} (h : Head w b d c) :
    Calls Tryz.prog 67 #[.pointer (some ⟨b, 0, none⟩)] w fun e w' => e = .returned (.int .i64 (closedErr c)) ∧ Head w' b d c ∧ Slots b (fun j => j = 0) w w' ∧ Chg (fun k => k = b) w w' := by
  have hlk := lock_rel b _ h.mu (h.fz 0)
  cases c with
  | true =>
    go_enter_defers Tryz.func67, Tryz.ntmps67
    go_wp2_with (go_at_call 33; refine hlk.mono ?_; rintro _ w1 ⟨rfl, h1⟩; have c5 := (h1.slots.cell 5 (by omega)).trans h.cl)
    refine door (v := .int .i64 1) (h1.cell h.mu) ((h1.slots.frozen 0).trans (h.fz 0)) ?_ ⟨rfl, h.back h1.slots (fun j hj => .inl hj) (h1.cell h.mu), h1.slots.setCell (p := ⟨b, 0, none⟩) _ (fun _ => rfl), h1.chg.setCell (p := ⟨b, 0, none⟩) (fun _ => rfl) _⟩
    simp [results, Tryz.results67, go_sem]
  | false =>
    go_enter_defers Tryz.func67, Tryz.ntmps67
    go_wp2_with (go_at_call 33; refine hlk.mono ?_; rintro _ w1 ⟨rfl, h1⟩; have c5 := (h1.slots.cell 5 (by omega)).trans h.cl)
    refine door (v := .int .i64 0) (h1.cell h.mu) ((h1.slots.frozen 0).trans (h.fz 0)) ?_ ⟨rfl, h.back h1.slots (fun j hj => .inl hj) (h1.cell h.mu), h1.slots.setCell (p := ⟨b, 0, none⟩) _ (fun _ => rfl), h1.chg.setCell (p := ⟨b, 0, none⟩) (fun _ => rfl) _⟩
    simp [results, Tryz.results67, go_sem]

end Go.Proofs.YtcgjdpdbojcoiaaGreat

/- THE PROGRAM'S RELAY IS THE DOCUMENT'S. -/
namespace Go.Proofs.YtcgjdpdbojcoiaaGreat
set_option linter.unusedVariables false
set_option linter.unusedSimpArgs false
open Go.RowKit Go.Lib Go.Conc.Locks

def RelCase (w : World) (b : Nat) (F : Nat → Prop) : Option St → Prop
  | none => Head w b 1 true
  | some s => Head w b 0 false ∧ ∃ E B V vk Q ks, FlowAt w 0 b 6 E B V vk Q ks ∧ FlowFit E B Q ks ∧ Ties E B Q ks s ∧ ∀ k, Rows V vk k → F k

/-- A relay in memory. -/
def RelAt (w : World) (a : Addr) (o : Option St) (F : Nat → Prop) : Prop := ∃ b, a = ⟨b, 0, none⟩ ∧ F b ∧ (∀ k, F k → k < w.heap.size) ∧ RelCase w b F o

theorem row_same {w w' : World} {b : Nat} {e : TypeId} {n m : Nat} {v : Value} {xs : List Value} (hr : w.ownsRow b e n v m xs) (h : ∀ k, v.ownBlock = some k → w'.heap[k]? = w.heap[k]?) : w'.ownsRow b e n v m xs := by
  refine ⟨hr.1, ?_⟩
  rcases hr.2 with hn | ⟨g, cap, cur, hv, hb, hg, r⟩
  · exact .inl hn
  · exact .inr ⟨g, cap, cur, hv, hb, (h g (by rw [hv]; rfl)).trans hg, r⟩

theorem Head.same {w w' : World} {b : Nat} {d : Int} {c : Bool} (h : Head w b d c) (hb : w'.heap[b]? = w.heap[b]?) : Head w' b d c :=
  ⟨(World.cell?_of_block (w := w) hb).trans h.mu, (World.cell?_of_block (w := w) hb).trans h.dn, (World.cell?_of_block (w := w) hb).trans h.om, (World.cell?_of_block (w := w) hb).trans h.cl, fun j => (World.frozen?_of_block (w := w) hb).trans (h.fz j)⟩

theorem FlowAt.same {w w' : World} {b o : Nat} {E B : Nat → Int} {V : Nat → Value} {vk : Value} {Q : Nat → List Wt} {ks : List Ky} (h : FlowAt w 0 b o E B V vk Q ks) (hb : w'.heap[b]? = w.heap[b]?) (hr : ∀ k, Rows V vk k → w'.heap[k]? = w.heap[k]?) : FlowAt w' 0 b o E B V vk Q ks :=
  ⟨⟨fun i hi => (World.cell?_of_block (w := w) hb).trans (h.cells.ep i hi), fun i hi => (World.cell?_of_block (w := w) hb).trans (h.cells.ba i hi), fun i hi => (World.cell?_of_block (w := w) hb).trans (h.cells.qu i hi), (World.cell?_of_block (w := w) hb).trans h.cells.le⟩,
   fun j => (World.frozen?_of_block (w := w) hb).trans (h.froz j), fun i hi => row_same (h.rows i hi) (fun k hk => hr k (.inl ⟨i, hi, hk⟩)), row_same h.keys (fun k hk => hr k (.inr hk)), h.own, h.ownk, h.sep, h.sepk, Nat.zero_le _⟩

theorem rel_lt {w : World} {a : Addr} {o : Option St} {F : Nat → Prop} {k : Nat} (h : RelAt w a o F) (hk : F k) : k < w.heap.size := by
  obtain ⟨b, _, _, h1, _⟩ := h
  exact h1 k hk

theorem rel_stable {w w' : World} {a : Addr} {o : Option St} {F : Nat → Prop} (h : RelAt w a o F) (hs : ∀ k, F k → w'.heap[k]? = w.heap[k]?) : RelAt w' a o F := by
  obtain ⟨b, rfl, hb, h1, h2⟩ := h
  refine ⟨b, rfl, hb, fun k hk => ?_, ?_⟩
  · have e := hs k hk
    rw [Array.getElem?_eq_getElem (h1 k hk)] at e
    exact (Array.getElem?_eq_some_iff.1 e).1
  · cases o with
    | none => exact Head.same h2 (hs b hb)
    | some s =>
      obtain ⟨h3, E, B, V, vk, Q, ks, h4, h5, h6, h7⟩ := h2
      exact ⟨h3.same (hs b hb), E, B, V, vk, Q, ks, h4.same (hs b hb) (fun k hk => hs k (h7 k hk)), h5, h6, h7⟩

theorem rel_new (w : World) : Calls Tryz.prog 11 #[] w fun e w' => ∃ a F, e = .returned (.pointer (some a)) ∧ RelAt w' a (some St.init) F ∧ (∀ k, F k → w.heap.size ≤ k) ∧ Chg (fun _ => False) w w' := by
  refine (New_cells w).mono ?_
  rintro e w' ⟨rfl, hw⟩
  refine ⟨_, fun k => k = w.heap.size, rfl, ⟨w.heap.size, rfl, rfl, fun k hk => by rw [hw, World.size_alloc]; omega, ?_, fun _ => 0, fun _ => 0, fun _ => .slice none 0 0, .slice none 0 0, fun _ => [], [], ?_, ?_, ?_, ?_⟩, fun k hk => by omega, by rw [hw]; exact (Chg.refl _ w).alloc _⟩
  · rw [hw]
    exact ⟨World.cell?_alloc_at _ _ _ _ rfl, World.cell?_alloc_at _ _ _ _ rfl, World.cell?_alloc_at _ _ _ _ rfl, World.cell?_alloc_at _ _ _ _ rfl, fun j => World.frozen?_alloc_at _ _ _ _ rfl⟩
  · rw [hw]
    refine ⟨⟨fun i hi => ?_, fun i hi => ?_, fun i hi => ?_, World.cell?_alloc_at _ _ _ _ rfl⟩, fun j => World.frozen?_alloc_at _ _ _ _ rfl, fun i hi => World.ownsRow_nil _ _ _ _, World.ownsRow_nil _ _ _ _, fun i hi => by simp [Value.ownBlock], by simp [Value.ownBlock], fun i j _ _ _ g hg => by simp [Value.ownBlock] at hg, fun i _ g hg => by simp [Value.ownBlock] at hg, Nat.zero_le _⟩
    · rcases (by omega : i = 0 ∨ i = 1 ∨ i = 2 ∨ i = 3) with rfl | rfl | rfl | rfl <;> exact World.cell?_alloc_at _ _ _ _ rfl
    · rcases (by omega : i = 0 ∨ i = 1 ∨ i = 2 ∨ i = 3) with rfl | rfl | rfl | rfl <;> exact World.cell?_alloc_at _ _ _ _ rfl
    · rcases (by omega : i = 0 ∨ i = 1 ∨ i = 2 ∨ i = 3) with rfl | rfl | rfl | rfl <;> exact World.cell?_alloc_at _ _ _ _ rfl
  · exact ⟨fun i hi => by simp, by simp, ⟨List.Pairwise.nil, by simp, by simp, by simp, by simp [counts, qLens]⟩, fun i hi => by simp [counts], fun i hi x hx => by simp at hx⟩
  · refine ⟨rfl, rfl, fun i hi => ⟨Ln.init, ?_, rfl, rfl, List.Pairwise.nil, .refl _, trivial, by simp [Ln.init]⟩, fun i hi => by simp, by simp [St.names, St.init, Ln.init, distinct], by simp⟩
    rcases (by omega : i = 0 ∨ i = 1 ∨ i = 2 ∨ i = 3) with rfl | rfl | rfl | rfl <;> rfl
  · intro k hk
    rcases hk with ⟨i, _, hk⟩ | hk <;> simp [Value.ownBlock] at hk

theorem rel_accept {w : World} {a : Addr} {o : Option St} {F : Nat → Prop} (x : Rec) (h : RelAt w a o F) (hx : x.fits) : Calls Tryz.prog 14 #[.pointer (some a), x.value'] w fun e w' =>
    ∃ F', e = .returned (.tuple #[.int .i64 (accept? o x).1.1, .int .i64 (accept? o x).1.2]) ∧ RelAt w' a (accept? o x).2 F' ∧ (∀ k, F' k → F k ∨ w.heap.size ≤ k) ∧ Chg F w w' := by
  obtain ⟨b, rfl, hb, h1, h2⟩ := h
  cases o with
  | none =>
    refine (accept_closed b x w h2).mono ?_
    rintro e w' ⟨rfl, g1, g2⟩
    exact ⟨F, rfl, ⟨b, rfl, hb, fun k hk => Nat.lt_of_lt_of_le (h1 k hk) g2.size, g1⟩, fun k hk => .inl hk, g2.mono (fun k hk => by rw [hk]; exact hb)⟩
  | some s =>
    obtain ⟨h3, E, B, V, vk, Q, ks, h4, h5, h6, h7⟩ := h2
    obtain ⟨t1, t2, t3⟩ := accept_tie h6 h5 x hx
    refine (accept_open h3 h4 h5 x hx).mono ?_
    rintro e w' ⟨rfl, g1, V', vk', g2, g3, g4⟩
    refine ⟨fun k => F k ∨ (w.heap.size ≤ k ∧ k < w'.heap.size), by simp only [accept?]; rw [t1], ⟨b, rfl, .inl hb, fun k hk => ?_, g1, _, _, V', vk', _, _, g2, t3, t2, fun k hk => ?_⟩, fun k hk => hk.imp id (fun h => h.1), g4.mono (fun k hk => ?_)⟩
    · rcases hk with hk | hk
      · exact Nat.lt_of_lt_of_le (h1 k hk) g4.size
      · exact hk.2
    · have hlt : k < w'.heap.size := by
        rcases hk with ⟨i, hi, hk⟩ | hk
        · exact ((g2.rows i hi).lt k hk).2
        · exact (g2.keys.lt k hk).2
      rcases g3 k hk with h | h
      · exact .inl (h7 k h)
      · exact .inr ⟨h, hlt⟩
    · rcases hk with rfl | hk
      · exact hb
      · exact h7 k hk

theorem rel_close {w : World} {a : Addr} {o : Option St} {F : Nat → Prop} (h : RelAt w a o F) : Calls Tryz.prog 20 #[.pointer (some a)] w fun e w' =>
    e = .returned (.int .i64 (errno? o)) ∧ RelAt w' a none F ∧ Chg F w w' := by
  obtain ⟨b, rfl, hb, h1, h2⟩ := h
  cases o with
  | none =>
    refine (close_done h2).mono ?_
    rintro e w' ⟨rfl, g1, g2⟩
    exact ⟨rfl, ⟨b, rfl, hb, fun k hk => Nat.lt_of_lt_of_le (h1 k hk) g2.size, g1⟩, g2.mono (fun k hk => by rw [hk]; exact hb)⟩
  | some s =>
    obtain ⟨h3, E, B, V, vk, Q, ks, h4, h5, h6, h7⟩ := h2
    refine (close_open h3 h4.cells).mono ?_
    rintro e w' ⟨rfl, g1, g2⟩
    exact ⟨rfl, ⟨b, rfl, hb, fun k hk => Nat.lt_of_lt_of_le (h1 k hk) g2.size, g1⟩, g2.mono (fun k hk => by rw [hk]; exact hb)⟩

theorem rel_state {w : World} {a : Addr} {o : Option St} {F : Nat → Prop} (h : RelAt w a o F) : Calls Tryz.prog 18 #[.pointer (some a)] w fun e w' =>
    ∃ vs vk, e = .returned (.tuple #[.agg #[vs, vk], .int .i64 (errno? o)]) ∧ StateAt w' w.heap.size vs vk (state? o) ∧ RelAt w' a o F ∧ Chg F w w' := by
  obtain ⟨b, rfl, hb, h1, h2⟩ := h
  cases o with
  | none =>
    refine (state_closed b w h2).mono ?_
    rintro e w' ⟨rfl, g1, g2⟩
    exact ⟨_, _, rfl, ⟨⟨[], rfl, World.ownsRow_nil _ _ _ _, fun i l u hl => by simp [state?] at hl⟩, World.ownsRow_nil _ _ _ _⟩, ⟨b, rfl, hb, fun k hk => Nat.lt_of_lt_of_le (h1 k hk) g2.size, g1⟩, g2.mono (fun k hk => by rw [hk]; exact hb)⟩
  | some s =>
    obtain ⟨h3, E, B, V, vk, Q, ks, h4, h5, h6, h7⟩ := h2
    refine (state_open h3 h4 (fun i hi => by have := h5.ql i hi; omega) h5.kl).mono ?_
    rintro e w' ⟨vs, vk', U, rfl, g1, g2, g3, g4, g5, g6⟩
    refine ⟨vs, vk', rfl, ⟨⟨[U 0, U 1, U 2, U 3], ?_, ?_, fun i l u hl hu => ?_⟩, ?_⟩, ⟨b, rfl, hb, fun k hk => Nat.lt_of_lt_of_le (h1 k hk) g6.size, g4, E, B, V, vk, Q, ks, g5, h5, h6, h7⟩, g6.mono (fun k hk => by rw [hk]; exact hb)⟩
    · simp [state?, h6.four]
    · obtain ⟨l0, c0, p0⟩ := h6.lane 0 (by omega)
      obtain ⟨l1, c1, p1⟩ := h6.lane 1 (by omega)
      obtain ⟨l2, c2, p2⟩ := h6.lane 2 (by omega)
      obtain ⟨l3, c3, p3⟩ := h6.lane 3 (by omega)
      have h4' := h6.four
      simp only [state?]
      match hs : s.lanes, h4' with
      | [x0, x1, x2, x3], _ =>
        rw [hs] at c0 c1 c2 c3
        simp at c0 c1 c2 c3
        subst c0 c1 c2 c3
        simpa [sessCells, sessU, p0.ep, p0.ba, p1.ep, p1.ba, p2.ep, p2.ba, p3.ep, p3.ba] using g1
    · have hi : i < 4 := by
        have := (List.getElem?_eq_some_iff.1 hl).1
        simp only [state?] at this
        rw [h6.four] at this
        exact this
      have hu' : u = U i := by
        rcases (by omega : i = 0 ∨ i = 1 ∨ i = 2 ∨ i = 3) with rfl | rfl | rfl | rfl <;> simp at hu <;> exact hu.symm
      obtain ⟨l', c, p⟩ := h6.lane i hi
      have : l' = l := by simp only [state?] at hl; rw [hl] at c; exact (Option.some.inj c).symm
      subst this
      have := g2 i hi
      rw [nums_tie p.up p.perm, p.perm.length_eq] at this
      rw [hu']
      unfold ints' at this
      rw [List.map_map] at this
      exact this
    · simp only [state?]
      rw [h6.keys]; exact g3

/-- The program's calls are the document's. -/
theorem rel_fine {w : World} {a : Addr} {s : St} {F : Nat → Prop} (h : RelAt w a (some s) F) : s.fine := by
  obtain ⟨b, _, _, _, h⟩ := h
  obtain ⟨_, E, B, V, vk, Q, ks, _, h5, h6, _⟩ := h
  exact h6.fine h5

theorem api : Api RelAt := ⟨rel_lt, rel_stable, rel_fine, rel_new, fun x h hx => rel_accept x h hx, rel_state, rel_close⟩

end Go.Proofs.YtcgjdpdbojcoiaaGreat
