import Derived.RegionCalls
import Derived.Test.YtcgjdpdbojcoiaaGreatB1
import Derived.Test.YtcgjdpdbojcoiaaGreatB2
import Derived.Test.YtcgjdpdbojcoiaaGreatB3
import Derived.Test.YtcgjdpdbojcoiaaGreatB4
import Derived.Test.YtcgjdpdbojcoiaaGreatB5
/- The relay's calls, WALKED: State. -/
namespace Go.Proofs.YtcgjdpdbojcoiaaGreat
set_option linter.unusedVariables false
set_option linter.unusedSimpArgs false
open Go.RowKit Go.Lib Go.Conc.Locks

set_option maxHeartbeats 400000 in
theorem state_closed (b : Nat) (w : World) (h : Head w b 1 true) :
    Calls Tryz.prog 18 #[.pointer (some ⟨b, 0, none⟩)] w fun e w' => e = .returned (.tuple #[.agg #[.slice none 0 0, .slice none 0 0], .int .i64 1]) ∧ Head w' b 1 true ∧ Chg (fun k => k = b) w w' := by
  have hbl : b < w.heap.size := World.block_lt_of_cell? _ _ h.mu
  have hne : ¬ w.heap.size = b := by omega
  have cW : Chg (fun _ => False) w (w.alloc (Obj.cells #[.slice none 0 0, .slice none 0 0] 52)) := (Chg.refl _ w).alloc _
  have hW := h.chg cW id
  have hlk := lock_rel b _ hW.mu (hW.fz 0)
  go_enter_defers Tryz.func18, Tryz.ntmps18
  go_wp2_with (go_at_call 33; refine hlk.mono ?_; rintro _ w1 ⟨rfl, h1⟩; have c5 := (h1.slots.cell 5 (by omega)).trans hW.cl; have a0 := h1.chg.cellAt (World.cell?_alloc_at (w := w) #[.slice none 0 0, .slice none 0 0] 52 w.heap.size 0 rfl) hne; have a1 := h1.chg.cellAt (World.cell?_alloc_at (w := w) #[.slice none 0 0, .slice none 0 0] 52 w.heap.size 1 rfl) hne; have hfz : ∀ j, w1.frozen? ⟨w.heap.size, j, none⟩ = false := fun j => (World.frozen?_of_block (h1.chg.block w.heap.size (by simp) hne)).trans (World.frozen?_alloc_at _ _ _ _ rfl); have f0 := hfz 0; have f1 := hfz 1; simp only [List.getElem_toArray, List.getElem_cons_zero, List.getElem_cons_succ] at a0 a1)
  have g2 : Chg (fun k => k = w.heap.size) w1 ((w1.setCell ⟨w.heap.size, 0, none⟩ (.slice none 0 0)).setCell ⟨w.heap.size, 1, none⟩ (.slice none 0 0)) := ((Chg.refl (fun k => k = w.heap.size) w1).setCell (p := ⟨w.heap.size, 0, none⟩) (fun _ => rfl) _).setCell (p := ⟨w.heap.size, 1, none⟩) (fun _ => rfl) _
  have hbl1 : b < w1.heap.size := Nat.lt_of_lt_of_le (Nat.lt_of_lt_of_le hbl cW.size) h1.chg.size
  have s2 : Slots b (fun j => j = 0) w1 ((w1.setCell ⟨w.heap.size, 0, none⟩ (.slice none 0 0)).setCell ⟨w.heap.size, 1, none⟩ (.slice none 0 0)) := Slots.of_chg _ g2 hbl1 (fun e => hne e.symm)
  have m1 := h1.cell hW.mu
  have m2 := g2.cellAt m1 (fun e => hne e.symm)
  have z2 := (s2.frozen 0).trans ((h1.slots.frozen 0).trans (hW.fz 0))
  have n0 : (w1.setCell ⟨w.heap.size, 0, none⟩ (.slice none 0 0)).cell? ⟨w.heap.size, 1, none⟩ = some (.slice none 0 0) := (World.cell?_setCell_other _ _ _ _ (by simp)).trans a1
  refine door (v := .tuple #[.agg #[.slice none 0 0, .slice none 0 0], .int .i64 1]) m2 z2 ?_ ⟨rfl, hW.back (h1.slots.trans s2 (fun j hj => hj)) (fun j hj => .inl hj) m2, ?_⟩
  · simp [results, Tryz.results18, go_sem, a0, a1, hne, fun e : b = w.heap.size => hne e.symm]
  · exact (((cW.mono (fun _ h => h.elim)).trans h1.chg (fun _ _ h => h)).trans g2 (fun n hn h => by omega)).setCell (p := ⟨b, 0, none⟩) (fun _ => rfl) _

set_option maxRecDepth 100000 in
set_option maxHeartbeats 1000000 in
theorem state_open {w : World} {lo b : Nat} {E B : Nat → Int} {V : Nat → Value} {vk : Value} {Q : Nat → List Wt} {ks : List Ky} (h : Head w b 0 false) (hF : FlowAt w lo b 6 E B V vk Q ks) (hq : ∀ i, i < 4 → (Q i).length ≤ 4) (hk : ks.length ≤ 4) :
    Calls Tryz.prog 18 #[.pointer (some ⟨b, 0, none⟩)] w fun e w' => ∃ (vs vk' : Value) (U : Nat → Value), e = .returned (.tuple #[.agg #[vs, vk'], .int .i64 0]) ∧
      w'.ownsRow w.heap.size 56 3 vs 4 (sessU E B U 4) ∧ (∀ i, i < 4 → w'.ownsRow w.heap.size 3 1 (U i) (Q i).length (ints' (theNums (Q i)))) ∧ w'.ownsRow w.heap.size 60 4 vk' ks.length (keyCells ks) ∧
      Head w' b 0 false ∧ FlowAt w' lo b 6 E B V vk Q ks ∧ Chg (fun k => k = b) w w' := by
  have hbl : b < w.heap.size := World.block_lt_of_cell? _ _ h.mu
  have hne : ¬ w.heap.size = b := by omega
  have cW : Chg (fun _ => False) w (w.alloc (Obj.cells #[.slice none 0 0, .slice none 0 0] 52)) := (Chg.refl _ w).alloc _
  have hW := h.chg cW id
  have hFW := hF.chg hbl cW id (fun _ _ _ _ => id) (fun _ _ => id)
  have hlk := lock_rel b _ hW.mu (hW.fz 0)
  go_enter_defers Tryz.func18, Tryz.ntmps18
  go_wp2_with (go_at_call 33; refine hlk.mono ?_; rintro _ w1 ⟨rfl, h1⟩; have c5 := (h1.slots.cell 5 (by omega)).trans hW.cl; have hF1 := hFW.beside h1.slots (fun j hj => .inl (by omega)) h1.chg; have a0 := h1.chg.cellAt (World.cell?_alloc_at (w := w) #[.slice none 0 0, .slice none 0 0] 52 w.heap.size 0 rfl) hne; have a1 := h1.chg.cellAt (World.cell?_alloc_at (w := w) #[.slice none 0 0, .slice none 0 0] 52 w.heap.size 1 rfl) hne; have hfz : ∀ j, w1.frozen? ⟨w.heap.size, j, none⟩ = false := fun j => (World.frozen?_of_block (h1.chg.block w.heap.size (by simp) hne)).trans (World.frozen?_alloc_at _ _ _ _ rfl); simp only [List.getElem_toArray, List.getElem_cons_zero, List.getElem_cons_succ] at a0 a1)
  have hsz1 : w.heap.size < w1.heap.size := by have := h1.chg.size; rw [World.size_alloc] at this; omega
  have hst := flowState_any hF1 hq hk
  go_wp2_with (go_at_call 37; refine hst.mono ?_; rintro _ w2 ⟨vs, vk', U, rfl, r1, r2, r3, c12⟩; obtain ⟨ps, cs, rfl⟩ := row_any r1; obtain ⟨pk, ck, rfl⟩ := row_any r3; have b0 := c12.cellAt a0 id; have b1 := c12.cellAt a1 id; have hfz2 : ∀ j, w2.frozen? ⟨w.heap.size, j, none⟩ = false := fun j => (World.frozen?_of_block (c12.block w.heap.size hsz1 id)).trans (hfz j); have f0 := hfz2 0; have f1 := hfz2 1)
  obtain ⟨w3, hw3⟩ : ∃ w3, w3 = (w2.setCell ⟨w.heap.size, 0, none⟩ (.slice ps 4 cs)).setCell ⟨w.heap.size, 1, none⟩ (.slice pk ks.length ck) := ⟨_, rfl⟩
  have g2 : Chg (fun k => k = w.heap.size) w2 w3 := by
    rw [hw3]; exact ((Chg.refl (fun k => k = w.heap.size) w2).setCell (p := ⟨w.heap.size, 0, none⟩) (fun _ => rfl) _).setCell (p := ⟨w.heap.size, 1, none⟩) (fun _ => rfl) _
  have d0 : w3.cell? ⟨w.heap.size, 0, none⟩ = some (.slice ps 4 cs) := by
    rw [hw3]; exact (World.cell?_setCell_other _ _ _ _ (by simp)).trans (World.cell?_setCell_same _ _ _ b0)
  have d1 : w3.cell? ⟨w.heap.size, 1, none⟩ = some (.slice pk ks.length ck) := by
    rw [hw3]; exact World.cell?_setCell_same _ _ _ ((World.cell?_setCell_other _ _ _ _ (by simp)).trans b1)
  rw [← hw3]
  have hbl1 : b < w1.heap.size := by omega
  have hbl2 : b < w2.heap.size := Nat.lt_of_lt_of_le hbl1 c12.size
  have s12 : Slots b (fun j => j = 0) w1 w2 := Slots.of_chg _ c12 hbl1 id
  have s23 : Slots b (fun j => j = 0) w2 w3 := Slots.of_chg _ g2 hbl2 (fun e => hne e.symm)
  have m1 := h1.cell hW.mu
  have m3 := g2.cellAt (c12.cellAt m1 id) (fun e => hne e.symm)
  have sall := (h1.slots.trans s12 (fun j hj => hj)).trans s23 (fun j hj => hj)
  have z3 := (sall.frozen 0).trans (hW.fz 0)
  have s34 : Slots b (fun j => j = 0) w3 (w3.setCell ⟨b, 0, none⟩ (.int .i32 0)) := (Slots.refl b _ w3).setCell (p := ⟨b, 0, none⟩) _ (fun _ => rfl)
  have g3 : Chg (fun k => k = b) w3 (w3.setCell ⟨b, 0, none⟩ (.int .i32 0)) := (Chg.refl (fun k => k = b) w3).setCell (p := ⟨b, 0, none⟩) (fun _ => rfl) _
  have hF3 := (hF1.chg hbl1 c12 id (fun _ _ _ _ => id) (fun _ _ => id)).chg hbl2 g2 (fun e => hne e.symm) (fun i hi k hk e => by have := ((hF.rows i hi).lt k hk).2; omega) (fun k hk e => by have := (hF.keys.lt k hk).2; omega)
  refine door (v := .tuple #[.agg #[.slice ps 4 cs, .slice pk ks.length ck], .int .i64 0]) m3 z3 ?_ ⟨_, _, U, rfl, ?_, fun i hi => ?_, ?_, hW.back sall (fun j hj => .inl hj) m3, hF3.beside s34 (fun j hj => .inl (by omega)) g3, ?_⟩
  · simp [results, Tryz.results18, go_sem, d0, d1, hne, fun e : b = w.heap.size => hne e.symm]
  · exact row_lower (g3.row (g2.row r1 (fun k hk => .inl (by omega))) (fun k hk => .inl (by omega))) (by omega)
  · exact row_lower (g3.row (g2.row (r2 i hi) (fun k hk => .inl (by omega))) (fun k hk => .inl (by omega))) (by omega)
  · exact row_lower (g3.row (g2.row r3 (fun k hk => .inl (by omega))) (fun k hk => .inl (by omega))) (by omega)
  · exact ((((cW.mono (fun _ h => h.elim)).trans h1.chg (fun _ _ h => h)).trans c12 (fun _ _ h => h.elim)).trans g2 (fun n hn h => by omega)).trans g3 (fun _ _ h => h)

end Go.Proofs.YtcgjdpdbojcoiaaGreat

/- The relay's calls, WALKED: Close. -/
namespace Go.Proofs.YtcgjdpdbojcoiaaGreat
set_option linter.unusedVariables false
set_option linter.unusedSimpArgs false
open Go.RowKit Go.Lib Go.Conc.Locks

set_option maxHeartbeats 400000 in
theorem boolLoad_any (a : Addr) (d : Int) (w : World) (hd : d = 0 ∨ d = 1) (hc : w.cell? a = some (.int .u32 d)) : Calls Tryz.prog 70 #[.pointer (some a)] w fun e w' => e = .returned (.bool (d != 0)) ∧ w' = w := by
  have hl := run_call_load (P := Tryz.prog) Tryz.func101 (by kernel_rfl) (by kernel_rfl) (by kernel_rfl) .u32 (by kernel_rfl) (w := w) (a := a) (x := d) hc
  rcases hd with rfl | rfl
  · go_enter Tryz.func70, Tryz.ntmps70
    go_wp2
    go_ret
    exact ⟨rfl, rfl⟩
  · go_enter Tryz.func70, Tryz.ntmps70
    go_wp2
    go_ret
    exact ⟨rfl, rfl⟩

set_option maxHeartbeats 400000 in
theorem boolStore_deferred (a : Addr) (x : Value) (u : FrameMode) (w : World) (hc : w.cell? a = some x) (hz : w.frozen? a = false) :
    CallsD Tryz.prog 102 #[.pointer (some a), .bool true] u w fun e u' w' => u' = u ∧ (e = .returned (.tuple #[]) ∧ w' = w.drew.setCell a (.int .u32 1)) := by
  have hc' : w.drew.cell? a = some x := by go_simp
  have hz' : w.drew.frozen? a = false := by go_simp
  have hst := run_call_store (P := Tryz.prog) Tryz.func125 (by kernel_rfl) (by kernel_rfl) (by kernel_rfl) (by kernel_rfl) (k := .u32) (y := 1) hc' hz'
  go_enter_d Tryz.func102, Tryz.ntmps102
  go_wp2
  go_region_calls
  all_goals (go_end0; exact ⟨rfl, rfl⟩)

/-- Close's closure. -/
theorem close1_any (b r p : Nat) (c : Bool) (y : Value) (w : World) {E B : Nat → Int} {V : Nat → Value} {vk : Value} (hF : FlowCells w b 6 E B V vk) (hr : w.cell? ⟨r, 0, none⟩ = some (.pointer (some ⟨b, 0, none⟩))) (hc : w.cell? ⟨b, 5, none⟩ = some (.bool c)) (hp : w.cell? ⟨p, 0, none⟩ = some y) (hzp : w.frozen? ⟨p, 0, none⟩ = false) (hz : ∀ j, w.frozen? ⟨b, j, none⟩ = false)
    (hrb : b ≠ r) (hpb : b ≠ p) :
    Calls Tryz.prog 39 #[.pointer (some ⟨r, 0, none⟩), .pointer (some ⟨p, 0, none⟩)] w fun e w' => e = .returned (.tuple #[]) ∧ w'.cell? ⟨b, 5, none⟩ = some (.bool true) ∧ w'.cell? ⟨p, 0, none⟩ = some (.int .i64 0) ∧ Slots b (fun j => 5 ≤ j) w w' ∧ Chg (fun k => k = b ∨ k = p) w w' := by
  have e0 := hF.ep 0 (by omega); have e1 := hF.ep 1 (by omega); have e2 := hF.ep 2 (by omega); have e3 := hF.ep 3 (by omega)
  have b0 := hF.ba 0 (by omega); have b1 := hF.ba 1 (by omega); have b2 := hF.ba 2 (by omega); have b3 := hF.ba 3 (by omega)
  have v0 := hF.qu 0 (by omega); have v1 := hF.qu 1 (by omega); have v2 := hF.qu 2 (by omega); have v3 := hF.qu 3 (by omega)
  have kk := hF.le
  simp only [Nat.zero_mul, Nat.one_mul, Nat.add_zero, Nat.reduceMul, Nat.reduceAdd] at e0 e1 e2 e3 b0 b1 b2 b3 v0 v1 v2 v3 kk
  have f5 := hz 5; have f6 := hz 6; have f7 := hz 7; have f8 := hz 8; have f9 := hz 9; have f10 := hz 10; have f11 := hz 11; have f12 := hz 12; have f13 := hz 13; have f14 := hz 14; have f15 := hz 15; have f16 := hz 16; have f17 := hz 17; have f18 := hz 18
  go_enter Tryz.func39, Tryz.ntmps39
  go_wp2_with fail
  go_end0
  refine ⟨rfl, ?_⟩
  have hs : ∀ j, j < 14 → (w.cell? ⟨b, 5 + j, none⟩).isSome = true := fun j hj => by
    rcases j with _ | j
    · simp [hc]
    · rw [show 5 + (j + 1) = 6 + j by omega]
      by_cases h12 : j = 12
      · subst h12; rw [hF.le]; rfl
      · rcases (by omega : j % 3 = 0 ∨ j % 3 = 1 ∨ j % 3 = 2) with h3 | h3 | h3
        · rw [show 6 + j = 6 + j / 3 * 3 by omega, hF.ep (j / 3) (by omega)]; rfl
        · rw [show 6 + j = 6 + j / 3 * 3 + 1 by omega, hF.ba (j / 3) (by omega)]; rfl
        · rw [show 6 + j = 6 + j / 3 * 3 + 2 by omega, hF.qu (j / 3) (by omega)]; rfl
  have hin := World.cell?_setCells_in b [.bool true, .int .i64 0, .int .i64 0, .slice none 0 0, .int .i64 0, .int .i64 0, .slice none 0 0, .int .i64 0, .int .i64 0, .slice none 0 0, .int .i64 0, .int .i64 0, .slice none 0 0, .slice none 0 0] 5 w (fun j hj => hs j hj) 0 (by decide)
  obtain ⟨sl, cg⟩ := setCells_slots b [.bool true, .int .i64 0, .int .i64 0, .slice none 0 0, .int .i64 0, .int .i64 0, .slice none 0 0, .int .i64 0, .int .i64 0, .slice none 0 0, .int .i64 0, .int .i64 0, .slice none 0 0, .slice none 0 0] 5 w
  exact ⟨(World.cell?_setCell_other _ _ _ _ (fun e => hpb (congrArg Addr.block e).symm)).trans hin, World.cell?_setCell_same _ _ _ (cg.cellAt hp (fun e => hpb e.symm)),
    (sl.mono (fun j hj => hj.1)).setCell (p := ⟨p, 0, none⟩) _ (fun e => absurd e.symm hpb), (cg.mono (fun k hk => .inl hk)).setCell (p := ⟨p, 0, none⟩) (fun _ => .inr rfl) _⟩

set_option maxRecDepth 100000 in
set_option maxHeartbeats 1600000 in
/-- doSlow, not yet done. -/
theorem slow_any (b r p : Nat) (c : Bool) (y : Value) (w : World) {E B : Nat → Int} {V : Nat → Value} {vk : Value} (hF : FlowCells w b 6 E B V vk) (hr : w.cell? ⟨r, 0, none⟩ = some (.pointer (some ⟨b, 0, none⟩))) (hd : w.cell? ⟨b, 2, none⟩ = some (.int .u32 0)) (hm : w.cell? ⟨b, 3, none⟩ = some (.int .i32 0)) (hc : w.cell? ⟨b, 5, none⟩ = some (.bool c)) (hp : w.cell? ⟨p, 0, none⟩ = some y) (hzp : w.frozen? ⟨p, 0, none⟩ = false) (hz : ∀ j, w.frozen? ⟨b, j, none⟩ = false)
    (hrb : b ≠ r) (hpb : b ≠ p) :
    Calls Tryz.prog 71 #[.pointer (some ⟨b, 2, none⟩), .func (.func 39) #[] #[.pointer (some ⟨r, 0, none⟩), .pointer (some ⟨p, 0, none⟩)]] w fun e w' => e = .returned (.tuple #[]) ∧
      w'.cell? ⟨b, 2, none⟩ = some (.int .u32 1) ∧ w'.cell? ⟨b, 3, none⟩ = some (.int .i32 0) ∧ w'.cell? ⟨b, 5, none⟩ = some (.bool true) ∧ w'.cell? ⟨p, 0, none⟩ = some (.int .i64 0) ∧ Slots b (fun j => 2 ≤ j) w w' ∧ Chg (fun k => k = b ∨ k = p) w w' := by
  have hlk := Go.MuLone.lock_free Tryz.muLib ⟨b, 3, none⟩ w hm (hz 3)
  have hnot : ∀ (x : Bool) (w : World), (Op.unary .not (.bool x)).run Tryz.prog w = .ok (.bool (!x)) w := fun _ _ => rfl
  obtain ⟨w1, hw1⟩ : ∃ w1, w1 = w.setCell ⟨b, 3, none⟩ (.int .i32 1) := ⟨_, rfl⟩
  have s1 : Slots b (fun j => j = 3) w w1 := by rw [hw1]; exact (Slots.refl b _ w).setCell (p := ⟨b, 3, none⟩) _ (fun _ => rfl)
  have c1 : Chg (fun k => k = b) w w1 := by rw [hw1]; exact (Chg.refl (fun k => k = b) w).setCell (p := ⟨b, 3, none⟩) (fun _ => rfl) _
  have m1 : w1.cell? ⟨b, 3, none⟩ = some (.int .i32 1) := by rw [hw1]; exact World.cell?_setCell_same _ _ _ hm
  rw [← hw1] at hlk
  have hlk' : Calls Tryz.prog 33 #[.pointer (some ⟨b, 3, none⟩)] w fun e w' => e = .returned (.tuple #[]) ∧ w' = w1 := hlk
  have hF1 : FlowCells w1 b 6 E B V vk := ⟨fun i hi => (s1.cell _ (by omega)).trans (hF.ep i hi), fun i hi => (s1.cell _ (by omega)).trans (hF.ba i hi), fun i hi => (s1.cell _ (by omega)).trans (hF.qu i hi), (s1.cell _ (by omega)).trans hF.le⟩
  have hzp1 : w1.frozen? ⟨p, 0, none⟩ = false := (World.frozen?_of_block (c1.block p (World.block_lt_of_cell? _ _ hp) (fun e => hpb e.symm))).trans hzp
  have d1 := (s1.cell 2 (by omega)).trans hd
  have hcl := close1_any b r p c y w1 hF1 (c1.cellAt hr (fun e => hrb e.symm)) ((s1.cell 5 (by omega)).trans hc) (c1.cellAt hp (fun e => hpb e.symm)) hzp1 (fun j => (s1.frozen j).trans (hz j)) hrb hpb
  have hbl := boolLoad_any ⟨b, 2, none⟩ 0 w1 (.inl rfl) d1
  clear hw1 hlk
  go_enter_defers Tryz.func71, Tryz.ntmps71
  go_wp2_with (first | (go_at_call 33; refine hlk'.mono ?_; rintro _ w1a ⟨rfl, rfl⟩) | (go_at_call 70; refine hbl.mono ?_; rintro _ w1b ⟨rfl, rfl⟩) | (go_at_call 39; refine hcl.mono ?_; rintro _ w2 ⟨rfl, t1, t2, t3, t4⟩))
  have d2 : w2.cell? ⟨b, 2, none⟩ = some (.int .u32 0) := (t3.cell 2 (by omega)).trans d1
  have z2 : ∀ j, w2.frozen? ⟨b, j, none⟩ = false := fun j => (t3.frozen j).trans ((s1.frozen j).trans (hz j))
  have m2 : w2.cell? ⟨b, 3, none⟩ = some (.int .i32 1) := (t3.cell 3 (by omega)).trans m1
  refine leaves_cons (f := 102) (args := #[.pointer (some ⟨b, 2, none⟩), .bool true]) (by simp) (by kernel_rfl) ?_
  refine (boolStore_deferred ⟨b, 2, none⟩ (.int .u32 0) .returning _ d2 (z2 2)).mono ?_
  rintro e u' w3 ⟨rfl, rfl, hw3⟩
  have s3 : Slots b (fun j => j = 2) w2 w3 := by rw [hw3]; exact ((Slots.refl b (fun j => j = 2) w2).quiet ((Quiet.refl w2).drew)).setCell (p := ⟨b, 2, none⟩) _ (fun _ => rfl)
  have c3 : Chg (fun k => k = b) w2 w3 := by rw [hw3]; exact ((Chg.refl (fun k => k = b) w2).drew).setCell (p := ⟨b, 2, none⟩) (fun _ => rfl) _
  have d3 : w3.cell? ⟨b, 2, none⟩ = some (.int .u32 1) := by rw [hw3]; exact World.cell?_setCell_same _ _ _ (by rw [World.cell?_drew]; exact d2)
  have m3 := (s3.cell 3 (by omega)).trans m2
  have z3 := (s3.frozen 3).trans (z2 3)
  refine leaves_cons (f := 34) (args := #[.pointer (some ⟨b, 3, none⟩)]) (by simp [settle]) (by kernel_rfl) ?_
  refine (Go.MuLone.unlock_deferred Tryz.muLib ⟨b, 3, none⟩ _ _ m3 z3).mono ?_
  rintro e u' w4 ⟨rfl, rfl, hw4⟩
  have s4 : Slots b (fun j => j = 3) w3 w4 := by rw [hw4]; exact (Slots.refl b _ w3).setCell (p := ⟨b, 3, none⟩) _ (fun _ => rfl)
  have c4 : Chg (fun k => k = b) w3 w4 := by rw [hw4]; exact (Chg.refl (fun k => k = b) w3).setCell (p := ⟨b, 3, none⟩) (fun _ => rfl) _
  have m4 : w4.cell? ⟨b, 3, none⟩ = some (.int .i32 0) := by rw [hw4]; exact World.cell?_setCell_same _ _ _ m3
  refine ⟨.tuple #[], results_none rfl _ _ _, rfl, (s4.cell 2 (by omega)).trans d3, m4, (s4.cell 5 (by omega)).trans ((s3.cell 5 (by omega)).trans t1), c4.cellAt (c3.cellAt t2 (fun e => hpb e.symm)) (fun e => hpb e.symm), ?_, ?_⟩
  · exact (((s1.mono (fun j hj => by omega)).trans t3 (fun j hj => by omega)).trans s3 (fun j hj => by omega)).trans s4 (fun j hj => by omega)
  · exact (((c1.mono (fun k hk => .inl hk)).trans t4 (fun _ _ h => h)).trans c3 (fun _ _ h => .inl h)).trans c4 (fun _ _ h => .inl h)

set_option maxHeartbeats 400000 in
theorem do_first (b r p : Nat) (c : Bool) (y : Value) (w : World) {E B : Nat → Int} {V : Nat → Value} {vk : Value} (hF : FlowCells w b 6 E B V vk) (hr : w.cell? ⟨r, 0, none⟩ = some (.pointer (some ⟨b, 0, none⟩))) (hd : w.cell? ⟨b, 2, none⟩ = some (.int .u32 0)) (hm : w.cell? ⟨b, 3, none⟩ = some (.int .i32 0)) (hc : w.cell? ⟨b, 5, none⟩ = some (.bool c)) (hp : w.cell? ⟨p, 0, none⟩ = some y) (hzp : w.frozen? ⟨p, 0, none⟩ = false) (hz : ∀ j, w.frozen? ⟨b, j, none⟩ = false)
    (hrb : b ≠ r) (hpb : b ≠ p) :
    Calls Tryz.prog 38 #[.pointer (some ⟨b, 2, none⟩), .func (.func 39) #[] #[.pointer (some ⟨r, 0, none⟩), .pointer (some ⟨p, 0, none⟩)]] w fun e w' => e = .returned (.tuple #[]) ∧
      w'.cell? ⟨b, 2, none⟩ = some (.int .u32 1) ∧ w'.cell? ⟨b, 3, none⟩ = some (.int .i32 0) ∧ w'.cell? ⟨b, 5, none⟩ = some (.bool true) ∧ w'.cell? ⟨p, 0, none⟩ = some (.int .i64 0) ∧ Slots b (fun j => 2 ≤ j) w w' ∧ Chg (fun k => k = b ∨ k = p) w w' := by
  have hsl := slow_any b r p c y w hF hr hd hm hc hp hzp hz hrb hpb
  have hnot : ∀ (x : Bool) (w : World), (Op.unary .not (.bool x)).run Tryz.prog w = .ok (.bool (!x)) w := fun _ _ => rfl
  have hbl := boolLoad_any ⟨b, 2, none⟩ 0 w (.inl rfl) hd
  go_enter Tryz.func38, Tryz.ntmps38
  go_wp2_with (first | (go_at_call 70; refine hbl.mono ?_; rintro _ w1b ⟨rfl, rfl⟩) | (go_at_call 71; refine hsl.mono ?_; rintro _ w2 ⟨rfl, t⟩))
  go_end0
  exact ⟨rfl, t⟩

set_option maxHeartbeats 400000 in
theorem do_done (b : Nat) (f : Value) (w : World) (hd : w.cell? ⟨b, 2, none⟩ = some (.int .u32 1)) :
    Calls Tryz.prog 38 #[.pointer (some ⟨b, 2, none⟩), f] w fun e w' => e = .returned (.tuple #[]) ∧ w' = w := by
  have hnot : ∀ (x : Bool) (w : World), (Op.unary .not (.bool x)).run Tryz.prog w = .ok (.bool (!x)) w := fun _ _ => rfl
  have hbl := boolLoad_any ⟨b, 2, none⟩ 1 w (.inr rfl) hd
  go_enter Tryz.func38, Tryz.ntmps38
  go_wp2_with (go_at_call 70; refine hbl.mono ?_; rintro _ w1b ⟨rfl, rfl⟩)
  go_end0
  exact ⟨rfl, rfl⟩

end Go.Proofs.YtcgjdpdbojcoiaaGreat

/- The relay's calls, WALKED: Close. -/
namespace Go.Proofs.YtcgjdpdbojcoiaaGreat
set_option linter.unusedVariables false
set_option linter.unusedSimpArgs false
open Go.RowKit Go.Lib Go.Conc.Locks

set_option maxRecDepth 100000 in
set_option maxHeartbeats 1000000 in
theorem close_open {w : World} {b : Nat} {E B : Nat → Int} {V : Nat → Value} {vk : Value} (h : Head w b 0 false) (hF : FlowCells w b 6 E B V vk) :
    Calls Tryz.prog 20 #[.pointer (some ⟨b, 0, none⟩)] w fun e w' => e = .returned (.int .i64 0) ∧ Head w' b 1 true ∧ Chg (fun k => k = b) w w' := by
  have hbl : b < w.heap.size := World.block_lt_of_cell? _ _ h.mu
  have hne : ¬ w.heap.size = b := by omega
  have hmf : ∀ (fn : Fn) (first cap : Array Value) (w : World), (Instr.makeFunc fn first cap).run Tryz.prog w = .ok (.func fn first cap) w := fun _ _ _ _ => rfl
  have cW : Chg (fun _ => False) w (w.alloc (Obj.cells #[.pointer (some ⟨b, 0, none⟩)] 28)) := (Chg.refl _ w).alloc _
  have hW := h.chg cW id
  have hlk := lock_rel b _ hW.mu (hW.fz 0)
  go_enter_defers Tryz.func20, Tryz.ntmps20
  go_wp2_with (first | (go_at_call 33; refine hlk.mono ?_; rintro _ w1 ⟨rfl, h1⟩; have a0 := h1.chg.cellAt (World.cell?_alloc_at (w := w) #[.pointer (some ⟨b, 0, none⟩)] 28 w.heap.size 0 rfl) hne; have c12 : Chg (fun _ => False) w1 (w1.alloc (Obj.cells #[.int .i64 1] 39)) := (Chg.refl _ w1).alloc _; have a1 := c12.cellAt a0 id; simp only [List.getElem_toArray, List.getElem_cons_zero, List.getElem_cons_succ] at a0 a1; clear hlk) | (go_at_call 38; have hbl1 : b < w1.heap.size := Nat.lt_of_lt_of_le (Nat.lt_of_lt_of_le hbl cW.size) h1.chg.size; have s02 := h1.slots.trans (Slots.of_chg (fun j => j = 0) c12 hbl1 id) (fun j hj => hj); have hFW := (hF.chg cW id); have hF2 : FlowCells (w1.alloc (Obj.cells #[.int .i64 1] 39)) b 6 E B V vk := ⟨fun i hi => (s02.cell _ (by omega)).trans (hFW.ep i hi), fun i hi => (s02.cell _ (by omega)).trans (hFW.ba i hi), fun i hi => (s02.cell _ (by omega)).trans (hFW.qu i hi), (s02.cell _ (by omega)).trans hFW.le⟩; have hdo := do_first b w.heap.size w1.heap.size false (.int .i64 1) (w1.alloc (Obj.cells #[.int .i64 1] 39)) hF2 a1 ((s02.cell 2 (by omega)).trans hW.dn) ((s02.cell 3 (by omega)).trans hW.om) ((s02.cell 5 (by omega)).trans hW.cl) (World.cell?_alloc_at _ _ _ _ rfl) (World.frozen?_alloc_at _ _ _ _ rfl) (fun j => (s02.frozen j).trans (hW.fz j)) (fun e => hne e.symm) (by omega); refine hdo.mono ?_; rintro _ w3 ⟨rfl, t2, t3, t5, tp, ts, tc⟩))
  have m1 := h1.cell hW.mu
  have m3 : w3.cell? ⟨b, 0, none⟩ = some (.int .i32 1) := (ts.cell 0 (by omega)).trans (c12.cellAt m1 id)
  have z3 : ∀ j, w3.frozen? ⟨b, j, none⟩ = false := fun j => (ts.frozen j).trans ((s02.frozen j).trans (hW.fz j))
  have sl : Slots b (fun j => j = 0) w3 (w3.setCell ⟨b, 0, none⟩ (.int .i32 0)) := (Slots.refl b _ w3).setCell (p := ⟨b, 0, none⟩) _ (fun _ => rfl)
  have hsz : w.heap.size ≤ w1.heap.size := Nat.le_trans cW.size h1.chg.size
  refine door (v := .int .i64 0) m3 (z3 0) ?_ ⟨rfl, ⟨World.cell?_setCell_same _ _ _ m3, (sl.cell 2 (by omega)).trans t2, (sl.cell 3 (by omega)).trans t3, (sl.cell 5 (by omega)).trans t5, fun j => (sl.frozen j).trans (z3 j)⟩, ?_⟩
  · simp [results, Tryz.results20, go_sem]
  · exact ((((cW.mono (fun _ h => h.elim)).trans h1.chg (fun _ _ h => h)).trans c12 (fun _ _ h => h.elim)).trans tc (fun n hn h => by rcases h with h | h <;> omega)).setCell (p := ⟨b, 0, none⟩) (fun _ => rfl) _

set_option maxRecDepth 100000 in
set_option maxHeartbeats 1000000 in
theorem close_done {w : World} {b : Nat} (h : Head w b 1 true) :
    Calls Tryz.prog 20 #[.pointer (some ⟨b, 0, none⟩)] w fun e w' => e = .returned (.int .i64 1) ∧ Head w' b 1 true ∧ Chg (fun k => k = b) w w' := by
  have hbl : b < w.heap.size := World.block_lt_of_cell? _ _ h.mu
  have hne : ¬ w.heap.size = b := by omega
  have hmf : ∀ (fn : Fn) (first cap : Array Value) (w : World), (Instr.makeFunc fn first cap).run Tryz.prog w = .ok (.func fn first cap) w := fun _ _ _ _ => rfl
  have cW : Chg (fun _ => False) w (w.alloc (Obj.cells #[.pointer (some ⟨b, 0, none⟩)] 28)) := (Chg.refl _ w).alloc _
  have hW := h.chg cW id
  have hlk := lock_rel b _ hW.mu (hW.fz 0)
  go_enter_defers Tryz.func20, Tryz.ntmps20
  go_wp2_with (first | (go_at_call 33; refine hlk.mono ?_; rintro _ w1 ⟨rfl, h1⟩; have a0 := h1.chg.cellAt (World.cell?_alloc_at (w := w) #[.pointer (some ⟨b, 0, none⟩)] 28 w.heap.size 0 rfl) hne; have c12 : Chg (fun _ => False) w1 (w1.alloc (Obj.cells #[.int .i64 1] 39)) := (Chg.refl _ w1).alloc _; have a1 := c12.cellAt a0 id; simp only [List.getElem_toArray, List.getElem_cons_zero, List.getElem_cons_succ] at a0 a1; clear hlk) | (go_at_call 38; have hbl1 : b < w1.heap.size := Nat.lt_of_lt_of_le (Nat.lt_of_lt_of_le hbl cW.size) h1.chg.size; have s02 := h1.slots.trans (Slots.of_chg (fun j => j = 0) c12 hbl1 id) (fun j hj => hj); have hdo := fun f => do_done b f (w1.alloc (Obj.cells #[.int .i64 1] 39)) ((s02.cell 2 (by omega)).trans hW.dn); refine (hdo _).mono ?_; rintro _ w3 ⟨rfl, rfl⟩))
  have m1 := h1.cell hW.mu
  have m3 := c12.cellAt m1 id
  have z3 := (s02.frozen 0).trans (hW.fz 0)
  refine door (v := .int .i64 1) m3 z3 ?_ ⟨rfl, hW.back s02 (fun j hj => .inl hj) m3, ?_⟩
  · simp [results, Tryz.results20, go_sem]
  · exact (((cW.mono (fun _ h => h.elim)).trans h1.chg (fun _ _ h => h)).trans c12 (fun _ _ h => h.elim)).setCell (p := ⟨b, 0, none⟩) (fun _ => rfl) _

def closedErr (c : Bool) : Int := if c then 1 else 0

set_option maxHeartbeats 400000 in
theorem check_any {w : World} {b : Nat} {d : Int} {c : Bool} (h : Head w b d c) :
    Calls Tryz.prog 67 #[.pointer (some ⟨b, 0, none⟩)] w fun e w' => e = .returned (.int .i64 (closedErr c)) ∧ Head w' b d c ∧ Slots b (fun j => j = 0) w w' ∧ Chg (fun k => k = b) w w' := by
  have hlk := lock_rel b _ h.mu (h.fz 0)
  cases c with
  | true =>
    go_enter_defers Tryz.func67, Tryz.ntmps67
    go_wp2_with (go_at_call 33; refine hlk.mono ?_; rintro _ w1 ⟨rfl, h1⟩; have c5 := (h1.slots.cell 5 (by omega)).trans h.cl)
    refine door (v := .int .i64 1) (h1.cell h.mu) ((h1.slots.frozen 0).trans (h.fz 0)) ?_ ⟨rfl, h.back h1.slots (fun j hj => .inl hj) (h1.cell h.mu), h1.slots.setCell (p := ⟨b, 0, none⟩) _ (fun _ => rfl), h1.chg.setCell (p := ⟨b, 0, none⟩) (fun _ => rfl) _⟩
    simp [results, Tryz.results67, go_sem]
  | false =>
    go_enter_defers Tryz.func67, Tryz.ntmps67
    go_wp2_with (go_at_call 33; refine hlk.mono ?_; rintro _ w1 ⟨rfl, h1⟩; have c5 := (h1.slots.cell 5 (by omega)).trans h.cl)
    refine door (v := .int .i64 0) (h1.cell h.mu) ((h1.slots.frozen 0).trans (h.fz 0)) ?_ ⟨rfl, h.back h1.slots (fun j hj => .inl hj) (h1.cell h.mu), h1.slots.setCell (p := ⟨b, 0, none⟩) _ (fun _ => rfl), h1.chg.setCell (p := ⟨b, 0, none⟩) (fun _ => rfl) _⟩
    simp [results, Tryz.results67, go_sem]

end Go.Proofs.YtcgjdpdbojcoiaaGreat

/- THE PROGRAM'S RELAY IS THE DOCUMENT'S. -/
namespace Go.Proofs.YtcgjdpdbojcoiaaGreat
set_option linter.unusedVariables false
set_option linter.unusedSimpArgs false
open Go.RowKit Go.Lib Go.Conc.Locks

def RelCase (w : World) (b : Nat) (F : Nat → Prop) : Option St → Prop
  | none => Head w b 1 true
  | some s => Head w b 0 false ∧ ∃ E B V vk Q ks, FlowAt w 0 b 6 E B V vk Q ks ∧ FlowFit E B Q ks ∧ Ties E B Q ks s ∧ ∀ k, Rows V vk k → F k

/-- A relay in memory. -/
def RelAt (w : World) (a : Addr) (o : Option St) (F : Nat → Prop) : Prop := ∃ b, a = ⟨b, 0, none⟩ ∧ F b ∧ (∀ k, F k → k < w.heap.size) ∧ RelCase w b F o

theorem row_same {w w' : World} {b : Nat} {e : TypeId} {n m : Nat} {v : Value} {xs : List Value} (hr : w.ownsRow b e n v m xs) (h : ∀ k, v.ownBlock = some k → w'.heap[k]? = w.heap[k]?) : w'.ownsRow b e n v m xs := by
  refine ⟨hr.1, ?_⟩
  rcases hr.2 with hn | ⟨g, cap, cur, hv, hb, hg, r⟩
  · exact .inl hn
  · exact .inr ⟨g, cap, cur, hv, hb, (h g (by rw [hv]; rfl)).trans hg, r⟩

theorem Head.same {w w' : World} {b : Nat} {d : Int} {c : Bool} (h : Head w b d c) (hb : w'.heap[b]? = w.heap[b]?) : Head w' b d c :=
  ⟨(World.cell?_of_block (w := w) hb).trans h.mu, (World.cell?_of_block (w := w) hb).trans h.dn, (World.cell?_of_block (w := w) hb).trans h.om, (World.cell?_of_block (w := w) hb).trans h.cl, fun j => (World.frozen?_of_block (w := w) hb).trans (h.fz j)⟩

theorem FlowAt.same {w w' : World} {b o : Nat} {E B : Nat → Int} {V : Nat → Value} {vk : Value} {Q : Nat → List Wt} {ks : List Ky} (h : FlowAt w 0 b o E B V vk Q ks) (hb : w'.heap[b]? = w.heap[b]?) (hr : ∀ k, Rows V vk k → w'.heap[k]? = w.heap[k]?) : FlowAt w' 0 b o E B V vk Q ks :=
  ⟨⟨fun i hi => (World.cell?_of_block (w := w) hb).trans (h.cells.ep i hi), fun i hi => (World.cell?_of_block (w := w) hb).trans (h.cells.ba i hi), fun i hi => (World.cell?_of_block (w := w) hb).trans (h.cells.qu i hi), (World.cell?_of_block (w := w) hb).trans h.cells.le⟩,
   fun j => (World.frozen?_of_block (w := w) hb).trans (h.froz j), fun i hi => row_same (h.rows i hi) (fun k hk => hr k (.inl ⟨i, hi, hk⟩)), row_same h.keys (fun k hk => hr k (.inr hk)), h.own, h.ownk, h.sep, h.sepk, Nat.zero_le _⟩

theorem rel_lt {w : World} {a : Addr} {o : Option St} {F : Nat → Prop} {k : Nat} (h : RelAt w a o F) (hk : F k) : k < w.heap.size := by
  obtain ⟨b, _, _, h1, _⟩ := h
  exact h1 k hk

theorem rel_stable {w w' : World} {a : Addr} {o : Option St} {F : Nat → Prop} (h : RelAt w a o F) (hs : ∀ k, F k → w'.heap[k]? = w.heap[k]?) : RelAt w' a o F := by
  obtain ⟨b, rfl, hb, h1, h2⟩ := h
  refine ⟨b, rfl, hb, fun k hk => ?_, ?_⟩
  · have e := hs k hk
    rw [Array.getElem?_eq_getElem (h1 k hk)] at e
    exact (Array.getElem?_eq_some_iff.1 e).1
  · cases o with
    | none => exact Head.same h2 (hs b hb)
    | some s =>
      obtain ⟨h3, E, B, V, vk, Q, ks, h4, h5, h6, h7⟩ := h2
      exact ⟨h3.same (hs b hb), E, B, V, vk, Q, ks, h4.same (hs b hb) (fun k hk => hs k (h7 k hk)), h5, h6, h7⟩

theorem rel_new (w : World) : Calls Tryz.prog 11 #[] w fun e w' => ∃ a F, e = .returned (.pointer (some a)) ∧ RelAt w' a (some St.init) F ∧ (∀ k, F k → w.heap.size ≤ k) ∧ Chg (fun _ => False) w w' := by
  refine (New_cells w).mono ?_
  rintro e w' ⟨rfl, hw⟩
  refine ⟨_, fun k => k = w.heap.size, rfl, ⟨w.heap.size, rfl, rfl, fun k hk => by rw [hw, World.size_alloc]; omega, ?_, fun _ => 0, fun _ => 0, fun _ => .slice none 0 0, .slice none 0 0, fun _ => [], [], ?_, ?_, ?_, ?_⟩, fun k hk => by omega, by rw [hw]; exact (Chg.refl _ w).alloc _⟩
  · rw [hw]
    exact ⟨World.cell?_alloc_at _ _ _ _ rfl, World.cell?_alloc_at _ _ _ _ rfl, World.cell?_alloc_at _ _ _ _ rfl, World.cell?_alloc_at _ _ _ _ rfl, fun j => World.frozen?_alloc_at _ _ _ _ rfl⟩
  · rw [hw]
    refine ⟨⟨fun i hi => ?_, fun i hi => ?_, fun i hi => ?_, World.cell?_alloc_at _ _ _ _ rfl⟩, fun j => World.frozen?_alloc_at _ _ _ _ rfl, fun i hi => World.ownsRow_nil _ _ _ _, World.ownsRow_nil _ _ _ _, fun i hi => by simp [Value.ownBlock], by simp [Value.ownBlock], fun i j _ _ _ g hg => by simp [Value.ownBlock] at hg, fun i _ g hg => by simp [Value.ownBlock] at hg, Nat.zero_le _⟩
    · rcases (by omega : i = 0 ∨ i = 1 ∨ i = 2 ∨ i = 3) with rfl | rfl | rfl | rfl <;> exact World.cell?_alloc_at _ _ _ _ rfl
    · rcases (by omega : i = 0 ∨ i = 1 ∨ i = 2 ∨ i = 3) with rfl | rfl | rfl | rfl <;> exact World.cell?_alloc_at _ _ _ _ rfl
    · rcases (by omega : i = 0 ∨ i = 1 ∨ i = 2 ∨ i = 3) with rfl | rfl | rfl | rfl <;> exact World.cell?_alloc_at _ _ _ _ rfl
  · exact ⟨fun i hi => by simp, by simp, ⟨List.Pairwise.nil, by simp, by simp, by simp, by simp [counts, qLens]⟩, fun i hi => by simp [counts], fun i hi x hx => by simp at hx⟩
  · refine ⟨rfl, rfl, fun i hi => ⟨Ln.init, ?_, rfl, rfl, List.Pairwise.nil, .refl _, trivial, by simp [Ln.init]⟩, fun i hi => by simp, by simp [St.names, St.init, Ln.init, distinct], by simp⟩
    rcases (by omega : i = 0 ∨ i = 1 ∨ i = 2 ∨ i = 3) with rfl | rfl | rfl | rfl <;> rfl
  · intro k hk
    rcases hk with ⟨i, _, hk⟩ | hk <;> simp [Value.ownBlock] at hk

theorem rel_accept {w : World} {a : Addr} {o : Option St} {F : Nat → Prop} (x : Rec) (h : RelAt w a o F) (hx : x.fits) : Calls Tryz.prog 14 #[.pointer (some a), x.value'] w fun e w' =>
    ∃ F', e = .returned (.tuple #[.int .i64 (accept? o x).1.1, .int .i64 (accept? o x).1.2]) ∧ RelAt w' a (accept? o x).2 F' ∧ (∀ k, F' k → F k ∨ w.heap.size ≤ k) ∧ Chg F w w' := by
  obtain ⟨b, rfl, hb, h1, h2⟩ := h
  cases o with
  | none =>
    refine (accept_closed b x w h2).mono ?_
    rintro e w' ⟨rfl, g1, g2⟩
    exact ⟨F, rfl, ⟨b, rfl, hb, fun k hk => Nat.lt_of_lt_of_le (h1 k hk) g2.size, g1⟩, fun k hk => .inl hk, g2.mono (fun k hk => by rw [hk]; exact hb)⟩
  | some s =>
    obtain ⟨h3, E, B, V, vk, Q, ks, h4, h5, h6, h7⟩ := h2
    obtain ⟨t1, t2, t3⟩ := accept_tie h6 h5 x hx
    refine (accept_open h3 h4 h5 x hx).mono ?_
    rintro e w' ⟨rfl, g1, V', vk', g2, g3, g4⟩
    refine ⟨fun k => F k ∨ (w.heap.size ≤ k ∧ k < w'.heap.size), by simp only [accept?]; rw [t1], ⟨b, rfl, .inl hb, fun k hk => ?_, g1, _, _, V', vk', _, _, g2, t3, t2, fun k hk => ?_⟩, fun k hk => hk.imp id (fun h => h.1), g4.mono (fun k hk => ?_)⟩
    · rcases hk with hk | hk
      · exact Nat.lt_of_lt_of_le (h1 k hk) g4.size
      · exact hk.2
    · have hlt : k < w'.heap.size := by
        rcases hk with ⟨i, hi, hk⟩ | hk
        · exact ((g2.rows i hi).lt k hk).2
        · exact (g2.keys.lt k hk).2
      rcases g3 k hk with h | h
      · exact .inl (h7 k h)
      · exact .inr ⟨h, hlt⟩
    · rcases hk with rfl | hk
      · exact hb
      · exact h7 k hk

theorem rel_close {w : World} {a : Addr} {o : Option St} {F : Nat → Prop} (h : RelAt w a o F) : Calls Tryz.prog 20 #[.pointer (some a)] w fun e w' =>
    e = .returned (.int .i64 (errno? o)) ∧ RelAt w' a none F ∧ Chg F w w' := by
  obtain ⟨b, rfl, hb, h1, h2⟩ := h
  cases o with
  | none =>
    refine (close_done h2).mono ?_
    rintro e w' ⟨rfl, g1, g2⟩
    exact ⟨rfl, ⟨b, rfl, hb, fun k hk => Nat.lt_of_lt_of_le (h1 k hk) g2.size, g1⟩, g2.mono (fun k hk => by rw [hk]; exact hb)⟩
  | some s =>
    obtain ⟨h3, E, B, V, vk, Q, ks, h4, h5, h6, h7⟩ := h2
    refine (close_open h3 h4.cells).mono ?_
    rintro e w' ⟨rfl, g1, g2⟩
    exact ⟨rfl, ⟨b, rfl, hb, fun k hk => Nat.lt_of_lt_of_le (h1 k hk) g2.size, g1⟩, g2.mono (fun k hk => by rw [hk]; exact hb)⟩

theorem rel_state {w : World} {a : Addr} {o : Option St} {F : Nat → Prop} (h : RelAt w a o F) : Calls Tryz.prog 18 #[.pointer (some a)] w fun e w' =>
    ∃ vs vk, e = .returned (.tuple #[.agg #[vs, vk], .int .i64 (errno? o)]) ∧ StateAt w' w.heap.size vs vk (state? o) ∧ RelAt w' a o F ∧ Chg F w w' := by
  obtain ⟨b, rfl, hb, h1, h2⟩ := h
  cases o with
  | none =>
    refine (state_closed b w h2).mono ?_
    rintro e w' ⟨rfl, g1, g2⟩
    exact ⟨_, _, rfl, ⟨⟨[], rfl, World.ownsRow_nil _ _ _ _, fun i l u hl => by simp [state?] at hl⟩, World.ownsRow_nil _ _ _ _⟩, ⟨b, rfl, hb, fun k hk => Nat.lt_of_lt_of_le (h1 k hk) g2.size, g1⟩, g2.mono (fun k hk => by rw [hk]; exact hb)⟩
  | some s =>
    obtain ⟨h3, E, B, V, vk, Q, ks, h4, h5, h6, h7⟩ := h2
    refine (state_open h3 h4 (fun i hi => by have := h5.ql i hi; omega) h5.kl).mono ?_
    rintro e w' ⟨vs, vk', U, rfl, g1, g2, g3, g4, g5, g6⟩
    refine ⟨vs, vk', rfl, ⟨⟨[U 0, U 1, U 2, U 3], ?_, ?_, fun i l u hl hu => ?_⟩, ?_⟩, ⟨b, rfl, hb, fun k hk => Nat.lt_of_lt_of_le (h1 k hk) g6.size, g4, E, B, V, vk, Q, ks, g5, h5, h6, h7⟩, g6.mono (fun k hk => by rw [hk]; exact hb)⟩
    · simp [state?, h6.four]
    · obtain ⟨l0, c0, p0⟩ := h6.lane 0 (by omega)
      obtain ⟨l1, c1, p1⟩ := h6.lane 1 (by omega)
      obtain ⟨l2, c2, p2⟩ := h6.lane 2 (by omega)
      obtain ⟨l3, c3, p3⟩ := h6.lane 3 (by omega)
      have h4' := h6.four
      simp only [state?]
      match hs : s.lanes, h4' with
      | [x0, x1, x2, x3], _ =>
        rw [hs] at c0 c1 c2 c3
        simp at c0 c1 c2 c3
        subst c0 c1 c2 c3
        simpa [sessCells, sessU, p0.ep, p0.ba, p1.ep, p1.ba, p2.ep, p2.ba, p3.ep, p3.ba] using g1
    · have hi : i < 4 := by
        have := (List.getElem?_eq_some_iff.1 hl).1
        simp only [state?] at this
        rw [h6.four] at this
        exact this
      have hu' : u = U i := by
        rcases (by omega : i = 0 ∨ i = 1 ∨ i = 2 ∨ i = 3) with rfl | rfl | rfl | rfl <;> simp at hu <;> exact hu.symm
      obtain ⟨l', c, p⟩ := h6.lane i hi
      have : l' = l := by simp only [state?] at hl; rw [hl] at c; exact (Option.some.inj c).symm
      subst this
      have := g2 i hi
      rw [nums_tie p.up p.perm, p.perm.length_eq] at this
      rw [hu']
      unfold ints' at this
      rw [List.map_map] at this
      exact this
    · simp only [state?]
      rw [h6.keys]; exact g3

/-- The program's calls are the document's. -/
theorem rel_fine {w : World} {a : Addr} {s : St} {F : Nat → Prop} (h : RelAt w a (some s) F) : s.fine := by
  obtain ⟨b, _, _, _, h⟩ := h
  obtain ⟨_, E, B, V, vk, Q, ks, _, h5, h6, _⟩ := h
  exact h6.fine h5

theorem api : Api RelAt := ⟨rel_lt, rel_stable, rel_fine, rel_new, fun x h hx => rel_accept x h hx, rel_state, rel_close⟩

end Go.Proofs.YtcgjdpdbojcoiaaGreat

/- The relay's Puts and Answer, WALKED. -/
namespace Go.Proofs.YtcgjdpdbojcoiaaGreat
set_option linter.unusedVariables false
set_option linter.unusedSimpArgs false
open Go.RowKit Go.Lib Go.Conc.Locks

set_option maxHeartbeats 400000 in
theorem puts_closed (b : Nat) (w : World) (h : Head w b 1 true) :
    Calls Tryz.prog 22 #[.pointer (some ⟨b, 0, none⟩)] w fun e w' => e = .returned (.tuple #[.slice none 0 0, .int .i64 1]) ∧ Head w' b 1 true ∧ Chg (fun k => k = b) w w' := by
  have hlk := lock_rel b _ h.mu (h.fz 0)
  go_enter_defers Tryz.func22, Tryz.ntmps22
  go_wp2_with (go_at_call 33; refine hlk.mono ?_; rintro _ w1 ⟨rfl, h1⟩; have c5 := (h1.slots.cell 5 (by omega)).trans h.cl)
  refine door (v := .tuple #[.slice none 0 0, .int .i64 1]) (h1.cell h.mu) ((h1.slots.frozen 0).trans (h.fz 0)) ?_ ⟨rfl, h.back h1.slots (fun j hj => .inl hj) (h1.cell h.mu), h1.chg.setCell (p := ⟨b, 0, none⟩) (fun _ => rfl) _⟩
  simp [results, Tryz.results22, go_sem]

set_option maxHeartbeats 400000 in
theorem answer_closed (b : Nat) (key : ByteArray) (n : Int) (w : World) (h : Head w b 1 true) :
    Calls Tryz.prog 24 #[.pointer (some ⟨b, 0, none⟩), .string key, .int .i64 n] w fun e w' => e = .returned (.int .i64 1) ∧ Head w' b 1 true ∧ Chg (fun k => k = b) w w' := by
  have hlk := lock_rel b _ h.mu (h.fz 0)
  go_enter_defers Tryz.func24, Tryz.ntmps24
  go_wp2_with (go_at_call 33; refine hlk.mono ?_; rintro _ w1 ⟨rfl, h1⟩; have c5 := (h1.slots.cell 5 (by omega)).trans h.cl)
  refine door (v := .int .i64 1) (h1.cell h.mu) ((h1.slots.frozen 0).trans (h.fz 0)) ?_ ⟨rfl, h.back h1.slots (fun j hj => .inl hj) (h1.cell h.mu), h1.chg.setCell (p := ⟨b, 0, none⟩) (fun _ => rfl) _⟩
  simp [results, Tryz.results24, go_sem]

set_option maxRecDepth 100000 in
set_option maxHeartbeats 1000000 in
theorem puts_open {w : World} {lo b : Nat} {E B : Nat → Int} {V : Nat → Value} {vk : Value} {Q : Nat → List Wt} {ks : List Ky} (h : Head w b 0 false) (hF : FlowAt w lo b 6 E B V vk Q ks) (hk : ks.length ≤ 4) :
    Calls Tryz.prog 22 #[.pointer (some ⟨b, 0, none⟩)] w fun e w' => ∃ vp, e = .returned (.tuple #[vp, .int .i64 0]) ∧ w'.ownsRow w.heap.size 71 3 vp (putsOf ks).length (putCells (putsOf ks)) ∧
      Head w' b 0 false ∧ FlowAt w' lo b 6 E B V vk Q ks ∧ Chg (fun k => k = b) w w' := by
  have hbl : b < w.heap.size := World.block_lt_of_cell? _ _ h.mu
  have hlk := lock_rel b _ h.mu (h.fz 0)
  go_enter_defers Tryz.func22, Tryz.ntmps22
  go_wp2_with (go_at_call 33; refine hlk.mono ?_; rintro _ w1 ⟨rfl, h1⟩; have c5 := (h1.slots.cell 5 (by omega)).trans h.cl; have hF1 := hF.beside h1.slots (fun j hj => .inl (by omega)) h1.chg)
  have hpt := flowPuts_any hF1 hk
  go_wp2_with (go_at_call 40; refine hpt.mono ?_; rintro _ w2 ⟨vp, rfl, r1, c12⟩; obtain ⟨pp, cp, rfl⟩ := row_any r1)
  have hz01 := h1.chg.size
  have hbl1 : b < w1.heap.size := by omega
  have s12 : Slots b (fun j => j = 0) w1 w2 := Slots.of_chg _ c12 hbl1 id
  have m1 := h1.cell h.mu
  have m2 := c12.cellAt m1 id
  have sall := h1.slots.trans s12 (fun j hj => hj)
  have z2 := (sall.frozen 0).trans (h.fz 0)
  have s23 : Slots b (fun j => j = 0) w2 (w2.setCell ⟨b, 0, none⟩ (.int .i32 0)) := (Slots.refl b _ w2).setCell (p := ⟨b, 0, none⟩) _ (fun _ => rfl)
  have g3 : Chg (fun k => k = b) w2 (w2.setCell ⟨b, 0, none⟩ (.int .i32 0)) := (Chg.refl (fun k => k = b) w2).setCell (p := ⟨b, 0, none⟩) (fun _ => rfl) _
  have hF2 := hF1.chg hbl1 c12 id (fun _ _ _ _ => id) (fun _ _ => id)
  refine door (v := .tuple #[.slice pp (putsOf ks).length cp, .int .i64 0]) m2 z2 ?_ ⟨_, rfl, ?_, h.back sall (fun j hj => .inl hj) m2, hF2.beside s23 (fun j hj => .inl (by omega)) g3, ?_⟩
  · simp [results, Tryz.results22, go_sem]
  · exact row_lower (g3.row r1 (fun k hk => .inl (by omega))) hz01
  · exact (h1.chg.trans c12 (fun _ _ h => h.elim)).trans g3 (fun _ _ h => h)

theorem FlowAt.held {w w' : World} {lo b o : Nat} {E B : Nat → Int} {V : Nat → Value} {vk : Value} {Q : Nat → List Wt} {ks ks' : List Ky} (h : FlowAt w lo b o E B V vk Q ks) (hc : Chg (fun k => vk.ownBlock = some k) w w') (hr : w'.ownsRow lo 60 4 vk ks'.length (keyCells ks')) : FlowAt w' lo b o E B V vk Q ks' := by
  have hbl : b < w.heap.size := World.block_lt_of_cell? _ _ h.cells.le
  exact ⟨⟨fun i hi => hc.cellAt (h.cells.ep i hi) h.ownk, fun i hi => hc.cellAt (h.cells.ba i hi) h.ownk, fun i hi => hc.cellAt (h.cells.qu i hi) h.ownk, hc.cellAt h.cells.le h.ownk⟩,
    fun j => (World.frozen?_of_block (w := w) (hc.block b hbl h.ownk)).trans (h.froz j), fun i hi => hc.row' (h.rows i hi) (fun k hk e => h.sepk i hi k hk e), hr, h.own, h.ownk, h.sep, h.sepk, Nat.le_trans h.low hc.size⟩

set_option maxRecDepth 100000 in
set_option maxHeartbeats 1000000 in
theorem answer_open {w : World} {lo b : Nat} {E B : Nat → Int} {V : Nat → Value} {vk : Value} {Q : Nat → List Wt} {ks : List Ky} (h : Head w b 0 false) (hF : FlowAt w lo b 6 E B V vk Q ks) (hs : Sorted ks) (hk : ks.length ≤ 4) (hc : ∀ k ∈ ks, 0 ≤ k.held ∧ k.held ≤ k.count ∧ k.count ≤ 1000) (key : ByteArray) (n : Int) (hkey : key.size ≤ maxLen) (hn : inInt n) :
    Calls Tryz.prog 24 #[.pointer (some ⟨b, 0, none⟩), .string key, .int .i64 n] w fun e w' => e = .returned (.int .i64 (ansF ks key n).1) ∧ Head w' b 0 false ∧ FlowAt w' lo b 6 E B V vk Q (ansF ks key n).2 ∧ Chg (fun k => k = b ∨ vk.ownBlock = some k) w w' := by
  have hbl : b < w.heap.size := World.block_lt_of_cell? _ _ h.mu
  have hlk := lock_rel b _ h.mu (h.fz 0)
  have hfa := fun (W : World) (hF : FlowAt W lo b 6 E B V vk Q ks) => flowAnswer_any hF hs hk hc key n hkey hn
  obtain ⟨r, hr⟩ : ∃ r, r = ansF ks key n := ⟨_, rfl⟩
  rw [← hr] at hfa ⊢
  obtain ⟨r1, r2⟩ := r
  simp only at hfa ⊢
  clear hr
  go_enter_defers Tryz.func24, Tryz.ntmps24
  go_wp2_with (go_at_call 33; refine hlk.mono ?_; rintro _ w1 ⟨rfl, h1⟩; have c5 := (h1.slots.cell 5 (by omega)).trans h.cl; have hF1 := hF.beside h1.slots (fun j hj => .inl (by omega)) h1.chg)
  have hfa1 := hfa w1 hF1
  go_wp2_with (go_at_call 41; refine hfa1.mono ?_; rintro _ w2 ⟨rfl, q1, c12⟩)
  have hz01 := h1.chg.size
  have hbl1 : b < w1.heap.size := by omega
  have s12 : Slots b (fun j => j = 0) w1 w2 := Slots.of_chg _ c12 hbl1 hF.ownk
  have m1 := h1.cell h.mu
  have m2 := c12.cellAt m1 hF.ownk
  have sall := h1.slots.trans s12 (fun j hj => hj)
  have z2 := (sall.frozen 0).trans (h.fz 0)
  have s23 : Slots b (fun j => j = 0) w2 (w2.setCell ⟨b, 0, none⟩ (.int .i32 0)) := (Slots.refl b _ w2).setCell (p := ⟨b, 0, none⟩) _ (fun _ => rfl)
  have g3 : Chg (fun k => k = b) w2 (w2.setCell ⟨b, 0, none⟩ (.int .i32 0)) := (Chg.refl (fun k => k = b) w2).setCell (p := ⟨b, 0, none⟩) (fun _ => rfl) _
  have hF2 := hF1.held c12 q1
  refine door (v := .int .i64 r1) m2 z2 ?_ ⟨rfl, h.back sall (fun j hj => .inl hj) m2, hF2.beside s23 (fun j hj => .inl (by omega)) g3, ?_⟩
  · simp [results, Tryz.results24, go_sem]
  · exact (((h1.chg.mono (fun k hk => .inl hk)).trans c12 (fun _ _ h => .inr h)).trans g3 (fun _ _ h => .inl h))

theorem hold_names (name : ByteArray) (n : Int) : ∀ ks : List Ky, (holdKy name n ks).map (·.name) = ks.map (·.name)
  | [] => rfl
  | x :: r => by
    unfold holdKy
    split
    · rfl
    · simp [hold_names name n r]

theorem hold_mem (name : ByteArray) (n : Int) : ∀ (ks : List Ky) (k : Ky), k ∈ holdKy name n ks → ∃ y ∈ ks, k.name = y.name ∧ k.count = y.count ∧ k.fold = y.fold ∧ (k.held = y.held ∨ (y.name = name ∧ k.held = max y.held n))
  | [], k, h => by simp [holdKy] at h
  | x :: r, k, h => by
    unfold holdKy at h
    split at h
    · rename_i e
      rcases List.mem_cons.1 h with h | h
      · subst h
        exact ⟨x, by simp, rfl, rfl, rfl, .inr ⟨e, rfl⟩⟩
      · exact ⟨k, by simp [h], rfl, rfl, rfl, .inl rfl⟩
    · rcases List.mem_cons.1 h with h | h
      · subst h
        exact ⟨k, by simp, rfl, rfl, rfl, .inl rfl⟩
      · obtain ⟨y, h1, h2⟩ := hold_mem name n r k h
        exact ⟨y, by simp [h1], h2⟩

theorem hold_sorted (name : ByteArray) (n : Int) {ks : List Ky} (h : Sorted ks) : Sorted (holdKy name n ks) := by
  have e : ∀ l : List Ky, Sorted l ↔ (l.map (·.name)).Pairwise (fun a b => less a b = true) := fun l => by
    unfold Sorted; rw [List.pairwise_map]
  rw [e, hold_names]
  exact (e ks).1 h

theorem findKy_in {name : ByteArray} : ∀ {ks : List Ky} {k : Ky}, findKy name ks = some k → k ∈ ks ∧ k.name = name
  | [], k, h => by simp [findKy] at h
  | x :: r, k, h => by
    unfold findKy at h
    split at h
    · rename_i e
      have := Option.some.inj h
      subst this
      exact ⟨by simp, e⟩
    · obtain ⟨h1, h2⟩ := findKy_in h
      exact ⟨by simp [h1], h2⟩

theorem hold_len (name : ByteArray) (n : Int) (ks : List Ky) : (holdKy name n ks).length = ks.length := by
  have := congrArg List.length (hold_names name n ks)
  simpa using this

/-- What an Answer makes of a flow's numbers. -/
theorem ansF_fit {E B : Nat → Int} {Q : Nat → List Wt} {ks : List Ky} {s : St} (h : Ties E B Q ks s) (hf : FlowFit E B Q ks) (key : ByteArray) (n : Int) :
    (answer s key n).1 = (ansF ks key n).1 ∧ FlowFit E B Q (ansF ks key n).2 ∧ Ties E B Q (ansF ks key n).2 (answer s key n).2 := by
  unfold Go.Proofs.YtcgjdpdbojcoiaaGreat.answer ansF
  rw [h.keys]
  by_cases hok : okKey key = false
  · rw [if_pos hok, if_pos hok]
    exact ⟨rfl, hf, h⟩
  · rw [if_neg hok, if_neg hok]
    cases hk : findKy key ks with
    | none => exact ⟨rfl, hf, h⟩
    | some k =>
      simp only
      by_cases hb : n < 0 ∨ k.count < n
      · rw [if_pos hb, if_pos hb]
        exact ⟨rfl, hf, h⟩
      · rw [if_neg hb, if_neg hb]
        obtain ⟨k1, k2⟩ := findKy_in hk
        have hl := hf.led
        refine ⟨rfl, ⟨hf.ql, by rw [hold_len]; exact hf.kl, ⟨hold_sorted _ _ hl.sorted, fun y hy => ?_, fun y hy => ?_, fun y hy => ?_, by rw [counts_hold]; exact hl.total⟩, fun i hi => by rw [counts_hold]; exact hf.ba i hi, hf.wok⟩, ⟨rfl, h.four, h.lane, h.eps, ?_, fun y hy => ?_⟩⟩
        · obtain ⟨z, h1, h2, _⟩ := hold_mem _ _ _ _ hy
          rw [h2]; exact hl.first z h1
        · obtain ⟨z, h1, _, _, h2, _⟩ := hold_mem _ _ _ _ hy
          rw [h2]; exact hl.fold z h1
        · obtain ⟨z, h1, _, h2, _⟩ := hold_mem _ _ _ _ hy
          rw [h2]; exact hl.count z h1
        · have := h.many
          unfold St.names at this ⊢
          simp only
          rw [hold_names, ← h.keys]
          exact this
        · obtain ⟨z, h1, e1, e2, _, e3⟩ := hold_mem _ _ _ _ hy
          have hz := h.held z h1
          rcases e3 with e3 | ⟨e4, e3⟩
          · omega
          · have : z = k := by
              have hnd : (ks.map (·.name)).Nodup := by
                unfold List.Nodup
                rw [List.pairwise_map]
                refine hl.sorted.imp fun {a b} hab e => ?_
                rw [e, less_irrefl] at hab
                cases hab
              obtain ⟨i1, hi1, ei1⟩ := List.getElem_of_mem h1
              obtain ⟨i2, hi2, ei2⟩ := List.getElem_of_mem k1
              have hp := List.pairwise_iff_getElem.1 hl.sorted
              rcases Nat.lt_trichotomy i1 i2 with hlt | heq | hlt
              · have := hp i1 i2 hi1 hi2 hlt
                rw [ei1, ei2, e4, k2, less_irrefl] at this
                cases this
              · subst heq; rw [← ei1, ← ei2]
              · have := hp i2 i1 hi2 hi1 hlt
                rw [ei1, ei2, e4, k2, less_irrefl] at this
                cases this
            subst this
            omega

theorem rel_puts {w : World} {a : Addr} {o : Option St} {F : Nat → Prop} (h : RelAt w a o F) : Calls Tryz.prog 22 #[.pointer (some a)] w fun e w' =>
    ∃ vp, e = .returned (.tuple #[vp, .int .i64 (errno? o)]) ∧ w'.ownsRow w.heap.size 71 3 vp (puts? o).length (putCells (puts? o)) ∧ RelAt w' a o F ∧ Chg F w w' := by
  obtain ⟨b, rfl, hb, h1, h2⟩ := h
  cases o with
  | none =>
    refine (puts_closed b w h2).mono ?_
    rintro e w' ⟨rfl, g1, g2⟩
    exact ⟨_, rfl, World.ownsRow_nil _ _ _ _, ⟨b, rfl, hb, fun k hk => Nat.lt_of_lt_of_le (h1 k hk) g2.size, g1⟩, g2.mono (fun k hk => by rw [hk]; exact hb)⟩
  | some s =>
    obtain ⟨h3, E, B, V, vk, Q, ks, h4, h5, h6, h7⟩ := h2
    refine (puts_open h3 h4 h5.kl).mono ?_
    rintro e w' ⟨vp, rfl, g1, g2, g3, g4⟩
    refine ⟨vp, rfl, ?_, ⟨b, rfl, hb, fun k hk => Nat.lt_of_lt_of_le (h1 k hk) g4.size, g2, E, B, V, vk, Q, ks, g3, h5, h6, h7⟩, g4.mono (fun k hk => by rw [hk]; exact hb)⟩
    simp only [puts?]
    rw [h6.keys]
    exact g1

theorem rel_answer {w : World} {a : Addr} {o : Option St} {F : Nat → Prop} (key : ByteArray) (n : Int) (h : RelAt w a o F) (hkey : key.size ≤ maxLen) (hn : inInt n) : Calls Tryz.prog 24 #[.pointer (some a), .string key, .int .i64 n] w fun e w' =>
    ∃ F', e = .returned (.int .i64 (answer? o key n).1) ∧ RelAt w' a (answer? o key n).2 F' ∧ (∀ k, F' k → F k ∨ w.heap.size ≤ k) ∧ Chg F w w' := by
  obtain ⟨b, rfl, hb, h1, h2⟩ := h
  cases o with
  | none =>
    refine (answer_closed b key n w h2).mono ?_
    rintro e w' ⟨rfl, g1, g2⟩
    exact ⟨F, rfl, ⟨b, rfl, hb, fun k hk => Nat.lt_of_lt_of_le (h1 k hk) g2.size, g1⟩, fun k hk => .inl hk, g2.mono (fun k hk => by rw [hk]; exact hb)⟩
  | some s =>
    obtain ⟨h3, E, B, V, vk, Q, ks, h4, h5, h6, h7⟩ := h2
    obtain ⟨t1, t2, t3⟩ := ansF_fit h6 h5 key n
    have hq0 := qLens_nonneg Q 4
    have htot := h5.led.total
    refine (answer_open h3 h4 h5.led.sorted h5.kl (fun k hk => ?_) key n hkey hn).mono ?_
    · have h8 := h6.held k hk
      have h9 := (count_le h5.led.count k hk).1
      omega
    · rintro e w' ⟨rfl, g1, g2, g3⟩
      refine ⟨F, by simp only [answer?]; rw [t1], ⟨b, rfl, hb, fun k hk => Nat.lt_of_lt_of_le (h1 k hk) g3.size, g1, E, B, V, vk, Q, _, g2, t2, t3, h7⟩, fun k hk => .inl hk, g3.mono (fun k hk => ?_)⟩
      rcases hk with rfl | hk
      · exact hb
      · exact h7 k (.inr hk)

theorem apiS : ApiS RelAt := ⟨rel_puts, fun key n h hk hn => rel_answer key n h hk hn⟩

end Go.Proofs.YtcgjdpdbojcoiaaGreat

/- Passed, THE PURE PART: records that come in their order; a sink that some puts reach. -/
namespace Go.Proofs.YtcgjdpdbojcoiaaGreat
set_option linter.unusedVariables false
set_option linter.unusedSimpArgs false
open Go.RowKit

/-- What is kept, but for Held. -/
def Ky.un (k : Ky) : Ky := ⟨k.name, k.count, k.fold, 0⟩

theorem un_takeKy (name : ByteArray) (val : Int) : ∀ ks : List Ky, (takeKy name val ks).map Ky.un = takeKy name val (ks.map Ky.un)
  | [] => rfl
  | k :: r => by
    have ih := un_takeKy name val r
    unfold takeKy
    simp only [List.map_cons]
    have e : k.un.name = k.name := rfl
    rw [e]
    split
    · rfl
    · split
      · rfl
      · simp [ih]

theorem counts_un : ∀ ks : List Ky, counts (ks.map Ky.un) = counts ks
  | [] => rfl
  | k :: r => by simp [counts, counts_un r, Ky.un]

theorem names_un (ks : List Ky) : (ks.map Ky.un).map (·.name) = ks.map (·.name) := by
  rw [List.map_map]; rfl

/-- The relay behind the first i of them. -/
structure PInv (all : List Rec) (i : Nat) (s : St) : Prop where
  four : s.lanes.length = 4
  lane : ∀ j, j < 4 → s.lanes[j]? = some ⟨0, (ofS (all.take i) j).length, []⟩
  keys : s.keys.map Ky.un = keysOf (all.take i) []

theorem PInv.init (all : List Rec) : PInv all 0 St.init := by
  refine ⟨rfl, fun j hj => ?_, by simp [St.init, keysOf]⟩
  rcases (by omega : j = 0 ∨ j = 1 ∨ j = 2 ∨ j = 3) with rfl | rfl | rfl | rfl <;> simp [St.init, Ln.init, ofS]

theorem PInv.waitless {all : List Rec} {i : Nat} {s : St} (h : PInv all i s) : ∀ l ∈ s.lanes, l.ws = [] := by
  intro l hl
  obtain ⟨j, hj, e⟩ := List.getElem_of_mem hl
  have := h.lane j (by rw [← h.four]; exact hj)
  rw [List.getElem?_eq_getElem hj, e] at this
  rw [Option.some.inj this]

theorem waits_none : ∀ ls : List Ln, (∀ l ∈ ls, l.ws = []) → waits ls = 0
  | [], _ => rfl
  | l :: r, h => by
    have h1 := h l (by simp)
    have h2 := waits_none r (fun x hx => h x (by simp [hx]))
    simp [waits, h1, h2]

theorem flat_none : ∀ ls : List Ln, (∀ l ∈ ls, l.ws = []) → ls.flatMap (fun l => l.ws.map (·.key)) = []
  | [], _ => rfl
  | l :: r, h => by
    have h1 := h l (by simp)
    have h2 := flat_none r (fun x hx => h x (by simp [hx]))
    simp only [List.flatMap_cons, h2, h1]
    rfl

theorem PInv.counts {all : List Rec} {i : Nat} {s : St} (h : PInv all i s) (hi : i ≤ all.length) : counts s.keys = i := by
  rw [← counts_un, h.keys, counts_keysOf]
  simp [Go.Proofs.YtcgjdpdbojcoiaaGreat.counts]
  omega

theorem PInv.key {all : List Rec} {i : Nat} {s : St} (h : PInv all i s) (hn : Numbered all) {k : Ky} (hk : k ∈ s.keys) : k.name ∈ names4 ∧ (k.count, k.fold) = tally k.name (all.take i) := by
  have hu : k.un ∈ keysOf (all.take i) [] := by rw [← h.keys]; exact List.mem_map.2 ⟨k, hk, rfl⟩
  refine ⟨?_, (keysOf_tally (all.take i)).2.1 k.un hu⟩
  rcases keysOf_names _ _ _ hu with ⟨z, hz, _⟩ | ⟨x, hx, e⟩
  · simp at hz
  · have : x.key = k.name := e
    rw [← this]
    exact (hn.each x (List.mem_of_mem_take hx)).2.2.2.1

theorem PInv.there {all : List Rec} {i : Nat} {s : St} (h : PInv all i s) {name : ByteArray} (ht : 1 ≤ (tally name (all.take i)).1) : ∃ k ∈ s.keys, k.name = name := by
  have hx : ∃ x ∈ all.take i, x.key = name := by
    by_cases hx : ∃ x ∈ all.take i, x.key = name
    · exact hx
    · have h0 : tally name (all.take i) = (0, 0) := tally_none _ _ _ (fun x hx' e => hx ⟨x, hx', e⟩)
      rw [h0] at ht
      simp at ht
  obtain ⟨x, hx, e⟩ := hx
  obtain ⟨k, hk, e2⟩ := (keysOf_tally (all.take i)).2.2 x hx
  rw [← h.keys] at hk
  obtain ⟨k', hk', rfl⟩ := List.mem_map.1 hk
  exact ⟨k', hk', (show k'.name = x.key from e2).trans e⟩

theorem PInv.sorted {all : List Rec} {i : Nat} {s : St} (h : PInv all i s) : Sorted s.keys := by
  have := (keysOf_tally (all.take i)).1
  rw [← h.keys] at this
  exact (List.pairwise_map.1 this)

theorem PInv.apart {all : List Rec} {i : Nat} {s : St} (h : PInv all i s) : (s.keys.map (·.name)).Nodup := by
  have := h.sorted
  unfold List.Nodup
  rw [List.pairwise_map]
  refine this.imp fun {a b} hab e => ?_
  rw [e, less_irrefl] at hab
  cases hab

/-- The next one is taken at once. -/
theorem PInv.accept {all : List Rec} {i : Nat} {s : St} (h : PInv all i s) (hn : Numbered all) {x : Rec} (hx : all[i]? = some x) :
    (accept s x).1 = (x.number + 1, 0) ∧ (accept s x).2.keys = takeKy x.key x.value s.keys ∧ PInv all (i + 1) (accept s x).2 := by
  have hm := List.mem_of_getElem? hx
  have hlt := (List.getElem?_eq_some_iff.1 hx).1
  obtain ⟨e1, e2, e3, e4, e5, e6⟩ := hn.each x hm
  obtain ⟨sn, hsn⟩ : ∃ sn : Nat, x.session = sn := ⟨x.session.toNat, by omega⟩
  have hs4 : sn < 4 := by omega
  have hl := h.lane sn hs4
  have hnum := numbered_at hn hx hsn
  have hw := h.waitless
  have hfew := hn.few
  have hcn := h.counts (by omega)
  have hset : s.lanes.set sn ⟨0, (ofS (all.take i) sn).length, []⟩ = s.lanes := by
    obtain ⟨hlen, e⟩ := List.getElem?_eq_some_iff.1 hl
    rw [← e]; exact List.set_getElem_self hlen
  have ha : Go.Proofs.YtcgjdpdbojcoiaaGreat.accept s x = ((x.number + 1, 0), ⟨s.lanes.set sn ⟨0, x.number + 1, []⟩, takeKy x.key x.value s.keys⟩) := by
    unfold Go.Proofs.YtcgjdpdbojcoiaaGreat.accept
    rw [if_neg (by omega), if_neg (by rw [okKey_four e4]; simp; omega)]
    have : x.session.toNat = sn := by omega
    rw [this, hl]
    simp only
    unfold acceptIn
    have ht : (⟨0, (ofS (all.take i) sn).length, []⟩ : Ln).turned x.epoch = ⟨0, (ofS (all.take i) sn).length, []⟩ := by
      unfold Ln.turned
      rw [if_neg (by rw [e3]; simp)]
    simp only [ht, hset]
    have hnm : ∀ k ∈ (⟨s.lanes, s.keys⟩ : St).names, k ∈ names4 := fun k hk => by
      unfold St.names at hk
      simp only [flat_none _ hw, List.append_nil] at hk
      obtain ⟨y, hy, rfl⟩ := List.mem_map.1 hk
      exact (h.key hn hy).1
    have hrec : (⟨s.lanes, s.keys⟩ : St).records < 1000 := by
      unfold St.records
      simp only [waits_none _ hw, hcn]
      omega
    rw [if_neg (by rw [e3]; simp), if_neg (by omega), if_neg (by simp; omega), if_neg (names_room e4 hnm), if_neg (by omega)]
    simp only [putW, drainW]
    rw [if_pos hnum, ← hnum]
  rw [ha]
  refine ⟨rfl, rfl, ?_, fun j hj => ?_, ?_⟩
  · simpa using h.four
  · rw [ofS_take_next hx j]
    by_cases e : sn = j
    · subst e
      simp only
      rw [List.getElem?_set_self (by rw [h.four]; exact hs4), if_pos hsn, hnum]
      simp
    · simp only
      rw [List.getElem?_set_ne e, if_neg (by omega), h.lane j hj]
      simp
  · simp only
    rw [un_takeKy, h.keys]
    have e := (List.getElem?_eq_some_iff.1 hx).2
    rw [List.take_succ_eq_append_getElem hlt, e, keysOf_append]
    rfl

/-- What a key's Held is behind an Accept. -/
theorem takeKy_held (name : ByteArray) (val : Int) {ks : List Ky} (hs : Sorted ks) : ∀ k ∈ takeKy name val ks, k.held = 0 ∨ ∃ y ∈ ks, y.name = k.name ∧ y.held = k.held := by
  intro k hk
  rcases takeKy_cases name val hs k hk with ⟨h1, _⟩ | ⟨y, h1, _, h3⟩ | ⟨h1, _⟩
  · exact .inr ⟨k, h1, rfl, rfl⟩
  · exact .inr ⟨y, h1, by rw [h3]; rfl, by rw [h3]; rfl⟩
  · exact .inl (by rw [h1]; rfl)

/-- The sink. -/
structure SInv (all : List Rec) (i : Nat) (ks : List Ky) (L : List Pt) : Prop where
  apart : (L.map (·.key)).Nodup
  each : ∀ p ∈ L, 1 ≤ p.token ∧ ∃ j, j ≤ i ∧ (p.token, p.value) = tally p.key (all.take j)
  held : ∀ k ∈ ks, 0 < k.held → ∃ p ∈ L, p.key = k.name ∧ k.held ≤ p.token

theorem SInv.nil (all : List Rec) : SInv all 0 [] [] := ⟨by simp, by simp, by simp⟩

theorem tally_mono (name : ByteArray) (all : List Rec) {j i : Nat} (h : j ≤ i) : (tally name (all.take j)).1 ≤ (tally name (all.take i)).1 := by
  have e : (all.take i).take j = all.take j := by rw [List.take_take]; congr 1; omega
  have := (tally_take_le name (all.take i) j).2.1
  rw [e] at this
  exact this

theorem SInv.accept {all : List Rec} {i : Nat} {ks : List Ky} {L : List Pt} (h : SInv all i ks L) (hs : Sorted ks) (name : ByteArray) (val : Int) : SInv all (i + 1) (takeKy name val ks) L := by
  refine ⟨h.apart, fun p hp => ?_, fun k hk h0 => ?_⟩
  · obtain ⟨h1, j, h2, h3⟩ := h.each p hp
    exact ⟨h1, j, by omega, h3⟩
  · rcases takeKy_held name val hs k hk with e | ⟨y, hy, e1, e2⟩
    · omega
    · obtain ⟨p, hp, e3, h4⟩ := h.held y hy (by omega)
      exact ⟨p, hp, by rw [e3, e1], by omega⟩

/-- What a put makes of the sink: its list, and the token that it holds then. -/
def sinkPut (p : Pt) : List Pt → List Pt
  | [] => [p]
  | q :: r => if q.key = p.key then (if q.token < p.token then p :: r else q :: r) else q :: sinkPut p r

theorem sinkPut_mem (p : Pt) : ∀ (L : List Pt) (q : Pt), q ∈ sinkPut p L → q = p ∨ q ∈ L
  | [], q, h => by simp [sinkPut] at h; exact .inl h
  | x :: r, q, h => by
    unfold sinkPut at h
    split at h
    · split at h
      · rcases List.mem_cons.1 h with h | h
        · exact .inl h
        · exact .inr (by simp [h])
      · exact .inr h
    · rcases List.mem_cons.1 h with h | h
      · exact .inr (by simp [h])
      · rcases sinkPut_mem p r q h with h | h
        · exact .inl h
        · exact .inr (by simp [h])

theorem sinkPut_keys (p : Pt) : ∀ (L : List Pt), (sinkPut p L).map (·.key) = L.map (·.key) ∨ (p.key ∉ L.map (·.key) ∧ (sinkPut p L).map (·.key) = L.map (·.key) ++ [p.key])
  | [] => .inr ⟨by simp, by simp [sinkPut]⟩
  | x :: r => by
    have ih := sinkPut_keys p r
    unfold sinkPut
    by_cases e : x.key = p.key
    · rw [if_pos e]
      left
      split <;> simp [e]
    · rw [if_neg e]
      simp only [List.map_cons]
      rcases ih with ih | ⟨h1, h2⟩
      · exact .inl (by rw [ih])
      · refine .inr ⟨fun h => ?_, by rw [h2]; rfl⟩
        rcases List.mem_cons.1 h with h | h
        · exact e h.symm
        · exact h1 h

theorem nodup_key {α : Type} {f : α → ByteArray} : ∀ {l : List α}, (l.map f).Nodup → ∀ a ∈ l, ∀ b ∈ l, f a = f b → a = b
  | [], _, a, ha, _, _, _ => by simp at ha
  | x :: r, h, a, ha, b, hb, e => by
    simp only [List.map_cons, List.nodup_cons] at h
    rcases List.mem_cons.1 ha with ea | ha
    · rcases List.mem_cons.1 hb with eb | hb
      · rw [ea, eb]
      · exact absurd (List.mem_map.2 ⟨b, hb, by rw [← e, ea]⟩) h.1
    · rcases List.mem_cons.1 hb with eb | hb
      · exact absurd (List.mem_map.2 ⟨a, ha, by rw [e, eb]⟩) h.1
      · exact nodup_key h.2 a ha b hb e

/-- No token falls, and the put's own is there. -/
theorem sinkPut_up (p : Pt) : ∀ (L : List Pt), (∀ q ∈ L, ∃ q' ∈ sinkPut p L, q'.key = q.key ∧ q.token ≤ q'.token) ∧ ∃ q' ∈ sinkPut p L, q'.key = p.key ∧ p.token ≤ q'.token
  | [] => ⟨by simp, p, by simp [sinkPut], rfl, by omega⟩
  | x :: r => by
    obtain ⟨h1, q', h2, h3, h4⟩ := sinkPut_up p r
    unfold sinkPut
    by_cases e : x.key = p.key
    · rw [if_pos e]
      by_cases ht : x.token < p.token
      · rw [if_pos ht]
        refine ⟨fun q hq => ?_, p, by simp, rfl, by omega⟩
        rcases List.mem_cons.1 hq with rfl | hq
        · exact ⟨p, by simp, e.symm, by omega⟩
        · exact ⟨q, by simp [hq], rfl, by omega⟩
      · rw [if_neg ht]
        exact ⟨fun q hq => ⟨q, hq, rfl, by omega⟩, x, by simp, e, by omega⟩
    · rw [if_neg e]
      refine ⟨fun q hq => ?_, q', by simp [h2], h3, h4⟩
      rcases List.mem_cons.1 hq with rfl | hq
      · exact ⟨q, by simp, rfl, by omega⟩
      · obtain ⟨q2, g1, g2, g3⟩ := h1 q hq
        exact ⟨q2, by simp [g1], g2, g3⟩

theorem SInv.put {all : List Rec} {i : Nat} {ks : List Ky} {L : List Pt} (h : SInv all i ks L) {p : Pt} (h1 : 1 ≤ p.token) (h2 : (p.token, p.value) = tally p.key (all.take i)) : SInv all i ks (sinkPut p L) := by
  refine ⟨?_, fun q hq => ?_, fun k hk h0 => ?_⟩
  · rcases sinkPut_keys p L with e | ⟨hne, e⟩
    · rw [e]; exact h.apart
    · rw [e, List.nodup_append]
      refine ⟨h.apart, by simp, fun a ha b hb e => ?_⟩
      simp at hb
      subst hb
      exact hne (by rw [← e]; exact ha)
  · rcases sinkPut_mem p L q hq with rfl | hq
    · exact ⟨h1, i, by omega, h2⟩
    · exact h.each q hq
  · obtain ⟨q, g1, g2, g3⟩ := h.held k hk h0
    obtain ⟨q', g4, g5, g6⟩ := (sinkPut_up p L).1 q g1
    exact ⟨q', g4, g5.trans g2, by omega⟩

/-- The sink's token for the key of a put is the count. -/
theorem SInv.token {all : List Rec} {i : Nat} {ks : List Ky} {L : List Pt} (h : SInv all i ks L) {q : Pt} (hq : q ∈ L) : q.token ≤ (tally q.key (all.take i)).1 := by
  obtain ⟨_, j, h1, h2⟩ := h.each q hq
  have := tally_mono q.key all h1
  have e : q.token = (tally q.key (all.take j)).1 := by rw [← h2]
  omega

theorem holdKy_mem (name : ByteArray) (n : Int) : ∀ (ks : List Ky) (k : Ky), k ∈ holdKy name n ks → k ∈ ks ∨ ∃ y ∈ ks, y.name = name ∧ k = ⟨y.name, y.count, y.fold, max y.held n⟩
  | [], k, h => by simp [holdKy] at h
  | x :: r, k, h => by
    unfold holdKy at h
    split at h
    · rename_i e
      rcases List.mem_cons.1 h with h | h
      · exact .inr ⟨x, by simp, e, h⟩
      · exact .inl (by simp [h])
    · rcases List.mem_cons.1 h with h | h
      · exact .inl (by simp [h])
      · rcases holdKy_mem name n r k h with h | ⟨y, h1, h2, h3⟩
        · exact .inl (by simp [h])
        · exact .inr ⟨y, by simp [h1], h2, h3⟩

theorem un_holdKy (name : ByteArray) (n : Int) : ∀ (ks : List Ky), (holdKy name n ks).map Ky.un = ks.map Ky.un
  | [] => rfl
  | x :: r => by
    unfold holdKy
    split
    · rfl
    · simp [un_holdKy name n r]

theorem findKy_mem (name : ByteArray) : ∀ (ks : List Ky), (ks.map (·.name)).Nodup → ∀ k ∈ ks, k.name = name → findKy name ks = some k
  | [], _, k, h, _ => by simp at h
  | x :: r, hn, k, h, e => by
    simp only [List.map_cons, List.nodup_cons] at hn
    unfold findKy
    rcases List.mem_cons.1 h with rfl | h
    · rw [if_pos e]
    · have hx : x.name ≠ name := fun e2 => hn.1 (List.mem_map.2 ⟨k, h, by rw [e, e2]⟩)
      rw [if_neg hx]
      exact findKy_mem name r hn.2 k h e

/-- An answer of the key's own count. -/
theorem PInv.answer {all : List Rec} {i : Nat} {s : St} (h : PInv all i s) (hn : Numbered all) (hf : s.fine) {k : Ky} (hk : k ∈ s.keys) :
    answer s k.name k.count = (0, ⟨s.lanes, holdKy k.name k.count s.keys⟩) ∧ PInv all i ⟨s.lanes, holdKy k.name k.count s.keys⟩ := by
  refine ⟨?_, h.four, h.lane, by simp only; rw [un_holdKy]; exact h.keys⟩
  unfold Go.Proofs.YtcgjdpdbojcoiaaGreat.answer
  have := hf.key k hk
  rw [okKey_four (h.key hn hk).1, if_neg (by simp), findKy_mem _ _ h.apart k hk rfl]
  simp only
  rw [if_neg (by omega)]

theorem holdKy_held (name : ByteArray) (n : Int) : ∀ (ks : List Ky), (ks.map (·.name)).Nodup → ∀ k ∈ holdKy name n ks, (k.name ≠ name ∧ k ∈ ks) ∨ (k.name = name ∧ n ≤ k.held ∧ ∃ y ∈ ks, y.name = name ∧ k.count = y.count ∧ k.held = max y.held n)
  | [], _, k, h => by simp [holdKy] at h
  | x :: r, hn, k, h => by
    simp only [List.map_cons, List.nodup_cons] at hn
    unfold holdKy at h
    split at h
    · rename_i e
      rcases List.mem_cons.1 h with h | h
      · subst h
        exact .inr ⟨e, by simp only; omega, x, by simp, e, rfl, rfl⟩
      · refine .inl ⟨fun e2 => hn.1 (List.mem_map.2 ⟨k, h, by rw [e, e2]⟩), by simp [h]⟩
    · rename_i e
      rcases List.mem_cons.1 h with h | h
      · subst h
        exact .inl ⟨e, by simp⟩
      · rcases holdKy_held name n r hn.2 k h with ⟨h1, h2⟩ | ⟨h1, h2, y, h3, h4⟩
        · exact .inl ⟨h1, by simp [h2]⟩
        · exact .inr ⟨h1, h2, y, by simp [h3], h4⟩

theorem SInv.answer {all : List Rec} {i : Nat} {ks : List Ky} {L : List Pt} (h : SInv all i ks L) (hn : (ks.map (·.name)).Nodup) (name : ByteArray) (n : Int) (hL : ∃ p ∈ L, p.key = name ∧ n ≤ p.token) : SInv all i (holdKy name n ks) L := by
  refine ⟨h.apart, h.each, fun k hk h0 => ?_⟩
  rcases holdKy_held name n ks hn k hk with ⟨_, h2⟩ | ⟨h1, _, y, h3, h4, _, h5⟩
  · exact h.held k h2 h0
  · obtain ⟨p, g1, g2, g3⟩ := hL
    by_cases hy : y.held ≤ n
    · exact ⟨p, g1, by rw [g2, h1], by omega⟩
    · by_cases hy0 : 0 < y.held
      · obtain ⟨q, q1, q2, q3⟩ := h.held y h3 hy0
        exact ⟨q, q1, by rw [q2, h4, h1], by omega⟩
      · exact ⟨p, g1, by rw [g2, h1], by omega⟩

/-- What is put. -/
theorem putsOf_mem : ∀ (ks : List Ky) (p : Pt), p ∈ putsOf ks → ∃ k ∈ ks, p = ⟨k.name, k.count, k.fold⟩
  | [], p, h => by simp [putsOf] at h
  | x :: r, p, h => by
    unfold putsOf at h
    split at h
    · rcases List.mem_cons.1 h with h | h
      · exact ⟨x, by simp, h⟩
      · obtain ⟨k, h1, h2⟩ := putsOf_mem r p h
        exact ⟨k, by simp [h1], h2⟩
    · obtain ⟨k, h1, h2⟩ := putsOf_mem r p h
      exact ⟨k, by simp [h1], h2⟩

theorem putsOf_has : ∀ (ks : List Ky) (k : Ky), k ∈ ks → k.held < k.count → ∃ p ∈ putsOf ks, p.key = k.name
  | [], k, h, _ => by simp at h
  | x :: r, k, h, hc => by
    unfold putsOf
    rcases List.mem_cons.1 h with rfl | h
    · rw [if_pos hc]; exact ⟨_, List.mem_cons_self, rfl⟩
    · obtain ⟨p, h1, h2⟩ := putsOf_has r k h hc
      split
      · exact ⟨p, List.mem_cons_of_mem _ h1, h2⟩
      · exact ⟨p, h1, h2⟩

theorem putsOf_none : ∀ (ks : List Ky), (∀ k ∈ ks, k.held = k.count) → putsOf ks = []
  | [], _ => rfl
  | x :: r, h => by
    unfold putsOf
    rw [if_neg (by have := h x (by simp); omega)]
    exact putsOf_none r (fun k hk => h k (by simp [hk]))

theorem putsOf_len : ∀ (ks : List Ky), (putsOf ks).length ≤ ks.length
  | [] => by simp [putsOf]
  | x :: r => by
    have := putsOf_len r
    unfold putsOf
    split <;> simp <;> omega

/-- In the last round: what is not yet put again holds all. -/
def Done (P : List Pt) (ks : List Ky) : Prop := ∀ k ∈ ks, k.held = k.count ∨ ∃ p ∈ P, p.key = k.name

theorem Done.first {ks : List Ky} (hf : ∀ k ∈ ks, k.held ≤ k.count) : Done (putsOf ks) ks := by
  intro k hk
  by_cases h : k.held < k.count
  · exact .inr (putsOf_has ks k hk h)
  · exact .inl (by have := hf k hk; omega)

theorem Done.next {p : Pt} {P : List Pt} {ks : List Ky} (h : Done (p :: P) ks) (hn : (ks.map (·.name)).Nodup) {n : Int} (hp : ∀ k ∈ ks, k.name = p.key → k.count = n ∧ k.held ≤ k.count) : Done P (holdKy p.key n ks) := by
  intro k hk
  rcases holdKy_held p.key n ks hn k hk with ⟨h1, h2⟩ | ⟨h1, h2, y, h3, h4, h5, h6⟩
  · rcases h k h2 with h | ⟨q, hq, e⟩
    · exact .inl h
    · rcases List.mem_cons.1 hq with rfl | hq
      · exact absurd e.symm h1
      · exact .inr ⟨q, hq, e⟩
  · have := hp y h3 h4
    exact .inl (by omega)

def tokens : List Pt → Int
  | [] => 0
  | p :: r => p.token + tokens r

def pairs (l : List (ByteArray × Int)) : Int := l.foldr (fun p n => p.2 + n) 0

theorem pairs_perm {a b : List (ByteArray × Int)} (h : a.Perm b) : pairs a = pairs b := by
  induction h with
  | nil => rfl
  | cons x _ ih => simp only [pairs, List.foldr_cons] at ih ⊢; omega
  | swap x y l => simp only [pairs, List.foldr_cons]; omega
  | trans _ _ h1 h2 => exact h1.trans h2

theorem tokens_pairs : ∀ L : List Pt, tokens L = pairs (L.map fun p => (p.key, p.token))
  | [] => rfl
  | p :: r => by
    have := tokens_pairs r
    simp only [tokens, pairs, List.map_cons, List.foldr_cons] at this ⊢
    omega

theorem counts_pairs : ∀ ks : List Ky, counts ks = pairs (ks.map fun k => (k.name, k.count))
  | [] => rfl
  | p :: r => by
    have := counts_pairs r
    simp only [counts, pairs, List.map_cons, List.foldr_cons] at this ⊢
    omega

theorem nodup_fst {α : Type} {f : α → ByteArray} {g : α → Int} {l : List α} (h : (l.map f).Nodup) : (l.map fun x => (f x, g x)).Nodup := by
  unfold List.Nodup at h ⊢
  rw [List.pairwise_map] at h ⊢
  exact h.imp fun {a b} hab e => hab (by injection e)

/-- In the end the sink holds all. -/
theorem SInv.end {all : List Rec} {i : Nat} {s : St} {L : List Pt} (h : SInv all i s.keys L) (hP : PInv all i s) (hn : Numbered all) (hf : s.fine) (hi : i = all.length) (hd : ∀ k ∈ s.keys, k.held = k.count) : tokens L = all.length := by
  have hc := hP.counts (by omega)
  rw [tokens_pairs, ← hi, ← hc, counts_pairs]
  refine pairs_perm ((List.perm_ext_iff_of_nodup (nodup_fst h.apart) (nodup_fst hP.apart)).2 fun q => ?_)
  have tok : ∀ p ∈ L, ∀ k ∈ s.keys, p.key = k.name → p.token = k.count := fun p hp k hk e => by
    have h1 := h.token hp
    have h2 := (hP.key hn hk).2
    have h3 : k.count = (tally k.name (all.take i)).1 := by rw [← h2]
    obtain ⟨p', g1, g2, g3⟩ := h.held k hk (by have := hd k hk; have := (hf.key k hk).1; omega)
    have : p' = p := nodup_key h.apart p' g1 p hp (g2.trans e.symm)
    subst this
    have := hd k hk
    rw [e] at h1
    omega
  constructor
  · intro hq
    obtain ⟨p, hp, rfl⟩ := List.mem_map.1 hq
    have h1 := h.token hp
    obtain ⟨k, hk, e⟩ := hP.there (name := p.key) (by have := (h.each p hp).1; omega)
    exact List.mem_map.2 ⟨k, hk, by rw [e, tok p hp k hk e.symm]⟩
  · intro hq
    obtain ⟨k, hk, rfl⟩ := List.mem_map.1 hq
    obtain ⟨p, g1, g2, g3⟩ := h.held k hk (by have := hd k hk; have := (hf.key k hk).1; omega)
    exact List.mem_map.2 ⟨p, g1, by rw [g2, tok p g1 k hk g2]⟩

end Go.Proofs.YtcgjdpdbojcoiaaGreat

/- Passed: THE SMALL FUNCTIONS, WALKED: fold of the first so many; passing; the sink's put. -/
namespace Go.Proofs.YtcgjdpdbojcoiaaGreat
set_option linter.unusedVariables false
set_option linter.unusedSimpArgs false
open Go.RowKit Go.Lib

variable {R : World → Addr → Option St → (Nat → Prop) → Prop}

theorem tally_same (key : ByteArray) (l : List Rec) {i j : Nat} (h : (tally key (l.take i)).1 = (tally key (l.take j)).1) : tally key (l.take i) = tally key (l.take j) := by
  rcases Nat.le_total i j with hij | hij
  · have e : (l.take j).take i = l.take i := by rw [List.take_take]; congr 1; omega
    have := tally_take_stop key (l.take j) i (by rw [e]; exact h)
    rwa [e] at this
  · have e : (l.take i).take j = l.take j := by rw [List.take_take]; congr 1; omega
    have := tally_take_stop key (l.take i) j (by rw [e]; exact h.symm)
    rw [e] at this
    exact this.symm

set_option maxHeartbeats 2000000 in
theorem kfold_n {w : World} {lo : Nat} {v : Value} {l : List Rec} {key : ByteArray} (m : Nat) (hr : w.ownsRow lo 37 5 v l.length (recCells l)) (hk : key ∈ names4) (hl : l.length ≤ 900) (hv : ∀ x ∈ l, 0 ≤ x.value ∧ x.value ≤ 4294967295) :
    Calls Tryz.prog 25 #[v, .string key, .int .i64 (tally key (l.take m)).1] w fun e w' => e = .returned (.int .i64 (tally key (l.take m)).2) ∧ w' = w := by
  obtain ⟨p, cap, rfl⟩ := row_any hr
  obtain ⟨hT0, hT1, hT2⟩ := tally_take_le key l m
  obtain ⟨N, hN⟩ : ∃ N, N = (tally key (l.take m)).1 := ⟨_, rfl⟩
  rw [← hN] at hT0 hT1 ⊢
  have HN : Hid (N = (tally key (l.take m)).1) := hN
  have HT1 : Hid (N ≤ (tally key l).1) := hT1
  have hNl : N ≤ 900 := by omega
  clear hN hT1 hT2
  go_enter Tryz.func25, Tryz.ntmps25
  go_wp2_with fail
  go_loopw [7, 8, 9, 10] (fun sf sc si _ wr => ∃ (i : Nat) (c f : Int), si = .int .i64 i ∧ i ≤ l.length ∧ sc = .int .i64 c ∧ sf = .int .i64 f ∧ 0 ≤ c ∧ c ≤ N ∧ Hid (tally key (l.take i) = (c, f)) ∧ Hid (wr = w)) (fun _ _ si _ _ => l.length - (intOf si).toNat)
  case atStart => exact ⟨0, 0, 0, rfl, by omega, rfl, rfl, by omega, hT0, (show _ = _ from rfl), (show _ = _ from rfl)⟩
  case round =>
    obtain ⟨i, c, f, rfl, hi, rfl, rfl, hc0, hcN, HT, HW⟩ := hrel
    have hc : Chg (fun _ => False) w wr := by rw [HW.out]; exact Chg.refl _ _
    have hrg := tally_range hk (l.take i) (0, 0) (fun x hx => hv x (List.mem_of_mem_take hx)) (by simp) (by simp only [List.length_take]; omega) (by simp)
    have hrg' : 0 ≤ f ∧ f ≤ 4294967295 := by
      have : ((l.take i).foldl (tallyOne key) (0, 0)) = (c, f) := HT.out
      rw [this] at hrg
      exact hrg
    clear hrg
    by_cases hil : i < l.length
    · have hil' : (i : Int) < (l.length : Int) := by omega
      by_cases hcn : c < N
      · obtain ⟨x, hx⟩ : ∃ x, l[i]? = some x := ⟨_, List.getElem?_eq_getElem hil⟩
        obtain ⟨g, cap', hvs, _, _, hcell⟩ := row_pos hr (by omega)
        simp only [Value.slice.injEq] at hvs
        obtain ⟨rfl, _, rfl⟩ := hvs
        have cx := recCells_at l i x hx
        have m3 := hc.cellAt (hcell _ _ cx.2.2.2.1) id
        have m4 := hc.cellAt (hcell _ _ cx.2.2.2.2) id
        have hxv := hv x (List.mem_of_getElem? hx)
        have hnx := tally_take_next key l i x hx
        rw [HT.out] at hnx
        have HNX : Hid (tally key (l.take (i + 1)) = tallyOne key (c, f) x) := hnx
        clear hcell cx hnx HN HT1
        by_cases hke : x.key = key
        · rw [hke] at m3
          have HNX' : Hid (tally key (l.take (i + 1)) = (c + 1, foldOne key (c + 1) f x.value)) := by
            show _ = _
            rw [HNX.out]; unfold tallyOne; rw [if_pos hke]
          clear HNX hke HT
          simp only [names4, List.mem_cons, List.not_mem_nil, or_false] at hk
          rcases hk with rfl | rfl | rfl | rfl
          · simp only [kC] at m3 ⊢
            go_wp2_with fail
            refine ⟨⟨i + 1, c + 1, c + 1, by go_num, by omega, rfl, rfl, by omega, by omega, HNX', HW⟩, by simp [intOf]; omega⟩
          · simp only [kS] at m3 ⊢
            go_wp2_with fail
            exact ⟨⟨i + 1, c + 1, (f + x.value) % 4294967296, by go_num, by omega, rfl, rfl, by omega, by omega, HNX', HW⟩, by simp [intOf]; omega⟩
          · simp only [kL] at m3 ⊢
            go_wp2_with fail
            exact ⟨⟨i + 1, c + 1, x.value, by go_num, by omega, rfl, rfl, by omega, by omega, HNX', HW⟩, by simp [intOf]; omega⟩
          · have hmx : foldOne kM (c + 1) f x.value = max f x.value := rfl
            rw [hmx] at HNX'
            clear hmx
            simp only [kM] at m3 HNX' ⊢
            by_cases hgt : f < x.value
            · rw [Int.max_eq_right (by omega)] at HNX'
              go_wp2_with fail
              exact ⟨⟨i + 1, c + 1, x.value, by go_num, by omega, rfl, rfl, by omega, by omega, HNX', HW⟩, by simp [intOf]; omega⟩
            · rw [Int.max_eq_left (by omega)] at HNX'
              go_wp2_with fail
              exact ⟨⟨i + 1, c + 1, f, by go_num, by omega, rfl, rfl, by omega, by omega, HNX', HW⟩, by simp [intOf]; omega⟩
        · have hkn : (x.key.toList == key.toList) = false := by
            rw [beq_eq_false_iff_ne]
            intro e
            rw [ByteArray.toList_eq, ByteArray.toList_eq] at e
            exact hke (ByteArray.ext (Array.toList_inj.1 e))
          have HNX' : Hid (tally key (l.take (i + 1)) = (c, f)) := by
            show _ = _
            rw [HNX.out]; unfold tallyOne; rw [if_neg hke]
          clear HNX hke
          go_wp2_with fail
          refine ⟨⟨i + 1, c, f, by go_num, by omega, rfl, rfl, by omega, by omega, HNX', HW⟩, by simp [intOf]; omega⟩
      · have hcN : c = N := by omega
        have HF : Hid ((tally key (l.take m)).2 = f) := by
          show _ = _
          rw [← tally_same key l (i := i) (j := m) (by rw [HT.out, ← HN.out]; exact hcN), HT.out]
        clear HT HN HT1 hcN
        go_wp2_with fail
        go_ret
        exact ⟨by rw [HF.out]; rfl, HW.out⟩
    · have hil' : ¬ (i : Int) < (l.length : Int) := by omega
      have HF : Hid ((tally key (l.take m)).2 = f) := by
        show _ = _
        have h1 := HT1.out
        have h2 := HT.out
        have h3 : l.take i = l := List.take_of_length_le (by omega)
        rw [h3] at h2
        rw [h2] at h1
        rw [← tally_same key l (i := i) (j := m) (by rw [h3, h2, ← HN.out]; simp only at h1 ⊢; omega), h3, h2]
      clear HT HN HT1
      go_wp2_with fail
      go_ret
      exact ⟨by rw [HF.out]; rfl, HW.out⟩

def exP : St := ⟨[⟨0, 1, []⟩, Ln.init, Ln.init, Ln.init], [⟨exS, 1, 5, 0⟩]⟩
def exP2 : St := ⟨[⟨0, 1, []⟩, Ln.init, Ln.init, Ln.init], [⟨exS, 1, 5, 1⟩]⟩
theorem ex_p1 : accept? (some St.init) ex0 = ((1, 0), some exP) := by rfl
theorem ex_p2 : answer? (some exP) exS 2 = (9, some exP) := by rfl
theorem ex_p3 : answer? (some exP) exS 1 = (0, some exP2) := by rfl
theorem ex_p4 : puts? (some exP) = [⟨exS, 1, 5⟩] := by rfl
theorem ex_p5 : puts? (some exP2) = [] := by rfl

set_option maxHeartbeats 1000000 in
theorem passing_any (H : Api R) (HS : ApiS R) (w : World) :
    Calls Tryz.prog 21 #[] w fun e w' => e = .returned (.bool true) ∧ Chg (fun _ => False) w w' := by
  go_enter Tryz.func21, Tryz.ntmps21
  go_wp2_with fail
  refine (H.new w).mono ?_
  rintro _ w1 ⟨a, F1, rfl, hR1, hF1, hc1⟩
  go_wp2_with fail
  refine (rec_any _ _ _ _).mono ?_
  rintro _ w2 ⟨rfl, hc2⟩
  go_wp2_with fail
  refine (H.accept ex0 (H.keep hR1 hc2) ex0_fits).mono ?_
  rintro _ w3 ⟨F3, rfl, hR3, hF3, hc3⟩
  rw [ex_p1] at hR3 ⊢
  go_wp2_with fail
  refine (HS.puts hR3).mono ?_
  rintro _ w4 ⟨vp, rfl, hp4, hR4, hc4⟩
  rw [ex_p4] at hp4
  obtain ⟨g, cap, rfl, hg, hcap, hcell⟩ := row_pos hp4 (by decide)
  have d0 : w4.cell? ⟨g, 0, none⟩ = some (.string { data := #[115] }) := hcell 0 _ rfl
  have d1 : w4.cell? ⟨g, 1, none⟩ = some (.int .i64 1) := hcell 1 _ rfl
  have d2 : w4.cell? ⟨g, 2, none⟩ = some (.int .i64 5) := hcell 2 _ rfl
  have hlt3 : ∀ k, F3 k → k < w3.heap.size := fun k hk => H.lt hR3 hk
  have hlen : ([⟨exS, 1, 5⟩] : List Pt).length = 1 := rfl
  rw [hlen]
  have herr : errno? (some exP) = 0 := rfl
  rw [herr]
  clear hp4 hcell hcap hlen herr
  go_wp2_with fail
  refine (HS.answer exS 2 hR4 (by decide) (by unfold inInt; decide)).mono ?_
  rintro _ w5 ⟨F5, rfl, hR5, hF5, hc5⟩
  rw [ex_p2] at hR5 ⊢
  have hlt4 : ∀ k, F3 k → k < w4.heap.size := fun k hk => H.lt hR4 hk
  have hz34 := hc4.size
  have hz45 := hc5.size
  have hg4 : g < w4.heap.size := World.block_lt_of_cell? _ _ d0
  replace d0 := hc5.cellAt d0 (fun h => by have := hlt3 _ h; omega)
  replace d1 := hc5.cellAt d1 (fun h => by have := hlt3 _ h; omega)
  replace d2 := hc5.cellAt d2 (fun h => by have := hlt3 _ h; omega)
  have hF5g : ¬ F5 g := fun h => by
    rcases hF5 _ h with h | h
    · have := hlt3 _ h; omega
    · omega
  go_wp2_with fail
  refine (HS.answer exS 1 hR5 (by decide) (by unfold inInt; decide)).mono ?_
  rintro _ w6 ⟨F6, rfl, hR6, hF6, hc6⟩
  rw [ex_p3] at hR6 ⊢
  replace d0 := hc6.cellAt d0 hF5g
  replace d1 := hc6.cellAt d1 hF5g
  replace d2 := hc6.cellAt d2 hF5g
  have hF6g : ¬ F6 g := fun h => by
    rcases hF6 _ h with h | h
    · exact hF5g h
    · omega
  go_wp2_with fail
  refine (HS.puts hR6).mono ?_
  rintro _ w7 ⟨vq, rfl, hp7, hR7, hc7⟩
  rw [ex_p5] at hp7
  obtain ⟨pq, cq, rfl⟩ := row_any hp7
  replace d0 := hc7.cellAt d0 hF6g
  replace d1 := hc7.cellAt d1 hF6g
  replace d2 := hc7.cellAt d2 hF6g
  have herr2 : errno? (some exP2) = 0 := rfl
  rw [herr2]
  have hlen2 : ([] : List Pt).length = 0 := rfl
  rw [hlen2]
  have h3 := hc1.step hc2 (fun _ h => h.elim)
  have y3 := h3.young hF1 hF3
  have h4 := h3.step hc3 hF1
  have h5 := h4.step hc4 y3
  have y5 := h5.young y3 hF5
  have h6 := h5.step hc5 y3
  have y6 := h6.young y5 hF6
  have h7 := h6.step hc6 y5
  have hall := h7.step hc7 y6
  clear hR1 hF1 hc1 hc2 hR3 hF3 hc3 hR4 hc4 hR5 hF5 hc5 hR6 hF6 hc6 hp7 hR7 hc7 herr2 hlen2 h3 y3 h4 h5 y5 h6 y6 h7 hlt3 hlt4 hz34 hz45 hg4 hF5g hF6g hg
  go_wp2
  go_ret
  exact ⟨rfl, hall⟩

end Go.Proofs.YtcgjdpdbojcoiaaGreat

/- Passed: the sink's put, WALKED. -/
namespace Go.Proofs.YtcgjdpdbojcoiaaGreat
set_option linter.unusedVariables false
set_option linter.unusedSimpArgs false
open Go.RowKit Go.Lib

/-- A sink in memory. -/
structure SinkAt (w : World) (sb lo : Nat) (vl : Value) (L : List Pt) : Prop where
  list : w.cell? ⟨sb, 0, none⟩ = some vl
  fz : ∀ j, w.frozen? ⟨sb, j, none⟩ = false
  row : w.ownsRow lo 71 3 vl L.length (putCells L)
  ne : vl.ownBlock ≠ some sb

theorem SinkAt.chg {F : Nat → Prop} {w w' : World} {sb lo : Nat} {vl : Value} {L : List Pt} (h : SinkAt w sb lo vl L) (hc : Chg F w w') (hb : ¬ F sb) (hv : ∀ k, vl.ownBlock = some k → ¬ F k) : SinkAt w' sb lo vl L :=
  ⟨hc.cellAt h.list hb, fun j => (World.frozen?_of_block (w := w) (hc.block sb (World.block_lt_of_cell? _ _ h.list) hb)).trans (h.fz j), hc.row' h.row hv, h.ne⟩

theorem Tryz.infoP : (Tryz.prog.info? 71).map (fun i => (i.zero, i.size, i.bytes)) = some (some (.agg #[.string { data := #[] }, .int .i64 0, .int .i64 0]), 3, 32) := by kernel_rfl

theorem sinkPut_at (p : Pt) : ∀ (L : List Pt) (i : Nat) (q : Pt), (∀ j x, j < i → L[j]? = some x → x.key ≠ p.key) → L[i]? = some q → q.key = p.key → sinkPut p L = if q.token < p.token then L.set i p else L
  | [], i, q, _, h, _ => by simp at h
  | y :: r, 0, q, _, h, e => by
    simp at h
    subst h
    unfold sinkPut
    rw [if_pos e]
    rfl
  | y :: r, i + 1, q, hn, h, e => by
    have ih := sinkPut_at p r i q (fun j x hj hx => hn (j + 1) x (by omega) (by simpa using hx)) (by simpa using h) e
    unfold sinkPut
    rw [if_neg (hn 0 y (by omega) rfl), ih]
    split <;> rfl

theorem sinkPut_new (p : Pt) : ∀ (L : List Pt), (∀ x ∈ L, x.key ≠ p.key) → sinkPut p L = L ++ [p]
  | [], _ => rfl
  | y :: r, h => by
    unfold sinkPut
    rw [if_neg (h y (by simp)), sinkPut_new p r (fun x hx => h x (by simp [hx]))]
    rfl

theorem SinkAt.push {w w1 : World} {sb lo : Nat} {vl v' : Value} {L : List Pt} (h : SinkAt w sb lo vl L) (o : Obj) (x : Pt) (hown : w1.ownsRow lo 71 3 v' (L.length + 1) (putCells L ++ x.cells)) (hg : (w.alloc o).drew.grownBy w1 vl.ownBlock) (hw : v'.ownBlock = vl.ownBlock ∨ ∀ k, v'.ownBlock = some k → (w.alloc o).drew.heap.size ≤ k) :
    SinkAt (w1.setCell ⟨sb, 0, none⟩ v') sb lo v' (L ++ [x]) ∧ Wh w.heap.size vl v' ∧ Chg (fun k => k = sb ∨ vl.ownBlock = some k) w (w1.setCell ⟨sb, 0, none⟩ v') := by
  have hlt := World.block_lt_of_cell? _ _ h.list
  have e : (w.alloc o).drew.heap.size = w.heap.size + 1 := World.size_alloc _ _
  have c1 : Chg (fun k => vl.ownBlock = some k) w w1 := ((Chg.refl (fun k => vl.ownBlock = some k) w).alloc o).trans (G := fun k => vl.ownBlock = some k) ⟨hg.os, hg.tape, hg.output, hg.size, fun k hk hne' => hg.block k hk (fun h => hne' h.symm)⟩ (fun _ _ h => h)
  have c2 : Chg (fun k => k = sb) w1 (w1.setCell ⟨sb, 0, none⟩ v') := Chg.setCell (p := ⟨sb, 0, none⟩) (Chg.refl (fun k => k = sb) w1) (fun _ => rfl) _
  have hb : v'.ownBlock ≠ some sb := by
    rcases hw with hw | hw
    · rw [hw]; exact h.ne
    · intro hk; have := hw _ hk; simp only at hlt; omega
  refine ⟨⟨World.cell?_setCell_same _ _ _ (c1.cellAt h.list h.ne), fun j => ?_, ?_, hb⟩, ?_, ?_⟩
  · rw [World.frozen?_setCell]
    exact (World.frozen?_of_block (w := w) (c1.block sb hlt h.ne)).trans (h.fz j)
  · have := c2.row' hown (fun k hk hf => hb (by rw [← hf]; exact hk))
    rw [putCells_append]
    simpa [putCells] using this
  · rcases hw with hw | hw
    · exact .inl hw
    · exact .inr fun k hk => by have := hw k hk; omega
  · exact (c1.mono (fun k hk => .inr hk)).trans c2 (fun k _ hk => .inl hk)

theorem SinkAt.store {w : World} {sb lo g cap : Nat} {L : List Pt} (h : SinkAt w sb lo (.slice (some ⟨g, 0, none⟩) L.length cap) L) (hgs : g ≠ sb) (i : Nat) (p : Pt) :
    SinkAt (((w.setCell ⟨g, i * 3, none⟩ (.string p.key)).setCell ⟨g, i * 3 + 1, none⟩ (.int .i64 p.token)).setCell ⟨g, i * 3 + 2, none⟩ (.int .i64 p.value)) sb lo (.slice (some ⟨g, 0, none⟩) L.length cap) (L.set i p) ∧
    Chg (fun k => k = g) w (((w.setCell ⟨g, i * 3, none⟩ (.string p.key)).setCell ⟨g, i * 3 + 1, none⟩ (.int .i64 p.token)).setCell ⟨g, i * 3 + 2, none⟩ (.int .i64 p.value)) := by
  have c : Chg (fun k => k = g) w (((w.setCell ⟨g, i * 3, none⟩ (.string p.key)).setCell ⟨g, i * 3 + 1, none⟩ (.int .i64 p.token)).setCell ⟨g, i * 3 + 2, none⟩ (.int .i64 p.value)) := (((Chg.refl (fun k => k = g) w).setCell (p := ⟨g, i * 3, none⟩) (fun _ => rfl) _).setCell (p := ⟨g, i * 3 + 1, none⟩) (fun _ => rfl) _).setCell (p := ⟨g, i * 3 + 2, none⟩) (fun _ => rfl) _
  refine ⟨⟨c.cellAt h.list (fun e => hgs e.symm), fun j => (World.frozen?_of_block (w := w) (c.block sb (World.block_lt_of_cell? _ _ h.list) (fun e => hgs e.symm))).trans (h.fz j), ?_, h.ne⟩, c⟩
  rw [List.length_set, putCells_set]
  exact (((h.row.stored (i * 3) _).1.stored (i * 3 + 1) _).1.stored (i * 3 + 2) _).1

set_option maxRecDepth 100000 in
set_option maxHeartbeats 4000000 in
theorem sinkput_any {w : World} {sb lo : Nat} {vl : Value} {L : List Pt} (p : Pt) (hS : SinkAt w sb lo vl L) (hlo : lo ≤ w.heap.size) (hL : L.length ≤ 1000) :
    Calls Tryz.prog 23 #[.pointer (some ⟨sb, 0, none⟩), .agg #[.string p.key, .int .i64 p.token, .int .i64 p.value]] w fun e w' =>
      ∃ vl' t, e = .returned (.int .i64 t) ∧ SinkAt w' sb lo vl' (sinkPut p L) ∧ (∃ q ∈ sinkPut p L, q.key = p.key ∧ q.token = t) ∧ Wh w.heap.size vl vl' ∧ Chg (fun k => k = sb ∨ vl.ownBlock = some k) w w' := by
  obtain ⟨i0, hi0, hz0, hz1, hz2⟩ := info_parts Tryz.infoP
  obtain ⟨W0, hW0⟩ : ∃ W0, W0 = w.alloc (Obj.cells #[.string p.key, .int .i64 p.token, .int .i64 p.value] 71) := ⟨_, rfl⟩
  have c0 : Chg (fun _ => False) w W0 := by rw [hW0]; exact (Chg.refl _ w).alloc _
  have b0 : W0.cell? ⟨w.heap.size, 0, none⟩ = some (.string p.key) := by rw [hW0]; exact World.cell?_alloc_at _ _ _ _ rfl
  have b1 : W0.cell? ⟨w.heap.size, 1, none⟩ = some (.int .i64 p.token) := by rw [hW0]; exact World.cell?_alloc_at _ _ _ _ rfl
  have b2 : W0.cell? ⟨w.heap.size, 2, none⟩ = some (.int .i64 p.value) := by rw [hW0]; exact World.cell?_alloc_at _ _ _ _ rfl
  have hS0 := hS.chg c0 id (fun _ _ h => h)
  have hsbw : sb < w.heap.size := World.block_lt_of_cell? _ _ hS.list
  have hrw : ∀ k, vl.ownBlock = some k → k < w.heap.size := fun k hk => (hS.row.lt k hk).2
  obtain ⟨q0, cap, rfl⟩ := row_any hS.row
  go_enter Tryz.func23, Tryz.ntmps23
  go_wp2_with fail
  rw [← hW0]
  clear hW0
  go_loopw [5] (fun si wr => ∃ i : Nat, si = .int .i64 i ∧ i ≤ L.length ∧ Hid (∀ j x, j < i → L[j]? = some x → x.key ≠ p.key) ∧ Chg (fun _ => False) W0 wr) (fun si _ => L.length - (intOf si).toNat)
  case atStart => exact ⟨0, rfl, by omega, (fun j x hj => by omega), Chg.refl _ _⟩
  case round =>
    obtain ⟨i, rfl, hi, HN, hc⟩ := hrel
    have hS1 := hS0.chg hc id (fun _ _ h => h)
    have l1 := hS1.list
    have y0 := hc.cellAt b0 id
    have y1 := hc.cellAt b1 id
    have y2 := hc.cellAt b2 id
    have hcw : Chg (fun _ => False) w wr := c0.trans hc (fun _ _ h => h)
    have hz := hcw.size
    by_cases hil : i < L.length
    · have hil' : (i : Int) < (L.length : Int) := by omega
      obtain ⟨x, hx⟩ : ∃ x, L[i]? = some x := ⟨_, List.getElem?_eq_getElem hil⟩
      obtain ⟨g, cap', hvs, _, _, hcell⟩ := row_pos hS1.row (by omega)
      simp only [Value.slice.injEq] at hvs
      obtain ⟨rfl, _, rfl⟩ := hvs
      have cx := putCells_at L i x hx
      have m0 := hcell _ _ cx.1
      have m1 := hcell _ _ cx.2.1
      have m2 := hcell _ _ cx.2.2
      have hgs : g ≠ sb := fun e => hS.ne (by rw [← e]; rfl)
      have hgw : g < w.heap.size := hrw g rfl
      clear hcell
      by_cases hke : x.key = p.key
      · rw [hke] at m0
        by_cases hgt : x.token < p.token
        · have f0 := row_frozen hS1.row (i * 3)
          have f1 := row_frozen hS1.row (i * 3 + 1)
          have f2 := row_frozen hS1.row (i * 3 + 2)
          go_wp2_with fail
          go_quiet (fail)
          go_wp2_with fail
          go_quiet (fail)
          go_wp2_with fail
          go_region
          go_wp2_with fail
          go_ret
          have e := sinkPut_at p L i x HN.out hx hke
          rw [if_pos hgt] at e
          refine ⟨.slice (some ⟨g, 0, none⟩) L.length cap, p.token, ?_, ?_, ?_, Wh.refl _ _, ?_⟩
          · rfl
          · rw [e]
            exact ((hS1.chg (((Quiet.refl wr).drewN _).chg (fun _ => False)) id (fun _ _ h => h)).store hgs i p).1
          · rw [e]
            exact ⟨p, List.mem_iff_getElem?.2 ⟨i, List.getElem?_set_self hil⟩, rfl, rfl⟩
          · exact ((hcw.trans (((Quiet.refl wr).drewN _).chg (fun _ => False)) (fun _ _ h => h)).mono (fun _ h => h.elim)).trans ((hS1.chg (((Quiet.refl wr).drewN _).chg (fun _ => False)) id (fun _ _ h => h)).store hgs i p).2 (fun k _ h => .inr (by rw [h]; rfl))
        · go_wp2_with fail
          go_quiet (fail)
          go_wp2_with fail
          go_quiet (fail)
          go_wp2_with fail
          go_ret
          have e := sinkPut_at p L i x HN.out hx hke
          rw [if_neg (by omega)] at e
          refine ⟨.slice (some ⟨g, 0, none⟩) L.length cap, x.token, rfl, ?_, ?_, Wh.refl _ _, ?_⟩
          · rw [e]
            exact hS1.chg (((Quiet.refl wr).drewN _).chg (fun _ => False)) id (fun _ _ h => h)
          · rw [e]
            exact ⟨x, List.mem_of_getElem? hx, hke, rfl⟩
          · exact (hcw.trans (((Quiet.refl wr).drewN _).chg (fun _ => False)) (fun _ _ h => h)).mono (fun _ h => h.elim)
      · have hkn : (x.key.toList == p.key.toList) = false := by
          rw [beq_eq_false_iff_ne]
          intro e
          rw [ByteArray.toList_eq, ByteArray.toList_eq] at e
          exact hke (ByteArray.ext (Array.toList_inj.1 e))
        have HN' : Hid (∀ j x, j < i + 1 → L[j]? = some x → x.key ≠ p.key) := fun j y hj hy => by
          by_cases e : j = i
          · subst e; rw [hx] at hy; rw [← Option.some.inj hy]; exact hke
          · exact HN.out j y (by omega) hy
        go_wp2_with fail
        go_quiet (fail)
        go_wp2_with fail
        exact ⟨⟨i + 1, by go_num, by omega, HN', hc.trans (((Quiet.refl _).drewN _).chg _) (fun _ _ h => h)⟩, by simp [intOf]; omega⟩
    · have hil' : ¬ (i : Int) < (L.length : Int) := by omega
      have HE : Hid (sinkPut p L = L ++ [p]) := sinkPut_new p L (fun x hx => by
        obtain ⟨j, hj, e⟩ := List.getElem_of_mem hx
        exact HN.out j x (by omega) (by rw [List.getElem?_eq_getElem hj, e]))
      have s1 : Hid (∀ j u, p.cells[j]? = some u → ((wr.alloc (.cells #[.string p.key, .int .i64 p.token, .int .i64 p.value] 71)).drew).cell? ((⟨wr.heap.size, 0, none⟩ : Addr).add j) = some u) := by
        intro j u hj
        match j, hj with
        | 0, hj => simp [Pt.cells] at hj; subst hj; simp [Addr.add]
        | 1, hj => simp [Pt.cells] at hj; subst hj; simp [Addr.add]
        | 2, hj => simp [Pt.cells] at hj; subst hj; simp [Addr.add]
        | k + 3, hj => simp [Pt.cells] at hj
      have s2 : Hid (∀ u ∈ p.cells, u.oneCell' = true) := by
        intro u hu
        simp [Pt.cells] at hu
        rcases hu with rfl | rfl | rfl <;> rfl
      have s3 : Hid (L.length + 1 ≤ maxLen) := by show _ ≤ maxLen; unfold maxLen; omega
      have s4 : Hid ((L.length + 1) * 32 ≤ 140737488355328) := by show _ ≤ _; omega
      have s5 : Hid (lo ≤ ((wr.alloc (.cells #[.string p.key, .int .i64 p.token, .int .i64 p.value] 71)).drew).heap.size) := by show lo ≤ (wr.alloc _).heap.size; rw [World.size_alloc]; omega
      have s6 : Hid (∀ (v' : Value) (w1 : World), w1.ownsRow lo 71 3 v' (L.length + 1) (putCells L ++ p.cells) → (wr.alloc (.cells #[.string p.key, .int .i64 p.token, .int .i64 p.value] 71)).drew.grownBy w1 (Value.slice q0 L.length cap).ownBlock → (v'.ownBlock = (Value.slice q0 L.length cap).ownBlock ∨ ∀ k, v'.ownBlock = some k → (wr.alloc (.cells #[.string p.key, .int .i64 p.token, .int .i64 p.value] 71)).drew.heap.size ≤ k) → w1.cell? ⟨sb, 0, none⟩ = some (.slice q0 L.length cap) ∧ w1.frozen? ⟨sb, 0, none⟩ = false ∧ (w1.setCell ⟨sb, 0, none⟩ v').cell? ⟨w.heap.size, 1, none⟩ = some (.int .i64 p.token) ∧ Hid (SinkAt (w1.setCell ⟨sb, 0, none⟩ v') sb lo v' (L ++ [p]) ∧ Wh wr.heap.size (.slice q0 L.length cap) v' ∧ Chg (fun k => k = sb ∨ (Value.slice q0 L.length cap).ownBlock = some k) wr (w1.setCell ⟨sb, 0, none⟩ v'))) := by
        intro v' w1 hown hg hw
        have hlt := World.block_lt_of_cell? _ _ hS1.list
        have hb := hg.block sb (by show sb < (wr.alloc _).heap.size; rw [World.size_alloc]; simp only at hlt; omega) (fun h => hS1.ne h.symm)
        have hb' : w1.heap[sb]? = wr.heap[sb]? := hb.trans (Below.heap_alloc _ _ _ hlt)
        have hpush := hS1.push _ p hown hg hw
        refine ⟨(World.cell?_of_block (w := wr) hb').trans hS1.list, (World.frozen?_of_block (w := wr) hb').trans (hS1.fz 0), hpush.2.2.cellAt y1 (fun h => ?_), hpush⟩
        rcases h with h | h
        · omega
        · have := hrw _ h; omega
      have hpa : (wr.alloc (.cells #[.string p.key, .int .i64 p.token, .int .i64 p.value] 71)).cell? ⟨sb, 0, none⟩ = some (.slice q0 L.length cap) := (World.cell?_alloc_lt wr _ _ (World.block_lt_of_cell? _ _ hS1.list)).trans hS1.list
      go_wp2_with fail
      go_region_law (refine step_append_own rfl (.tmp 56) (.tmp 58) 64 rfl lo 71 i0 _ 3 32 Tryz.underlying64 hi0 hz0 hz1 hz2 rfl (by decide) _ L.length (putCells L) (by simp [Act.eval, Act.put]) (hS1.row.alloc _) ⟨wr.heap.size, 0, none⟩ 1 1 p.cells (by simp [Act.eval, Act.put]) rfl s1.out s2.out s3.out s4.out s5.out ?_; intro v' w1 hown hgrow hwhere; obtain ⟨q', cap', rfl⟩ := row_any hown; obtain ⟨hp1, hz1', hy1, hh⟩ := s6.out (.slice q' (L.length + 1) cap') w1 hown hgrow hwhere)
      all_goals
        go_wp2_with fail
        go_ret
        refine ⟨.slice q' (L.length + 1) cap', p.token, rfl, by rw [HE.out]; exact hh.out.1, by rw [HE.out]; exact ⟨p, by simp, rfl, rfl⟩, (Wh.refl _ _).trans hh.out.2.1 hz, (hcw.mono (fun _ h => h.elim)).trans hh.out.2.2 (fun _ _ h => h)⟩

end Go.Proofs.YtcgjdpdbojcoiaaGreat

/- Passed: what holds from call to call. -/
namespace Go.Proofs.YtcgjdpdbojcoiaaGreat
set_option linter.unusedVariables false
set_option linter.unusedSimpArgs false
open Go.RowKit Go.Lib

variable {R : World → Addr → Option St → (Nat → Prop) → Prop}

/-- The relay, the sink and the records beside one another. -/
structure PHalf (R : World → Addr → Option St → (Nat → Prop) → Prop) (w : World) (a : Addr) (sb lo : Nat) (va vl : Value) (all : List Rec) (L : List Pt) (s : St) (F : Nat → Prop) : Prop where
  rel : R w a (some s) F
  snk : SinkAt w sb lo vl L
  row : w.ownsRow lo 37 5 va all.length (recCells all)
  fs : ¬ F sb
  fl : ∀ k, vl.ownBlock = some k → ¬ F k
  fa : ∀ k, va.ownBlock = some k → ¬ F k
  ao : va.ownBlock ≠ some sb
  sep : ∀ g, va.ownBlock = some g → vl.ownBlock ≠ some g
  lo : lo ≤ w.heap.size

variable {w w' : World} {a : Addr} {sb lo : Nat} {va vl vl' vp : Value} {all : List Rec} {L L' : List Pt} {s s' : St} {F F' : Nat → Prop}

theorem PHalf.keep (H : Api R) (h : PHalf R w a sb lo va vl all L s F) (c : Chg (fun _ => False) w w') : PHalf R w' a sb lo va vl all L s F :=
  ⟨H.keep h.rel c, h.snk.chg c id (fun _ _ h => h), c.row' h.row (fun _ _ h => h), h.fs, h.fl, h.fa, h.ao, h.sep, Nat.le_trans h.lo c.size⟩

theorem PHalf.call (h : PHalf R w a sb lo va vl all L s F) (c : Chg F w w') (hF : ∀ k, F' k → F k ∨ w.heap.size ≤ k) (hR : R w' a (some s') F') : PHalf R w' a sb lo va vl all L s' F' := by
  have hob : sb < w.heap.size := World.block_lt_of_cell? _ _ h.snk.list
  refine ⟨hR, h.snk.chg c h.fs h.fl, c.row' h.row h.fa, fun hk => ?_, fun k hk hf => ?_, fun k hk hf => ?_, h.ao, h.sep, Nat.le_trans h.lo c.size⟩
  · rcases hF _ hk with e | e
    · exact h.fs e
    · omega
  · rcases hF _ hf with e | e
    · exact h.fl k hk e
    · have := (h.snk.row.lt k hk).2; omega
  · rcases hF _ hf with e | e
    · exact h.fa k hk e
    · have := (h.row.lt k hk).2; omega

theorem PHalf.put (H : Api R) (h : PHalf R w a sb lo va vl all L s F) (ho : SinkAt w' sb lo vl' L') (hW : Wh w.heap.size vl vl') (c : Chg (fun k => k = sb ∨ vl.ownBlock = some k) w w') : PHalf R w' a sb lo va vl' all L' s F := by
  refine ⟨H.stable h.rel (fun k hk => c.block k (H.lt h.rel hk) (fun e => ?_)), ho, c.row' h.row (fun k hk e => ?_), h.fs, fun k hk hf => ?_, h.fa, h.ao, fun g hg hv => ?_, Nat.le_trans h.lo c.size⟩
  · rcases e with e | e
    · exact h.fs (by rw [← e]; exact hk)
    · exact h.fl k e hk
  · rcases e with e | e
    · exact h.ao (by rw [← e]; exact hk)
    · exact h.sep k hk e
  · rcases hW with e | e
    · exact h.fl k (by rw [← e]; exact hk) hf
    · have := e k hk
      have := H.lt h.rel hf
      omega
  · rcases hW with e | e
    · exact h.sep g hg (by rw [← e]; exact hv)
    · have := e g hv
      have := (h.row.lt g hg).2
      omega

/-- What is to be put, in memory beside them. -/
structure PutsAt (w : World) (sb lo : Nat) (vl vp : Value) (F : Nat → Prop) (P : List Pt) : Prop where
  row : w.ownsRow lo 71 3 vp P.length (putCells P)
  fp : ∀ k, vp.ownBlock = some k → ¬ F k
  ns : vp.ownBlock ≠ some sb
  sep : ∀ g, vp.ownBlock = some g → vl.ownBlock ≠ some g

theorem PutsAt.keep {P : List Pt} (h : PutsAt w sb lo vl vp F P) (c : Chg (fun _ => False) w w') : PutsAt w' sb lo vl vp F P :=
  ⟨c.row' h.row (fun _ _ h => h), h.fp, h.ns, h.sep⟩

theorem PutsAt.call {P : List Pt} (h : PutsAt w sb lo vl vp F P) (c : Chg F w w') (hF : ∀ k, F' k → F k ∨ w.heap.size ≤ k) : PutsAt w' sb lo vl vp F' P := by
  refine ⟨c.row' h.row h.fp, fun k hk hf => ?_, h.ns, h.sep⟩
  rcases hF _ hf with e | e
  · exact h.fp k hk e
  · have := (h.row.lt k hk).2; omega

theorem PutsAt.put {P : List Pt} (h : PutsAt w sb lo vl vp F P) (hW : Wh w.heap.size vl vl') (c : Chg (fun k => k = sb ∨ vl.ownBlock = some k) w w') : PutsAt w' sb lo vl' vp F P := by
  refine ⟨c.row' h.row (fun k hk e => ?_), h.fp, h.ns, fun g hg hv => ?_⟩
  · rcases e with e | e
    · exact h.ns (by rw [← e]; exact hk)
    · exact h.sep k hk e
  · rcases hW with e | e
    · exact h.sep g hg (by rw [← e]; exact hv)
    · have := e g hv
      have := (h.row.lt g hg).2
      omega

/-- Just told. -/
theorem PutsAt.first (H : Api R) {P : List Pt} (h : PHalf R w a sb lo va vl all L s F) (hr : w'.ownsRow w.heap.size 71 3 vp P.length (putCells P)) : PutsAt w' sb lo vl vp F P := by
  have hob : sb < w.heap.size := World.block_lt_of_cell? _ _ h.snk.list
  refine ⟨row_lower hr h.lo, fun k hk hf => ?_, fun e => ?_, fun g hg hv => ?_⟩
  · have := (hr.lt k hk).1
    have := H.lt h.rel hf
    omega
  · have := (hr.lt _ e).1; omega
  · have := (hr.lt g hg).1
    have := (h.snk.row.lt g hv).2
    omega

/-- What is young stays so. -/
theorem young_put {w0 : World} (h : Chg (fun _ => False) w0 w) (ho : SinkAt w sb w0.heap.size vl L) (hob : w0.heap.size ≤ sb) (c : Chg (fun k => k = sb ∨ vl.ownBlock = some k) w w') : Chg (fun _ => False) w0 w' :=
  h.step c (fun k hk => by
    rcases hk with e | e
    · omega
    · exact (ho.row.lt k e).1)

theorem SInv.key {i : Nat} (h : SInv all i s.keys L) (hP : PInv all i s) (hn : Numbered all) {p : Pt} (hp : p ∈ L) : p.key ∈ names4 := by
  obtain ⟨h1, _⟩ := h.each p hp
  have h2 := h.token hp
  obtain ⟨k, hk, e⟩ := hP.there (name := p.key) (by omega)
  rw [← e]
  exact (hP.key hn hk).1

theorem SInv.few {i : Nat} (h : SInv all i s.keys L) (hP : PInv all i s) (hn : Numbered all) : L.length ≤ 4 := by
  have h1 := h.apart.length_le_of_subset (l₂ := names4) (fun x hx => by
    obtain ⟨p, hp, rfl⟩ := List.mem_map.1 hx
    exact h.key hP hn hp)
  rw [List.length_map] at h1
  exact h1

/-- Those that are put are keys as they stand. -/
def Putn (all : List Rec) (m : Nat) (P : List Pt) : Prop := ∀ p ∈ P, (⟨p.key, p.token, p.value, 0⟩ : Ky) ∈ keysOf (all.take m) []

theorem PInv.putn {m : Nat} (h : PInv all m s) : Putn all m (putsOf s.keys) := fun p hp => by
  obtain ⟨k, hk, rfl⟩ := putsOf_mem _ _ hp
  rw [← h.keys]
  exact List.mem_map.2 ⟨k, hk, rfl⟩

theorem PInv.ofPut {m : Nat} (h : PInv all m s) (hf : s.fine) {P : List Pt} (hp : Putn all m P) {p : Pt} (hm : p ∈ P) : ∃ k ∈ s.keys, k.name = p.key ∧ k.count = p.token ∧ 1 ≤ p.token ∧ (p.token, p.value) = tally p.key (all.take m) := by
  have h1 := hp p hm
  have h2 := (keysOf_tally (all.take m)).2.1 _ h1
  rw [← h.keys] at h1
  obtain ⟨k, hk, e⟩ := List.mem_map.1 h1
  have e1 : k.name = p.key := by have := congrArg Ky.name e; exact this
  have e2 : k.count = p.token := by have := congrArg Ky.count e; exact this
  exact ⟨k, hk, e1, e2, by have := (hf.key k hk).1; omega, h2⟩

theorem row_cut {lo : Nat} {e : TypeId} {size n m cap : Nat} {p : Option Addr} {xs : List Value} (h : w.ownsRow lo e size (.slice p n cap) n xs) (hm : m ≤ n) : w.ownsRow lo e size (.slice p m cap) m (xs.take (m * size)) := by
  refine ⟨?_, ?_⟩
  · rw [List.length_take, h.1]
    exact Nat.min_eq_left (Nat.mul_le_mul_right _ hm)
  · rcases h.2 with ⟨hv, hz⟩ | ⟨g, cap', cur, hv, hbg, hg, hcap, hmax, hcur, htake⟩
    · simp only [Value.slice.injEq] at hv
      obtain ⟨rfl, _, rfl⟩ := hv
      have : m = 0 := by omega
      subst this
      exact .inl ⟨rfl, rfl⟩
    · simp only [Value.slice.injEq] at hv
      obtain ⟨rfl, _, rfl⟩ := hv
      refine .inr ⟨g, cap, cur, rfl, hbg, hg, by omega, hmax, hcur, ?_⟩
      rw [← htake, List.take_take]
      congr 1
      exact (Nat.min_eq_left (Nat.mul_le_mul_right _ hm)).symm

theorem recCells_take : ∀ (l : List Rec) (m : Nat), (recCells l).take (m * 5) = recCells (l.take m)
  | [], m => by simp [recCells]
  | x :: r, 0 => by simp [recCells]
  | x :: r, m + 1 => by
    rw [show (m + 1) * 5 = m * 5 + 5 by omega]
    simp [recCells, Rec.cells, recCells_take r m]

theorem tokens_take_next {L : List Pt} {q : Nat} {p : Pt} (h : L[q]? = some p) : tokens (L.take (q + 1)) = tokens (L.take q) + p.token := by
  obtain ⟨hl, e⟩ := List.getElem?_eq_some_iff.1 h
  rw [List.take_succ_eq_append_getElem hl, e]
  have : ∀ (a b : List Pt), tokens (a ++ b) = tokens a + tokens b := by
    intro a
    induction a with
    | nil => intro b; simp [tokens]
    | cons x r ih => intro b; simp [tokens, ih]; omega
  rw [this]
  simp [tokens]

theorem tokens_bound : ∀ {L : List Pt}, (∀ p ∈ L, 1 ≤ p.token ∧ p.token ≤ 1000) → 0 ≤ tokens L ∧ tokens L ≤ 1000 * L.length
  | [], _ => by simp [tokens]
  | p :: r, h => by
    have h1 := h p (by simp)
    have h2 := tokens_bound (L := r) (fun q hq => h q (by simp [hq]))
    simp [tokens]
    omega

end Go.Proofs.YtcgjdpdbojcoiaaGreat
