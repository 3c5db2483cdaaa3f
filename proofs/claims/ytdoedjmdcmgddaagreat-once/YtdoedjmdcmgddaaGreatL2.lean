/- A LANE: add, next, WALKED. -/
import Derived.Test.YtdoedjmdcmgddaaGreatL1
namespace Go.Proofs.YtdoedjmdcmgddaaGreat
set_option linter.unusedVariables false
set_option linter.unusedSimpArgs false
open Go.RowKit

set_option maxRecDepth 100000 in
set_option maxHeartbeats 400000 in
theorem add_any (lo b o n : Nat) (v : Value) (qs : List Wt) (x : Wt) (w : World) (hv : w.cell? ⟨b, o + 2, none⟩ = some v) (hz : w.frozen? ⟨b, o + 2, none⟩ = false) (hr : w.ownsRow lo 144 3 v n (wtCells qs)) (hl : qs.length = n) (hne : v.ownBlock ≠ some b) (hlo : lo ≤ w.heap.size) (hn : n < 1000) :
    Calls Tryz.prog 58 #[.pointer (some ⟨b, o, none⟩), x.agg] w fun e w' => ∃ g cap, e = .returned (.tuple #[]) ∧
      QAt w' lo ⟨b, o + 2, none⟩ g cap (n + 1) (upFn (n + 1) (qs ++ [x]) n) ∧ (v.ownBlock = some g ∨ w.heap.size ≤ g) ∧ Slots b (fun j => j = o + 2) w w' ∧ Chg (fun k => k = b ∨ v.ownBlock = some k) w w' := by
  have hbl := World.block_lt_of_cell? w _ hv
  have hbl' : b < w.heap.size := hbl
  have hpu := heapPush_any lo ⟨b, o + 2, none⟩ v n qs x (w.alloc (.cells #[.int .i64 x.num, .string x.key, .int .i64 x.val] 144)).drew ((World.cell?_alloc_lt w _ ⟨b, o + 2, none⟩ hbl).trans hv)
    ((World.frozen?_of_block (w := w) (Below.heap_alloc _ _ _ hbl)).trans hz) (hr.alloc _) hl hne (by show lo ≤ (w.alloc _).heap.size; rw [World.size_alloc]; omega) hn
  unfold Wt.agg
  go_enter Tryz.func58, Tryz.ntmps58
  go_wp2_with fail
  go_region_with (go_at_call 89; refine hpu.mono ?_; rintro _ w1 ⟨g, cap, rfl, hq1, hw1, hs1, hc1⟩)
  all_goals
    go_end0
    refine ⟨g, cap, rfl, hq1, hw1.imp id (fun h => ?_), ((Slots.of_block (fun j => j = o + 2) (Below.heap_alloc w _ b hbl)).quiet ((Quiet.refl _).drew)).trans hs1 (fun _ h => h), ((Chg.refl _ w).alloc _).drew.trans hc1 (fun _ _ h => h)⟩
    have e : ((w.alloc (.cells #[.int .i64 x.num, .string x.key, .int .i64 x.val] 144)).drew).heap.size = w.heap.size + 1 := World.size_alloc _ _
    omega

theorem Chg.drewN' {F : Nat → Prop} {a w : World} (h : Chg F a w) (n : Nat) : Chg F a (w.drewN n) := ⟨h.os, h.tape, h.output, h.size, h.block⟩

set_option maxRecDepth 100000 in
set_option maxHeartbeats 400000 in
/-- next, where none waits. -/
theorem next_empty (b o : Nat) (p : Option Addr) (cap : Nat) (w : World) (hbl : b < w.heap.size) (hv : w.cell? ⟨b, o + 2, none⟩ = some (.slice p 0 cap)) :
    Calls Tryz.prog 91 #[.pointer (some ⟨b, o, none⟩)] w fun e w' => e = .returned (.tuple #[Wt.zero.agg, .bool false]) ∧ Chg (fun _ => False) w w' := by
  go_enter Tryz.func91, Tryz.ntmps91
  go_wp2_with fail
  go_quiet (fail)
  go_wp2_with fail
  refine bodyPost_ret (v := .tuple #[Wt.zero.agg, .bool false]) ?_ rfl ⟨rfl, ?_⟩
  · simp [results, Tryz.results91, go_sem, Wt.zero, Wt.agg]
  · exact (((((Chg.refl _ w).alloc _).drewN' _).setCell (fun h => absurd h (Nat.lt_irrefl _)) _).setCell (fun h => absurd h (Nat.lt_irrefl _)) _).setCell (fun h => absurd h (Nat.lt_irrefl _)) _

set_option maxRecDepth 100000 in
set_option maxHeartbeats 400000 in
/-- next, where it is another's turn. -/
theorem next_not (b o g cap n : Nat) (base num : Int) (w : World) (hbl : b < w.heap.size) (hgl : g < w.heap.size) (hv : w.cell? ⟨b, o + 2, none⟩ = some (.slice (some ⟨g, 0, none⟩) (n + 1) cap)) (hb : w.cell? ⟨b, o + 1, none⟩ = some (.int .i64 base)) (ha : w.cell? ⟨g, 0, none⟩ = some (.int .i64 num)) (hne : (num != base) = true) (hn : n < 1000) :
    Calls Tryz.prog 91 #[.pointer (some ⟨b, o, none⟩)] w fun e w' => e = .returned (.tuple #[Wt.zero.agg, .bool false]) ∧ Chg (fun _ => False) w w' := by
  have h0 : ((n : Int) + 1 == 0) = false := by simp; omega
  go_enter Tryz.func91, Tryz.ntmps91
  go_wp2_with fail
  go_quiet (fail)
  go_wp2_with fail
  refine bodyPost_ret (v := .tuple #[Wt.zero.agg, .bool false]) ?_ rfl ⟨rfl, ?_⟩
  · simp [results, Tryz.results91, go_sem, Wt.zero, Wt.agg]
  · exact (((((Chg.refl _ w).alloc _).drewN' _).setCell (fun h => absurd h (Nat.lt_irrefl _)) _).setCell (fun h => absurd h (Nat.lt_irrefl _)) _).setCell (fun h => absurd h (Nat.lt_irrefl _)) _

theorem frozen_setCell (w : World) (p : Addr) (u : Value) (a : Addr) : (w.setCell p u).frozen? a = w.frozen? a := by simp

set_option maxRecDepth 100000 in
set_option maxHeartbeats 1000000 in
/-- next, where its turn has come. -/
theorem next_some (lo b o g cap n : Nat) (base : Int) (qs : List Wt) (x : Wt) (w : World) (hq : QAt w lo ⟨b, o + 2, none⟩ g cap (n + 1) qs) (hb : w.cell? ⟨b, o + 1, none⟩ = some (.int .i64 base)) (f1 : w.frozen? ⟨b, o + 1, none⟩ = false) (f2 : w.frozen? ⟨b, o + 2, none⟩ = false)
    (h0 : numAt qs 0 = base) (hb0 : 0 ≤ base ∧ base ≤ 1000) (hx : (downFn n (swapL qs 0 n) 0 n)[n]? = some x) (hn : n < 1000) :
    Calls Tryz.prog 91 #[.pointer (some ⟨b, o, none⟩)] w fun e w' => e = .returned (.tuple #[x.agg, .bool true]) ∧
      QAt w' lo ⟨b, o + 2, none⟩ g cap n ((downFn n (swapL qs 0 n) 0 n).take n) ∧ w'.cell? ⟨b, o + 1, none⟩ = some (.int .i64 (base + 1)) ∧ Slots b (fun j => j = o + 1 ∨ j = o + 2) w w' ∧ Chg (fun k => k = b ∨ k = g) w w' := by
  obtain ⟨y, hy⟩ : ∃ y, qs[0]? = some y := ⟨_, List.getElem?_eq_getElem (by have := hq.len; omega)⟩
  have hyn : y.num = base := by simpa [numAt, hy] using h0
  have cy := wtCells_at qs 0 y hy
  have ha : w.cell? ⟨g, 0, none⟩ = some (.int .i64 base) := by have := row_cell hq.row cy.1; rw [hyn] at this; simpa using this
  have hv := hq.var
  have hbl : b < w.heap.size := World.block_lt_of_cell? _ _ hv
  have hgl : g < w.heap.size := World.block_lt_of_cell? _ _ ha
  have hz0 : ((n : Int) + 1 == 0) = false := by simp; omega
  have hta := assert_waiter
  obtain ⟨hb1, hb2⟩ := hb0
  have hbg : b ≠ g := hq.ne
  go_enter Tryz.func91, Tryz.ntmps91
  go_wp2_with fail
  go_quiet (fail)
  go_wp2_with fail
  have hsz : (((w.alloc (.cells #[.int .i64 0, .string { data := #[] }, .int .i64 0] 144)).drewN nq).setCell ⟨b, o + 1, none⟩ (.int .i64 (base + 1))).heap.size = w.heap.size + 1 := by
    simp [World.setCell]
  generalize hW : ((w.alloc (.cells #[.int .i64 0, .string { data := #[] }, .int .i64 0] 144)).drewN nq).setCell ⟨b, o + 1, none⟩ (.int .i64 (base + 1)) = W at hsz
  have hcW : Chg (fun k => k = b) w W := by rw [← hW]; exact (((Chg.refl (fun k => k = b) w).alloc _).drewN' nq).setCell (p := ⟨b, o + 1, none⟩) (fun _ => rfl) _
  have hsW : Slots b (fun j => j = o + 1) w W := by
    rw [← hW]; exact ((Slots.of_block _ (Below.heap_alloc _ _ _ hbl)).quiet ((Quiet.refl _).drewN nq)).setCell (p := ⟨b, o + 1, none⟩) _ (fun _ => rfl)
  have hbW : W.cell? ⟨b, o + 1, none⟩ = some (.int .i64 (base + 1)) := by
    rw [← hW]; exact World.cell?_setCell_same _ _ _ ((World.cell?_alloc_lt w _ ⟨b, o + 1, none⟩ hbl).trans hb)
  have hnW : ∀ j, j < 3 → W.cell? ⟨w.heap.size, j, none⟩ ≠ none := by
    intro j hj
    rw [← hW, World.cell?_setCell_other _ _ _ _ (fun e => by have := congrArg Addr.block e; simp at this; omega)]
    show (w.alloc _).cell? ⟨w.heap.size, j, none⟩ ≠ none
    rw [World.cell?_alloc_new]
    match j, hj with
    | 0, _ => simp
    | 1, _ => simp
    | 2, _ => simp
  have hqW : QAt W lo ⟨b, o + 2, none⟩ g cap (n + 1) qs := ⟨(hsW.cell (o + 2) (by omega)).trans hv, hq.len, hcW.row' hq.row (fun k hk => by simp [Value.ownBlock] at hk; omega), hq.ne⟩
  refine (heapPop_any lo b (o + 2) g cap n qs x W hqW ((hsW.frozen _).trans f2) hx hn).mono ?_
  rintro _ w2 ⟨rfl, hq2, hs2, hc2⟩
  have hnew : ∀ j, j < 3 → (∃ u, w2.cell? ⟨w.heap.size, j, none⟩ = some u) ∧ w2.frozen? ⟨w.heap.size, j, none⟩ = false := by
    intro j hj
    have hb2 : w2.heap[w.heap.size]? = W.heap[w.heap.size]? := hc2.block _ (by omega) (by omega)
    refine ⟨Option.ne_none_iff_exists'.1 ?_, ?_⟩
    · rw [World.cell?_of_block (w := W) (a := ⟨w.heap.size, j, none⟩) hb2]; exact hnW j hj
    · rw [World.frozen?_of_block (w := W) (a := ⟨w.heap.size, j, none⟩) hb2, ← hW, frozen_setCell]
      show (w.alloc _).frozen? _ = false
      have e : (w.alloc (.cells #[.int .i64 0, .string { data := #[] }, .int .i64 0] 144)).heap[w.heap.size]? = some (.cells #[.int .i64 0, .string { data := #[] }, .int .i64 0] 144) := heap_alloc_new w _
      simp only [World.frozen?, e]
      simp
  obtain ⟨⟨u0, n0⟩, z0⟩ := hnew 0 (by omega)
  obtain ⟨⟨u1, n1⟩, z1⟩ := hnew 1 (by omega)
  obtain ⟨⟨u2, n2⟩, z2⟩ := hnew 2 (by omega)
  have hlt2 : w.heap.size < w2.heap.size := by have := hc2.size; omega
  unfold Wt.agg
  clear hnew hnW ha hv hb f1 f2
  go_wp2_with fail
  have hc3 : Chg (fun k => k = w.heap.size) w2 (((w2.setCell ⟨w.heap.size, 0, none⟩ (.int .i64 x.num)).setCell ⟨w.heap.size, 1, none⟩ (.string x.key)).setCell ⟨w.heap.size, 2, none⟩ (.int .i64 x.val)) :=
    (((Chg.refl (fun k => k = w.heap.size) w2).setCell (p := ⟨w.heap.size, 0, none⟩) (fun _ => rfl) _).setCell (p := ⟨w.heap.size, 1, none⟩) (fun _ => rfl) _).setCell (p := ⟨w.heap.size, 2, none⟩) (fun _ => rfl) _
  refine bodyPost_ret (v := .tuple #[x.agg, .bool true]) ?_ rfl ⟨rfl, ⟨?_, hq2.len, ?_, hq2.ne⟩, ?_, ?_, ?_⟩
  · simp [results, Tryz.results91, go_sem, Wt.agg, n0, n1, n2]
  · exact hc3.cellAt hq2.var (by omega)
  · exact hc3.row' hq2.row (fun k hk => by simp [Value.ownBlock] at hk; omega)
  · exact hc3.cellAt ((hs2.cell (o + 1) (by omega)).trans hbW) (by omega)
  · have hb2' : b < w2.heap.size := by omega
    exact ((hsW.mono (T := fun j => j = o + 1 ∨ j = o + 2) (fun _ h => Or.inl h)).trans hs2 (fun _ h => Or.inr h)).trans (Slots.of_chg (fun _ => False) hc3 hb2' (by omega)) (fun _ h => h.elim)
  · exact ((hcW.mono (G := fun k => k = b ∨ k = g) (fun _ h => Or.inl h)).trans hc2 (fun _ _ h => h)).trans hc3 (fun k hk h => by omega)

end Go.Proofs.YtdoedjmdcmgddaaGreat
