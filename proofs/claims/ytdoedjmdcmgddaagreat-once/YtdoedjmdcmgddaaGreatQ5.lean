/- THE QUEUE'S Pop, heap.Pop, WALKED. -/
import Derived.Test.YtdoedjmdcmgddaaGreatQ4
namespace Go.Proofs.YtdoedjmdcmgddaaGreat
set_option linter.unusedVariables false
set_option linter.unusedSimpArgs false
open Go.RowKit

def Wt.zero : Wt := ⟨0, ⟨#[]⟩, 0⟩
def Wt.agg (x : Wt) : Value := .agg #[.int .i64 x.num, .string x.key, .int .i64 x.val]

set_option maxRecDepth 100000 in
set_option maxHeartbeats 400000 in
theorem qPop_cells (b o g cap n : Nat) (x : Wt) (w : World) (hn : n < 1000) (hne : b ≠ g) (hcap : n + 1 ≤ cap) (hbl : b < w.heap.size) (hgl : g < w.heap.size)
    (hp : w.cell? ⟨b, o, none⟩ = some (.slice (some ⟨g, 0, none⟩) (n + 1) cap)) (hz : w.frozen? ⟨b, o, none⟩ = false)
    (a0 : w.cell? ⟨g, n * 3, none⟩ = some (.int .i64 x.num)) (a1 : w.cell? ⟨g, n * 3 + 1, none⟩ = some (.string x.key)) (a2 : w.cell? ⟨g, n * 3 + 2, none⟩ = some (.int .i64 x.val))
    (f0 : w.frozen? ⟨g, n * 3, none⟩ = false) (f1 : w.frozen? ⟨g, n * 3 + 1, none⟩ = false) (f2 : w.frozen? ⟨g, n * 3 + 2, none⟩ = false) :
    Calls Tryz.prog 182 #[.pointer (some ⟨b, o, none⟩)] w fun e w' => e = .returned (.iface 144 x.agg) ∧
      w' = ((put3 w g (n * 3) Wt.zero).setCell ⟨b, o, none⟩ (.slice (some ⟨g, 0, none⟩) n cap)).alloc (.cells #[.int .i64 x.num, .string x.key, .int .i64 x.val] 144) := by
  go_enter Tryz.func182, Tryz.ntmps182
  go_wp2
  go_ret
  exact ⟨rfl, rfl⟩

theorem wtCells_cat : ∀ (l r : List Wt), wtCells (l ++ r) = wtCells l ++ wtCells r
  | [], r => rfl
  | y :: l, r => by simp [wtCells, wtCells_cat l r]

theorem set_last (l : List Wt) (n : Nat) (h : l.length = n + 1) (z : Wt) : l.set n z = l.take n ++ [z] := by
  rw [List.set_eq_take_append_cons_drop]
  simp [h]

/-- The last one of a queue goes. -/
theorem qPop_any (lo b o g cap n : Nat) (qs : List Wt) (x : Wt) (w : World) (hq : QAt w lo ⟨b, o, none⟩ g cap (n + 1) qs) (hz : w.frozen? ⟨b, o, none⟩ = false) (hx : qs[n]? = some x) (hn : n < 1000) :
    Calls Tryz.prog 182 #[.pointer (some ⟨b, o, none⟩)] w fun e w' => e = .returned (.iface 144 x.agg) ∧ QAt w' lo ⟨b, o, none⟩ g cap n (qs.take n) ∧ Slots b (fun j => j = o) w w' ∧ Chg (fun k => k = b ∨ k = g) w w' := by
  have cx := wtCells_at qs n x hx
  have hr := hq.row
  have hlt := World.block_lt_of_cell? w _ hq.var
  have hgl := World.block_lt_of_cell? w _ (row_cell hr cx.1)
  have hcap : n + 1 ≤ cap := by
    rcases hr.2 with ⟨h, _⟩ | ⟨g', cap', cur, hv, _, _, h, _⟩
    · simp at h
    · simp at hv; omega
  have hbg : b ≠ g := hq.ne
  refine (qPop_cells b o g cap n x w hn hbg hcap hlt hgl hq.var hz (row_cell hr cx.1) (row_cell hr cx.2.1) (row_cell hr cx.2.2) (row_frozen hr _) (row_frozen hr _) (row_frozen hr _)).mono ?_
  rintro e w' ⟨rfl, rfl⟩
  obtain ⟨r1, c1⟩ := row_put3 hr n Wt.zero
  have hv1 : (put3 w g (n * 3) Wt.zero).cell? ⟨b, o, none⟩ = some (.slice (some ⟨g, 0, none⟩) (n + 1) cap) := c1.cellAt hq.var hbg
  rw [set_last qs n hq.len, wtCells_cat] at r1
  have hl : (qs.take n).length = n := by have := hq.len; simp; omega
  have r2 := ownsRow_pop (by rw [wtCells_len, hl]) r1
  refine ⟨rfl, ⟨?_, hl, ?_, hq.ne⟩, ?_, ?_⟩
  · rw [World.cell?_alloc_lt _ _ _ (by show b < _; have := c1.size; have e2 : ((put3 w g (n * 3) Wt.zero).setCell ⟨b, o, none⟩ (.slice (some ⟨g, 0, none⟩) n cap)).heap.size = (put3 w g (n * 3) Wt.zero).heap.size := by simp [World.setCell]
                                       rw [e2]; have : b < w.heap.size := hlt; omega)]
    exact World.cell?_setCell_same _ _ _ hv1
  · refine World.ownsRow.alloc ?_ _
    exact ownsRow_setCell_other r2 (by simp [Value.ownBlock]; exact fun h => hbg h.symm) _
  · have hlt1 : b < ((put3 w g (n * 3) Wt.zero).setCell ⟨b, o, none⟩ (.slice (some ⟨g, 0, none⟩) n cap)).heap.size := by
      have e2 : ((put3 w g (n * 3) Wt.zero).setCell ⟨b, o, none⟩ (.slice (some ⟨g, 0, none⟩) n cap)).heap.size = (put3 w g (n * 3) Wt.zero).heap.size := by simp [World.setCell]
      rw [e2]; have := c1.size; have : b < w.heap.size := hlt; omega
    exact ((Slots.of_chg (fun j => j = o) c1 hlt hbg).setCell (p := ⟨b, o, none⟩) _ (fun _ => rfl)).trans (Slots.of_block (fun _ => False) (Below.heap_alloc _ _ _ hlt1)) (fun _ h => h.elim)
  · exact ((c1.mono (G := fun k => k = b ∨ k = g) (fun k h => Or.inr h)).setCell (p := ⟨b, o, none⟩) (fun _ => Or.inl rfl) _).alloc _

set_option maxRecDepth 100000 in
set_option maxHeartbeats 400000 in
/-- The top one of a queue goes: it changes places with the last, which sinks. -/
theorem heapPop_any (lo b o g cap n : Nat) (qs : List Wt) (x : Wt) (w : World) (hq : QAt w lo ⟨b, o, none⟩ g cap (n + 1) qs) (hz : w.frozen? ⟨b, o, none⟩ = false) (hx : (downFn n (swapL qs 0 n) 0 n)[n]? = some x) (hn : n < 1000) :
    Calls Tryz.prog 111 #[.iface 169 (.pointer (some ⟨b, o, none⟩))] w fun e w' => e = .returned (.iface 144 x.agg) ∧
      QAt w' lo ⟨b, o, none⟩ g cap n ((downFn n (swapL qs 0 n) 0 n).take n) ∧ Slots b (fun j => j = o) w w' ∧ Chg (fun k => k = b ∨ k = g) w w' := by
  have hv := hq.var
  have hmL := (m_len ⟨b, o, none⟩ w).trans (load_then Tryz.prog 179 _ w _ hv)
  have hmS := (m_swap ⟨b, o, none⟩ w).trans (load_then Tryz.prog 181 _ w _ hv)
  have hmP := m_pop ⟨b, o, none⟩
  have hsw := swap_row hq.row hq.len (i := 0) (j := n) (by omega) (by omega) (by omega)
  go_enter Tryz.func111, Tryz.ntmps111
  go_wp2_with fail
  refine (qLen_any _ _ _ _).mono ?_
  rintro _ w1 ⟨rfl, h1⟩
  subst h1
  go_wp2_with fail
  refine hsw.mono ?_
  rintro _ w2 ⟨rfl, hr2, hc2⟩
  clear hsw hmL hmS
  have hq2 : QAt w2 lo ⟨b, o, none⟩ g cap (n + 1) (swapL qs 0 n) := ⟨hc2.cellAt hv hq.ne, by rw [swapL_length]; exact hq.len, hr2, hq.ne⟩
  go_wp2_with fail
  refine (down_any lo _ g cap (n + 1) n (swapL qs 0 n) w2 hq2 (by omega) (by omega)).mono ?_
  rintro _ w3 ⟨bb, rfl, hq3, hc3⟩
  have hlt := World.block_lt_of_cell? w2 _ hq2.var
  have hz3 : w3.frozen? ⟨b, o, none⟩ = false := by
    rw [World.frozen?_of_block (w := w1) ((hc3.block b hlt hq.ne).trans (hc2.block b (World.block_lt_of_cell? _ _ hv) hq.ne))]
    exact hz
  go_wp2_with fail
  refine (qPop_any lo b o g cap n _ x w3 hq3 hz3 hx hn).mono ?_
  rintro _ w4 ⟨rfl, hq4, hs4, hc4⟩
  go_wp2_with fail
  go_ret
  have hs3 : Slots b (fun j => j = o) w1 w3 := (Slots.of_chg (fun j => j = o) hc2 (World.block_lt_of_cell? _ _ hv) hq.ne).trans (Slots.of_chg (fun _ => False) hc3 hlt hq.ne) (fun _ h => h.elim)
  exact ⟨rfl, hq4, hs3.trans hs4 (fun _ h => h), ((hc2.mono (fun k h => Or.inr h)).trans hc3 (fun _ _ h => Or.inr h)).trans hc4 (fun _ _ h => h)⟩

end Go.Proofs.YtdoedjmdcmgddaaGreat
