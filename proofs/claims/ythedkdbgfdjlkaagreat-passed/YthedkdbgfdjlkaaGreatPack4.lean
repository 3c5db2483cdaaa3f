import Derived.Lib.SortBridgeS
import Derived.Lib.SmallJoins
import Derived.Lib.SlicesCompact
import Derived.OwnWalk
import Derived.Test.YthedkdbgfdjlkaaGreatPack1
import Derived.Test.YthedkdbgfdjlkaaGreatPack2
import Derived.Test.YthedkdbgfdjlkaaGreatPack3
/- THE QUEUE'S Pop, heap.Pop, WALKED. -/
namespace Go.Proofs.YthedkdbgfdjlkaaGreat
set_option linter.unusedVariables false
set_option linter.unusedSimpArgs false
open Go.RowKit

def Wt.zero : Wt := ⟨0, ⟨#[]⟩, 0⟩
def Wt.agg (x : Wt) : Value := .agg #[.int .i64 x.num, .string x.key, .int .i64 x.val]

set_option maxRecDepth 100000 in
set_option maxHeartbeats 400000 in
theorem qPop_cells (b o g cap n : Nat) (x : Wt) (w : World) (hn : n < 1000) (hne : b ≠ g) (hcap : n + 1 ≤ cap) (hbl : b < w.heap.size) (hgl : g < w.heap.size)
    (hp : w.cell? ⟨b, o, none⟩ = some (.slice (some ⟨g, 0, none⟩) (n + 1) cap)) (hz : w.frozen? ⟨b, o, none⟩ = false)
    (a0 : w.cell? ⟨g, n * 3, none⟩ = some (.int .i64 x.num)) (a1 : w.cell? ⟨g, n * 3 + 1, none⟩ = some (.string x.key)) (a2 : w.cell? ⟨g, n * 3 + 2, none⟩ = some (.int .i64 x.val))
    (f0 : w.frozen? ⟨g, n * 3, none⟩ = false) (f1 : w.frozen? ⟨g, n * 3 + 1, none⟩ = false) (f2 : w.frozen? ⟨g, n * 3 + 2, none⟩ = false) :
    Calls Tryz.prog 170 #[.pointer (some ⟨b, o, none⟩)] w fun e w' => e = .returned (.iface 122 x.agg) ∧
      w' = ((put3 w g (n * 3) Wt.zero).setCell ⟨b, o, none⟩ (.slice (some ⟨g, 0, none⟩) n cap)).alloc (.cells #[.int .i64 x.num, .string x.key, .int .i64 x.val] 122) := by
  go_enter Tryz.func170, Tryz.ntmps170
  go_wp2
  go_ret
  exact ⟨rfl, rfl⟩

theorem wtCells_cat : ∀ (l r : List Wt), wtCells (l ++ r) = wtCells l ++ wtCells r
  | [], r => rfl
  | y :: l, r => by simp [wtCells, wtCells_cat l r]

theorem set_last (l : List Wt) (n : Nat) (h : l.length = n + 1) (z : Wt) : l.set n z = l.take n ++ [z] := by
  rw [List.set_eq_take_append_cons_drop]
  simp [h]

/-- The last one of a queue goes. -/
theorem qPop_any (lo b o g cap n : Nat) (qs : List Wt) (x : Wt) (w : World) (hq : QAt w lo ⟨b, o, none⟩ g cap (n + 1) qs) (hz : w.frozen? ⟨b, o, none⟩ = false) (hx : qs[n]? = some x) (hn : n < 1000) :
    Calls Tryz.prog 170 #[.pointer (some ⟨b, o, none⟩)] w fun e w' => e = .returned (.iface 122 x.agg) ∧ QAt w' lo ⟨b, o, none⟩ g cap n (qs.take n) ∧ Slots b (fun j => j = o) w w' ∧ Chg (fun k => k = b ∨ k = g) w w' := by
  have cx := wtCells_at qs n x hx
  have hr := hq.row
  have hlt := World.block_lt_of_cell? w _ hq.var
  have hgl := World.block_lt_of_cell? w _ (row_cell hr cx.1)
  have hcap : n + 1 ≤ cap := by
    rcases hr.2 with ⟨h, _⟩ | ⟨g', cap', cur, hv, _, _, h, _⟩
    · simp at h
    · simp at hv; omega
  have hbg : b ≠ g := hq.ne
  refine (qPop_cells b o g cap n x w hn hbg hcap hlt hgl hq.var hz (row_cell hr cx.1) (row_cell hr cx.2.1) (row_cell hr cx.2.2) (row_frozen hr _) (row_frozen hr _) (row_frozen hr _)).mono ?_
  rintro e w' ⟨rfl, rfl⟩
  obtain ⟨r1, c1⟩ := row_put3 hr n Wt.zero
  have hv1 : (put3 w g (n * 3) Wt.zero).cell? ⟨b, o, none⟩ = some (.slice (some ⟨g, 0, none⟩) (n + 1) cap) := c1.cellAt hq.var hbg
  rw [set_last qs n hq.len, wtCells_cat] at r1
  have hl : (qs.take n).length = n := by have := hq.len; simp; omega
  have r2 := ownsRow_pop (by rw [wtCells_len, hl]) r1
  refine ⟨rfl, ⟨?_, hl, ?_, hq.ne⟩, ?_, ?_⟩
  · rw [World.cell?_alloc_lt _ _ _ (by show b < _; have := c1.size; have e2 : ((put3 w g (n * 3) Wt.zero).setCell ⟨b, o, none⟩ (.slice (some ⟨g, 0, none⟩) n cap)).heap.size = (put3 w g (n * 3) Wt.zero).heap.size := by simp [World.setCell]
                                       rw [e2]; have : b < w.heap.size := hlt; omega)]
    exact World.cell?_setCell_same _ _ _ hv1
  · refine World.ownsRow.alloc ?_ _
    exact ownsRow_setCell_other r2 (by simp [Value.ownBlock]; exact fun h => hbg h.symm) _
  · have hlt1 : b < ((put3 w g (n * 3) Wt.zero).setCell ⟨b, o, none⟩ (.slice (some ⟨g, 0, none⟩) n cap)).heap.size := by
      have e2 : ((put3 w g (n * 3) Wt.zero).setCell ⟨b, o, none⟩ (.slice (some ⟨g, 0, none⟩) n cap)).heap.size = (put3 w g (n * 3) Wt.zero).heap.size := by simp [World.setCell]
      rw [e2]; have := c1.size; have : b < w.heap.size := hlt; omega
    exact ((Slots.of_chg (fun j => j = o) c1 hlt hbg).setCell (p := ⟨b, o, none⟩) _ (fun _ => rfl)).trans (Slots.of_block (fun _ => False) (Below.heap_alloc _ _ _ hlt1)) (fun _ h => h.elim)
  · exact ((c1.mono (G := fun k => k = b ∨ k = g) (fun k h => Or.inr h)).setCell (p := ⟨b, o, none⟩) (fun _ => Or.inl rfl) _).alloc _

set_option maxRecDepth 100000 in
set_option maxHeartbeats 400000 in
/-- The top one of a queue goes: it changes places with the last, which sinks. -/
theorem heapPop_any (lo b o g cap n : Nat) (qs : List Wt) (x : Wt) (w : World) (hq : QAt w lo ⟨b, o, none⟩ g cap (n + 1) qs) (hz : w.frozen? ⟨b, o, none⟩ = false) (hx : (downFn n (swapL qs 0 n) 0 n)[n]? = some x) (hn : n < 1000) :
    Calls Tryz.prog 98 #[.iface 145 (.pointer (some ⟨b, o, none⟩))] w fun e w' => e = .returned (.iface 122 x.agg) ∧
      QAt w' lo ⟨b, o, none⟩ g cap n ((downFn n (swapL qs 0 n) 0 n).take n) ∧ Slots b (fun j => j = o) w w' ∧ Chg (fun k => k = b ∨ k = g) w w' := by
  have hv := hq.var
  have hmL := (m_len ⟨b, o, none⟩ w).trans (load_then Tryz.prog 167 _ w _ hv)
  have hmS := (m_swap ⟨b, o, none⟩ w).trans (load_then Tryz.prog 169 _ w _ hv)
  have hmP := m_pop ⟨b, o, none⟩
  have hsw := swap_row hq.row hq.len (i := 0) (j := n) (by omega) (by omega) (by omega)
  go_enter Tryz.func98, Tryz.ntmps98
  go_wp2_with fail
  refine (qLen_any _ _ _ _).mono ?_
  rintro _ w1 ⟨rfl, h1⟩
  subst h1
  go_wp2_with fail
  refine hsw.mono ?_
  rintro _ w2 ⟨rfl, hr2, hc2⟩
  clear hsw hmL hmS
  have hq2 : QAt w2 lo ⟨b, o, none⟩ g cap (n + 1) (swapL qs 0 n) := ⟨hc2.cellAt hv hq.ne, by rw [swapL_length]; exact hq.len, hr2, hq.ne⟩
  go_wp2_with fail
  refine (down_any lo _ g cap (n + 1) n (swapL qs 0 n) w2 hq2 (by omega) (by omega)).mono ?_
  rintro _ w3 ⟨bb, rfl, hq3, hc3⟩
  have hlt := World.block_lt_of_cell? w2 _ hq2.var
  have hz3 : w3.frozen? ⟨b, o, none⟩ = false := by
    rw [World.frozen?_of_block (w := w1) ((hc3.block b hlt hq.ne).trans (hc2.block b (World.block_lt_of_cell? _ _ hv) hq.ne))]
    exact hz
  go_wp2_with fail
  refine (qPop_any lo b o g cap n _ x w3 hq3 hz3 hx hn).mono ?_
  rintro _ w4 ⟨rfl, hq4, hs4, hc4⟩
  go_wp2_with fail
  go_ret
  have hs3 : Slots b (fun j => j = o) w1 w3 := (Slots.of_chg (fun j => j = o) hc2 (World.block_lt_of_cell? _ _ hv) hq.ne).trans (Slots.of_chg (fun _ => False) hc3 hlt hq.ne) (fun _ h => h.elim)
  exact ⟨rfl, hq4, hs3.trans hs4 (fun _ h => h), ((hc2.mono (fun k h => Or.inr h)).trans hc3 (fun _ _ h => Or.inr h)).trans hc4 (fun _ _ h => h)⟩

end Go.Proofs.YthedkdbgfdjlkaaGreat

/- A LANE: has, WALKED. -/
namespace Go.Proofs.YthedkdbgfdjlkaaGreat
set_option linter.unusedVariables false
set_option linter.unusedSimpArgs false
open Go.RowKit

/-- A record that came already waits at some place. -/
def idxW (m : Int) : List Wt → Nat → Int
  | [], _ => -1
  | x :: r, k => if x.num = m then k else idxW m r (k + 1)

theorem idxW_drop (m : Int) (qs : List Wt) (k : Nat) (x : Wt) (h : qs[k]? = some x) : idxW m (qs.drop k) k = if x.num = m then (k : Int) else idxW m (qs.drop (k + 1)) (k + 1) := by
  have hk : k < qs.length := by
    rcases Nat.lt_or_ge k qs.length with h' | h'
    · exact h'
    · rw [List.getElem?_eq_none h'] at h; simp at h
  rw [List.drop_eq_getElem_cons hk]
  have e : qs[k] = x := by rw [List.getElem?_eq_getElem hk] at h; exact Option.some.inj h
  rw [e]
  rfl

theorem idxW_any (m : Int) : ∀ (l : List Wt) (k : Nat), decide (0 ≤ idxW m l k) = l.any (fun y => y.num == m)
  | [], k => by simp [idxW]
  | x :: r, k => by
    by_cases h : x.num = m
    · simp [idxW, h]
    · simp [idxW, h, idxW_any m r (k + 1)]

set_option maxRecDepth 100000 in
set_option maxHeartbeats 400000 in
theorem has1_any (x : Wt) (b : Nat) (m : Int) (w : World) (hb : b < w.heap.size) (h : w.cell? ⟨b, 0, none⟩ = some (.int .i64 m)) :
    Calls Tryz.prog 68 #[x.agg, .pointer (some ⟨b, 0, none⟩)] w fun e w' => e = .returned (.bool (x.num == m)) ∧ Chg (fun _ => False) w w' := by
  unfold Wt.agg
  go_enter Tryz.func68, Tryz.ntmps68
  go_wp2
  go_ret
  exact ⟨rfl, (Chg.refl _ _).alloc _⟩

set_option maxRecDepth 100000 in
set_option maxHeartbeats 400000 in
theorem indexFunc_any (lo n : Nat) (qs : List Wt) (b : Nat) (m : Int) (w : World) (v : Value) (hr : w.ownsRow lo 122 3 v n (wtCells qs)) (hl : qs.length = n) (hn : n ≤ 1000) (hb : w.cell? ⟨b, 0, none⟩ = some (.int .i64 m)) :
    Calls Tryz.prog 92 #[v, .func (.func 68) #[] #[.pointer (some ⟨b, 0, none⟩)]] w fun e w' => e = .returned (.int .i64 (idxW m qs 0)) ∧ Chg (fun _ => False) w w' := by
  obtain ⟨q, cap, rfl⟩ := row_any hr
  go_enter Tryz.func92, Tryz.ntmps92
  go_wp2
  go_loopw [5, 8] (fun _ si wr => ∃ (k : Nat), si = .int .i64 k ∧ k ≤ n ∧ Chg (fun _ => False) w wr ∧ Hid (idxW m qs 0 = idxW m (qs.drop k) k)) (fun _ si _ => n - (intOf si).toNat)
  case atStart => exact ⟨0, rfl, by omega, Chg.refl _ _, by show _ = _; simp⟩
  case round =>
    obtain ⟨k, rfl, hk, hc, HE⟩ := hrel
    by_cases hkn : k < n
    · obtain ⟨x, hx⟩ : ∃ x, qs[k]? = some x := ⟨_, List.getElem?_eq_getElem (by omega)⟩
      have cx := wtCells_at qs k x hx
      obtain ⟨g, cap', hv, hlg, _, hcell⟩ := row_pos hr (by omega)
      simp only [Value.slice.injEq] at hv
      obtain ⟨rfl, _, rfl⟩ := hv
      have a0 := hc.cellAt (hcell _ _ cx.1) id
      have a1 := hc.cellAt (hcell _ _ cx.2.1) id
      have a2 := hc.cellAt (hcell _ _ cx.2.2) id
      have hbr := hc.cellAt hb id
      have hkn' : (k : Int) < (n : Int) := by omega
      clear hcell hr cx
      go_wp2_with fail
      refine (has1_any x b m wr (World.block_lt_of_cell? _ _ hbr) hbr).mono ?_
      rintro _ w1 ⟨rfl, hc1⟩
      by_cases hxm : x.num = m
      · have hd : (x.num == m) = true := by simpa using hxm
        rw [hd]
        go_wp2_with fail
        go_ret
        refine ⟨?_, hc.trans hc1 (fun _ _ h => h)⟩
        rw [HE.out, idxW_drop m qs k x hx]
        simp [hxm]
      · have hd : (x.num == m) = false := by simpa using hxm
        rw [hd]
        go_wp2_with fail
        go_roundw
        case rel =>
          refine ⟨k + 1, by go_num, by omega, hc.trans hc1 (fun _ _ h => h), ?_⟩
          show _ = _
          rw [HE.out, idxW_drop m qs k x hx]
          simp [hxm]
        case measure => simp [intOf]; omega
    · have hkn' : ¬ (k : Int) < (n : Int) := by omega
      go_wp2_with fail
      go_ret
      refine ⟨?_, hc⟩
      rw [HE.out, List.drop_eq_nil_of_le (by omega)]
      rfl

set_option maxRecDepth 100000 in
set_option maxHeartbeats 400000 in
theorem containsFunc_any (lo n : Nat) (qs : List Wt) (b : Nat) (m : Int) (w : World) (v : Value) (hr : w.ownsRow lo 122 3 v n (wtCells qs)) (hl : qs.length = n) (hn : n ≤ 1000) (hb : w.cell? ⟨b, 0, none⟩ = some (.int .i64 m)) :
    Calls Tryz.prog 67 #[v, .func (.func 68) #[] #[.pointer (some ⟨b, 0, none⟩)]] w fun e w' => e = .returned (.bool (qs.any (fun y => y.num == m))) ∧ Chg (fun _ => False) w w' := by
  go_enter Tryz.func67, Tryz.ntmps67
  go_wp2_with fail
  refine (indexFunc_any lo n qs b m w v hr hl hn hb).mono ?_
  rintro _ w1 ⟨rfl, hc1⟩
  go_wp2_with fail
  go_ret
  exact ⟨by rw [← idxW_any m qs 0]; rfl, hc1⟩

set_option maxRecDepth 100000 in
set_option maxHeartbeats 400000 in
/-- has: the number is below the base, or waits. -/
theorem has_low (b o : Nat) (base m : Int) (w : World) (hbl : b < w.heap.size) (hb : w.cell? ⟨b, o + 1, none⟩ = some (.int .i64 base)) (hm : m < base) :
    Calls Tryz.prog 46 #[.pointer (some ⟨b, o, none⟩), .int .i64 m] w fun e w' => e = .returned (.bool true) ∧ Chg (fun _ => False) w w' := by
  go_enter Tryz.func46, Tryz.ntmps46
  go_wp2_with fail
  go_quiet (fail)
  go_wp2_with fail
  go_ret
  exact ⟨rfl, ((Chg.refl _ w).alloc _).trans (((Quiet.refl _).drewN _).chg _) (fun _ _ h => h)⟩

set_option maxRecDepth 100000 in
set_option maxHeartbeats 400000 in
theorem has_high (lo b o n : Nat) (base m : Int) (v : Value) (qs : List Wt) (w : World) (hbl : b < w.heap.size) (hb : w.cell? ⟨b, o + 1, none⟩ = some (.int .i64 base)) (hm : ¬ m < base)
    (hv : w.cell? ⟨b, o + 2, none⟩ = some v) (hr : w.ownsRow lo 122 3 v n (wtCells qs)) (hl : qs.length = n) (hn : n ≤ 1000) :
    Calls Tryz.prog 46 #[.pointer (some ⟨b, o, none⟩), .int .i64 m] w fun e w' => e = .returned (.bool (qs.any (fun y => y.num == m))) ∧ Chg (fun _ => False) w w' := by
  have hmf : ∀ (fn : Fn) (first cap : Array Value) (w : World), (Instr.makeFunc fn first cap).run Tryz.prog w = .ok (.func fn first cap) w := fun _ _ _ _ => rfl
  have hcf := containsFunc_any lo n qs w.heap.size m (w.alloc (.cells #[.int .i64 m] 3)).drew v (hr.alloc _) hl hn (by simp)
  have hd : decide (m < base) = false := by simpa using hm
  go_enter Tryz.func46, Tryz.ntmps46
  go_wp2_with fail
  go_region_with (go_at_call 67; refine hcf.mono ?_; rintro _ w1 ⟨rfl, hc1⟩)
  all_goals (go_wp2; go_ret; exact ⟨rfl, ((Chg.refl _ w).alloc _).drew.trans hc1 (fun _ _ h => h)⟩)

set_option maxRecDepth 100000 in
set_option maxHeartbeats 400000 in
theorem turn_same (b o : Nat) (e0 e : Int) (w : World) (h0 : w.cell? ⟨b, o, none⟩ = some (.int .i64 e0)) (hle : ¬ e0 < e) :
    Calls Tryz.prog 44 #[.pointer (some ⟨b, o, none⟩), .int .i64 e] w fun e w' => e = .returned (.tuple #[]) ∧ w' = w := by
  go_enter Tryz.func44, Tryz.ntmps44
  go_wp2
  go_end0
  exact ⟨rfl, rfl⟩

set_option maxRecDepth 100000 in
set_option maxHeartbeats 400000 in
theorem turn_new (b o : Nat) (e0 e b0 : Int) (v : Value) (w : World) (h0 : w.cell? ⟨b, o, none⟩ = some (.int .i64 e0)) (h1 : w.cell? ⟨b, o + 1, none⟩ = some (.int .i64 b0)) (h2 : w.cell? ⟨b, o + 2, none⟩ = some v)
    (f0 : w.frozen? ⟨b, o, none⟩ = false) (f1 : w.frozen? ⟨b, o + 1, none⟩ = false) (f2 : w.frozen? ⟨b, o + 2, none⟩ = false) (hlt : e0 < e) :
    Calls Tryz.prog 44 #[.pointer (some ⟨b, o, none⟩), .int .i64 e] w fun e' w' => e' = .returned (.tuple #[]) ∧
      w' = ((w.setCell ⟨b, o, none⟩ (.int .i64 e)).setCell ⟨b, o + 1, none⟩ (.int .i64 0)).setCell ⟨b, o + 2, none⟩ (.slice none 0 0) := by
  go_enter Tryz.func44, Tryz.ntmps44
  go_wp2
  go_end0
  exact ⟨rfl, rfl⟩

set_option maxRecDepth 100000 in
set_option maxHeartbeats 400000 in
theorem reaches_any (b o : Nat) (base m : Int) (w : World) (h1 : w.cell? ⟨b, o + 1, none⟩ = some (.int .i64 base)) (hb : 0 ≤ base ∧ base ≤ 1000) :
    Calls Tryz.prog 45 #[.pointer (some ⟨b, o, none⟩), .int .i64 m] w fun e w' => e = .returned (.bool (decide (0 ≤ m ∧ m < base + 4))) ∧ Quiet w w' := by
  obtain ⟨hb0, hb1⟩ := hb
  by_cases h0 : 0 ≤ m
  · have h0d : decide (0 ≤ m) = true := by simpa using h0
    go_enter Tryz.func45, Tryz.ntmps45
    go_wp2
    go_ret
    exact ⟨by simp [h0], Quiet.refl _⟩
  · have h0d : decide (0 ≤ m) = false := by simpa using h0
    go_enter Tryz.func45, Tryz.ntmps45
    go_wp2
    go_ret
    exact ⟨rfl, Quiet.refl _⟩

end Go.Proofs.YthedkdbgfdjlkaaGreat

/- A LANE: add, next, WALKED. -/
namespace Go.Proofs.YthedkdbgfdjlkaaGreat
set_option linter.unusedVariables false
set_option linter.unusedSimpArgs false
open Go.RowKit

set_option maxRecDepth 100000 in
set_option maxHeartbeats 400000 in
theorem add_any (lo b o n : Nat) (v : Value) (qs : List Wt) (x : Wt) (w : World) (hv : w.cell? ⟨b, o + 2, none⟩ = some v) (hz : w.frozen? ⟨b, o + 2, none⟩ = false) (hr : w.ownsRow lo 122 3 v n (wtCells qs)) (hl : qs.length = n) (hne : v.ownBlock ≠ some b) (hlo : lo ≤ w.heap.size) (hn : n < 1000) :
    Calls Tryz.prog 48 #[.pointer (some ⟨b, o, none⟩), x.agg] w fun e w' => ∃ g cap, e = .returned (.tuple #[]) ∧
      QAt w' lo ⟨b, o + 2, none⟩ g cap (n + 1) (upFn (n + 1) (qs ++ [x]) n) ∧ (v.ownBlock = some g ∨ w.heap.size ≤ g) ∧ Slots b (fun j => j = o + 2) w w' ∧ Chg (fun k => k = b ∨ v.ownBlock = some k) w w' := by
  have hbl := World.block_lt_of_cell? w _ hv
  have hbl' : b < w.heap.size := hbl
  have hpu := heapPush_any lo ⟨b, o + 2, none⟩ v n qs x (w.alloc (.cells #[.int .i64 x.num, .string x.key, .int .i64 x.val] 122)).drew ((World.cell?_alloc_lt w _ ⟨b, o + 2, none⟩ hbl).trans hv)
    ((World.frozen?_of_block (w := w) (Below.heap_alloc _ _ _ hbl)).trans hz) (hr.alloc _) hl hne (by show lo ≤ (w.alloc _).heap.size; rw [World.size_alloc]; omega) hn
  unfold Wt.agg
  go_enter Tryz.func48, Tryz.ntmps48
  go_wp2_with fail
  go_region_with (go_at_call 72; refine hpu.mono ?_; rintro _ w1 ⟨g, cap, rfl, hq1, hw1, hs1, hc1⟩)
  all_goals
    go_end0
    refine ⟨g, cap, rfl, hq1, hw1.imp id (fun h => ?_), ((Slots.of_block (fun j => j = o + 2) (Below.heap_alloc w _ b hbl)).quiet ((Quiet.refl _).drew)).trans hs1 (fun _ h => h), ((Chg.refl _ w).alloc _).drew.trans hc1 (fun _ _ h => h)⟩
    have e : ((w.alloc (.cells #[.int .i64 x.num, .string x.key, .int .i64 x.val] 122)).drew).heap.size = w.heap.size + 1 := World.size_alloc _ _
    omega

theorem Chg.drewN' {F : Nat → Prop} {a w : World} (h : Chg F a w) (n : Nat) : Chg F a (w.drewN n) := ⟨h.os, h.tape, h.output, h.size, h.block⟩

set_option maxRecDepth 100000 in
set_option maxHeartbeats 400000 in
/-- next, where none waits. -/
theorem next_empty (b o : Nat) (p : Option Addr) (cap : Nat) (w : World) (hbl : b < w.heap.size) (hv : w.cell? ⟨b, o + 2, none⟩ = some (.slice p 0 cap)) :
    Calls Tryz.prog 74 #[.pointer (some ⟨b, o, none⟩)] w fun e w' => e = .returned (.tuple #[Wt.zero.agg, .bool false]) ∧ Chg (fun _ => False) w w' := by
  go_enter Tryz.func74, Tryz.ntmps74
  go_wp2_with fail
  go_quiet (fail)
  go_wp2_with fail
  refine bodyPost_ret (v := .tuple #[Wt.zero.agg, .bool false]) ?_ rfl ⟨rfl, ?_⟩
  · simp [results, Tryz.results74, go_sem, Wt.zero, Wt.agg]
  · exact (((((Chg.refl _ w).alloc _).drewN' _).setCell (fun h => absurd h (Nat.lt_irrefl _)) _).setCell (fun h => absurd h (Nat.lt_irrefl _)) _).setCell (fun h => absurd h (Nat.lt_irrefl _)) _

set_option maxRecDepth 100000 in
set_option maxHeartbeats 400000 in
/-- next, where it is another's turn. -/
theorem next_not (b o g cap n : Nat) (base num : Int) (w : World) (hbl : b < w.heap.size) (hgl : g < w.heap.size) (hv : w.cell? ⟨b, o + 2, none⟩ = some (.slice (some ⟨g, 0, none⟩) (n + 1) cap)) (hb : w.cell? ⟨b, o + 1, none⟩ = some (.int .i64 base)) (ha : w.cell? ⟨g, 0, none⟩ = some (.int .i64 num)) (hne : (num != base) = true) (hn : n < 1000) :
    Calls Tryz.prog 74 #[.pointer (some ⟨b, o, none⟩)] w fun e w' => e = .returned (.tuple #[Wt.zero.agg, .bool false]) ∧ Chg (fun _ => False) w w' := by
  have h0 : ((n : Int) + 1 == 0) = false := by simp; omega
  go_enter Tryz.func74, Tryz.ntmps74
  go_wp2_with fail
  go_quiet (fail)
  go_wp2_with fail
  refine bodyPost_ret (v := .tuple #[Wt.zero.agg, .bool false]) ?_ rfl ⟨rfl, ?_⟩
  · simp [results, Tryz.results74, go_sem, Wt.zero, Wt.agg]
  · exact (((((Chg.refl _ w).alloc _).drewN' _).setCell (fun h => absurd h (Nat.lt_irrefl _)) _).setCell (fun h => absurd h (Nat.lt_irrefl _)) _).setCell (fun h => absurd h (Nat.lt_irrefl _)) _

theorem frozen_setCell (w : World) (p : Addr) (u : Value) (a : Addr) : (w.setCell p u).frozen? a = w.frozen? a := by simp

set_option maxRecDepth 100000 in
set_option maxHeartbeats 1000000 in
/-- next, where its turn has come. -/
theorem next_some (lo b o g cap n : Nat) (base : Int) (qs : List Wt) (x : Wt) (w : World) (hq : QAt w lo ⟨b, o + 2, none⟩ g cap (n + 1) qs) (hb : w.cell? ⟨b, o + 1, none⟩ = some (.int .i64 base)) (f1 : w.frozen? ⟨b, o + 1, none⟩ = false) (f2 : w.frozen? ⟨b, o + 2, none⟩ = false)
    (h0 : numAt qs 0 = base) (hb0 : 0 ≤ base ∧ base ≤ 1000) (hx : (downFn n (swapL qs 0 n) 0 n)[n]? = some x) (hn : n < 1000) :
    Calls Tryz.prog 74 #[.pointer (some ⟨b, o, none⟩)] w fun e w' => e = .returned (.tuple #[x.agg, .bool true]) ∧
      QAt w' lo ⟨b, o + 2, none⟩ g cap n ((downFn n (swapL qs 0 n) 0 n).take n) ∧ w'.cell? ⟨b, o + 1, none⟩ = some (.int .i64 (base + 1)) ∧ Slots b (fun j => j = o + 1 ∨ j = o + 2) w w' ∧ Chg (fun k => k = b ∨ k = g) w w' := by
  obtain ⟨y, hy⟩ : ∃ y, qs[0]? = some y := ⟨_, List.getElem?_eq_getElem (by have := hq.len; omega)⟩
  have hyn : y.num = base := by simpa [numAt, hy] using h0
  have cy := wtCells_at qs 0 y hy
  have ha : w.cell? ⟨g, 0, none⟩ = some (.int .i64 base) := by have := row_cell hq.row cy.1; rw [hyn] at this; simpa using this
  have hv := hq.var
  have hbl : b < w.heap.size := World.block_lt_of_cell? _ _ hv
  have hgl : g < w.heap.size := World.block_lt_of_cell? _ _ ha
  have hz0 : ((n : Int) + 1 == 0) = false := by simp; omega
  have hta := assert_waiter
  obtain ⟨hb1, hb2⟩ := hb0
  have hbg : b ≠ g := hq.ne
  go_enter Tryz.func74, Tryz.ntmps74
  go_wp2_with fail
  go_quiet (fail)
  go_wp2_with fail
  have hsz : (((w.alloc (.cells #[.int .i64 0, .string { data := #[] }, .int .i64 0] 122)).drewN nq).setCell ⟨b, o + 1, none⟩ (.int .i64 (base + 1))).heap.size = w.heap.size + 1 := by
    simp [World.setCell]
  generalize hW : ((w.alloc (.cells #[.int .i64 0, .string { data := #[] }, .int .i64 0] 122)).drewN nq).setCell ⟨b, o + 1, none⟩ (.int .i64 (base + 1)) = W at hsz
  have hcW : Chg (fun k => k = b) w W := by rw [← hW]; exact (((Chg.refl (fun k => k = b) w).alloc _).drewN' nq).setCell (p := ⟨b, o + 1, none⟩) (fun _ => rfl) _
  have hsW : Slots b (fun j => j = o + 1) w W := by
    rw [← hW]; exact ((Slots.of_block _ (Below.heap_alloc _ _ _ hbl)).quiet ((Quiet.refl _).drewN nq)).setCell (p := ⟨b, o + 1, none⟩) _ (fun _ => rfl)
  have hbW : W.cell? ⟨b, o + 1, none⟩ = some (.int .i64 (base + 1)) := by
    rw [← hW]; exact World.cell?_setCell_same _ _ _ ((World.cell?_alloc_lt w _ ⟨b, o + 1, none⟩ hbl).trans hb)
  have hnW : ∀ j, j < 3 → W.cell? ⟨w.heap.size, j, none⟩ ≠ none := by
    intro j hj
    rw [← hW, World.cell?_setCell_other _ _ _ _ (fun e => by have := congrArg Addr.block e; simp at this; omega)]
    show (w.alloc _).cell? ⟨w.heap.size, j, none⟩ ≠ none
    rw [World.cell?_alloc_new]
    match j, hj with
    | 0, _ => simp
    | 1, _ => simp
    | 2, _ => simp
  have hqW : QAt W lo ⟨b, o + 2, none⟩ g cap (n + 1) qs := ⟨(hsW.cell (o + 2) (by omega)).trans hv, hq.len, hcW.row' hq.row (fun k hk => by simp [Value.ownBlock] at hk; omega), hq.ne⟩
  refine (heapPop_any lo b (o + 2) g cap n qs x W hqW ((hsW.frozen _).trans f2) hx hn).mono ?_
  rintro _ w2 ⟨rfl, hq2, hs2, hc2⟩
  have hnew : ∀ j, j < 3 → (∃ u, w2.cell? ⟨w.heap.size, j, none⟩ = some u) ∧ w2.frozen? ⟨w.heap.size, j, none⟩ = false := by
    intro j hj
    have hb2 : w2.heap[w.heap.size]? = W.heap[w.heap.size]? := hc2.block _ (by omega) (by omega)
    refine ⟨Option.ne_none_iff_exists'.1 ?_, ?_⟩
    · rw [World.cell?_of_block (w := W) (a := ⟨w.heap.size, j, none⟩) hb2]; exact hnW j hj
    · rw [World.frozen?_of_block (w := W) (a := ⟨w.heap.size, j, none⟩) hb2, ← hW, frozen_setCell]
      show (w.alloc _).frozen? _ = false
      have e : (w.alloc (.cells #[.int .i64 0, .string { data := #[] }, .int .i64 0] 122)).heap[w.heap.size]? = some (.cells #[.int .i64 0, .string { data := #[] }, .int .i64 0] 122) := heap_alloc_new w _
      simp only [World.frozen?, e]
      simp
  obtain ⟨⟨u0, n0⟩, z0⟩ := hnew 0 (by omega)
  obtain ⟨⟨u1, n1⟩, z1⟩ := hnew 1 (by omega)
  obtain ⟨⟨u2, n2⟩, z2⟩ := hnew 2 (by omega)
  have hlt2 : w.heap.size < w2.heap.size := by have := hc2.size; omega
  unfold Wt.agg
  clear hnew hnW ha hv hb f1 f2
  go_wp2_with fail
  have hc3 : Chg (fun k => k = w.heap.size) w2 (((w2.setCell ⟨w.heap.size, 0, none⟩ (.int .i64 x.num)).setCell ⟨w.heap.size, 1, none⟩ (.string x.key)).setCell ⟨w.heap.size, 2, none⟩ (.int .i64 x.val)) :=
    (((Chg.refl (fun k => k = w.heap.size) w2).setCell (p := ⟨w.heap.size, 0, none⟩) (fun _ => rfl) _).setCell (p := ⟨w.heap.size, 1, none⟩) (fun _ => rfl) _).setCell (p := ⟨w.heap.size, 2, none⟩) (fun _ => rfl) _
  refine bodyPost_ret (v := .tuple #[x.agg, .bool true]) ?_ rfl ⟨rfl, ⟨?_, hq2.len, ?_, hq2.ne⟩, ?_, ?_, ?_⟩
  · simp [results, Tryz.results74, go_sem, Wt.agg, n0, n1, n2]
  · exact hc3.cellAt hq2.var (by omega)
  · exact hc3.row' hq2.row (fun k hk => by simp [Value.ownBlock] at hk; omega)
  · exact hc3.cellAt ((hs2.cell (o + 1) (by omega)).trans hbW) (by omega)
  · have hb2' : b < w2.heap.size := by omega
    exact ((hsW.mono (T := fun j => j = o + 1 ∨ j = o + 2) (fun _ h => Or.inl h)).trans hs2 (fun _ h => Or.inr h)).trans (Slots.of_chg (fun _ => False) hc3 hb2' (by omega)) (fun _ h => h.elim)
  · exact ((hcW.mono (G := fun k => k = b ∨ k = g) (fun _ h => Or.inl h)).trans hc2 (fun _ _ h => h)).trans hc3 (fun k hk h => by omega)

end Go.Proofs.YthedkdbgfdjlkaaGreat

/- slices.Sort, slices.Compact IN OWNED ROWS. -/
namespace Go.Proofs.YthedkdbgfdjlkaaGreat
set_option linter.unusedVariables false
set_option linter.unusedSimpArgs false
open Go.RowKit Go.Lib Go.Sort

theorem grow_chg (w : World) (os : Array Obj) : Chg (fun _ => False) w (grow w os) :=
  ⟨rfl, rfl, rfl, by simp [grow], fun k hk _ => heap_grow_old w os hk⟩

theorem row_holds {α : Type} [Inhabited α] (enc : α → Value) {w : World} {ds : List α} {lo : Nat} {e : TypeId} {g n cap : Nat} (hr : w.ownsRow lo e 1 (.slice (some ⟨g, 0, none⟩) n cap) n (ds.map enc)) : Holds enc w g 0 ds.toArray := by
  intro j hj
  have hj' : j < ds.length := by simpa using hj
  refine ⟨?_, row_frozen hr _⟩
  rw [Nat.zero_add]
  refine row_cell hr ?_
  rw [List.getElem?_map, List.getElem?_eq_getElem hj', getElem!_pos _ j hj]
  simp

/-- The world behind a sort, or the like, of a row of the call's own. -/
theorem row_put {α : Type} [Inhabited α] (enc : α → Value) (w : World) (ds ys : List α) {lo : Nat} {e : TypeId} {g n cap : Nat} (hr : w.ownsRow lo e 1 (.slice (some ⟨g, 0, none⟩) n cap) n (ds.map enc)) (hl : ys.length = n) (q : Nat) (os : Array Obj) :
    (grow (putRow enc (Sort.ahead w q) g 0 ys.toArray) os).ownsRow lo e 1 (.slice (some ⟨g, 0, none⟩) n cap) n (ys.map enc) ∧ Chg (fun k => k = g) w (grow (putRow enc (Sort.ahead w q) g 0 ys.toArray) os) := by
  have hdl : ds.length = n := by have := hr.1; simpa using this
  have hH : Holds enc w g 0 ds.toArray := by
    intro j hj
    have hj' : j < ds.length := by simpa using hj
    refine ⟨?_, row_frozen hr _⟩
    rw [Nat.zero_add]
    refine row_cell hr ?_
    rw [List.getElem?_map, List.getElem?_eq_getElem hj', getElem!_pos _ j hj]
    simp
  rw [putRow_eq_setCells enc w g 0 ds.toArray ys q hH (by simp [hl, hdl])]
  have hr' : (w.drewN q).ownsRow lo e 1 (.slice (some ⟨g, 0, none⟩) n cap) n (ds.map enc) := hr
  obtain ⟨r1, c1⟩ := row_setCells (ys.map enc) 0 (w.drewN q) (ds.map enc) hr' (by simp [hl, hdl])
  have e1 : (ds.map enc).take 0 ++ ys.map enc ++ (ds.map enc).drop (0 + (ys.map enc).length) = ys.map enc := by
    simp [hl, hdl]
  rw [e1] at r1
  have c0 : Chg (fun k => k = g) w (w.drewN q) := ⟨rfl, rfl, rfl, Nat.le_refl _, fun _ _ _ => rfl⟩
  exact ⟨(grow_chg _ os).row' r1 (fun _ _ h => h.elim), (c0.trans c1 (fun _ _ h => h)).trans (grow_chg _ os) (fun _ _ h => h.elim)⟩

/-- A row's beginning. -/
theorem row_front {w : World} {lo : Nat} {e : TypeId} {size g n cap : Nat} {xs : List Value} (h : w.ownsRow lo e size (.slice (some ⟨g, 0, none⟩) n cap) n xs) (m : Nat) (hm : m ≤ n) : w.ownsRow lo e size (.slice (some ⟨g, 0, none⟩) m cap) m (xs.take (m * size)) := by
  rcases h.2 with ⟨hv, _⟩ | ⟨g', cap', cur, hv, hb, hg, hn, hmx, hs, ht⟩
  · simp at hv
  · simp at hv
    obtain ⟨rfl, rfl⟩ := hv
    have hle : m * size ≤ n * size := Nat.mul_le_mul_right _ hm
    refine ⟨by rw [List.length_take, h.1]; omega, .inr ⟨g, cap, cur, rfl, hb, hg, by omega, hmx, hs, ?_⟩⟩
    rw [← ht, List.take_take, Nat.min_eq_left hle]

theorem mem_upTo {α : Type} [DecidableEq α] [Inhabited α] (d : Array α) (x : α) : ∀ m, x ∈ compactUpTo d m ↔ ∃ j, j < m ∧ d[j]! = x
  | 0 => by simp [compactUpTo]
  | m + 1 => by
    rw [compactUpTo_succ, List.mem_append, mem_upTo d x m]
    constructor
    · rintro (⟨j, hj, h⟩ | h)
      · exact ⟨j, by omega, h⟩
      · split at h
        · simp at h; exact ⟨m, by omega, h.symm⟩
        · simp at h
    · rintro ⟨j, hj, h⟩
      rcases Nat.lt_or_ge j m with hjm | hjm
      · exact .inl ⟨j, hjm, h⟩
      · obtain rfl : j = m := by omega
        by_cases hk : keeps d j = true
        · right; simp [hk, h]
        · left
          have : ¬ (j = 0 ∨ d[j]! ≠ d[j - 1]!) := by simpa [keeps] using hk
          have h0 : j ≠ 0 := fun e => this (.inl e)
          have h1 : d[j]! = d[j - 1]! := Decidable.of_not_not fun e => this (.inr e)
          exact ⟨j - 1, by omega, h1.symm.trans h⟩

theorem mem_compact {α : Type} [DecidableEq α] [Inhabited α] (zs : List α) (x : α) : x ∈ compact zs ↔ x ∈ zs := by
  unfold compact
  rw [mem_upTo]
  constructor
  · rintro ⟨j, hj, rfl⟩
    rw [getElem!_pos _ j (by simpa using hj)]
    simp
  · intro h
    obtain ⟨j, hj, rfl⟩ := List.getElem_of_mem h
    exact ⟨j, hj, by rw [getElem!_pos _ j (by simpa using hj)]; simp⟩

/-- Of a row that rises nothing comes twice. -/
theorem nodup_upTo {α : Type} [DecidableEq α] [Inhabited α] (le : α → α → Prop) (anti : ∀ a b, le a b → le b a → a = b) (d : Array α) (hs : ∀ i j, i < j → j < d.size → le d[i]! d[j]!) (hrefl : ∀ a, le a a) : ∀ m, m ≤ d.size → (compactUpTo d m).Nodup
  | 0, _ => by simp [compactUpTo]
  | m + 1, hm => by
    have ih := nodup_upTo le anti d hs hrefl m (by omega)
    rw [compactUpTo_succ]
    by_cases hk : keeps d m = true
    · rw [if_pos hk, List.nodup_append]
      refine ⟨ih, by simp, ?_⟩
      intro a ha b hb
      simp at hb
      subst hb
      rintro rfl
      obtain ⟨j, hj, he⟩ := (mem_upTo d d[m]! m).1 ha
      have hk' : m = 0 ∨ d[m]! ≠ d[m - 1]! := by simpa [keeps] using hk
      have h0 : d[m]! ≠ d[m - 1]! := hk'.resolve_left (by omega)
      apply h0
      have l1 : le d[m - 1]! d[m]! := hs (m - 1) m (by omega) (by omega)
      have l2 : le d[m]! d[m - 1]! := by
        rw [← he]
        rcases Nat.lt_or_ge j (m - 1) with h | h
        · exact hs j (m - 1) h (by omega)
        · obtain rfl : j = m - 1 := by omega
          exact hrefl _
      exact anti _ _ l2 l1
    · rw [if_neg hk]; simpa using ih

end Go.Proofs.YthedkdbgfdjlkaaGreat

/- names, WALKED. -/
namespace Go.Proofs.YthedkdbgfdjlkaaGreat
set_option linter.unusedVariables false
set_option linter.unusedSimpArgs false
open Go.RowKit Go.Lib

/-- The flow at ⟨b, o⟩: its cells. -/
structure FlowCells (w : World) (b o : Nat) (E B : Nat → Int) (V : Nat → Value) (vk : Value) : Prop where
  ep : ∀ i, i < 4 → w.cell? ⟨b, o + i * 3, none⟩ = some (.int .i64 (E i))
  ba : ∀ i, i < 4 → w.cell? ⟨b, o + i * 3 + 1, none⟩ = some (.int .i64 (B i))
  qu : ∀ i, i < 4 → w.cell? ⟨b, o + i * 3 + 2, none⟩ = some (V i)
  le : w.cell? ⟨b, o + 12, none⟩ = some vk

theorem FlowCells.chg {F : Nat → Prop} {w w' : World} {b o : Nat} {E B : Nat → Int} {V : Nat → Value} {vk : Value} (h : FlowCells w b o E B V vk) (hc : Chg F w w') (hF : ¬ F b) : FlowCells w' b o E B V vk :=
  ⟨fun i hi => hc.cellAt (h.ep i hi) hF, fun i hi => hc.cellAt (h.ba i hi) hF, fun i hi => hc.cellAt (h.qu i hi) hF, hc.cellAt h.le hF⟩

theorem Tryz.infoS : (Tryz.prog.info? 9).map (fun i => (i.zero, i.size, i.bytes)) = some (some (.string ⟨#[]⟩), 1, 16) := by kernel_rfl

/-- One lane out of the four. -/
theorem index_lane (E B : Nat → Int) (V : Nat → Value) (k : Nat) (hk : k < 4) (w : World) :
    (Instr.index 79 (.agg #[.int .i64 (E 0), .int .i64 (B 0), V 0, .int .i64 (E 1), .int .i64 (B 1), V 1, .int .i64 (E 2), .int .i64 (B 2), V 2, .int .i64 (E 3), .int .i64 (B 3), V 3]) (.int .i64 k)).run Tryz.prog w = .ok (.agg #[.int .i64 (E k), .int .i64 (B k), V k]) w := by
  rcases (by omega : k = 0 ∨ k = 1 ∨ k = 2 ∨ k = 3) with rfl | rfl | rfl | rfl
  · kernel_rfl
  · kernel_rfl
  · kernel_rfl
  · kernel_rfl

def strs' (L : List ByteArray) : List Value := L.map Value.string

/-- The names of those that wait, lane by lane. -/
def qNames (Q : Nat → List Wt) : Nat → List ByteArray
  | 0 => []
  | k + 1 => qNames Q k ++ (Q k).map (·.key)

/-- One element more behind a row of the call's own. -/
theorem wpList_app1 {P : Program} {W : World} {ops : Array Oper} {rest : List Oper} {o : Oper} {a : Act} {Qx : Exit → Act → World → Prop} (hgd : o.guard = none) (s x : Operand) (t : TypeId)
    (ho : o.op = .call { callee := .builtin .append, args := #[s, x], argTypes := #[t, t] }) (base : Nat) (e : TypeId) (i : TypeInfo) (z : Value) (bytes : Nat)
    (h1 : P.underlying t = some (.slice e)) (h2 : P.info? e = some i) (h3 : i.zero = some z) (h4 : i.size = 1) (h5 : i.bytes = bytes) (h6 : z.cells.size = 1)
    (v : Value) (n : Nat) (xs : List Value) (hs : a.eval s = v) (hown : W.ownsRow base e 1 v n xs) (q : Nat) (u : Value) (hx : a.eval x = .slice (some ⟨q, 0, none⟩) 1 1) (hu : W.cell? ⟨q, 0, none⟩ = some u) (h1c : u.oneCell' = true)
    (hn : n ≤ 1000000) (hby : bytes ≤ 1000) (hb : base ≤ W.heap.size)
    (hK : ∀ v' w', w'.ownsRow base e 1 v' (n + 1) (xs ++ [u]) → W.grownBy w' v.ownBlock → wpList P ops Qx rest (a.put o.dst v') w') : wpList P ops Qx (o :: rest) a W := by
  have hb2 : (n + 1) * bytes ≤ 140737488355328 := by
    have : (n + 1) * bytes ≤ 1000001 * 1000 := Nat.mul_le_mul (by omega) hby
    omega
  obtain ⟨v', w', hrun, r1, r2, _⟩ := run_append_own (P := P) W base t o.type e i z 1 bytes h1 h2 h3 h4 h5 h6 (by decide) v n xs hown ⟨q, 0, none⟩ 1 1 [u] rfl
    (fun j y hj => by
      cases j with
      | zero => simp at hj; subst hj; simpa [Addr.add] using hu
      | succ j => simp at hj) (fun y hy => by simp at hy; subst hy; exact h1c) (by unfold maxLen; omega) hb2 hb
  exact Lib.wpList_append_run W hgd s x t t ho v _ hs hx v' w' hrun (hK v' w' r1 r2)

theorem Chg.grown {w W w' : World} {row : Option Nat} (h : Chg (fun _ => False) w W) (hg : W.grownBy w' row) (hr : ∀ k, row = some k → w.heap.size ≤ k) : Chg (fun _ => False) w w' :=
  h.trans (G := fun k => row = some k) ⟨hg.os, hg.tape, hg.output, hg.size, fun k hk hne => hg.block k hk (fun e => hne e.symm)⟩ (fun k hk e => by have := hr k e; omega)

/-- The keys that are there, each once, in order. -/
def theNames (ks : List Ky) (Q : Nat → List Wt) : List (List UInt8) := compact (((ks.map (·.name) ++ qNames Q 4).map (·.data.toList)).mergeSort fun x y => decide (x ≤ y))

set_option maxRecDepth 100000 in
set_option maxHeartbeats 2000000 in
theorem names_any (lo b o : Nat) (E B : Nat → Int) (V : Nat → Value) (vk : Value) (Q : Nat → List Wt) (ks : List Ky) (w : World) (hb : b < w.heap.size) (hF : FlowCells w b o E B V vk)
    (hk : w.ownsRow lo 57 4 vk ks.length (keyCells ks)) (hkn : ks.length ≤ 4) (hq : ∀ i, i < 4 → w.ownsRow lo 122 3 (V i) (Q i).length (wtCells (Q i))) (hqn : ∀ i, i < 4 → (Q i).length ≤ 4) :
    Calls Tryz.prog 69 #[.pointer (some ⟨b, o, none⟩)] w fun e w' => ∃ v, e = .returned v ∧ w'.ownsRow w.heap.size 9 1 v (theNames ks Q).length ((theNames ks Q).map encStr) ∧ Chg (fun _ => False) w w' := by
  obtain ⟨i0, hi, hz0, hz1, hz2⟩ := info_parts Tryz.infoS
  obtain ⟨pk, capk, rfl⟩ := row_any hk
  have hkc := hF.le
  go_enter Tryz.func69, Tryz.ntmps69
  go_wp2
  go_loopw [3, 5, 15] (fun sv _ si wr => ∃ (k : Nat), si = .int .i64 k ∧ k ≤ ks.length ∧ wr.ownsRow w.heap.size 9 1 sv k (strs' ((ks.take k).map (·.name))) ∧ Chg (fun _ => False) w wr) (fun _ _ si _ => ks.length - (intOf si).toNat)
  case atStart => exact ⟨0, rfl, by omega, World.ownsRow_nil _ _ _ _, Chg.refl _ _⟩
  case round =>
    obtain ⟨k, rfl, hk1, hown, hc⟩ := hrel
    by_cases hkl : k < ks.length
    · obtain ⟨x, hx⟩ : ∃ x, ks[k]? = some x := ⟨_, List.getElem?_eq_getElem hkl⟩
      have cx := keyCells_at ks k x hx
      obtain ⟨g, cap', hv, hlg, _, hcell⟩ := row_pos hk (by omega)
      simp only [Value.slice.injEq] at hv
      obtain ⟨rfl, _, rfl⟩ := hv
      have a0 := hc.cellAt (hcell _ _ cx.1) id
      have a1 := hc.cellAt (hcell _ _ cx.2.1) id
      have a2 := hc.cellAt (hcell _ _ cx.2.2.1) id
      have a3 := hc.cellAt (hcell _ _ cx.2.2.2) id
      have hkl' : (k : Int) < (ks.length : Int) := by omega
      have hsz := hc.size
      clear hcell cx
      go_wp2_with (at_builtin; refine wpList_app1 rfl _ _ 112 rfl w.heap.size 9 i0 _ 16 Tryz.underlying112 hi hz0 hz1 hz2 rfl _ k _ rfl ((hown.alloc _).alloc _) (wr.heap.size + 1) (.string x.name) rfl (by simp) rfl (by omega) (by omega) (by simp; omega) ?_; intro v' w1 hown' hg)
      have hc1 : Chg (fun _ => False) w w1 := ((hc.alloc _).alloc _).grown hg (fun k hk => (hown.lt k hk).1)
      clear hown hg a0 a1 a2 a3
      go_wp2_with fail
      go_roundw
      case rel =>
        refine ⟨k + 1, by go_num, by omega, ?_, hc1⟩
        have e : strs' ((ks.take (k + 1)).map (·.name)) = strs' ((ks.take k).map (·.name)) ++ [.string x.name] := by
          rw [List.take_add_one, hx]; simp [strs']
        rw [e]; exact hown'
      case measure => simp [intOf]; omega
    · have hkl' : ¬ (k : Int) < (ks.length : Int) := by omega
      obtain rfl : k = ks.length := by omega
      rw [List.take_length] at hown
      have hF1 := hF.chg hc id
      have e0 := hF1.ep 0 (by omega); have e1 := hF1.ep 1 (by omega); have e2 := hF1.ep 2 (by omega); have e3 := hF1.ep 3 (by omega)
      have b0 := hF1.ba 0 (by omega); have b1 := hF1.ba 1 (by omega); have b2 := hF1.ba 2 (by omega); have b3 := hF1.ba 3 (by omega)
      have v0 := hF1.qu 0 (by omega); have v1 := hF1.qu 1 (by omega); have v2 := hF1.qu 2 (by omega); have v3 := hF1.qu 3 (by omega)
      simp only [Nat.zero_mul, Nat.one_mul, Nat.add_zero] at e0 e1 e2 e3 b0 b1 b2 b3 v0 v1 v2 v3
      go_wp2_with fail
      go_loopw [3, 7, 9, 29, 35] (fun sv _ _ si _ wq => ∃ (k : Nat) (L : List ByteArray), si = .int .i64 k ∧ k ≤ 4 ∧ Hid (L = ks.map (·.name) ++ qNames Q k) ∧ L.length ≤ 4 + k * 4 ∧ wq.ownsRow w.heap.size 9 1 sv L.length (strs' L) ∧ Chg (fun _ => False) w wq) (fun _ _ _ si _ _ => 4 - (intOf si).toNat)
      case atStart => exact ⟨0, ks.map (·.name), rfl, by omega, (show _ = _ by simp [qNames]), by simp; omega, by simpa using hown, hc⟩
      case round =>
        obtain ⟨k, L, rfl, hk4, HL, hLn, hown2, hc2⟩ := hrel
        clear e0 e1 e2 e3 b0 b1 b2 b3 v0 v1 v2 v3 hown hc hF1
        by_cases hk4' : k < 4
        · have hk4i : (k : Int) < 4 := by omega
          have hix := fun W => index_lane E B V k hk4' W
          obtain ⟨pq, capq, hVk⟩ := row_any (hq k hk4')
          have hqk := hq k hk4'
          rw [hVk] at hqk
          have hql := hqn k hk4'
          go_wp2_with fail
          go_loopw [3, 9, 35] (fun sv _ sj wq => ∃ (j : Nat) (M : List ByteArray), sj = .int .i64 j ∧ j ≤ (Q k).length ∧ Hid (M = L ++ ((Q k).take j).map (·.key)) ∧ M.length ≤ 4 + k * 4 + j ∧ wq.ownsRow w.heap.size 9 1 sv M.length (strs' M) ∧ Chg (fun _ => False) w wq) (fun _ _ sj _ => (Q k).length - (intOf sj).toNat)
          case atStart => exact ⟨0, L, rfl, by omega, (show _ = _ by simp), by omega, hown2.alloc _, hc2.alloc _⟩
          case round =>
            obtain ⟨j, M, rfl, hj, HM, hMn, hown3, hc3⟩ := hrel
            clear hown2 hc2 hix
            by_cases hjl : j < (Q k).length
            · obtain ⟨x, hx⟩ : ∃ x, (Q k)[j]? = some x := ⟨_, List.getElem?_eq_getElem hjl⟩
              have cx := wtCells_at (Q k) j x hx
              obtain ⟨g, cap', hv, hlg, _, hcell⟩ := row_pos hqk (by omega)
              simp only [Value.slice.injEq] at hv
              obtain ⟨rfl, _, rfl⟩ := hv
              have a0 := hc3.cellAt (hcell _ _ cx.1) id
              have a1 := hc3.cellAt (hcell _ _ cx.2.1) id
              have a2 := hc3.cellAt (hcell _ _ cx.2.2) id
              have hjl' : (j : Int) < ((Q k).length : Int) := by omega
              have hsz := hc3.size
              clear hcell cx
              go_wp2_with (at_builtin; refine wpList_app1 rfl _ _ 112 rfl w.heap.size 9 i0 _ 16 Tryz.underlying112 hi hz0 hz1 hz2 rfl _ M.length _ rfl ((hown3.alloc _).alloc _) (wr.heap.size + 1) (.string x.key) rfl (by simp) rfl (by omega) (by omega) (by simp; omega) ?_; intro v' w1 hown' hg)
              have hc1 : Chg (fun _ => False) w w1 := ((hc3.alloc _).alloc _).grown hg (fun k hk => (hown3.lt k hk).1)
              clear hown3 hg a0 a1 a2
              go_wp2_with fail
              go_roundw
              case rel =>
                refine ⟨j + 1, M ++ [x.key], by go_num, by omega, ?_, by simp; omega, ?_, hc1⟩
                · show _ = _
                  rw [HM.out, List.take_add_one, hx]; simp
                · have e : strs' (M ++ [x.key]) = strs' M ++ [.string x.key] := by simp [strs']
                  rw [e]
                  simpa using hown'
              case measure => simp [intOf]; omega
            · have hjl' : ¬ (j : Int) < ((Q k).length : Int) := by omega
              obtain rfl : j = (Q k).length := by omega
              go_wp2_with fail
              go_roundw
              case rel =>
                refine ⟨k + 1, M, by go_num, by omega, ?_, by omega, hown3, hc3⟩
                show _ = _
                rw [HM.out, HL.out, List.take_length]
                simp [qNames]
              case measure => simp [intOf]; omega
        · have hk4i : ¬ (k : Int) < 4 := by omega
          obtain rfl : k = 4 := by omega
          have hsz := hc2.size
          obtain ⟨T, hT⟩ : ∃ T, T = L.map (·.data.toList) := ⟨_, rfl⟩
          have hTl : T.length = L.length := by rw [hT]; simp
          have hfin : Hid (theNames ks Q = compact (T.mergeSort fun x y => decide (x ≤ y))) := by
            show _ = _
            rw [hT, HL.out]; rfl
          have hown4 : wr.ownsRow w.heap.size 9 1 u3 T.length (T.map encStr) := by
            rw [hTl, hT, ← Joins.strings_enc]; exact hown2
          have hT16 : T.length ≤ 20 := by omega
          clear hT hown2 HL hTl
          go_wp2_with fail
          by_cases hne : T.length = 0
          · obtain rfl : T = [] := List.eq_nil_of_length_eq_zero hne
            obtain ⟨pp, cc, rfl⟩ := row_any hown4
            refine (Tryz.slices_Sort_string_none pp cc wr).mono ?_
            rintro _ w5 ⟨rfl, rfl⟩
            go_wp2_with fail
            refine (Tryz.slices_Compact_string_empty pp cc _).mono ?_
            rintro _ w6 ⟨rfl, rfl⟩
            go_wp2_with fail
            go_ret
            refine ⟨_, rfl, ?_, hc2⟩
            rw [hfin.out]
            simpa [compact, compactUpTo] using hown4
          · obtain ⟨g, cap, rfl, hg, hcap, _⟩ := row_pos hown4 (by omega)
            have hgl : g < wr.heap.size := (hown4.lt g rfl).2
            have hH := row_holds encStr hown4
            refine (Tryz.slices_Sort_string g 0 cap T wr hH hgl (by omega)).mono ?_
            rintro _ w5 ⟨rfl, q5, os5, h5⟩
            obtain ⟨S, hS⟩ : ∃ S, S = T.mergeSort fun x y => decide (x ≤ y) := ⟨_, rfl⟩
            rw [← hS] at h5
            have hSl : S.length = T.length := by rw [hS]; exact List.length_mergeSort _
            obtain ⟨r5, c5⟩ := row_put encStr wr T S hown4 hSl q5 os5
            rw [← h5] at r5 c5
            clear h5 hH
            have hH5 := row_holds encStr r5
            have hcp := Tryz.slices_Compact_string g 0 cap S w5 hH5 (by omega) (by omega)
            rw [hSl] at hcp
            have HS : Hid (S = T.mergeSort fun x y => decide (x ≤ y)) := hS
            clear hS hH5
            go_wp2_with fail
            refine hcp.mono ?_
            rintro _ w6 ⟨rfl, q6, h6⟩
            obtain ⟨C, hC⟩ : ∃ C, C = compact S := ⟨_, rfl⟩
            rw [← hC] at h6
            have hCl : C.length ≤ S.length := by
              rw [hC]
              unfold compact compactUpTo
              rw [List.length_map]
              exact Nat.le_trans (List.length_filter_le _ _) (by simp)
            obtain ⟨r6, c6⟩ := row_put encStr w5 S (C ++ List.replicate (T.length - C.length) []) r5 (by simp; omega) q6 #[]
            rw [Sort.grow_empty] at r6 c6
            rw [← h6] at r6 c6
            have r7 := row_front r6 C.length (by omega)
            have e7 : (List.map encStr (C ++ List.replicate (T.length - C.length) [])).take (C.length * 1) = C.map encStr := by
              rw [Nat.mul_one, List.map_append, List.take_append_of_le_length (by simp), List.take_of_length_le (by simp)]
            rw [e7] at r7
            have HC : Hid (C = compact S) := hC
            clear h6 hcp
            rw [← hC]
            clear hC
            go_wp2_with fail
            go_ret
            refine ⟨_, rfl, ?_, ?_⟩
            · rw [hfin.out, ← HS.out, ← HC.out]; exact r7
            · exact (hc2.trans c5 (fun k hk h => by omega)).trans c6 (fun k hk h => by omega)

end Go.Proofs.YthedkdbgfdjlkaaGreat

/- taken, records, WALKED. -/
namespace Go.Proofs.YthedkdbgfdjlkaaGreat
set_option linter.unusedVariables false
set_option linter.unusedSimpArgs false
open Go.RowKit Go.Lib

def sumC : List Ky → Int := fun l => counts l

theorem counts_take (ks : List Ky) (k : Nat) (x : Ky) (hx : ks[k]? = some x) : counts (ks.take (k + 1)) = counts (ks.take k) + x.count := by
  rw [List.take_add_one, hx]
  have : ∀ (l : List Ky), counts (l ++ [x]) = counts l + x.count := by
    intro l
    induction l with
    | nil => simp [counts]
    | cons y r ih => simp [counts, ih]; omega
  exact this _

set_option maxRecDepth 100000 in
set_option maxHeartbeats 400000 in
theorem taken_any (lo : Nat) (vk : Value) (ks : List Ky) (w : World) (hk : w.ownsRow lo 57 4 vk ks.length (keyCells ks)) (hkn : ks.length ≤ 4) (hcn : ∀ k ∈ ks, 0 ≤ k.count ∧ k.count ≤ 1000) :
    Calls Tryz.prog 96 #[vk] w fun e w' => e = .returned (.int .i64 (counts ks)) ∧ Chg (fun _ => False) w w' := by
  obtain ⟨pk, capk, rfl⟩ := row_any hk
  go_enter Tryz.func96, Tryz.ntmps96
  go_wp2
  go_loopw [3, 5, 8] (fun ss _ si wr => ∃ (k : Nat) (s : Int), si = .int .i64 k ∧ k ≤ ks.length ∧ ss = .int .i64 s ∧ Hid (s = counts (ks.take k)) ∧ 0 ≤ s ∧ s ≤ 1000 * k ∧ Chg (fun _ => False) w wr) (fun _ _ si _ => ks.length - (intOf si).toNat)
  case atStart => exact ⟨0, 0, rfl, by omega, rfl, rfl, by omega, by omega, Chg.refl _ _⟩
  case round =>
    obtain ⟨k, s, rfl, hk1, rfl, HS, hs0, hs1, hc⟩ := hrel
    by_cases hkl : k < ks.length
    · obtain ⟨x, hx⟩ : ∃ x, ks[k]? = some x := ⟨_, List.getElem?_eq_getElem hkl⟩
      have cx := keyCells_at ks k x hx
      obtain ⟨g, cap', hv, hlg, _, hcell⟩ := row_pos hk (by omega)
      simp only [Value.slice.injEq] at hv
      obtain ⟨rfl, _, rfl⟩ := hv
      have a0 := hc.cellAt (hcell _ _ cx.1) id
      have a1 := hc.cellAt (hcell _ _ cx.2.1) id
      have a2 := hc.cellAt (hcell _ _ cx.2.2.1) id
      have a3 := hc.cellAt (hcell _ _ cx.2.2.2) id
      have hkl' : (k : Int) < (ks.length : Int) := by omega
      obtain ⟨x0, x1⟩ := hcn x (List.mem_of_getElem? hx)
      clear hcell cx
      go_wp2_with fail
      go_roundw
      case rel =>
        refine ⟨k + 1, s + x.count, by go_num, by omega, rfl, ?_, by omega, by omega, hc.alloc _⟩
        show _ = _
        rw [counts_take ks k x hx, HS.out]
      case measure => simp [intOf]; omega
    · have hkl' : ¬ (k : Int) < (ks.length : Int) := by omega
      obtain rfl : k = ks.length := by omega
      go_wp2_with fail
      go_ret
      refine ⟨?_, hc⟩
      have := HS.out
      rw [List.take_length] at this
      rw [← this]
      rfl

/-- Those that wait, in the first lanes. -/
def qLens (Q : Nat → List Wt) : Nat → Int
  | 0 => 0
  | k + 1 => qLens Q k + ((Q k).length : Int)

set_option maxRecDepth 100000 in
set_option maxHeartbeats 400000 in
theorem records_any (lo b o : Nat) (E B : Nat → Int) (V : Nat → Value) (vk : Value) (Q : Nat → List Wt) (ks : List Ky) (w : World) (hb : b < w.heap.size) (hF : FlowCells w b o E B V vk)
    (hk : w.ownsRow lo 57 4 vk ks.length (keyCells ks)) (hkn : ks.length ≤ 4) (hcn : ∀ k ∈ ks, 0 ≤ k.count ∧ k.count ≤ 1000) (hc0 : 0 ≤ counts ks ∧ counts ks ≤ 4000) (hq : ∀ i, i < 4 → w.ownsRow lo 122 3 (V i) (Q i).length (wtCells (Q i))) (hqn : ∀ i, i < 4 → (Q i).length ≤ 4) :
    Calls Tryz.prog 71 #[.pointer (some ⟨b, o, none⟩)] w fun e w' => e = .returned (.int .i64 (counts ks + qLens Q 4)) ∧ Chg (fun _ => False) w w' := by
  have hkc := hF.le
  obtain ⟨hc1, hc2⟩ := hc0
  go_enter Tryz.func71, Tryz.ntmps71
  go_wp2_with fail
  refine (taken_any lo vk ks w hk hkn hcn).mono ?_
  rintro _ w1 ⟨rfl, hcg⟩
  have hF1 := hF.chg hcg id
  have e0 := hF1.ep 0 (by omega); have e1 := hF1.ep 1 (by omega); have e2 := hF1.ep 2 (by omega); have e3 := hF1.ep 3 (by omega)
  have b0 := hF1.ba 0 (by omega); have b1 := hF1.ba 1 (by omega); have b2 := hF1.ba 2 (by omega); have b3 := hF1.ba 3 (by omega)
  have v0 := hF1.qu 0 (by omega); have v1 := hF1.qu 1 (by omega); have v2 := hF1.qu 2 (by omega); have v3 := hF1.qu 3 (by omega)
  simp only [Nat.zero_mul, Nat.one_mul, Nat.add_zero] at e0 e1 e2 e3 b0 b1 b2 b3 v0 v1 v2 v3
  obtain ⟨C, hC⟩ : ∃ C, C = counts ks := ⟨_, rfl⟩
  rw [← hC]
  rw [← hC] at hc1 hc2
  have HC : Hid (C = counts ks) := hC
  clear hC
  go_wp2_with fail
  go_loopw [3, 5, 15] (fun ss _ si wr => ∃ (k : Nat) (s : Int), si = .int .i64 k ∧ k ≤ 4 ∧ ss = .int .i64 s ∧ Hid (s = C + qLens Q k) ∧ 0 ≤ s ∧ s ≤ 4000 + 4 * k ∧ Chg (fun _ => False) w wr) (fun _ _ si _ => 4 - (intOf si).toNat)
  case atStart => exact ⟨0, C, rfl, by omega, rfl, (show _ = _ by simp [qLens]), by omega, by omega, hcg⟩
  case round =>
    obtain ⟨k, s, rfl, hk4, rfl, HS, hs0, hs1, hc⟩ := hrel
    clear e0 e1 e2 e3 b0 b1 b2 b3 v0 v1 v2 v3
    by_cases hk4' : k < 4
    · have hk4i : (k : Int) < 4 := by omega
      have hix := fun W => index_lane E B V k hk4' W
      obtain ⟨pq, capq, hVk⟩ := row_any (hq k hk4')
      have hql := hqn k hk4'
      go_wp2_with fail
      go_roundw
      case rel =>
        refine ⟨k + 1, s + ((Q k).length : Int), by go_num, by omega, rfl, ?_, by omega, by omega, hc.alloc _⟩
        show _ = _
        rw [HS.out]; simp [qLens]; omega
      case measure => simp [intOf]; omega
    · have hk4i : ¬ (k : Int) < 4 := by omega
      obtain rfl : k = 4 := by omega
      go_wp2_with fail
      go_ret
      refine ⟨?_, hc⟩
      rw [← HC.out, ← HS.out]
      rfl

end Go.Proofs.YthedkdbgfdjlkaaGreat

/- checkRecord, checkRoom, Clone, WALKED. -/
namespace Go.Proofs.YthedkdbgfdjlkaaGreat
set_option linter.unusedVariables false
set_option linter.unusedSimpArgs false
open Go.RowKit Go.Lib

theorem kinds_ok (c : UInt8) : decide (0 ≤ indexByte [99, 115, 108, 109] c) = okFirst c := by
  by_cases h1 : c = 99
  · subst h1; decide
  · by_cases h2 : c = 115
    · subst h2; decide
    · by_cases h3 : c = 108
      · subst h3; decide
      · by_cases h4 : c = 109
        · subst h4; decide
        · have g1 : ((99 : UInt8) == c) = false := by simp; exact fun h => h1 h.symm
          have g2 : ((115 : UInt8) == c) = false := by simp; exact fun h => h2 h.symm
          have g3 : ((108 : UInt8) == c) = false := by simp; exact fun h => h3 h.symm
          have g4 : ((109 : UInt8) == c) = false := by simp; exact fun h => h4 h.symm
          simp [indexByte, g1, g2, g3, g4, okFirst, h1, h2, h3, h4]

set_option maxRecDepth 100000 in
set_option maxHeartbeats 400000 in
theorem isKey_any (k : ByteArray) (w : World) (hk : k.size ≤ maxLen) :
    Calls Tryz.prog 55 #[.string k] w fun e w' => e = .returned (.bool (okKey k)) ∧ w' = w := by
  unfold maxLen at hk
  cases hl : k.data.toList with
  | nil =>
    have h0 : k.size = 0 := by show k.data.size = 0; rw [← Array.length_toList, hl]; rfl
    have hok : okKey k = false := by simp [okKey, hl]
    rw [hok]
    go_enter Tryz.func55, Tryz.ntmps55
    go_wp2
    go_ret
    exact ⟨rfl, rfl⟩
  | cons c r =>
    have h0 : 1 ≤ k.size := by show 1 ≤ k.data.size; rw [← Array.length_toList, hl]; simp
    have hc : k[0] = c := by
      have : k.data.toList[0]'(by rw [hl]; simp) = c := by simp [hl]
      exact this
    by_cases h6 : k.size ≤ 6
    · have hok : okKey k = okFirst c := by simp [okKey, hl, h6]
      rw [hok]
      have hib := Tryz.strings_IndexByte { data := #[99, 115, 108, 109] } (c.toNat : Int) w
      have hcc : ((c.toNat : Int)).toNat.toUInt8 = c := by simp
      rw [hcc] at hib
      clear hcc
      go_enter Tryz.func55, Tryz.ntmps55
      go_wp2_with fail
      refine hib.mono ?_
      rintro _ w1 ⟨rfl, hw⟩
      subst hw
      go_wp2_with fail
      go_ret
      exact ⟨by rw [← kinds_ok]; rfl, rfl⟩
    · have hok : okKey k = false := by simp [okKey, hl, h6]
      rw [hok]
      have h6' : ¬ (k.size : Int) ≤ 6 := by omega
      go_enter Tryz.func55, Tryz.ntmps55
      go_wp2
      go_ret
      exact ⟨rfl, rfl⟩

set_option maxRecDepth 100000 in
set_option maxHeartbeats 400000 in
theorem isValue_any (v : Int) (w : World) :
    Calls Tryz.prog 66 #[.int .i64 v] w fun e w' => e = .returned (.bool (decide (0 ≤ v ∧ v ≤ 4294967295))) ∧ w' = w := by
  by_cases h0 : 0 ≤ v
  · have h0d : decide (0 ≤ v) = true := by simpa using h0
    go_enter Tryz.func66, Tryz.ntmps66
    go_wp2
    go_ret
    exact ⟨by simp [h0], rfl⟩
  · have h0d : decide (0 ≤ v) = false := by simpa using h0
    go_enter Tryz.func66, Tryz.ntmps66
    go_wp2
    go_ret
    exact ⟨rfl, rfl⟩

/-- What is wrong with a record by itself. -/
def recErr (x : Rec) : Int := if x.session < 0 ∨ 4 ≤ x.session then 2 else if okKey x.key = false ∨ x.value < 0 ∨ 4294967295 < x.value then 3 else 0

set_option maxRecDepth 100000 in
set_option maxHeartbeats 400000 in
theorem checkRecord_any (x : Rec) (w : World) (hx : x.fits) :
    Calls Tryz.prog 43 #[x.value'] w fun e w' => e = .returned (.int .i64 (recErr x)) ∧ Chg (fun _ => False) w w' := by
  have hk := isKey_any x.key (w.alloc (.cells #[.int .i64 x.session, .int .i64 x.epoch, .int .i64 x.number, .string x.key, .int .i64 x.value] 34)) hx.key
  have hv := isValue_any x.value (w.alloc (.cells #[.int .i64 x.session, .int .i64 x.epoch, .int .i64 x.number, .string x.key, .int .i64 x.value] 34))
  have hcg : Chg (fun _ => False) w (w.alloc (.cells #[.int .i64 x.session, .int .i64 x.epoch, .int .i64 x.number, .string x.key, .int .i64 x.value] 34)) := (Chg.refl _ w).alloc _
  unfold Rec.value'
  by_cases hs : x.session < 0 ∨ 4 ≤ x.session
  · have he : recErr x = 2 := by simp [recErr, hs]
    rw [he]
    rcases hs with hs | hs
    · have hd : decide (x.session < 0) = true := by simpa using hs
      go_enter Tryz.func43, Tryz.ntmps43
      go_wp2_with fail
      go_ret
      exact ⟨rfl, hcg⟩
    · have hd : decide (x.session < 0) = false := by simp; omega
      go_enter Tryz.func43, Tryz.ntmps43
      go_wp2_with fail
      go_ret
      exact ⟨rfl, hcg⟩
  · have hs1 : ¬ x.session < 0 := fun h => hs (.inl h)
    have hs2 : ¬ 4 ≤ x.session := fun h => hs (.inr h)
    have hd : decide (x.session < 0) = false := by simpa using hs1
    by_cases hkk : okKey x.key = true
    · rw [hkk] at hk
      by_cases hvv : 0 ≤ x.value ∧ x.value ≤ 4294967295
      · have hvd : decide (0 ≤ x.value ∧ x.value ≤ 4294967295) = true := by simpa using hvv
        rw [hvd] at hv
        have he : recErr x = 0 := by simp [recErr, hs1, hs2, hkk]; omega
        rw [he]
        go_enter Tryz.func43, Tryz.ntmps43
        go_wp2_with fail
        refine hk.mono ?_
        rintro _ w1 ⟨rfl, hw⟩
        subst hw
        go_wp2_with fail
        refine hv.mono ?_
        rintro _ w2 ⟨rfl, hw⟩
        subst hw
        go_wp2_with fail
        go_ret
        exact ⟨rfl, hcg⟩
      · have hvd : decide (0 ≤ x.value ∧ x.value ≤ 4294967295) = false := by simpa using hvv
        rw [hvd] at hv
        have he : recErr x = 3 := by simp [recErr, hs1, hs2, hkk]; omega
        rw [he]
        go_enter Tryz.func43, Tryz.ntmps43
        go_wp2_with fail
        refine hk.mono ?_
        rintro _ w1 ⟨rfl, hw⟩
        subst hw
        go_wp2_with fail
        refine hv.mono ?_
        rintro _ w2 ⟨rfl, hw⟩
        subst hw
        go_wp2_with fail
        go_ret
        exact ⟨rfl, hcg⟩
    · have hkf : okKey x.key = false := by simpa using hkk
      rw [hkf] at hk
      have he : recErr x = 3 := by simp [recErr, hs1, hs2, hkf]
      rw [he]
      go_enter Tryz.func43, Tryz.ntmps43
      go_wp2_with fail
      refine hk.mono ?_
      rintro _ w1 ⟨rfl, hw⟩
      subst hw
      go_wp2_with fail
      go_ret
      exact ⟨rfl, hcg⟩

set_option maxRecDepth 100000 in
set_option maxHeartbeats 400000 in
theorem clone_any (s : ByteArray) (w : World) (hs : s.size ≤ 6) :
    Calls Tryz.prog 49 #[.string s] w fun e w' => e = .returned (.string s) ∧ Chg (fun _ => False) w w' := by
  go_enter Tryz.func49, Tryz.ntmps49
  go_wp2_with fail
  refine (Tryz.stringslite_Clone s w (by omega)).mono ?_
  rintro _ w1 ⟨rfl, hb⟩
  go_wp2_with fail
  go_ret
  exact ⟨rfl, ⟨hb.os, hb.tape, hb.output, hb.size, fun k hk _ => hb.block k hk⟩⟩

/-- Is there room for one record more of this key? -/
def roomErr (key : ByteArray) (ks : List Ky) (Q : Nat → List Wt) : Int :=
  if 4 ≤ (theNames ks Q).length ∧ ¬ key.data.toList ∈ theNames ks Q then 6 else if 1000 ≤ counts ks + qLens Q 4 then 7 else 0

set_option maxRecDepth 100000 in
set_option maxHeartbeats 400000 in
theorem checkRoom_any (lo b o : Nat) (E B : Nat → Int) (V : Nat → Value) (vk : Value) (Q : Nat → List Wt) (ks : List Ky) (key : ByteArray) (w : World) (hb : b < w.heap.size) (hF : FlowCells w b o E B V vk)
    (hk : w.ownsRow lo 57 4 vk ks.length (keyCells ks)) (hkn : ks.length ≤ 4) (hcn : ∀ k ∈ ks, 0 ≤ k.count ∧ k.count ≤ 1000) (hc0 : 0 ≤ counts ks ∧ counts ks ≤ 4000) (hq : ∀ i, i < 4 → w.ownsRow lo 122 3 (V i) (Q i).length (wtCells (Q i))) (hqn : ∀ i, i < 4 → (Q i).length ≤ 4) (hNl : (theNames ks Q).length ≤ 100) :
    Calls Tryz.prog 47 #[.pointer (some ⟨b, o, none⟩), .string key] w fun e w' => e = .returned (.int .i64 (roomErr key ks Q)) ∧ Chg (fun _ => False) w w' := by
  go_enter Tryz.func47, Tryz.ntmps47
  go_wp2_with fail
  refine (names_any lo b o E B V vk Q ks w hb hF hk hkn hq hqn).mono ?_
  rintro _ w1 ⟨v1, rfl, r1, c1⟩
  have hb1 : b < w1.heap.size := by have := c1.size; omega
  have hrec := fun (w2 : World) (c2 : Chg (fun _ => False) w w2) => records_any lo b o E B V vk Q ks w2 (by have := c2.size; omega) (hF.chg c2 id) (c2.row' hk (fun _ _ h => h.elim)) hkn hcn hc0 (fun i hi => c2.row' (hq i hi) (fun _ _ h => h.elim)) hqn
  have hr1 := hrec w1 c1
  obtain ⟨N, hN⟩ : ∃ N, N = theNames ks Q := ⟨_, rfl⟩
  rw [← hN] at r1 hNl
  have HN : Hid (N = theNames ks Q) := hN
  obtain ⟨T, hT⟩ : ∃ T, T = counts ks + qLens Q 4 := ⟨_, rfl⟩
  rw [← hT] at hr1
  have HT : Hid (T = counts ks + qLens Q 4) := hT
  clear hN hT hrec
  have hroom : Hid (roomErr key ks Q = if 4 ≤ N.length ∧ ¬ key.data.toList ∈ N then 6 else if 1000 ≤ T then 7 else 0) := by
    show _ = _
    rw [HN.out, HT.out]; rfl
  by_cases h4 : 4 ≤ N.length
  · obtain ⟨g, cap, rfl, hg, hcap, hcell⟩ := row_pos r1 (by omega)
    have hco := Tryz.slices_Contains_string g 0 N.length cap (N.map fun l => ⟨l.toArray⟩) key w1 (by simp) (by omega) (fun j hj => by
      have hj' : j < N.length := by simpa using hj
      rw [Nat.zero_add]
      refine hcell j _ ?_
      simp [List.getElem?_map, List.getElem?_eq_getElem hj'])
    rw [List.take_of_length_le (by simp)] at hco
    have h4' : (4 : Int) ≤ (N.length : Int) := by omega
    have hin : (containsS (N.map fun l => (⟨l.toArray⟩ : ByteArray)) key = true) ↔ key.data.toList ∈ N := by
      rw [containsS_iff, List.mem_map]
      constructor
      · rintro ⟨l, hl, rfl⟩; simpa using hl
      · intro h; exact ⟨_, h, by cases key; simp⟩
    by_cases hc : key.data.toList ∈ N
    · rw [hin.2 hc] at hco
      clear hin hcell
      go_wp2_with fail
      refine hco.mono ?_
      rintro _ w2 ⟨rfl, hw⟩
      subst hw
      go_wp2_with fail
      refine hr1.mono ?_
      rintro _ w3 ⟨rfl, c3⟩
      by_cases hf : 1000 ≤ T
      · go_wp2_with fail
        go_ret
        refine ⟨?_, c1.trans c3 (fun _ _ h => h)⟩
        rw [hroom.out]; simp [hc, hf]
      · go_wp2_with fail
        go_ret
        refine ⟨?_, c1.trans c3 (fun _ _ h => h)⟩
        rw [hroom.out]; simp [hc]; omega
    · have hcf : containsS (N.map fun l => (⟨l.toArray⟩ : ByteArray)) key = false := by
        cases e : containsS (N.map fun l => (⟨l.toArray⟩ : ByteArray)) key with
        | false => rfl
        | true => exact absurd (hin.1 e) hc
      rw [hcf] at hco
      clear hin hcell
      go_wp2_with fail
      refine hco.mono ?_
      rintro _ w2 ⟨rfl, hw⟩
      subst hw
      go_wp2_with fail
      go_ret
      refine ⟨?_, c1⟩
      rw [hroom.out]; simp [hc, h4]
  · obtain ⟨pp, cc, rfl⟩ := row_any r1
    have h4' : ¬ (4 : Int) ≤ (N.length : Int) := by omega
    go_wp2_with fail
    refine hr1.mono ?_
    rintro _ w3 ⟨rfl, c3⟩
    by_cases hf : 1000 ≤ T
    · go_wp2_with fail
      go_ret
      refine ⟨?_, c1.trans c3 (fun _ _ h => h)⟩
      rw [hroom.out]; simp [h4, hf]
    · go_wp2_with fail
      go_ret
      refine ⟨?_, c1.trans c3 (fun _ _ h => h)⟩
      rw [hroom.out]; simp [h4]; omega

end Go.Proofs.YthedkdbgfdjlkaaGreat

/- take AS A WHOLE; drain, WALKED. -/
namespace Go.Proofs.YthedkdbgfdjlkaaGreat
set_option linter.unusedVariables false
set_option linter.unusedSimpArgs false
open Go.RowKit Go.Lib

theorem take_any (lo b o : Nat) (v : Value) (ks : List Ky) (name : ByteArray) (val m : Int) (w : World) (hv : w.cell? ⟨b, o, none⟩ = some v) (hz : w.frozen? ⟨b, o, none⟩ = false)
    (hr : w.ownsRow lo 57 4 v ks.length (keyCells ks)) (hn : ks.length < 1000) (hL : Led ks m) (hm : 1 ≤ m) (hbv : v.ownBlock ≠ some b) (hlo : lo ≤ w.heap.size)
    (cb : UInt8) (rb : List UInt8) (hcb : name.data.toList = cb :: rb) (hob : okFirst cb = true) (hval : 0 ≤ val ∧ val ≤ 4294967295) :
    Calls Tryz.prog 75 #[.pointer (some ⟨b, o, none⟩), .string name, .int .i64 val] w fun e w' => ∃ v', e = .returned (.tuple #[]) ∧ w'.cell? ⟨b, o, none⟩ = some v' ∧
      w'.ownsRow lo 57 4 v' (takeKy name val ks).length (keyCells (takeKy name val ks)) ∧ (v'.ownBlock = v.ownBlock ∨ ∀ k, v'.ownBlock = some k → w.heap.size ≤ k) ∧ Slots b (fun j => j = o) w w' ∧ Chg (fun k => k = b ∨ v.ownBlock = some k) w w' := by
  have hbl : b < w.heap.size := World.block_lt_of_cell? w _ hv
  by_cases hf : lowPos name ks < ks.length ∧ nameAt ks (lowPos name ks) = name
  · obtain ⟨k, hk⟩ : ∃ k, ks[lowPos name ks]? = some k := ⟨_, List.getElem?_eq_getElem hf.1⟩
    have hkn : k.name = name := by have := hf.2; simpa [nameAt, hk] using this
    obtain ⟨g, cap, rfl, hg, hcap, _⟩ := row_pos hr (by omega)
    have hbg : b ≠ g := fun e => hbv (by rw [e]; rfl)
    refine (take_found lo b o ks.length (lowPos name ks) g cap ks k name val w hv hr rfl (by omega) hL.sorted.rises hbg rfl hf.1 hk hkn (hL.ok (by omega) k (List.mem_of_getElem? hk)) hval).mono ?_
    rintro e w' ⟨rfl, h1, h2⟩
    have e1 := takeKy_found name val hL.sorted (i := lowPos name ks) (k := k) rfl hk hkn
    refine ⟨_, rfl, h2.cellAt hv hbg, ?_, .inl rfl, Slots.of_chg _ h2 hbl hbg, h2.mono (fun k hk => .inr (by rw [hk]; rfl))⟩
    rw [e1, List.length_set]; exact h1
  · refine (take_new lo b o ks.length (lowPos name ks) v ks name val w hv hz hr rfl hn hL.sorted.rises hbv hlo rfl hf cb rb hcb hob hval).mono ?_
    rintro e w' ⟨v', rfl, h1, h2, h3, h4, h5⟩
    have e1 := takeKy_new name val hL.sorted (i := lowPos name ks) rfl hf
    refine ⟨v', rfl, h1, ?_, h3, h4, h5⟩
    have e2 : (takeKy name val ks).length = ks.length + 1 := by
      rw [e1]; simp; have := lowPos_le name ks; omega
    rw [e2, e1]; exact h2

/-- What drain makes of a heap and a ledger. -/
def drainH : Nat → Int → List Wt → List Ky → Int × List Wt × List Ky
  | 0, b, qs, ks => (b, qs, ks)
  | f + 1, b, qs, ks => match qs with
    | [] => (b, [], ks)
    | q :: r => if q.num = b then
        (match (downFn r.length (swapL (q :: r) 0 r.length) 0 r.length)[r.length]? with
          | some x => drainH f (b + 1) ((downFn r.length (swapL (q :: r) 0 r.length) 0 r.length).take r.length) (takeKy x.key x.val ks)
          | none => (b, q :: r, ks))
      else (b, q :: r, ks)

theorem downFn_length : ∀ (f : Nat) (l : List Wt) (i n : Nat), (downFn f l i n).length = l.length
  | 0, l, i, n => rfl
  | f + 1, l, i, n => by
    unfold downFn
    split
    · rfl
    · split
      · split
        · rw [downFn_length, swapL_length]
        · rfl
      · split
        · rw [downFn_length, swapL_length]
        · rfl

theorem takeKy_length (name : ByteArray) (val : Int) : ∀ l : List Ky, (takeKy name val l).length ≤ l.length + 1
  | [] => by simp [takeKy]
  | y :: r => by
    have := takeKy_length name val r
    unfold takeKy
    split
    · simp
    · split
      · simp
      · simp; omega

/-- One that may be taken. -/
def Wt.ok (x : Wt) : Prop := (∃ c r, x.key.data.toList = c :: r ∧ okFirst c = true) ∧ 0 ≤ x.val ∧ x.val ≤ 4294967295

theorem mem_swapL {l : List Wt} {i j : Nat} {x : Wt} (h : x ∈ swapL l i j) : x ∈ l := by
  unfold swapL at h
  split at h
  · rename_i a b ha hb
    rcases List.mem_or_eq_of_mem_set h with h | rfl
    · rcases List.mem_or_eq_of_mem_set h with h | rfl
      · exact h
      · exact List.mem_of_getElem? hb
    · exact List.mem_of_getElem? ha
  · exact h

theorem mem_downFn {x : Wt} : ∀ (f : Nat) (l : List Wt) (i n : Nat), x ∈ downFn f l i n → x ∈ l
  | 0, l, i, n, h => h
  | f + 1, l, i, n, h => by
    unfold downFn at h
    split at h
    · exact h
    · split at h
      · split at h
        · exact mem_swapL (mem_downFn f _ _ _ h)
        · exact h
      · split at h
        · exact mem_swapL (mem_downFn f _ _ _ h)
        · exact h

set_option maxRecDepth 100000 in
set_option maxHeartbeats 2000000 in
theorem drain_any (lo b o s : Nat) (base : Int) (v vk : Value) (qs : List Wt) (ks : List Ky) (w : World) (hs : s < 4)
    (hba : w.cell? ⟨b, o + s * 3 + 1, none⟩ = some (.int .i64 base)) (hqu : w.cell? ⟨b, o + s * 3 + 2, none⟩ = some v) (hle : w.cell? ⟨b, o + 12, none⟩ = some vk) (hz : ∀ j, w.frozen? ⟨b, j, none⟩ = false)
    (hr : w.ownsRow lo 122 3 v qs.length (wtCells qs)) (hk : w.ownsRow lo 57 4 vk ks.length (keyCells ks)) (hlo : lo ≤ w.heap.size) (hvb : v.ownBlock ≠ some b) (hkb : vk.ownBlock ≠ some b) (hvk : ∀ g, v.ownBlock = some g → vk.ownBlock ≠ some g)
    (hqn : qs.length ≤ 4) (hkn : ks.length ≤ 100) (hb0 : 0 ≤ base ∧ base + qs.length ≤ 1000) (hL : Led ks qs.length) (hq : ∀ x ∈ qs, x.ok) :
    Calls Tryz.prog 50 #[.pointer (some ⟨b, o, none⟩), .int .i64 s] w fun e w' => ∃ v' vk', e = .returned (.tuple #[]) ∧
      w'.cell? ⟨b, o + s * 3 + 1, none⟩ = some (.int .i64 (drainH 5 base qs ks).1) ∧ w'.cell? ⟨b, o + s * 3 + 2, none⟩ = some v' ∧ w'.cell? ⟨b, o + 12, none⟩ = some vk' ∧
      w'.ownsRow lo 122 3 v' (drainH 5 base qs ks).2.1.length (wtCells (drainH 5 base qs ks).2.1) ∧ w'.ownsRow lo 57 4 vk' (drainH 5 base qs ks).2.2.length (keyCells (drainH 5 base qs ks).2.2) ∧
      v'.ownBlock = v.ownBlock ∧ (vk'.ownBlock = vk.ownBlock ∨ ∀ k, vk'.ownBlock = some k → w.heap.size ≤ k) ∧
      Slots b (fun j => j = o + s * 3 + 1 ∨ j = o + s * 3 + 2 ∨ j = o + 12) w w' ∧ Chg (fun k => k = b ∨ v.ownBlock = some k ∨ vk.ownBlock = some k) w w' := by
  have hbl : b < w.heap.size := World.block_lt_of_cell? w _ hba
  have hs' : (s : Int) < 4 := by omega
  have hvlt : ∀ g, v.ownBlock = some g → g < w.heap.size := fun g h => (hr.lt g h).2
  go_enter Tryz.func50, Tryz.ntmps50
  go_wp2
  go_loopg [4, 5] 5 (fun f _ _ wr => ∃ (base' : Int) (v' vk' : Value) (qs' : List Wt) (ks' : List Ky), Hid (drainH 5 base qs ks = drainH f base' qs' ks') ∧ qs'.length < f ∧
      wr.cell? ⟨b, o + s * 3 + 1, none⟩ = some (.int .i64 base') ∧ wr.cell? ⟨b, o + s * 3 + 2, none⟩ = some v' ∧ wr.cell? ⟨b, o + 12, none⟩ = some vk' ∧ wr.ownsRow lo 122 3 v' qs'.length (wtCells qs') ∧ wr.ownsRow lo 57 4 vk' ks'.length (keyCells ks') ∧
      v'.ownBlock = v.ownBlock ∧ (vk'.ownBlock = vk.ownBlock ∨ ∀ k, vk'.ownBlock = some k → w.heap.size ≤ k) ∧ qs'.length ≤ 4 ∧ ks'.length + qs'.length ≤ 104 ∧ 0 ≤ base' ∧ base' + qs'.length ≤ 1000 ∧ Led ks' qs'.length ∧ (∀ x ∈ qs', x.ok) ∧
      Slots b (fun j => j = o + s * 3 + 1 ∨ j = o + s * 3 + 2 ∨ j = o + 12) w wr ∧ Chg (fun k => k = b ∨ v.ownBlock = some k ∨ vk.ownBlock = some k) w wr)
  case atStart => exact ⟨base, v, vk, qs, ks, rfl, by omega, hba, hqu, hle, hr, hk, rfl, .inl rfl, hqn, by omega, hb0.1, hb0.2, hL, hq, Slots.refl _ _ _, Chg.refl _ _⟩
  case round =>
    obtain ⟨base', v', vk', qs', ks', HE, hlen, h1, h2, h3, hr', hk', hvv, hkk, hq4, hk104, hb0', hb1', hL', hq', hsl, hcg⟩ := hrel
    clear hba hqu hle hr hk hL hq hqn hkn hb0
    have hvb' : v'.ownBlock ≠ some b := by rw [hvv]; exact hvb
    have hblr : b < wr.heap.size := World.block_lt_of_cell? _ _ h1
    have hzr : ∀ j, wr.frozen? ⟨b, j, none⟩ = false := fun j => (hsl.frozen j).trans (hz j)
    cases qs' with
    | nil =>
      obtain ⟨pp, cc, rfl⟩ := row_any hr'
      go_wp2_with fail
      refine (next_empty b (o + s * 3) pp cc wr hblr h2).mono ?_
      rintro _ w1 ⟨rfl, c1⟩
      unfold Wt.agg Wt.zero
      go_wp2_with fail
      have e : drainH gk base' [] ks' = (base', [], ks') := by cases gk <;> rfl
      have cF : Chg (fun _ => False) wr (w1.alloc (.cells #[.int .i64 0, .string { data := #[] }, .int .i64 0] 122)) := c1.alloc _
      refine bodyPost_ret (results_none rfl _ _ _) rfl ⟨.slice pp ([] : List Wt).length cc, vk', rfl, ?_⟩
      rw [HE.out, e]
      exact ⟨cF.cellAt h1 id, cF.cellAt h2 id, cF.cellAt h3 id, cF.row' hr' (fun _ _ h => h.elim), cF.row' hk' (fun _ _ h => h.elim), hvv, hkk, hsl.trans (Slots.of_chg (fun _ => False) cF hblr id) (fun _ h => h.elim), hcg.trans cF (fun _ _ h => h.elim)⟩
    | cons q r =>
      obtain ⟨g, cap, rfl, hg, hcap, hcell⟩ := row_pos hr' (by simp)
      have hbg : b ≠ g := fun e => hvb' (by rw [e]; rfl)
      obtain ⟨n, hn⟩ : ∃ n, n = r.length := ⟨_, rfl⟩
      have hn1 : (q :: r).length = n + 1 := by simp [hn]
      rw [hn1] at h2 hr' hvv hvb'
      have hq0 : wr.cell? ⟨g, 0, none⟩ = some (.int .i64 q.num) := hcell 0 _ rfl
      have hgl : g < wr.heap.size := World.block_lt_of_cell? _ _ hq0
      by_cases hnum : q.num = base'
      · have hQ : QAt wr lo ⟨b, o + s * 3 + 2, none⟩ g cap (n + 1) (q :: r) := ⟨h2, hn1, hr', hbg⟩
        obtain ⟨D, hD⟩ : ∃ D, D = downFn n (swapL (q :: r) 0 n) 0 n := ⟨_, rfl⟩
        have hDl : D.length = n + 1 := by rw [hD, downFn_length, swapL_length]; exact hn1
        obtain ⟨x, hx⟩ : ∃ x, D[n]? = some x := ⟨_, List.getElem?_eq_getElem (by omega)⟩
        have hDm : ∀ y ∈ D, y ∈ q :: r := fun y hy => mem_swapL (mem_downFn _ _ _ _ (by rw [hD] at hy; exact hy))
        have hxo : x.ok := hq' x (hDm x (List.mem_of_getElem? hx))
        have hstep : drainH gk base' (q :: r) ks' = drainH (gk - 1) (base' + 1) (D.take n) (takeKy x.key x.val ks') := by
          obtain ⟨g', rfl⟩ : ∃ g', gk = g' + 1 := ⟨gk - 1, by omega⟩
          have hD' : D = downFn r.length (swapL (q :: r) 0 r.length) 0 r.length := by rw [hD, hn]
          simp only [drainH, hnum, if_true]
          rw [← hD', ← hn, hx]
          rfl
        have hnx := next_some lo b (o + s * 3) g cap n base' (q :: r) x wr hQ h1 (hzr _) (hzr _) (by simp [numAt, hnum]) (by omega) (by rw [← hD]; exact hx) (by omega)
        rw [← hD] at hnx
        have HST : Hid (drainH gk base' (q :: r) ks' = drainH (gk - 1) (base' + 1) (D.take n) (takeKy x.key x.val ks')) := hstep
        clear hstep hD hcell hq0
        go_wp2_with fail
        refine hnx.mono ?_
        rintro _ w1 ⟨rfl, hq1, hb1, hs1, hc1⟩
        clear hnx
        have hk1 : w1.cell? ⟨b, o + 12, none⟩ = some vk' := (hs1.cell (o + 12) (by omega)).trans h3
        have hbl1 : b < w1.heap.size := World.block_lt_of_cell? _ _ hb1
        have hkb' : vk'.ownBlock ≠ some b := by
          rcases hkk with h | h
          · rw [h]; exact hkb
          · intro h'; have := h b h'; omega
        have hkg' : vk'.ownBlock ≠ some g := by
          have hvg : v.ownBlock = some g := hvv.symm
          rcases hkk with h | h
          · rw [h]; exact hvk g hvg
          · intro h'
            have := h g h'
            have := hvlt g hvg
            omega
        have hr1 : w1.ownsRow lo 57 4 vk' ks'.length (keyCells ks') := hc1.row' hk' (fun k hk h => by
          rcases h with rfl | rfl
          · exact hkb' hk
          · exact hkg' hk)
        obtain ⟨⟨cb, rb, hcb, hob⟩, hval⟩ := hxo
        have hsz1 : wr.heap.size ≤ w1.heap.size := hc1.size
        have hszr : w.heap.size ≤ wr.heap.size := hcg.size
        have hcF : Chg (fun _ => False) w1 (w1.alloc (.cells #[.int .i64 x.num, .string x.key, .int .i64 x.val] 122)).drew := ((Chg.refl _ w1).alloc _).drew
        have hLn : Led ks' (n + 1 : Nat) := by rw [← hn1]; exact hL'
        have htk := take_any lo b (o + 12) vk' ks' x.key x.val (n + 1 : Nat) (w1.alloc (.cells #[.int .i64 x.num, .string x.key, .int .i64 x.val] 122)).drew (hcF.cellAt hk1 id)
          ((World.frozen?_of_block (w := w1) (hcF.block b hbl1 id)).trans ((hs1.frozen _).trans (hzr _))) (hcF.row' hr1 (fun _ _ h => h.elim)) (by omega) hLn (by omega) hkb' (by have := hcF.size; omega) cb rb hcb hob hval
        unfold Wt.agg
        go_wp2_with fail
        go_region_with (go_at_call 75; refine htk.mono ?_; rintro _ w2 ⟨vk2, rfl, t1, t2, t3, t4, t5⟩)
        all_goals
          have hszF : (w1.alloc (.cells #[.int .i64 x.num, .string x.key, .int .i64 x.val] 122)).drew.heap.size = w1.heap.size + 1 := World.size_alloc _ _
          have hvg : v.ownBlock = some g := hvv.symm
          have u1 : w2.cell? ⟨b, o + s * 3 + 1, none⟩ = some (.int .i64 (base' + 1)) := (t4.cell _ (by omega)).trans (hcF.cellAt hb1 id)
          have u2 : w2.cell? ⟨b, o + s * 3 + 2, none⟩ = some (.slice (some ⟨g, 0, none⟩) n cap) := (t4.cell _ (by omega)).trans (hcF.cellAt hq1.var id)
          have u3 : w2.ownsRow lo 122 3 (.slice (some ⟨g, 0, none⟩) n cap) (D.take n).length (wtCells (D.take n)) := by
            have := t5.row' (hcF.row' hq1.row (fun _ _ h => h.elim)) (fun k hk h => by
              simp [Value.ownBlock] at hk
              subst hk
              rcases h with h | h
              · exact hbg h.symm
              · exact hkg' h)
            rw [hq1.len]; exact this
          have u4' : vk2.ownBlock = vk.ownBlock ∨ ∀ k, vk2.ownBlock = some k → w.heap.size ≤ k := by
            rcases t3 with h | h
            · rw [h]; exact hkk
            · exact .inr fun k hk => by have := h k hk; omega
          have u5' : Led (takeKy x.key x.val ks') ((D.take n).length : Int) := by
            have := hLn.take (by omega) hcb hob hval
            rw [hq1.len]
            have e : ((n + 1 : Nat) : Int) - 1 = (n : Int) := by omega
            rw [e] at this
            exact this
          have u6' : Slots b (fun j => j = o + s * 3 + 1 ∨ j = o + s * 3 + 2 ∨ j = o + 12) w w2 :=
            ((hsl.trans hs1 (fun j h => by rcases h with h | h <;> simp [h])).trans (Slots.of_chg (fun _ => False) hcF hbl1 id) (fun _ h => h.elim)).trans t4 (fun j h => by simp [h])
          have u7' : Chg (fun k => k = b ∨ v.ownBlock = some k ∨ vk.ownBlock = some k) w w2 := by
            refine ((hcg.trans hc1 (fun k _ h => ?_)).trans hcF (fun _ _ h => h.elim)).trans t5 (fun k hk h => ?_)
            · rcases h with h | h
              · exact .inl h
              · subst h; exact .inr (.inl hvg)
            · rcases h with h | h
              · exact .inl h
              · rcases hkk with h' | h'
                · exact .inr (.inr (by rw [← h']; exact h))
                · have := h' k h; omega
          have u8' : (takeKy x.key x.val ks').length + (D.take n).length ≤ 104 := by
            have := takeKy_length x.key x.val ks'
            rw [hq1.len]; omega
          have u9' : ∀ y ∈ D.take n, y.ok := fun y hy => hq' y (hDm y (List.mem_of_mem_take hy))
          have HE2 : Hid (drainH 5 base qs ks = drainH (gk - 1) (base' + 1) (D.take n) (takeKy x.key x.val ks')) := HE.out.trans HST.out
          have l1 : (D.take n).length < gk - 1 := by rw [hq1.len]; omega
          have l2 : (D.take n).length ≤ 4 := by rw [hq1.len]; omega
          have l3 : base' + 1 + ((D.take n).length : Int) ≤ 1000 := by rw [hq1.len]; omega
          clear htk hc1 hs1 hcg hsl hQ hr' hk' h1 h2 h3 hb1 hk1 hr1 hcF t3 t4 t5 hq' hDm
          go_wp2_with fail
          go_roundg (gk - 1)
          case measure => omega
          case rel => exact ⟨base' + 1, .slice (some ⟨g, 0, none⟩) n cap, vk2, D.take n, takeKy x.key x.val ks', HE2, l1, u1, u2, t1, u3, t2, hvg.symm, u4', l2, u8', by omega, l3, u5', u9', u6', u7'⟩
      · have hnb : (q.num != base') = true := by simp [hnum]
        have hnx := next_not b (o + s * 3) g cap n base' q.num wr hblr hgl h2 h1 hq0 hnb (by omega)
        clear hcell hnb
        go_wp2_with fail
        refine hnx.mono ?_
        rintro _ w1 ⟨rfl, c1⟩
        unfold Wt.agg Wt.zero
        go_wp2_with fail
        have e : drainH gk base' (q :: r) ks' = (base', q :: r, ks') := by
          cases gk with
          | zero => rfl
          | succ gk => simp [drainH, hnum]
        have cF : Chg (fun _ => False) wr (w1.alloc (.cells #[.int .i64 0, .string { data := #[] }, .int .i64 0] 122)) := c1.alloc _
        refine bodyPost_ret (results_none rfl _ _ _) rfl ⟨.slice (some ⟨g, 0, none⟩) (n + 1) cap, vk', rfl, ?_⟩
        rw [HE.out, e]
        refine ⟨cF.cellAt h1 id, cF.cellAt h2 id, cF.cellAt h3 id, ?_, cF.row' hk' (fun _ _ h => h.elim), hvv, hkk, hsl.trans (Slots.of_chg (fun _ => False) cF hblr id) (fun _ h => h.elim), hcg.trans cF (fun _ _ h => h.elim)⟩
        rw [hn1]
        exact cF.row' hr' (fun _ _ h => h.elim)

end Go.Proofs.YthedkdbgfdjlkaaGreat

/- The flow's Accept, WALKED. -/
namespace Go.Proofs.YthedkdbgfdjlkaaGreat
set_option linter.unusedVariables false
set_option linter.unusedSimpArgs false
open Go.RowKit Go.Lib

/-- A flow at ⟨b, o⟩ in memory. -/
structure FlowAt (w : World) (lo b o : Nat) (E B : Nat → Int) (V : Nat → Value) (vk : Value) (Q : Nat → List Wt) (ks : List Ky) : Prop where
  cells : FlowCells w b o E B V vk
  froz : ∀ j, w.frozen? ⟨b, j, none⟩ = false
  rows : ∀ i, i < 4 → w.ownsRow lo 122 3 (V i) (Q i).length (wtCells (Q i))
  keys : w.ownsRow lo 57 4 vk ks.length (keyCells ks)
  own : ∀ i, i < 4 → (V i).ownBlock ≠ some b
  ownk : vk.ownBlock ≠ some b
  sep : ∀ i j, i < 4 → j < 4 → i ≠ j → ∀ g, (V i).ownBlock = some g → (V j).ownBlock ≠ some g
  sepk : ∀ i, i < 4 → ∀ g, (V i).ownBlock = some g → vk.ownBlock ≠ some g
  low : lo ≤ w.heap.size

/-- What its numbers keep to. -/
structure FlowFit (E B : Nat → Int) (Q : Nat → List Wt) (ks : List Ky) : Prop where
  ql : ∀ i, i < 4 → (Q i).length ≤ 3
  kl : ks.length ≤ 4
  led : Led ks (qLens Q 4)
  ba : ∀ i, i < 4 → 0 ≤ B i ∧ B i ≤ counts ks
  wok : ∀ i, i < 4 → ∀ x ∈ Q i, x.ok

def upd {α : Type} (f : Nat → α) (i : Nat) (x : α) : Nat → α := fun j => if j = i then x else f j

/-- The session, its epoch turned where a later one comes. -/
def tE (E : Nat → Int) (s : Nat) (ep : Int) : Int := if E s < ep then ep else E s
def tB (E B : Nat → Int) (s : Nat) (ep : Int) : Int := if E s < ep then 0 else B s
def tQ (E : Nat → Int) (Q : Nat → List Wt) (s : Nat) (ep : Int) : List Wt := if E s < ep then [] else Q s

set_option maxRecDepth 100000 in
set_option maxHeartbeats 400000 in
theorem flowAccept_bad (b o : Nat) (x : Rec) (w : World) (hx : x.fits) (hbad : recErr x ≠ 0) :
    Calls Tryz.prog 28 #[.pointer (some ⟨b, o, none⟩), x.value'] w fun e w' => e = .returned (.tuple #[.int .i64 0, .bool false, .int .i64 (recErr x)]) ∧ Chg (fun _ => False) w w' := by
  have hcr := checkRecord_any x (w.alloc (.cells #[.int .i64 x.session, .int .i64 x.epoch, .int .i64 x.number, .string x.key, .int .i64 x.value] 34)) hx
  have hne : (recErr x != 0) = true := by simpa using hbad
  unfold Rec.value' at hcr ⊢
  go_enter Tryz.func28, Tryz.ntmps28
  go_wp2_with fail
  refine hcr.mono ?_
  rintro _ w1 ⟨rfl, c1⟩
  go_wp2_with fail
  go_ret3
  exact ⟨rfl, ((Chg.refl _ w).alloc _).trans c1 (fun _ _ h => h)⟩

set_option maxRecDepth 100000 in
set_option maxHeartbeats 2000000 in
theorem flowAccept_old (lo b o s : Nat) (E B : Nat → Int) (V : Nat → Value) (vk : Value) (Q : Nat → List Wt) (ks : List Ky) (ep num val : Int) (key : ByteArray) (w : World) (hs : s < 4) (hF : FlowAt w lo b o E B V vk Q ks) (hx : (⟨s, ep, num, key, val⟩ : Rec).fits) (hgood : recErr ⟨s, ep, num, key, val⟩ = 0) (hep : ep < E s) :
    Calls Tryz.prog 28 #[.pointer (some ⟨b, o, none⟩), (⟨s, ep, num, key, val⟩ : Rec).value'] w fun e w' => e = .returned (.tuple #[.int .i64 0, .bool false, .int .i64 4]) ∧ Chg (fun _ => False) w w' := by
  have hcr := checkRecord_any ⟨s, ep, num, key, val⟩ (w.alloc (.cells #[.int .i64 s, .int .i64 ep, .int .i64 num, .string key, .int .i64 val] 34)) hx
  rw [hgood] at hcr
  have hes := hF.cells.ep s hs
  have hbl : b < w.heap.size := World.block_lt_of_cell? _ _ hes
  have hs' : (s : Int) < 4 := by omega
  unfold Rec.value' at hcr ⊢
  go_enter Tryz.func28, Tryz.ntmps28
  go_wp2_with fail
  refine hcr.mono ?_
  rintro _ w1 ⟨rfl, c1⟩
  have c01 : Chg (fun _ => False) w w1 := ((Chg.refl _ w).alloc _).trans c1 (fun _ _ h => h)
  have x0 := c1.cellAt (World.cell?_alloc_at (w := w) #[.int .i64 s, .int .i64 ep, .int .i64 num, .string key, .int .i64 val] 34 w.heap.size 0 rfl) id
  have x1 := c1.cellAt (World.cell?_alloc_at (w := w) #[.int .i64 s, .int .i64 ep, .int .i64 num, .string key, .int .i64 val] 34 w.heap.size 1 rfl) id
  replace hes := c01.cellAt hes id
  simp only [List.getElem_toArray, List.getElem_cons_zero, List.getElem_cons_succ] at x0 x1
  clear hcr
  go_wp2_with fail
  go_quiet (fail)
  go_wp2_with fail
  go_ret3
  exact ⟨rfl, c01.trans (((Quiet.refl _).drewN _).chg _) (fun _ _ h => h)⟩

end Go.Proofs.YthedkdbgfdjlkaaGreat

/- Steps of the flow's Accept, as steps of a flow in memory. -/
namespace Go.Proofs.YthedkdbgfdjlkaaGreat
set_option linter.unusedVariables false
set_option linter.unusedSimpArgs false
open Go.RowKit Go.Lib

theorem upd_same {α : Type} (f : Nat → α) (i : Nat) (x : α) : upd f i x i = x := by simp [upd]
theorem upd_ne {α : Type} (f : Nat → α) {i j : Nat} (x : α) (h : j ≠ i) : upd f i x j = f j := by simp [upd, h]

theorem FlowAt.update {w w' : World} {lo b o s : Nat} {E B : Nat → Int} {V : Nat → Value} {vk : Value} {Q : Nat → List Wt} {ks : List Ky} (h : FlowAt w lo b o E B V vk Q ks) (hs : s < 4) (hb : b < w.heap.size) {e' b' : Int} {v' vk' : Value} {q' : List Wt} {ks' : List Ky}
    (c0 : w'.cell? ⟨b, o + s * 3, none⟩ = some (.int .i64 e')) (c1 : w'.cell? ⟨b, o + s * 3 + 1, none⟩ = some (.int .i64 b')) (c2 : w'.cell? ⟨b, o + s * 3 + 2, none⟩ = some v') (c3 : w'.cell? ⟨b, o + 12, none⟩ = some vk')
    (sl : Slots b (fun j => j = o + s * 3 ∨ j = o + s * 3 + 1 ∨ j = o + s * 3 + 2 ∨ j = o + 12) w w') (cg : Chg (fun k => k = b ∨ (V s).ownBlock = some k ∨ vk.ownBlock = some k) w w')
    (r1 : w'.ownsRow lo 122 3 v' q'.length (wtCells q')) (r2 : w'.ownsRow lo 57 4 vk' ks'.length (keyCells ks'))
    (wv : v'.ownBlock = none ∨ v'.ownBlock = (V s).ownBlock ∨ ∀ k, v'.ownBlock = some k → w.heap.size ≤ k) (wk : vk'.ownBlock = vk.ownBlock ∨ ∀ k, vk'.ownBlock = some k → w.heap.size ≤ k)
    (dis : ∀ g, v'.ownBlock = some g → vk'.ownBlock ≠ some g) : FlowAt w' lo b o (upd E s e') (upd B s b') (upd V s v') vk' (upd Q s q') ks' := by
  have hlt : ∀ i, i < 4 → ∀ g, (V i).ownBlock = some g → g < w.heap.size := fun i hi g hg => ((h.rows i hi).lt g hg).2
  have hltk : ∀ g, vk.ownBlock = some g → g < w.heap.size := fun g hg => (h.keys.lt g hg).2
  refine ⟨⟨fun i hi => ?_, fun i hi => ?_, fun i hi => ?_, c3⟩, fun j => (sl.frozen j).trans (h.froz j), fun i hi => ?_, r2, fun i hi => ?_, ?_, fun i j hi hj hij g hg => ?_, fun i hi g hg => ?_, Nat.le_trans h.low cg.size⟩
  · by_cases e : i = s
    · subst e; rw [upd_same]; exact c0
    · rw [upd_ne _ _ e]; exact (sl.cell _ (by omega)).trans (h.cells.ep i hi)
  · by_cases e : i = s
    · subst e; rw [upd_same]; exact c1
    · rw [upd_ne _ _ e]; exact (sl.cell _ (by omega)).trans (h.cells.ba i hi)
  · by_cases e : i = s
    · subst e; rw [upd_same]; exact c2
    · rw [upd_ne _ _ e]; exact (sl.cell _ (by omega)).trans (h.cells.qu i hi)
  · by_cases e : i = s
    · subst e; rw [upd_same, upd_same]; exact r1
    · rw [upd_ne _ _ e, upd_ne _ _ e]
      refine cg.row' (h.rows i hi) (fun k hk hf => ?_)
      rcases hf with rfl | hf | hf
      · exact h.own i hi hk
      · exact h.sep i s hi hs e k hk hf
      · exact h.sepk i hi k hk hf
  · by_cases e : i = s
    · subst e; rw [upd_same]
      rcases wv with h' | h' | h'
      · rw [h']; simp
      · rw [h']; exact h.own i hi
      · intro hb'; have := h' b hb'; omega
    · rw [upd_ne _ _ e]; exact h.own i hi
  · rcases wk with h' | h'
    · rw [h']; exact h.ownk
    · intro hb'; have := h' b hb'; omega
  · by_cases e : i = s
    · subst e
      rw [upd_same] at hg
      rw [upd_ne _ _ (fun e => hij e.symm)]
      rcases wv with h' | h' | h'
      · rw [h'] at hg; cases hg
      · rw [h'] at hg; exact h.sep i j hi hj hij g hg
      · intro hj'; have := h' g hg; have := hlt j hj g hj'; omega
    · rw [upd_ne _ _ e] at hg
      by_cases e' : j = s
      · subst e'
        rw [upd_same]
        rcases wv with h' | h' | h'
        · rw [h']; simp
        · rw [h']; exact h.sep i j hi hj hij g hg
        · intro hj'; have := h' g hj'; have := hlt i hi g hg; omega
      · rw [upd_ne _ _ e']; exact h.sep i j hi hj hij g hg
  · by_cases e : i = s
    · subst e; rw [upd_same] at hg; exact dis g hg
    · rw [upd_ne _ _ e] at hg
      rcases wk with h' | h'
      · rw [h']; exact h.sepk i hi g hg
      · intro hj'; have := h' g hj'; have := hlt i hi g hg; omega

theorem FlowAt.chg {F : Nat → Prop} {w w' : World} {lo b o : Nat} {E B : Nat → Int} {V : Nat → Value} {vk : Value} {Q : Nat → List Wt} {ks : List Ky} (h : FlowAt w lo b o E B V vk Q ks) (hb : b < w.heap.size) (hc : Chg F w w') (hF : ¬ F b) (hV : ∀ i, i < 4 → ∀ k, (V i).ownBlock = some k → ¬ F k) (hK : ∀ k, vk.ownBlock = some k → ¬ F k) : FlowAt w' lo b o E B V vk Q ks :=
  ⟨h.cells.chg hc hF, fun j => (World.frozen?_of_block (w := w) (hc.block b hb hF)).trans (h.froz j), fun i hi => hc.row' (h.rows i hi) (hV i hi), hc.row' h.keys hK, h.own, h.ownk, h.sep, h.sepk, Nat.le_trans h.low hc.size⟩

def tV (E : Nat → Int) (V : Nat → Value) (s : Nat) (ep : Int) : Value := if E s < ep then .slice none 0 0 else V s

theorem turn_any {w : World} {lo b o s : Nat} {E B : Nat → Int} {V : Nat → Value} {vk : Value} {Q : Nat → List Wt} {ks : List Ky} (h : FlowAt w lo b o E B V vk Q ks) (hs : s < 4) (ep : Int) :
    Calls Tryz.prog 44 #[.pointer (some ⟨b, o + s * 3, none⟩), .int .i64 ep] w fun e w' => e = .returned (.tuple #[]) ∧
      FlowAt w' lo b o (upd E s (tE E s ep)) (upd B s (tB E B s ep)) (upd V s (tV E V s ep)) vk (upd Q s (tQ E Q s ep)) ks ∧ Chg (fun k => k = b) w w' := by
  have h0 := h.cells.ep s hs
  have h1 := h.cells.ba s hs
  have h2 := h.cells.qu s hs
  have hb : b < w.heap.size := World.block_lt_of_cell? _ _ h0
  by_cases hlt : E s < ep
  · refine (turn_new b (o + s * 3) (E s) ep (B s) (V s) w h0 h1 h2 (h.froz _) (h.froz _) (h.froz _) hlt).mono ?_
    rintro e w' ⟨rfl, rfl⟩
    have cg : Chg (fun k => k = b) w (((w.setCell ⟨b, o + s * 3, none⟩ (.int .i64 ep)).setCell ⟨b, o + s * 3 + 1, none⟩ (.int .i64 0)).setCell ⟨b, o + s * 3 + 2, none⟩ (.slice none 0 0)) :=
      (((Chg.refl (fun k => k = b) w).setCell (p := ⟨b, o + s * 3, none⟩) (fun _ => rfl) _).setCell (p := ⟨b, o + s * 3 + 1, none⟩) (fun _ => rfl) _).setCell (p := ⟨b, o + s * 3 + 2, none⟩) (fun _ => rfl) _
    have sl : Slots b (fun j => j = o + s * 3 ∨ j = o + s * 3 + 1 ∨ j = o + s * 3 + 2 ∨ j = o + 12) w (((w.setCell ⟨b, o + s * 3, none⟩ (.int .i64 ep)).setCell ⟨b, o + s * 3 + 1, none⟩ (.int .i64 0)).setCell ⟨b, o + s * 3 + 2, none⟩ (.slice none 0 0)) :=
      (((Slots.refl b _ w).setCell (p := ⟨b, o + s * 3, none⟩) _ (fun _ => Or.inl rfl)).setCell (p := ⟨b, o + s * 3 + 1, none⟩) _ (fun _ => Or.inr (Or.inl rfl))).setCell (p := ⟨b, o + s * 3 + 2, none⟩) _ (fun _ => Or.inr (Or.inr (Or.inl rfl)))
    have k0 : (w.setCell ⟨b, o + s * 3, none⟩ (.int .i64 ep)).cell? ⟨b, o + s * 3, none⟩ = some (.int .i64 ep) := World.cell?_setCell_same _ _ _ h0
    have k1 : (w.setCell ⟨b, o + s * 3, none⟩ (.int .i64 ep)).cell? ⟨b, o + s * 3 + 1, none⟩ = some (.int .i64 (B s)) := (World.cell?_setCell_other _ _ _ _ (by simp)).trans h1
    have k2 : ((w.setCell ⟨b, o + s * 3, none⟩ (.int .i64 ep)).setCell ⟨b, o + s * 3 + 1, none⟩ (.int .i64 0)).cell? ⟨b, o + s * 3 + 2, none⟩ = some (V s) := (World.cell?_setCell_other _ _ _ _ (by simp)).trans ((World.cell?_setCell_other _ _ _ _ (by simp)).trans h2)
    refine ⟨rfl, ?_, cg⟩
    have eE : tE E s ep = ep := by simp [tE, hlt]
    have eB : tB E B s ep = 0 := by simp [tB, hlt]
    have eV : tV E V s ep = .slice none 0 0 := by simp [tV, hlt]
    have eQ : tQ E Q s ep = [] := by simp [tQ, hlt]
    rw [eE, eB, eV, eQ]
    refine h.update hs hb ?_ ?_ (World.cell?_setCell_same _ _ _ k2) ?_ sl (cg.mono (fun k hk => .inl hk)) (World.ownsRow_nil _ _ _ _) (cg.row' h.keys (fun k hk e => h.ownk (by rw [← e]; exact hk))) (.inl rfl) (.inl rfl) (fun g hg => by simp [Value.ownBlock] at hg)
    · exact (World.cell?_setCell_other _ _ _ _ (by simp)).trans ((World.cell?_setCell_other _ _ _ _ (by simp)).trans k0)
    · exact (World.cell?_setCell_other _ _ _ _ (by simp)).trans (World.cell?_setCell_same _ _ _ k1)
    · have n1 : (⟨b, o + s * 3 + 2, none⟩ : Addr) ≠ ⟨b, o + 12, none⟩ := fun e => by have := congrArg Addr.off e; simp at this; omega
      have n2 : (⟨b, o + s * 3 + 1, none⟩ : Addr) ≠ ⟨b, o + 12, none⟩ := fun e => by have := congrArg Addr.off e; simp at this; omega
      have n3 : (⟨b, o + s * 3, none⟩ : Addr) ≠ ⟨b, o + 12, none⟩ := fun e => by have := congrArg Addr.off e; simp at this; omega
      exact (World.cell?_setCell_other _ _ _ _ n1).trans ((World.cell?_setCell_other _ _ _ _ n2).trans ((World.cell?_setCell_other _ _ _ _ n3).trans h.cells.le))
  · refine (turn_same b (o + s * 3) (E s) ep w h0 hlt).mono ?_
    rintro e w' ⟨rfl, rfl⟩
    have eE : tE E s ep = E s := by simp [tE, hlt]
    have eB : tB E B s ep = B s := by simp [tB, hlt]
    have eV : tV E V s ep = V s := by simp [tV, hlt]
    have eQ : tQ E Q s ep = Q s := by simp [tQ, hlt]
    rw [eE, eB, eV, eQ]
    have hu : ∀ {α : Type} (f : Nat → α), upd f s (f s) = f := fun f => funext fun j => by by_cases e : j = s <;> simp [upd, e]
    rw [hu, hu, hu, hu]
    exact ⟨rfl, h, Chg.refl _ _⟩

theorem addf_any {w : World} {lo b o s : Nat} {E B : Nat → Int} {V : Nat → Value} {vk : Value} {Q : Nat → List Wt} {ks : List Ky} (h : FlowAt w lo b o E B V vk Q ks) (hs : s < 4) (x : Wt) (hn : (Q s).length < 1000) :
    Calls Tryz.prog 48 #[.pointer (some ⟨b, o + s * 3, none⟩), x.agg] w fun e w' => ∃ v', e = .returned (.tuple #[]) ∧
      FlowAt w' lo b o E B (upd V s v') vk (upd Q s (upFn ((Q s).length + 1) (Q s ++ [x]) (Q s).length)) ks ∧ (v'.ownBlock = (V s).ownBlock ∨ ∀ k, v'.ownBlock = some k → w.heap.size ≤ k) ∧ Chg (fun k => k = b ∨ (V s).ownBlock = some k) w w' := by
  have h0 := h.cells.ep s hs
  have h1 := h.cells.ba s hs
  have h2 := h.cells.qu s hs
  have hb : b < w.heap.size := World.block_lt_of_cell? _ _ h0
  refine (add_any lo b (o + s * 3) (Q s).length (V s) (Q s) x w h2 (h.froz _) (h.rows s hs) rfl (h.own s hs) h.low hn).mono ?_
  rintro e w' ⟨g, cap, rfl, hq, hw, hsl, hcg⟩
  have hw' : (Value.slice (some ⟨g, 0, none⟩) ((Q s).length + 1) cap).ownBlock = (V s).ownBlock ∨ ∀ k, (Value.slice (some ⟨g, 0, none⟩) ((Q s).length + 1) cap).ownBlock = some k → w.heap.size ≤ k := by
    rcases hw with hw | hw
    · exact .inl hw.symm
    · exact .inr (fun k hk => by simp [Value.ownBlock] at hk; omega)
  refine ⟨_, rfl, ?_, hw', hcg⟩
  have hu : ∀ {α : Type} (f : Nat → α), upd f s (f s) = f := fun f => funext fun j => by by_cases e : j = s <;> simp [upd, e]
  have hkeys : w'.ownsRow lo 57 4 vk ks.length (keyCells ks) := hcg.row' h.keys (fun k hk hf => by
    rcases hf with rfl | hf
    · exact h.ownk hk
    · exact h.sepk s hs k hf hk)
  have hrow : w'.ownsRow lo 122 3 (.slice (some ⟨g, 0, none⟩) ((Q s).length + 1) cap) (upFn ((Q s).length + 1) (Q s ++ [x]) (Q s).length).length (wtCells (upFn ((Q s).length + 1) (Q s ++ [x]) (Q s).length)) := by
    rw [hq.len]; exact hq.row
  have := h.update (e' := E s) (b' := B s) (v' := .slice (some ⟨g, 0, none⟩) ((Q s).length + 1) cap) (vk' := vk) hs hb ((hsl.cell _ (by omega)).trans h0) ((hsl.cell _ (by omega)).trans h1) hq.var ((hsl.cell _ (by omega)).trans h.cells.le)
    (hsl.mono (fun j hj => by simp [hj])) (hcg.mono (fun k hk => by rcases hk with hk | hk <;> simp [hk])) hrow hkeys (.inr hw') (.inl rfl) (fun g' hg' => by
      rcases hw' with hw' | hw'
      · rw [hw'] at hg'; exact h.sepk s hs g' hg'
      · intro hk
        have := hw' g' hg'
        have := (h.keys.lt g' hk).2
        omega)
  rw [hu, hu] at this
  exact this

theorem drainf_any {w : World} {lo b o s : Nat} {E B : Nat → Int} {V : Nat → Value} {vk : Value} {Q : Nat → List Wt} {ks : List Ky} (h : FlowAt w lo b o E B V vk Q ks) (hs : s < 4)
    (hqn : (Q s).length ≤ 4) (hkn : ks.length ≤ 100) (hb0 : 0 ≤ B s ∧ B s + (Q s).length ≤ 1000) (hL : Led ks (Q s).length) (hq : ∀ x ∈ Q s, x.ok) :
    Calls Tryz.prog 50 #[.pointer (some ⟨b, o, none⟩), .int .i64 s] w fun e w' => ∃ v' vk', e = .returned (.tuple #[]) ∧
      FlowAt w' lo b o E (upd B s (drainH 5 (B s) (Q s) ks).1) (upd V s v') vk' (upd Q s (drainH 5 (B s) (Q s) ks).2.1) (drainH 5 (B s) (Q s) ks).2.2 ∧ v'.ownBlock = (V s).ownBlock ∧ (vk'.ownBlock = vk.ownBlock ∨ ∀ k, vk'.ownBlock = some k → w.heap.size ≤ k) ∧
      Chg (fun k => k = b ∨ (V s).ownBlock = some k ∨ vk.ownBlock = some k) w w' := by
  have h0 := h.cells.ep s hs
  have hb : b < w.heap.size := World.block_lt_of_cell? _ _ h0
  refine (drain_any lo b o s (B s) (V s) vk (Q s) ks w hs (h.cells.ba s hs) (h.cells.qu s hs) h.cells.le h.froz (h.rows s hs) h.keys h.low (h.own s hs) h.ownk (h.sepk s hs) hqn hkn hb0 hL hq).mono ?_
  rintro e w' ⟨v', vk', rfl, c1, c2, c3, r1, r2, wv, wk, sl, cg⟩
  have hu : ∀ {α : Type} (f : Nat → α), upd f s (f s) = f := fun f => funext fun j => by by_cases e : j = s <;> simp [upd, e]
  refine ⟨v', vk', rfl, ?_, wv, wk, cg⟩
  have := h.update (e' := E s) hs hb ((sl.cell _ (by omega)).trans h0) c1 c2 c3 (sl.mono (fun j hj => by rcases hj with hj | hj | hj <;> simp [hj])) cg r1 r2 (.inr (.inl wv)) wk (fun g hg => by
    rw [wv] at hg
    rcases wk with wk | wk
    · rw [wk]; exact h.sepk s hs g hg
    · intro hk
      have := wk g hk
      have := ((h.rows s hs).lt g hg).2
      omega)
  rw [hu] at this
  exact this

end Go.Proofs.YthedkdbgfdjlkaaGreat
