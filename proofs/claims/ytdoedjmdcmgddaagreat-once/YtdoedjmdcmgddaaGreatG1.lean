/- A lane's state, WALKED. -/
import Derived.Test.YtdoedjmdcmgddaaGreatF1
import Derived.OwnWalk
namespace Go.Proofs.YtdoedjmdcmgddaaGreat
set_option linter.unusedVariables false
set_option linter.unusedSimpArgs false
open Go.RowKit Go.Lib

theorem Tryz.infoI : (Tryz.prog.info? 3).map (fun i => (i.zero, i.size, i.bytes)) = some (some (.int .i64 0), 1, 8) := by kernel_rfl

def ints' (L : List Int) : List Value := L.map (Value.int .i64)

/-- The numbers of those that wait, in order. -/
def theNums (q : List Wt) : List Int := (q.map (·.num)).mergeSort fun x y => decide (x ≤ y)

set_option maxRecDepth 100000 in
set_option maxHeartbeats 2000000 in
theorem laneState_any (lo b o : Nat) (ep ba : Int) (v : Value) (q : List Wt) (w : World) (h0 : w.cell? ⟨b, o, none⟩ = some (.int .i64 ep)) (h1 : w.cell? ⟨b, o + 1, none⟩ = some (.int .i64 ba)) (h2 : w.cell? ⟨b, o + 2, none⟩ = some v)
    (hr : w.ownsRow lo 144 3 v q.length (wtCells q)) (hq : q.length ≤ 4) :
    Calls Tryz.prog 62 #[.pointer (some ⟨b, o, none⟩)] w fun e w' => ∃ u, e = .returned (.agg #[.int .i64 ep, .int .i64 ba, u]) ∧ w'.ownsRow w.heap.size 3 1 u q.length (ints' (theNums q)) ∧ Chg (fun _ => False) w w' := by
  obtain ⟨i0, hi, hz0, hz1, hz2⟩ := info_parts Tryz.infoI
  obtain ⟨pq, capq, rfl⟩ := row_any hr
  have hbl : b < w.heap.size := World.block_lt_of_cell? _ _ h0
  have hbl' : b ≠ w.heap.size := by omega
  obtain ⟨W0, hW0⟩ : ∃ W0, W0 = w.alloc (Obj.cells #[.int .i64 0, .int .i64 0, .slice none 0 0] 56) := ⟨_, rfl⟩
  have hs0 : W0.heap.size = w.heap.size + 1 := by rw [hW0]; simp
  have c0 : Chg (fun _ => False) w W0 := by rw [hW0]; exact (Chg.refl _ w).alloc _
  have r0 : W0.cell? ⟨w.heap.size, 0, none⟩ = some (.int .i64 0) := by rw [hW0]; exact World.cell?_alloc_at _ _ _ _ rfl
  have r1 : W0.cell? ⟨w.heap.size, 1, none⟩ = some (.int .i64 0) := by rw [hW0]; exact World.cell?_alloc_at _ _ _ _ rfl
  have r2 : W0.cell? ⟨w.heap.size, 2, none⟩ = some (.slice none 0 0) := by rw [hW0]; exact World.cell?_alloc_at _ _ _ _ rfl
  have rf : ∀ j, W0.frozen? ⟨w.heap.size, j, none⟩ = false := fun j => by rw [hW0]; exact World.frozen?_alloc_at _ _ _ _ rfl
  have HW0 : Hid (W0 = w.alloc (Obj.cells #[.int .i64 0, .int .i64 0, .slice none 0 0] 56)) := hW0
  have HS0 : Hid (W0.heap.size = w.heap.size + 1) := hs0
  clear hW0 hs0
  go_enter Tryz.func62, Tryz.ntmps62
  go_wp2_with (refine wpList_make_own _ rfl _ _ 26 rfl (w.heap.size + 1) 3 i0 _ 1 Tryz.underlying26 hi hz0 hz1 .i64 .i64 _ q.length rfl rfl rfl (by rw [hz2]; omega) (by unfold maxLen; omega) (by simp) ?_; intro w1 hown1 hg1; have hc1 : Chg (fun _ => False) W0 w1 := by { rw [HW0.out]; exact (Chg.refl _ _).grown hg1 (by simp) }; have h2' := hc1.cellAt (c0.cellAt h2 id) id)
  go_loopw [3, 5, 17] (fun sv _ si wr => ∃ (k : Nat), si = .int .i64 k ∧ k ≤ q.length ∧ wr.ownsRow (w.heap.size + 1) 3 1 sv k (ints' ((q.take k).map (·.num))) ∧ Chg (fun _ => False) W0 wr) (fun _ _ si _ => q.length - (intOf si).toNat)
  case atStart => exact ⟨0, rfl, by omega, by simpa [ints'] using hown1, hc1⟩
  case round =>
    obtain ⟨k, rfl, hk1, hown, hc⟩ := hrel
    clear hown1 hg1 hc1 h2'
    have hc' : Chg (fun _ => False) w wr := c0.trans hc (fun _ _ h => h)
    by_cases hkl : k < q.length
    · obtain ⟨x, hx⟩ : ∃ x, q[k]? = some x := ⟨_, List.getElem?_eq_getElem hkl⟩
      have cx := wtCells_at q k x hx
      obtain ⟨g, cap', hv, hlg, _, hcell⟩ := row_pos hr (by omega)
      simp only [Value.slice.injEq] at hv
      obtain ⟨rfl, _, rfl⟩ := hv
      have a0 := hc'.cellAt (hcell _ _ cx.1) id
      have a1 := hc'.cellAt (hcell _ _ cx.2.1) id
      have a2 := hc'.cellAt (hcell _ _ cx.2.2) id
      have hkl' : (k : Int) < (q.length : Int) := by omega
      have hsz : w.heap.size + 1 ≤ wr.heap.size := by rw [← HS0.out]; exact hc.size
      clear hcell cx
      go_wp2_with (at_builtin; refine wpList_app1 rfl _ _ 26 rfl (w.heap.size + 1) 3 i0 _ 8 Tryz.underlying26 hi hz0 hz1 hz2 rfl _ k _ rfl ((hown.alloc _).alloc _) (wr.heap.size + 1) (.int .i64 x.num) rfl (by simp) rfl (by omega) (by omega) (by simp; omega) ?_; intro v' w1 hown' hg)
      have hc1 : Chg (fun _ => False) W0 w1 := ((hc.alloc _).alloc _).grown hg (fun k hk => by rw [HS0.out]; exact (hown.lt k hk).1)
      clear hown hg a0 a1 a2
      go_wp2_with fail
      go_roundw
      case rel =>
        refine ⟨k + 1, by go_num, by omega, ?_, hc1⟩
        have e : ints' ((q.take (k + 1)).map (·.num)) = ints' ((q.take k).map (·.num)) ++ [.int .i64 x.num] := by
          rw [List.take_add_one, hx]; simp [ints']
        rw [e]; exact hown'
      case measure => simp [intOf]; omega
    · have hkl' : ¬ (k : Int) < (q.length : Int) := by omega
      obtain rfl : k = q.length := by omega
      rw [List.take_length] at hown
      obtain ⟨T, hT⟩ : ∃ T, T = q.map (·.num) := ⟨_, rfl⟩
      have hTl : T.length = q.length := by rw [hT]; simp
      rw [← hT, ← hTl] at hown
      have hfin : Hid (theNums q = T.mergeSort fun x y => decide (x ≤ y)) := by
        show _ = _
        rw [hT]; rfl
      have HTL : Hid (T.length = q.length) := hTl
      have hTq : T.length ≤ 4 := by omega
      clear hT hTl hc'
      go_wp2_with fail
      by_cases hne : T.length = 0
      · obtain rfl : T = [] := List.eq_nil_of_length_eq_zero hne
        obtain ⟨pp, cc, rfl⟩ := row_any hown
        refine (Tryz.slices_Sort_int_none pp cc wr).mono ?_
        rintro _ w5 ⟨rfl, rfl⟩
        have hrow5 : w5.ownsRow (w.heap.size + 1) 3 1 (.slice pp 0 cc) 0 (ints' (theNums q)) := by rw [hfin.out]; simpa [ints'] using hown
        have hc5 := hc
        have d0 := hc5.cellAt (c0.cellAt h0 id) id
        have d1 := hc5.cellAt (c0.cellAt h1 id) id
        have s0 := hc5.cellAt r0 id
        have s1 := hc5.cellAt r1 id
        have s2 := hc5.cellAt r2 id
        have hfz : ∀ j, w5.frozen? ⟨w.heap.size, j, none⟩ = false := fun j => (World.frozen?_of_block (w := W0) (hc5.block w.heap.size (by rw [HS0.out]; omega) id)).trans (rf j)
        have f0 := hfz 0
        have f1 := hfz 1
        have f2 := hfz 2
        clear r0 r1 r2 rf h0 h1 h2 hc hown
        go_wp2_with fail
        go_region
        go_wp2_with fail
        have hcw : Chg (fun k => k = w.heap.size) w5 (((w5.setCell ⟨w.heap.size, 0, none⟩ (.int .i64 ep)).setCell ⟨w.heap.size, 1, none⟩ (.int .i64 ba)).setCell ⟨w.heap.size, 2, none⟩ (.slice pp 0 cc)).drew :=
          ((((Chg.refl (fun k => k = w.heap.size) w5).setCell (p := ⟨w.heap.size, 0, none⟩) (fun _ => rfl) _).setCell (p := ⟨w.heap.size, 1, none⟩) (fun _ => rfl) _).setCell (p := ⟨w.heap.size, 2, none⟩) (fun _ => rfl) _).drew
        refine bodyPost_ret (v := .agg #[.int .i64 ep, .int .i64 ba, .slice pp 0 cc]) ?_ rfl ⟨_, rfl, ?_, ?_⟩
        · simp [results, Tryz.results62, go_sem, s0, s1, s2]
        · rw [← HTL.out]
          exact row_lower (hcw.row hrow5 (fun k hk => .inl (by omega))) (by omega)
        · exact (c0.trans hc5 (fun _ _ h => h)).trans hcw (fun k hk h => by omega)
      · obtain ⟨g, cap, rfl, hg, hcap, _⟩ := row_pos hown (by omega)
        have hgl : g < wr.heap.size := (hown.lt g rfl).2
        have hH := row_holds (Value.int .i64) hown
        refine (Tryz.slices_Sort_int g 0 cap T wr hH hgl (by omega)).mono ?_
        rintro _ w5 ⟨rfl, q5, os5, h5⟩
        obtain ⟨r5, c5⟩ := row_put (Value.int .i64) wr T (T.mergeSort fun x y => decide (x ≤ y)) hown (List.length_mergeSort _) q5 os5
        rw [← h5] at r5 c5
        have hrow5 : w5.ownsRow (w.heap.size + 1) 3 1 (.slice (some ⟨g, 0, none⟩) T.length cap) T.length (ints' (theNums q)) := by rw [hfin.out]; exact r5
        have hc5 : Chg (fun _ => False) W0 w5 := hc.trans c5 (fun k hk h => by rw [HS0.out] at hk; omega)
        clear h5 hH r5 c5
        have d0 := hc5.cellAt (c0.cellAt h0 id) id
        have d1 := hc5.cellAt (c0.cellAt h1 id) id
        have s0 := hc5.cellAt r0 id
        have s1 := hc5.cellAt r1 id
        have s2 := hc5.cellAt r2 id
        have hfz : ∀ j, w5.frozen? ⟨w.heap.size, j, none⟩ = false := fun j => (World.frozen?_of_block (w := W0) (hc5.block w.heap.size (by rw [HS0.out]; omega) id)).trans (rf j)
        have f0 := hfz 0
        have f1 := hfz 1
        have f2 := hfz 2
        clear r0 r1 r2 rf h0 h1 h2 hc hown
        go_wp2_with fail
        go_region
        go_wp2_with fail
        have hcw : Chg (fun k => k = w.heap.size) w5 (((w5.setCell ⟨w.heap.size, 0, none⟩ (.int .i64 ep)).setCell ⟨w.heap.size, 1, none⟩ (.int .i64 ba)).setCell ⟨w.heap.size, 2, none⟩ (.slice (some ⟨g, 0, none⟩) T.length cap)).drew :=
          ((((Chg.refl (fun k => k = w.heap.size) w5).setCell (p := ⟨w.heap.size, 0, none⟩) (fun _ => rfl) _).setCell (p := ⟨w.heap.size, 1, none⟩) (fun _ => rfl) _).setCell (p := ⟨w.heap.size, 2, none⟩) (fun _ => rfl) _).drew
        refine bodyPost_ret (v := .agg #[.int .i64 ep, .int .i64 ba, .slice (some ⟨g, 0, none⟩) T.length cap]) ?_ rfl ⟨_, rfl, ?_, ?_⟩
        · simp [results, Tryz.results62, go_sem, s0, s1, s2]
        · rw [← HTL.out]
          exact row_lower (hcw.row hrow5 (fun k hk => .inl (by omega))) (by omega)
        · exact (c0.trans hc5 (fun _ _ h => h)).trans hcw (fun k hk h => by omega)

end Go.Proofs.YtdoedjmdcmgddaaGreat
