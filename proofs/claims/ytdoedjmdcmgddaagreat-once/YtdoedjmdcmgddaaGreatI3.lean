/- slices.Insert ON THE LEDGER, WHERE IT GROWS, WALKED. -/
import Derived.Test.YtdoedjmdcmgddaaGreatI2
namespace Go.Proofs.YtdoedjmdcmgddaaGreat
set_option linter.unusedVariables false
set_option linter.unusedSimpArgs false
open Go.RowKit Go.Lib

theorem zeroCells_size (z : Array Value) (n : Nat) : (Builtin.zeroCells z n).size = n * z.size := by simp [Builtin.zeroCells]

theorem grow_list (A Z : List Value) (i n : Nat) (D xc : List Value) (hA : A.length = n * 4) (hi : i < n) (hD : D = A.drop (i * 4)) (hx : xc.length = 4) (hZ : Z.length = (n + 1 - i) * 4) :
    ((A.take (i * 4) ++ Z).take (i * 4) ++ xc ++ (A.take (i * 4) ++ Z).drop (i * 4 + xc.length)).take ((i + 1) * 4) ++ D ++ ((A.take (i * 4) ++ Z).take (i * 4) ++ xc ++ (A.take (i * 4) ++ Z).drop (i * 4 + xc.length)).drop ((i + 1) * 4 + D.length) = A.take (i * 4) ++ xc ++ D := by
  have hDl : D.length = n * 4 - i * 4 := by rw [hD, List.length_drop, hA]
  have h3 : (A.take (i * 4)).length = i * 4 := by rw [List.length_take]; omega
  have h4 : (A.take (i * 4) ++ Z).take (i * 4) = A.take (i * 4) := by rw [List.take_append_of_le_length (by omega), List.take_take, Nat.min_self]
  have h5 : (A.take (i * 4) ++ xc).length = (i + 1) * 4 := by rw [List.length_append, h3, hx]; omega
  have h6 : (A.take (i * 4) ++ xc ++ (A.take (i * 4) ++ Z).drop (i * 4 + xc.length)).length = (n + 1) * 4 := by
    rw [List.length_append, h5, List.length_drop, List.length_append, h3, hx, hZ]; omega
  rw [h4]
  have hX2 : (A.take (i * 4) ++ xc ++ (A.take (i * 4) ++ Z).drop (i * 4 + xc.length)).drop ((i + 1) * 4 + D.length) = [] := List.drop_eq_nil_of_le (by rw [h6]; omega)
  have hX1 : (A.take (i * 4) ++ xc ++ (A.take (i * 4) ++ Z).drop (i * 4 + xc.length)).take ((i + 1) * 4) = A.take (i * 4) ++ xc := by
    rw [List.take_append_of_le_length (Nat.le_of_eq h5.symm), ← h5, List.take_length]
  rw [hX1, hX2, List.append_nil]

set_option maxRecDepth 100000 in
set_option maxHeartbeats 1000000 in
theorem insert_grow (lo n i g cap vb : Nat) (ks : List Ky) (x : Ky) (w : World) (hr : w.ownsRow lo 60 4 (.slice (some ⟨g, 0, none⟩) n cap) n (keyCells ks)) (hl : ks.length = n) (hn : n ≤ 1000) (hi : i < n) (hroom : cap < n + 1) (hlo : lo ≤ w.heap.size)
    (hx : w.heap[vb]? = some (.cells #[.string x.name, .int .i64 x.count, .int .i64 x.fold, .int .i64 x.held] 60)) :
    Calls Tryz.prog 114 #[.slice (some ⟨g, 0, none⟩) n cap, .int .i64 i, .slice (some ⟨vb, 0, none⟩) 1 1] w fun e w' => ∃ v', e = .returned v' ∧
      w'.ownsRow lo 60 4 v' (n + 1) (keyCells (ks.take i ++ [x] ++ ks.drop i)) ∧ (∀ k, v'.ownBlock = some k → w.heap.size ≤ k) ∧ Chg (fun _ => False) w w' := by
  obtain ⟨i0, hi0, hz0, hz1, hz2⟩ := info_parts Tryz.infoK
  have hsz : (Tryz.prog.info? 60).map (·.size) = some 4 := by kernel_rfl
  have hgl : g < w.heap.size := by
    have hc0 := row_cell hr (List.getElem?_eq_getElem (l := keyCells ks) (i := 0) (by rw [keyCells_len]; omega))
    exact World.block_lt_of_cell? w _ hc0
  have hvl : vb < w.heap.size := (Array.getElem?_eq_some_iff.1 hx).1
  have hdl : (keyCells (ks.drop i)).length = (n - i) * 4 := by rw [keyCells_len, List.length_drop, hl]
  have htl : ((keyCells ks).take (i * 4)).length = i * 4 := by rw [List.length_take, keyCells_len, hl]; omega
  have hkk : (n : Int) + 1 - (i : Int) = ((n + 1 - i : Nat) : Int) := by omega
  have hik : i + (n + 1 - i) = n + 1 := by omega
  have hold : (Builtin.firstCells i0.size i (.slice (some ⟨g, 0, none⟩) i cap)).run Tryz.prog w.drew = .ok ((keyCells ks).take (i * 4)).toArray w.drew := by
    rw [hz1]
    have := run_loadCells_list (P := Tryz.prog) w.drew ⟨g, 0, none⟩ ((keyCells ks).take (i * 4)) (fun j u hj => by
      rw [add_lit', Nat.zero_add]
      refine (World.cell?_drew _ _).trans (row_cell hr ?_)
      rw [List.getElem?_take] at hj
      split at hj
      · exact hj
      · cases hj)
    rw [htl] at this
    simpa [Builtin.firstCells] using this
  have hrz : ∀ ty, (Builtin.append_ #[96, 3] ty #[.slice (some ⟨g, 0, none⟩) i cap, .int .i64 ((n : Int) + 1 - (i : Int))]).run Tryz.prog w =
      .ok (.slice (some ⟨w.heap.size, 0, none⟩) (n + 1) (grownCap w (n + 1) cap 60)) (w.drew.alloc (.cells (((keyCells ks).take (i * 4)).toArray ++ Builtin.zeroCells #[.string ⟨#[]⟩, .int .i64 0, .int .i64 0, .int .i64 0] (n + 1 - i) ++ Builtin.zeroCells #[.string ⟨#[]⟩, .int .i64 0, .int .i64 0, .int .i64 0] (grownCap w (n + 1) cap 60 - (n + 1))) 60)) := fun ty => by
    have h := Lib.run_append_grow_zeros w 96 3 ty 60 i0 _ .i64 .i64 Tryz.underlying96 Tryz.underlying3 hi0 hz0 (some ⟨g, 0, none⟩) i cap ((keyCells ks).take (i * 4)) hold (n + 1 - i) (by omega) (by omega) (by omega) (by omega) (by rw [hz2]; omega) (by rw [hz2, hik]; exact growslice_fits hroom (by omega))
    rw [hik] at h
    rw [hkk]
    exact h
  obtain ⟨G, hG⟩ : ∃ G, G = grownCap w (n + 1) cap 60 := ⟨_, rfl⟩
  have hGn : n + 1 ≤ G := by rw [hG]; exact grownCap_ge w _ _ _
  have hGm : G ≤ maxLen := by rw [hG]; exact grownCap_le_maxLen w (n + 1) cap 60 (by unfold maxLen; omega)
  have hG63 : G ≤ 9223372036854775807 := by unfold maxLen at hGm; omega
  rw [← hG] at hrz
  obtain ⟨Z, hZ⟩ : ∃ Z : List Value, Z = (Builtin.zeroCells #[.string ⟨#[]⟩, .int .i64 0, .int .i64 0, .int .i64 0] (n + 1 - i)).toList := ⟨_, rfl⟩
  have hZl : Z.length = (n + 1 - i) * 4 := by rw [hZ, Array.length_toList, zeroCells_size]; rfl
  obtain ⟨ROW, hROW⟩ : ∃ ROW : Array Value, ROW = ((keyCells ks).take (i * 4)).toArray ++ Builtin.zeroCells #[.string ⟨#[]⟩, .int .i64 0, .int .i64 0, .int .i64 0] (n + 1 - i) ++ Builtin.zeroCells #[.string ⟨#[]⟩, .int .i64 0, .int .i64 0, .int .i64 0] (G - (n + 1)) := ⟨_, rfl⟩
  rw [← hROW] at hrz
  obtain ⟨W1, hW1⟩ : ∃ W1, W1 = w.drew.alloc (.cells ROW 60) := ⟨_, rfl⟩
  rw [← hW1] at hrz
  have q0 : W1.ownsRow w.heap.size 60 4 (.slice (some ⟨w.heap.size, 0, none⟩) (n + 1) G) (n + 1) ((keyCells ks).take (i * 4) ++ Z) := by
    refine ⟨by rw [List.length_append, htl, hZl]; omega, .inr ⟨w.heap.size, G, ROW, rfl, Nat.le_refl _, ?_, hGn, hGm, ?_, ?_⟩⟩
    · rw [hW1]; exact heap_alloc_new w.drew _
    · rw [hROW]; simp only [Array.size_append, List.size_toArray, zeroCells_size, htl]; simp; omega
    · rw [hZ, hROW]
      simp only [Array.toList_append, List.append_assoc]
      rw [← List.append_assoc, List.take_append_of_le_length (by rw [List.length_append, htl, Array.length_toList, zeroCells_size]; simp; omega), List.take_of_length_le (by rw [List.length_append, htl, Array.length_toList, zeroCells_size]; simp; omega)]
  have c0 : Chg (fun _ => False) w W1 := by rw [hW1]; exact (Chg.refl _ w).drew.alloc _
  have hxc : ∀ j u, x.cells[j]? = some u → W1.cell? ⟨vb, j, none⟩ = some u := fun j u hj => by
    refine c0.cellAt ?_ id
    simp only [World.cell?, hx]
    match j, hj with
    | 0, hj => simpa [Ky.cells] using hj
    | 1, hj => simpa [Ky.cells] using hj
    | 2, hj => simpa [Ky.cells] using hj
    | 3, hj => simpa [Ky.cells] using hj
    | k + 4, hj => simp [Ky.cells] at hj
  obtain ⟨q1, c1⟩ := row_setCells x.cells (i * 4) W1 _ q0 (by rw [q0.1]; show i * 4 + 4 ≤ _; omega)
  obtain ⟨L1, hL1⟩ : ∃ L1, L1 = ((keyCells ks).take (i * 4) ++ Z).take (i * 4) ++ x.cells ++ ((keyCells ks).take (i * 4) ++ Z).drop (i * 4 + x.cells.length) := ⟨_, rfl⟩
  rw [← hL1] at q1
  have hcpA : ∀ (W : World), (∀ a, W.cell? a = W1.cell? a) → (∀ a, W.frozen? a = W1.frozen? a) → ∀ ty dc, (Builtin.copy_ #[96, 50] ty #[.slice (some ⟨w.heap.size, i * 4, none⟩) (n + 1 - i) dc, .slice (some ⟨vb, 0, none⟩) 1 1]).run Tryz.prog W = .ok (goInt (1 : Nat)) (W.setCells w.heap.size (i * 4) x.cells) := fun W hWc hWf ty dc => by
    have hmin : Nat.min 1 (n + 1 - i) = 1 := by simp only [Nat.min_def]; split <;> omega
    have := run_copy_sized (P := Tryz.prog) W 96 50 ty 60 4 w.heap.size (i * 4) (n + 1 - i) dc ⟨vb, 0, none⟩ 1 1 x.cells Tryz.underlying96 hsz (by rw [hmin]; rfl)
      (fun j u hj => by
        rw [add_lit', hWc, Nat.zero_add]
        exact hxc j u hj)
      (fun j hj => by
        have : x.cells.length = 4 := rfl
        rw [hWc, row_cell q0 (List.getElem?_eq_getElem (by rw [q0.1]; omega))]; rfl) (fun j hj => by rw [hWf]; exact row_frozen q0 _) (keyCells_one' [x])
    rw [hmin] at this
    exact this
  obtain ⟨W2, hW2⟩ : ∃ W2, W2 = W1.setCells w.heap.size (i * 4) x.cells := ⟨_, rfl⟩
  rw [← hW2] at q1 c1
  have hcpB : ∀ (W : World), (∀ a, W.cell? a = W2.cell? a) → (∀ a, W.frozen? a = W2.frozen? a) → ∀ ty dc sc, (Builtin.copy_ #[96, 96] ty #[.slice (some ⟨w.heap.size, (i + 1) * 4, none⟩) (n - i) dc, .slice (some ⟨g, i * 4, none⟩) (n - i) sc]).run Tryz.prog W = .ok (goInt (n - i : Nat)) (W.setCells w.heap.size ((i + 1) * 4) (keyCells (ks.drop i))) := fun W hWc hWf ty dc sc => by
    have hmin : Nat.min (n - i) (n - i) = n - i := Nat.min_self _
    have := run_copy_sized (P := Tryz.prog) W 96 96 ty 60 4 w.heap.size ((i + 1) * 4) (n - i) dc ⟨g, i * 4, none⟩ (n - i) sc (keyCells (ks.drop i)) Tryz.underlying96 hsz (by rw [hmin, hdl])
      (fun j u hj => by
        rw [add_lit', hWc]
        rw [keyCells_drop, List.getElem?_drop] at hj
        exact c1.cellAt (c0.cellAt (row_cell hr hj) id) (by omega))
      (fun j hj => by rw [hWc, row_cell q1 (List.getElem?_eq_getElem (by rw [q1.1]; rw [hdl] at hj; omega))]; rfl) (fun j hj => by rw [hWf]; exact row_frozen q1 _) (keyCells_one' _)
    rw [hmin] at this
    exact this
  have q1d : W2.drew.ownsRow w.heap.size 60 4 (.slice (some ⟨w.heap.size, 0, none⟩) (n + 1) G) (n + 1) L1 := q1
  obtain ⟨q2, c2⟩ := row_setCells (keyCells (ks.drop i)) ((i + 1) * 4) W2.drew L1 q1d (by rw [q1.1, hdl]; omega)
  have hfin := grow_list (keyCells ks) Z i n (keyCells (ks.drop i)) x.cells (by rw [keyCells_len, hl]) hi (keyCells_drop ks i) rfl hZl
  rw [← hL1] at hfin
  rw [hfin, ← keyCells_take] at q2
  have q3 : (W2.drew.setCells w.heap.size ((i + 1) * 4) (keyCells (ks.drop i))).ownsRow w.heap.size 60 4 (.slice (some ⟨w.heap.size, 0, none⟩) (n + 1) G) (n + 1) (keyCells (ks.take i ++ [x] ++ ks.drop i)) := by
    rw [keyCells_cat, keyCells_cat, keyCells_one]; exact q2
  have cfin : Chg (fun _ => False) w (W2.drew.setCells w.heap.size ((i + 1) * 4) (keyCells (ks.drop i))) := (c0.trans c1 (fun k hk h => by omega)).drew.trans c2 (fun k hk h => by omega)
  have hz2 : ¬ ((i : Int) = (n : Int)) := by omega
  have hz3 : (cap : Int) < (n : Int) + 1 := by omega
  have hb2 : ¬ (G = i + 1) := by omega
  have hb4 : ¬ (G = i) := by omega
  have hnc : n ≤ cap := by
    rcases hr.2 with ⟨h, _⟩ | ⟨g', cap', cur, hv, _, _, h, _⟩
    · simp at h
    · simp at hv; omega
  have hb6 : ¬ (cap = i) := by omega
  have hb7 : (i : Int) ≤ (cap : Int) := by omega
  have hb3 : (i : Int) ≤ (n : Int) + 1 := by omega
  have hin : i ≤ n := by omega
  have hw1 : IntKind.i64.wrap ((i : Int) + 1) = (i : Int) + 1 := by rw [IntKind.wrap_i64]; omega
  have hb1 : (0 : Int) ≤ (i : Int) + 1 := by omega
  have hb5 : (i : Int) + 1 ≤ (n : Int) + 1 := by omega
  have htn : ((i : Int) + 1).toNat = i + 1 := by omega
  have hcB := hcpB W2.drew (fun _ => rfl) (fun _ => rfl)
  have HW2 : Hid (W2 = W1.setCells w.heap.size (i * 4) x.cells) := hW2
  clear hcpB hkk hik hdl htl hZl hW1 hW2 hL1 hZ hG hROW q0 q1 q1d q2 c0 c1 c2 hxc hold hfin hx hr
  go_enter Tryz.func114, Tryz.ntmps114
  go_wp2_with (first | (at_builtin; refine wpList_append_run' _ rfl _ _ 96 3 rfl _ _ rfl rfl _ W1 hrz ?_) | (at_builtin; refine wpList_copy_run' _ rfl _ _ 96 50 rfl _ _ rfl rfl (hcpA _ (fun _ => rfl) (fun _ => rfl) _ _) ?_))
  rw [← HW2.out]
  go_region
  all_goals
    go_wp2
    go_ret
    refine ⟨_, rfl, row_lower q3 hlo, ?_, cfin⟩
    intro k hk
    simp [Value.ownBlock] at hk
    omega

end Go.Proofs.YtdoedjmdcmgddaaGreat
