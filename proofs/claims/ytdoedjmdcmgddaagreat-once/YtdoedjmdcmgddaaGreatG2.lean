/- The flow's State, WALKED. -/
import Derived.Test.YtdoedjmdcmgddaaGreatG1
import Derived.Test.YtdoedjmdcmgddaaGreatF2
namespace Go.Proofs.YtdoedjmdcmgddaaGreat
set_option linter.unusedVariables false
set_option linter.unusedSimpArgs false
open Go.RowKit Go.Lib

set_option maxRecDepth 100000 in
set_option maxHeartbeats 2000000 in
theorem cloneK_any (lo : Nat) (vk : Value) (ks : List Ky) (w : World) (hr : w.ownsRow lo 60 4 vk ks.length (keyCells ks)) (hn : ks.length ≤ 4) :
    Calls Tryz.prog 63 #[vk] w fun e w' => ∃ u, e = .returned u ∧ w'.ownsRow w.heap.size 60 4 u ks.length (keyCells ks) ∧ Chg (fun _ => False) w w' := by
  have heq : ∀ W, (binOp .eql 96 (.slice none 0 0) (.slice none 0 0)).run Tryz.prog W = .ok (.bool true) W := fun W => by kernel_rfl
  have hne : ∀ (p : Addr) (n c : Nat) W, (binOp .eql 96 (.slice (some p) n c) (.slice none 0 0)).run Tryz.prog W = .ok (.bool false) W := fun p n c W => by kernel_rfl
  rcases hr.2 with ⟨rfl, hz⟩ | ⟨g, cap, cur, rfl, hlo, hg, _⟩
  · go_enter Tryz.func63, Tryz.ntmps63
    go_wp2_with fail
    go_ret
    obtain rfl : ks = [] := List.eq_nil_of_length_eq_zero hz
    exact ⟨_, rfl, World.ownsRow_nil _ _ _ _, Chg.refl _ _⟩
  · obtain ⟨i0, hi, hz0, hz1, hz2⟩ := info_parts Tryz.infoK
    have hown : (w.alloc (Obj.cells #[] 60)).ownsRow w.heap.size 60 4 (.slice (some ⟨w.heap.size, 0, none⟩) 0 0) 0 [] :=
      ⟨rfl, .inr ⟨w.heap.size, 0, #[], rfl, Nat.le_refl _, show (w.heap.push _)[w.heap.size]? = _ by simp, Nat.le_refl _, by unfold maxLen; omega, rfl, rfl⟩⟩
    obtain ⟨v', w', hrun, r1, r2, _⟩ := run_append_where (P := Tryz.prog) (w.alloc (Obj.cells #[] 60)) w.heap.size 96 96 60 i0 _ 4 40 Tryz.underlying96 hi hz0 hz1 hz2 rfl (by decide) _ 0 [] hown ⟨g, 0, none⟩ ks.length cap (keyCells ks) (keyCells_len ks)
      (fun j u hj => ((Chg.refl (fun _ => False) w).alloc _).cell (World.ownsRow.cells hr (g := g) rfl j u hj) id) (fun u hu => keyCells_one' ks u hu) (by unfold maxLen; omega) (by omega) (by simp)
    have hc : Chg (fun _ => False) w w' := ((Chg.refl _ w).alloc _).grown r2 (fun k hk => by simp [Value.ownBlock] at hk; omega)
    go_enter Tryz.func63, Tryz.ntmps63
    go_wp2_with (at_builtin; refine Lib.wpList_append_run _ rfl _ _ 96 96 rfl _ _ rfl rfl v' w' hrun ?_)
    go_ret
    refine ⟨_, rfl, ?_, hc⟩
    simpa using r1

/-- The cells of k sessions. -/
def sessU (E B : Nat → Int) (U : Nat → Value) : Nat → List Value
  | 0 => []
  | k + 1 => sessU E B U k ++ [.int .i64 (E k), .int .i64 (B k), U k]

theorem sessU_congr (E B : Nat → Int) (U U' : Nat → Value) : ∀ k, (∀ i, i < k → U i = U' i) → sessU E B U k = sessU E B U' k
  | 0, _ => rfl
  | k + 1, h => by simp only [sessU]; rw [sessU_congr E B U U' k (fun i hi => h i (by omega)), h k (by omega)]

theorem Tryz.infoSe : (Tryz.prog.info? 56).map (fun i => (i.zero, i.size, i.bytes)) = some (some (.agg #[.int .i64 0, .int .i64 0, .slice none 0 0]), 3, 40) := by kernel_rfl

set_option maxRecDepth 100000 in
set_option maxHeartbeats 4000000 in
theorem flowState_any {w : World} {lo b o : Nat} {E B : Nat → Int} {V : Nat → Value} {vk : Value} {Q : Nat → List Wt} {ks : List Ky} (h : FlowAt w lo b o E B V vk Q ks) (hq : ∀ i, i < 4 → (Q i).length ≤ 4) (hk : ks.length ≤ 4) :
    Calls Tryz.prog 32 #[.pointer (some ⟨b, o, none⟩)] w fun e w' => ∃ (vs vk' : Value) (U : Nat → Value), e = .returned (.agg #[vs, vk']) ∧ w'.ownsRow w.heap.size 56 3 vs 4 (sessU E B U 4) ∧
      (∀ i, i < 4 → w'.ownsRow w.heap.size 3 1 (U i) (Q i).length (ints' (theNums (Q i)))) ∧ w'.ownsRow w.heap.size 60 4 vk' ks.length (keyCells ks) ∧ Chg (fun _ => False) w w' := by
  obtain ⟨i0, hi, hz0, hz1, hz2⟩ := info_parts Tryz.infoSe
  have hbl : b < w.heap.size := World.block_lt_of_cell? _ _ h.cells.le
  obtain ⟨W0, hW0⟩ : ∃ W0, W0 = w.alloc (Obj.cells #[.slice none 0 0, .slice none 0 0] 52) := ⟨_, rfl⟩
  have hs0 : W0.heap.size = w.heap.size + 1 := by rw [hW0]; simp
  have c0 : Chg (fun _ => False) w W0 := by rw [hW0]; exact (Chg.refl _ w).alloc _
  have r0 : W0.cell? ⟨w.heap.size, 0, none⟩ = some (.slice none 0 0) := by rw [hW0]; exact World.cell?_alloc_at _ _ _ _ rfl
  have r1 : W0.cell? ⟨w.heap.size, 1, none⟩ = some (.slice none 0 0) := by rw [hW0]; exact World.cell?_alloc_at _ _ _ _ rfl
  have rf : ∀ j, W0.frozen? ⟨w.heap.size, j, none⟩ = false := fun j => by rw [hW0]; exact World.frozen?_alloc_at _ _ _ _ rfl
  have HW0 : Hid (W0 = w.alloc (Obj.cells #[.slice none 0 0, .slice none 0 0] 52)) := hW0
  have HS0 : Hid (W0.heap.size = w.heap.size + 1) := hs0
  clear hW0 hs0
  go_enter Tryz.func32, Tryz.ntmps32
  go_wp2_with (refine wpList_make_own _ rfl _ _ 49 rfl (w.heap.size + 1) 56 i0 _ 3 Tryz.underlying49 hi hz0 hz1 .i64 .i64 _ 4 rfl rfl rfl (by rw [hz2]; omega) (by unfold maxLen; omega) (by simp) ?_; intro w1 hown1 hg1; have hc1 : Chg (fun _ => False) W0 w1 := by { rw [HW0.out]; exact (Chg.refl _ _).grown hg1 (by simp) }; have hF1 := h.cells.chg (c0.trans hc1 (fun _ _ h => h)) id; have e0 := hF1.ep 0 (by omega); have e1 := hF1.ep 1 (by omega); have e2 := hF1.ep 2 (by omega); have e3 := hF1.ep 3 (by omega); have b0 := hF1.ba 0 (by omega); have b1 := hF1.ba 1 (by omega); have b2 := hF1.ba 2 (by omega); have b3 := hF1.ba 3 (by omega); have v0 := hF1.qu 0 (by omega); have v1 := hF1.qu 1 (by omega); have v2 := hF1.qu 2 (by omega); have v3 := hF1.qu 3 (by omega); simp only [Nat.zero_mul, Nat.one_mul, Nat.add_zero] at e0 e1 e2 e3 b0 b1 b2 b3 v0 v1 v2 v3)
  go_loopw [3, 5, 11] (fun sv _ si wr => ∃ (k : Nat) (U : Nat → Value), si = .int .i64 k ∧ k ≤ 4 ∧ wr.ownsRow (w.heap.size + 1) 56 3 sv k (sessU E B U k) ∧ (∀ i, i < k → wr.ownsRow (w.heap.size + 1) 3 1 (U i) (Q i).length (ints' (theNums (Q i)))) ∧ (∀ i, i < k → ∀ g, (U i).ownBlock = some g → sv.ownBlock ≠ some g) ∧ Chg (fun _ => False) W0 wr) (fun _ _ si _ => 4 - (intOf si).toNat)
  case atStart => exact ⟨0, fun _ => .slice none 0 0, rfl, by omega, by simpa [sessU] using hown1, fun i hi => by omega, fun i hi => by omega, hc1⟩
  case round =>
    obtain ⟨k, U, rfl, hk4, hown, hU, hsep, hc⟩ := hrel
    clear hown1 hg1 hc1 hF1 e0 e1 e2 e3 b0 b1 b2 b3 v0 v1 v2 v3
    have hc' : Chg (fun _ => False) w wr := c0.trans hc (fun _ _ h => h)
    have hsz : w.heap.size + 1 ≤ wr.heap.size := by rw [← HS0.out]; exact hc.size
    by_cases hk4' : k < 4
    · have hk4i : (k : Int) < 4 := by omega
      have hix := fun W => index_lane E B V k hk4' W
      obtain ⟨pq, capq, hVk⟩ := row_any (h.rows k hk4')
      have hrk := h.rows k hk4'
      rw [hVk] at hrk hix
      have hql := hq k hk4'
      have hls := laneState_any lo wr.heap.size 0 (E k) (B k) _ (Q k) (wr.alloc (Obj.cells #[.int .i64 (E k), .int .i64 (B k), .slice pq (Q k).length capq] 94)) (World.cell?_alloc_at _ _ _ _ rfl) (World.cell?_alloc_at _ _ _ _ rfl) (World.cell?_alloc_at _ _ _ _ rfl) ((hc'.row' hrk (fun _ _ h => h.elim)).alloc _) hql
      go_wp2_with (first | (go_at_call 62; refine hls.mono ?_; rintro _ w2 ⟨u, rfl, hru, c2⟩; obtain ⟨pu, cu, rfl⟩ := row_any hru) | (at_builtin; have hown2 := (((Chg.refl (fun _ => False) wr).alloc _).trans c2 (fun _ _ h => h)).row' hown (fun _ _ h => h.elim); obtain ⟨v', w3, hrun, a1, a2, a3⟩ := run_append_where (P := Tryz.prog) (w2.alloc (Obj.cells #[.int .i64 (E k), .int .i64 (B k), .slice pu (Q k).length cu] 56)) (w.heap.size + 1) 49 49 56 i0 _ 3 40 Tryz.underlying49 hi hz0 hz1 hz2 rfl (by decide) _ k _ (hown2.alloc _) ⟨w2.heap.size, 0, none⟩ 1 1 [.int .i64 (E k), .int .i64 (B k), .slice pu (Q k).length cu] rfl (fun j y hj => by rw [add_lit', Nat.zero_add]; rcases j with _ | _ | _ | j <;> simp at hj <;> subst hj <;> exact World.cell?_alloc_at _ _ _ _ rfl) (fun y hy => by simp at hy; rcases hy with rfl | rfl | rfl <;> rfl) (by unfold maxLen; omega) (by omega) (by have := c2.size; simp at this ⊢; omega); refine Lib.wpList_append_run _ rfl _ _ 49 49 rfl _ _ rfl rfl v' w3 hrun ?_))
      go_roundw
      case rel =>
        have hs2 : wr.heap.size + 1 ≤ w2.heap.size := by have := c2.size; rw [World.size_alloc] at this; exact this
        have c02 : Chg (fun _ => False) wr w2 := ((Chg.refl _ wr).alloc _).trans c2 (fun _ _ h => h)
        have c23 : Chg (fun g => u3.ownBlock = some g) w2 w3 := ((Chg.refl (fun g => u3.ownBlock = some g) w2).alloc _).trans (G := fun g => u3.ownBlock = some g) ⟨a2.os, a2.tape, a2.output, a2.size, fun k hk hne => a2.block k hk (fun e => hne e.symm)⟩ (fun _ _ h => h)
        rw [World.size_alloc] at a3 hru
        refine ⟨k + 1, upd U k (.slice pu (Q k).length cu), by go_num, by omega, ?_, fun i hi => ?_, fun i hi g hg => ?_, ?_⟩
        · have e := sessU_congr E B (upd U k (.slice pu (Q k).length cu)) U k (fun i hi => upd_ne _ _ (by omega))
          simp only [sessU]
          rw [e, upd_same]
          exact a1
        · by_cases e : i = k
          · subst e
            rw [upd_same]
            refine c23.row' (row_lower hru (by omega)) (fun g hg hf => ?_)
            have := (hown.lt g hf).2
            have := (hru.lt g hg).1
            omega
          · rw [upd_ne _ _ e]
            exact c23.row' (c02.row' (hU i (by omega)) (fun _ _ h => h)) (fun g hg hf => hsep i (by omega) g hg hf)
        · by_cases e : i = k
          · subst e
            rw [upd_same] at hg
            have h1 := hru.lt g hg
            intro hv
            rcases a3 with a3 | a3
            · rw [a3] at hv
              have := (hown.lt g hv).2
              omega
            · have := a3 g hv
              omega
          · rw [upd_ne _ _ e] at hg
            intro hv
            rcases a3 with a3 | a3
            · rw [a3] at hv
              exact hsep i (by omega) g hg hv
            · have := a3 g hv
              have := ((hU i (by omega)).lt g hg).2
              omega
        · exact (hc.trans c02 (fun _ _ h => h)).trans c23 (fun n hn h => by have := (hown.lt n h).1; rw [HS0.out] at hn; omega)
      case measure => simp [intOf]; omega
    · have hk4i : ¬ (k : Int) < 4 := by omega
      obtain rfl : k = 4 := by omega
      obtain ⟨pk, kc, hvk⟩ := row_any h.keys
      have kk := (h.cells.chg hc' id).le
      have hrk := hc'.row' h.keys (fun _ _ h => h)
      rw [hvk] at kk hrk
      have hcl := cloneK_any lo _ ks wr hrk hk
      go_wp2_with (go_at_call 63; refine hcl.mono ?_; rintro _ w5 ⟨u, rfl, hru, c5⟩; obtain ⟨pu, cu, rfl⟩ := row_any hru; have hc5 : Chg (fun _ => False) W0 w5 := hc.trans c5 (fun _ _ h => h); obtain ⟨ps, cs, rfl⟩ := row_any hown; have s0 := hc5.cellAt r0 id; have s1 := hc5.cellAt r1 id; have hfz : ∀ j, w5.frozen? ⟨w.heap.size, j, none⟩ = false := fun j => (World.frozen?_of_block (w := W0) (hc5.block w.heap.size (by rw [HS0.out]; omega) id)).trans (rf j); have f0 := hfz 0; have f1 := hfz 1)
      have hcw : Chg (fun k => k = w.heap.size) w5 ((w5.setCell ⟨w.heap.size, 0, none⟩ (.slice ps 4 cs)).setCell ⟨w.heap.size, 1, none⟩ (.slice pu ks.length cu)) :=
        ((Chg.refl (fun k => k = w.heap.size) w5).setCell (p := ⟨w.heap.size, 0, none⟩) (fun _ => rfl) _).setCell (p := ⟨w.heap.size, 1, none⟩) (fun _ => rfl) _
      refine bodyPost_ret (v := .agg #[.slice ps 4 cs, .slice pu ks.length cu]) ?_ rfl ⟨_, _, U, rfl, ?_, fun i hi => ?_, ?_, ?_⟩
      · simp [results, Tryz.results32, go_sem, s0, s1]
      · exact row_lower (hcw.row (c5.row' hown (fun _ _ h => h)) (fun k hk => .inl (by omega))) (by omega)
      · exact row_lower (hcw.row (c5.row' (hU i hi) (fun _ _ h => h)) (fun k hk => .inl (by omega))) (by omega)
      · exact row_lower (hcw.row hru (fun k hk => .inl (by omega))) (by omega)
      · exact (c0.trans hc5 (fun _ _ h => h)).trans hcw (fun k hk h => by omega)

end Go.Proofs.YtdoedjmdcmgddaaGreat
