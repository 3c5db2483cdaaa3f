/- sameState: TWO STATES THAT ARE THE SAME, WALKED. -/
import Derived.Test.YtdoedjmdcmgddaaGreatLaw1
import Derived.BigQuiet
import Derived.Test.YtdoedjmdcmgddaaGreatQ1
import Derived.Test.YtdoedjmdcmgddaaGreatI2
namespace Go.Proofs.YtdoedjmdcmgddaaGreat
set_option linter.unusedVariables false
set_option linter.unusedSimpArgs false
open Go.RowKit

theorem sessCells_at : ∀ (ls : List Ln) (us : List Value) (i : Nat) (l : Ln) (u : Value), ls[i]? = some l → us[i]? = some u → (sessCells ls us)[i * 3]? = some (.int .i64 l.epoch) ∧ (sessCells ls us)[i * 3 + 1]? = some (.int .i64 l.base) ∧ (sessCells ls us)[i * 3 + 2]? = some u
  | [], _, i, l, u, h, _ => by simp at h
  | _ :: _, [], i, l, u, _, h => by simp at h
  | x :: r, v :: us, 0, l, u, h, h' => by
    simp at h h'
    subst h h'
    simp [sessCells]
  | x :: r, v :: us, i + 1, l, u, h, h' => by
    have := sessCells_at r us i l u (by simpa using h) (by simpa using h')
    rw [show (i + 1) * 3 = i * 3 + 3 by omega, show i * 3 + 3 + 1 = i * 3 + 1 + 3 by omega, show i * 3 + 3 + 2 = i * 3 + 2 + 3 by omega]
    simpa [sessCells] using this

theorem keyNeq (n : ByteArray) (c f h : Int) (W : World) : (binOp .neq 60 (.agg #[.string n, .int .i64 c, .int .i64 f, .int .i64 h]) (.agg #[.string n, .int .i64 c, .int .i64 f, .int .i64 h])).run Tryz.prog W = .ok (.bool false) W := by
  simp [go_sem]

set_option maxRecDepth 100000 in
set_option maxHeartbeats 4000000 in
theorem sameState_eq {w : World} {lo1 lo2 : Nat} {vs1 vk1 vs2 vk2 : Value} {s : St} (h1 : StateAt w lo1 vs1 vk1 s) (h2 : StateAt w lo2 vs2 vk2 s) (hl : s.lanes.length ≤ 1000) (hk : s.keys.length ≤ 1000) (hw : ∀ l ∈ s.lanes, l.ws.length ≤ 1000) :
    Calls Tryz.prog 17 #[.agg #[vs1, vk1], .agg #[vs2, vk2]] w fun e w' => e = .returned (.bool true) ∧ Chg (fun _ => False) w w' := by
  obtain ⟨us1, hu1, r1, q1⟩ := h1.sess
  obtain ⟨us2, hu2, r2, q2⟩ := h2.sess
  have k1 := h1.keys
  have k2 := h2.keys
  obtain ⟨ps1, cs1, rfl⟩ := row_any r1
  obtain ⟨ps2, cs2, rfl⟩ := row_any r2
  obtain ⟨pk1, ck1, rfl⟩ := row_any k1
  obtain ⟨pk2, ck2, rfl⟩ := row_any k2
  clear h1 h2
  obtain ⟨W0, hW0⟩ : ∃ W0, W0 = (w.alloc (Obj.cells #[.slice ps1 s.lanes.length cs1, .slice pk1 s.keys.length ck1] 52)).alloc (Obj.cells #[.slice ps2 s.lanes.length cs2, .slice pk2 s.keys.length ck2] 52) := ⟨_, rfl⟩
  have c0 : Chg (fun _ => False) w W0 := by rw [hW0]; exact ((Chg.refl _ w).alloc _).alloc _
  have hs0 : W0.heap.size = w.heap.size + 2 := by rw [hW0]; simp
  have a0 : W0.cell? ⟨w.heap.size, 0, none⟩ = some (.slice ps1 s.lanes.length cs1) := by rw [hW0]; exact ((Chg.refl (fun _ => False) _).alloc _).cellAt (World.cell?_alloc_at _ _ _ _ rfl) id
  have a1 : W0.cell? ⟨w.heap.size, 1, none⟩ = some (.slice pk1 s.keys.length ck1) := by rw [hW0]; exact ((Chg.refl (fun _ => False) _).alloc _).cellAt (World.cell?_alloc_at _ _ _ _ rfl) id
  have b0 : W0.cell? ⟨w.heap.size + 1, 0, none⟩ = some (.slice ps2 s.lanes.length cs2) := by rw [hW0]; exact World.cell?_alloc_at _ _ _ _ (by simp)
  have b1 : W0.cell? ⟨w.heap.size + 1, 1, none⟩ = some (.slice pk2 s.keys.length ck2) := by rw [hW0]; exact World.cell?_alloc_at _ _ _ _ (by simp)
  have HW0 : Hid (W0 = (w.alloc (Obj.cells #[.slice ps1 s.lanes.length cs1, .slice pk1 s.keys.length ck1] 52)).alloc (Obj.cells #[.slice ps2 s.lanes.length cs2, .slice pk2 s.keys.length ck2] 52)) := hW0
  have HS0 : Hid (W0.heap.size = w.heap.size + 2) := hs0
  have hneq := keyNeq
  clear hW0 hs0
  go_enter Tryz.func17, Tryz.ntmps17
  go_wp2_with fail
  go_loopw [5, 6, 7, 8] (fun si _ _ _ wr => ∃ (k : Nat), si = .int .i64 k ∧ k ≤ s.lanes.length ∧ Chg (fun _ => False) W0 wr) (fun si _ _ _ _ => s.lanes.length - (intOf si).toNat)
  case atStart => exact ⟨0, rfl, by omega, by rw [HW0.out]; exact Chg.refl _ _⟩
  case round =>
    obtain ⟨k, rfl, hk1, hc⟩ := hrel
    have d0 := hc.cellAt a0 id
    have d1 := hc.cellAt a1 id
    have e0 := hc.cellAt b0 id
    have e1 := hc.cellAt b1 id
    have hc' : Chg (fun _ => False) w wr := c0.trans hc (fun _ _ h => h)
    by_cases hkl : k < s.lanes.length
    · obtain ⟨l, hll⟩ : ∃ l, s.lanes[k]? = some l := ⟨_, List.getElem?_eq_getElem hkl⟩
      obtain ⟨u1, hh1⟩ : ∃ u, us1[k]? = some u := ⟨_, List.getElem?_eq_getElem (by omega)⟩
      obtain ⟨u2, hh2⟩ : ∃ u, us2[k]? = some u := ⟨_, List.getElem?_eq_getElem (by omega)⟩
      have x1 := sessCells_at _ _ _ _ _ hll hh1
      have x2 := sessCells_at _ _ _ _ _ hll hh2
      have t1 := q1 k l u1 hll hh1
      have t2 := q2 k l u2 hll hh2
      obtain ⟨pu1, cu1, rfl⟩ := row_any t1
      obtain ⟨pu2, cu2, rfl⟩ := row_any t2
      have hlw := hw l (List.mem_of_getElem? hll)
      obtain ⟨g1, cap1, hv1, _, _, hcell1⟩ := row_pos r1 (by omega)
      obtain ⟨g2, cap2, hv2, _, _, hcell2⟩ := row_pos r2 (by omega)
      simp only [Value.slice.injEq] at hv1 hv2
      obtain ⟨rfl, _, rfl⟩ := hv1
      obtain ⟨rfl, _, rfl⟩ := hv2
      have m0 := hc'.cellAt (hcell1 _ _ x1.1) id
      have m1 := hc'.cellAt (hcell1 _ _ x1.2.1) id
      have m2 := hc'.cellAt (hcell1 _ _ x1.2.2) id
      have n0 := hc'.cellAt (hcell2 _ _ x2.1) id
      have n1 := hc'.cellAt (hcell2 _ _ x2.2.1) id
      have n2 := hc'.cellAt (hcell2 _ _ x2.2.2) id
      have hkl' : (k : Int) < (s.lanes.length : Int) := by omega
      clear hcell1 hcell2 x1 x2
      have ee : ∀ ob, (wr.alloc ob).cell? ⟨w.heap.size + 1, 0, none⟩ = some (.slice (some ⟨g2, 0, none⟩) s.lanes.length cs2) := fun ob => ((Chg.refl (fun _ => False) wr).alloc ob).cellAt e0 id
      have nn0 : ∀ ob, (wr.alloc ob).cell? ⟨g2, k * 3, none⟩ = some (.int .i64 l.epoch) := fun ob => ((Chg.refl (fun _ => False) wr).alloc ob).cellAt n0 id
      have nn1 : ∀ ob, (wr.alloc ob).cell? ⟨g2, k * 3 + 1, none⟩ = some (.int .i64 l.base) := fun ob => ((Chg.refl (fun _ => False) wr).alloc ob).cellAt n1 id
      have nn2 : ∀ ob, (wr.alloc ob).cell? ⟨g2, k * 3 + 2, none⟩ = some (.slice pu2 l.ws.length cu2) := fun ob => ((Chg.refl (fun _ => False) wr).alloc ob).cellAt n2 id
      obtain ⟨W2, hW2⟩ : ∃ W2, W2 = (wr.alloc (Obj.cells #[.int .i64 l.epoch, .int .i64 l.base, .slice pu1 l.ws.length cu1] 56)).alloc (Obj.cells #[.int .i64 l.epoch, .int .i64 l.base, .slice pu2 l.ws.length cu2] 56) := ⟨_, rfl⟩
      have c2 : Chg (fun _ => False) wr W2 := by rw [hW2]; exact ((Chg.refl _ wr).alloc _).alloc _
      have y2 : W2.cell? ⟨wr.heap.size, 2, none⟩ = some (.slice pu1 l.ws.length cu1) := by rw [hW2]; exact ((Chg.refl (fun _ => False) _).alloc _).cellAt (World.cell?_alloc_at _ _ _ _ rfl) id
      have z2 : W2.cell? ⟨wr.heap.size + 1, 2, none⟩ = some (.slice pu2 l.ws.length cu2) := by rw [hW2]; exact World.cell?_alloc_at _ _ _ _ (by simp)
      have HW2 : Hid (W2 = (wr.alloc (Obj.cells #[.int .i64 l.epoch, .int .i64 l.base, .slice pu1 l.ws.length cu1] 56)).alloc (Obj.cells #[.int .i64 l.epoch, .int .i64 l.base, .slice pu2 l.ws.length cu2] 56)) := hW2
      clear hW2
      go_wp2_with fail
      go_loopw [8] (fun sj w2 => ∃ (j : Nat), sj = .int .i64 j ∧ j ≤ l.ws.length ∧ Chg (fun _ => False) W2 w2) (fun sj _ => l.ws.length - (intOf sj).toNat)
      case atStart => exact ⟨0, rfl, by omega, by rw [HW2.out]; exact Chg.refl _ _⟩
      case round =>
        obtain ⟨j, rfl, hj, hcj⟩ := hrel
        have v2 := hcj.cellAt y2 id
        have w2' := hcj.cellAt z2 id
        by_cases hjl : j < l.ws.length
        · obtain ⟨x, hx⟩ : ∃ x, l.ws[j]? = some x := ⟨_, List.getElem?_eq_getElem hjl⟩
          have hn : l.nums[j]? = some (.int .i64 x.num) := by simp [Ln.nums, hx]
          obtain ⟨gu1, capu1, hvu1, _, _, hcu1⟩ := row_pos t1 (by omega)
          obtain ⟨gu2, capu2, hvu2, _, _, hcu2⟩ := row_pos t2 (by omega)
          simp only [Value.slice.injEq] at hvu1 hvu2
          obtain ⟨rfl, _, rfl⟩ := hvu1
          obtain ⟨rfl, _, rfl⟩ := hvu2
          have hcc : Chg (fun _ => False) w wr := (hc'.trans c2 (fun _ _ h => h)).trans hcj (fun _ _ h => h)
          have p1 := hcc.cellAt (hcu1 _ _ hn) id
          have p2 := hcc.cellAt (hcu2 _ _ hn) id
          have hjl' : (j : Int) < (l.ws.length : Int) := by omega
          clear hcu1 hcu2
          go_wp2_with fail
          go_quiet (fail)
          go_wp2_with fail
          go_roundw
          case rel => exact ⟨j + 1, by go_num, by omega, hcj.trans (((Quiet.refl _).drewN _).chg _) (fun _ _ h => h)⟩
          case measure => simp [intOf]; omega
        · have hjl' : ¬ (j : Int) < (l.ws.length : Int) := by omega
          go_wp2_with fail
          go_roundw
          case rel => exact ⟨k + 1, by go_num, by omega, (hc.trans c2 (fun _ _ h => h)).trans hcj (fun _ _ h => h)⟩
          case measure => simp [intOf]; omega
    · have hkl' : ¬ (k : Int) < (s.lanes.length : Int) := by omega
      go_wp2_with fail
      go_loopw [9] (fun sj w2 => ∃ (j : Nat), sj = .int .i64 j ∧ j ≤ s.keys.length ∧ Chg (fun _ => False) wr w2) (fun sj _ => s.keys.length - (intOf sj).toNat)
      case atStart => exact ⟨0, rfl, by omega, Chg.refl _ _⟩
      case round =>
        obtain ⟨j, rfl, hj, hcj⟩ := hrel
        have v1 := hcj.cellAt d1 id
        have w1 := hcj.cellAt e1 id
        have hcc : Chg (fun _ => False) w wr := hc'.trans hcj (fun _ _ h => h)
        by_cases hjl : j < s.keys.length
        · obtain ⟨x, hx⟩ : ∃ x, s.keys[j]? = some x := ⟨_, List.getElem?_eq_getElem hjl⟩
          have cx := keyCells_at s.keys j x hx
          obtain ⟨gu1, capu1, hvu1, _, _, hcu1⟩ := row_pos k1 (by omega)
          obtain ⟨gu2, capu2, hvu2, _, _, hcu2⟩ := row_pos k2 (by omega)
          simp only [Value.slice.injEq] at hvu1 hvu2
          obtain ⟨rfl, _, rfl⟩ := hvu1
          obtain ⟨rfl, _, rfl⟩ := hvu2
          have p0 := hcc.cellAt (hcu1 _ _ cx.1) id
          have p1 := hcc.cellAt (hcu1 _ _ cx.2.1) id
          have p2 := hcc.cellAt (hcu1 _ _ cx.2.2.1) id
          have p3 := hcc.cellAt (hcu1 _ _ cx.2.2.2) id
          have o0 := hcc.cellAt (hcu2 _ _ cx.1) id
          have o1 := hcc.cellAt (hcu2 _ _ cx.2.1) id
          have o2 := hcc.cellAt (hcu2 _ _ cx.2.2.1) id
          have o3 := hcc.cellAt (hcu2 _ _ cx.2.2.2) id
          have hjl' : (j : Int) < (s.keys.length : Int) := by omega
          clear hcu1 hcu2
          go_wp2_with fail
          go_quiet (fail)
          go_wp2_with fail
          go_roundw
          case rel => exact ⟨j + 1, by go_num, by omega, hcj.trans (((Quiet.refl _).drewN _).chg _) (fun _ _ h => h)⟩
          case measure => simp [intOf]; omega
        · have hjl' : ¬ (j : Int) < (s.keys.length : Int) := by omega
          go_wp2_with fail
          go_ret
          exact ⟨rfl, hcc⟩

end Go.Proofs.YtdoedjmdcmgddaaGreat
