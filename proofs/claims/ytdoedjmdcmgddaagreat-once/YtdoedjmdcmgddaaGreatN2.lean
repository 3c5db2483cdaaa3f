/- taken, records, WALKED. -/
import Derived.Test.YtdoedjmdcmgddaaGreatN1
namespace Go.Proofs.YtdoedjmdcmgddaaGreat
set_option linter.unusedVariables false
set_option linter.unusedSimpArgs false
open Go.RowKit Go.Lib

def sumC : List Ky → Int := fun l => counts l

theorem counts_take (ks : List Ky) (k : Nat) (x : Ky) (hx : ks[k]? = some x) : counts (ks.take (k + 1)) = counts (ks.take k) + x.count := by
  rw [List.take_add_one, hx]
  have : ∀ (l : List Ky), counts (l ++ [x]) = counts l + x.count := by
    intro l
    induction l with
    | nil => simp [counts]
    | cons y r ih => simp [counts, ih]; omega
  exact this _

set_option maxRecDepth 100000 in
set_option maxHeartbeats 400000 in
theorem taken_any (lo : Nat) (vk : Value) (ks : List Ky) (w : World) (hk : w.ownsRow lo 60 4 vk ks.length (keyCells ks)) (hkn : ks.length ≤ 4) (hcn : ∀ k ∈ ks, 0 ≤ k.count ∧ k.count ≤ 1000) :
    Calls Tryz.prog 109 #[vk] w fun e w' => e = .returned (.int .i64 (counts ks)) ∧ Chg (fun _ => False) w w' := by
  obtain ⟨pk, capk, rfl⟩ := row_any hk
  go_enter Tryz.func109, Tryz.ntmps109
  go_wp2
  go_loopw [3, 5, 8] (fun ss _ si wr => ∃ (k : Nat) (s : Int), si = .int .i64 k ∧ k ≤ ks.length ∧ ss = .int .i64 s ∧ Hid (s = counts (ks.take k)) ∧ 0 ≤ s ∧ s ≤ 1000 * k ∧ Chg (fun _ => False) w wr) (fun _ _ si _ => ks.length - (intOf si).toNat)
  case atStart => exact ⟨0, 0, rfl, by omega, rfl, rfl, by omega, by omega, Chg.refl _ _⟩
  case round =>
    obtain ⟨k, s, rfl, hk1, rfl, HS, hs0, hs1, hc⟩ := hrel
    by_cases hkl : k < ks.length
    · obtain ⟨x, hx⟩ : ∃ x, ks[k]? = some x := ⟨_, List.getElem?_eq_getElem hkl⟩
      have cx := keyCells_at ks k x hx
      obtain ⟨g, cap', hv, hlg, _, hcell⟩ := row_pos hk (by omega)
      simp only [Value.slice.injEq] at hv
      obtain ⟨rfl, _, rfl⟩ := hv
      have a0 := hc.cellAt (hcell _ _ cx.1) id
      have a1 := hc.cellAt (hcell _ _ cx.2.1) id
      have a2 := hc.cellAt (hcell _ _ cx.2.2.1) id
      have a3 := hc.cellAt (hcell _ _ cx.2.2.2) id
      have hkl' : (k : Int) < (ks.length : Int) := by omega
      obtain ⟨x0, x1⟩ := hcn x (List.mem_of_getElem? hx)
      clear hcell cx
      go_wp2_with fail
      go_roundw
      case rel =>
        refine ⟨k + 1, s + x.count, by go_num, by omega, rfl, ?_, by omega, by omega, hc.alloc _⟩
        show _ = _
        rw [counts_take ks k x hx, HS.out]
      case measure => simp [intOf]; omega
    · have hkl' : ¬ (k : Int) < (ks.length : Int) := by omega
      obtain rfl : k = ks.length := by omega
      go_wp2_with fail
      go_ret
      refine ⟨?_, hc⟩
      have := HS.out
      rw [List.take_length] at this
      rw [← this]
      rfl

/-- Those that wait, in the first lanes. -/
def qLens (Q : Nat → List Wt) : Nat → Int
  | 0 => 0
  | k + 1 => qLens Q k + ((Q k).length : Int)

set_option maxRecDepth 100000 in
set_option maxHeartbeats 400000 in
theorem records_any (lo b o : Nat) (E B : Nat → Int) (V : Nat → Value) (vk : Value) (Q : Nat → List Wt) (ks : List Ky) (w : World) (hb : b < w.heap.size) (hF : FlowCells w b o E B V vk)
    (hk : w.ownsRow lo 60 4 vk ks.length (keyCells ks)) (hkn : ks.length ≤ 4) (hcn : ∀ k ∈ ks, 0 ≤ k.count ∧ k.count ≤ 1000) (hc0 : 0 ≤ counts ks ∧ counts ks ≤ 4000) (hq : ∀ i, i < 4 → w.ownsRow lo 144 3 (V i) (Q i).length (wtCells (Q i))) (hqn : ∀ i, i < 4 → (Q i).length ≤ 4) :
    Calls Tryz.prog 88 #[.pointer (some ⟨b, o, none⟩)] w fun e w' => e = .returned (.int .i64 (counts ks + qLens Q 4)) ∧ Chg (fun _ => False) w w' := by
  have hkc := hF.le
  obtain ⟨hc1, hc2⟩ := hc0
  go_enter Tryz.func88, Tryz.ntmps88
  go_wp2_with fail
  refine (taken_any lo vk ks w hk hkn hcn).mono ?_
  rintro _ w1 ⟨rfl, hcg⟩
  have hF1 := hF.chg hcg id
  have e0 := hF1.ep 0 (by omega); have e1 := hF1.ep 1 (by omega); have e2 := hF1.ep 2 (by omega); have e3 := hF1.ep 3 (by omega)
  have b0 := hF1.ba 0 (by omega); have b1 := hF1.ba 1 (by omega); have b2 := hF1.ba 2 (by omega); have b3 := hF1.ba 3 (by omega)
  have v0 := hF1.qu 0 (by omega); have v1 := hF1.qu 1 (by omega); have v2 := hF1.qu 2 (by omega); have v3 := hF1.qu 3 (by omega)
  simp only [Nat.zero_mul, Nat.one_mul, Nat.add_zero] at e0 e1 e2 e3 b0 b1 b2 b3 v0 v1 v2 v3
  obtain ⟨C, hC⟩ : ∃ C, C = counts ks := ⟨_, rfl⟩
  rw [← hC]
  rw [← hC] at hc1 hc2
  have HC : Hid (C = counts ks) := hC
  clear hC
  go_wp2_with fail
  go_loopw [3, 5, 15] (fun ss _ si wr => ∃ (k : Nat) (s : Int), si = .int .i64 k ∧ k ≤ 4 ∧ ss = .int .i64 s ∧ Hid (s = C + qLens Q k) ∧ 0 ≤ s ∧ s ≤ 4000 + 4 * k ∧ Chg (fun _ => False) w wr) (fun _ _ si _ => 4 - (intOf si).toNat)
  case atStart => exact ⟨0, C, rfl, by omega, rfl, (show _ = _ by simp [qLens]), by omega, by omega, hcg⟩
  case round =>
    obtain ⟨k, s, rfl, hk4, rfl, HS, hs0, hs1, hc⟩ := hrel
    clear e0 e1 e2 e3 b0 b1 b2 b3 v0 v1 v2 v3
    by_cases hk4' : k < 4
    · have hk4i : (k : Int) < 4 := by omega
      have hix := fun W => index_lane E B V k hk4' W
      obtain ⟨pq, capq, hVk⟩ := row_any (hq k hk4')
      have hql := hqn k hk4'
      go_wp2_with fail
      go_roundw
      case rel =>
        refine ⟨k + 1, s + ((Q k).length : Int), by go_num, by omega, rfl, ?_, by omega, by omega, hc.alloc _⟩
        show _ = _
        rw [HS.out]; simp [qLens]; omega
      case measure => simp [intOf]; omega
    · have hk4i : ¬ (k : Int) < 4 := by omega
      obtain rfl : k = 4 := by omega
      go_wp2_with fail
      go_ret
      refine ⟨?_, hc⟩
      rw [← HC.out, ← HS.out]
      rfl

end Go.Proofs.YtdoedjmdcmgddaaGreat
