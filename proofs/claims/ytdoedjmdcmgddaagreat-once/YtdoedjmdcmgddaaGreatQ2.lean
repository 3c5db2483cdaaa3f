/- container/heap OVER THE QUEUE, WALKED. -/
import Derived.Test.YtdoedjmdcmgddaaGreatQ1
import Derived.Deep.LoopGhost
namespace Go.Proofs.YtdoedjmdcmgddaaGreat
set_option linter.unusedVariables false
set_option linter.unusedSimpArgs false
open Go.RowKit

/-- A queue in a variable at p, its row in block g. -/
structure QAt (w : World) (lo : Nat) (p : Addr) (g cap n : Nat) (qs : List Wt) : Prop where
  var : w.cell? p = some (.slice (some ⟨g, 0, none⟩) n cap)
  len : qs.length = n
  row : w.ownsRow lo 144 3 (.slice (some ⟨g, 0, none⟩) n cap) n (wtCells qs)
  ne : p.block ≠ g

theorem QAt.quiet {w w' : World} {lo : Nat} {p : Addr} {g cap n : Nat} {qs : List Wt} (h : QAt w lo p g cap n qs) (hq : Quiet w w') : QAt w' lo p g cap n qs :=
  ⟨(hq.cell p).trans h.var, h.len, hq.row h.row, h.ne⟩

theorem load_then (P : Program) (f : Nat) (p : Addr) (w : World) (v : Value) (h : w.cell? p = some v) : (Sem.load .plain p (fun v => Sem.pure (f, v))).run P w = .ok (f, v) w := by
  simp [Sem.run, h]
theorem m_less (p : Addr) (w : World) : (method 358 169 (.pointer (some p)) "Less").run Tryz.prog w = (Sem.load .plain p (fun v => Sem.pure ((180 : Nat), v))).run Tryz.prog w := by kernel_rfl
theorem m_swap (p : Addr) (w : World) : (method 358 169 (.pointer (some p)) "Swap").run Tryz.prog w = (Sem.load .plain p (fun v => Sem.pure ((181 : Nat), v))).run Tryz.prog w := by kernel_rfl
theorem m_len (p : Addr) (w : World) : (method 358 169 (.pointer (some p)) "Len").run Tryz.prog w = (Sem.load .plain p (fun v => Sem.pure ((179 : Nat), v))).run Tryz.prog w := by kernel_rfl
theorem m_push (p : Addr) (w : World) : (method 358 169 (.pointer (some p)) "Push").run Tryz.prog w = .ok (183, .pointer (some p)) w := by kernel_rfl
theorem m_pop (p : Addr) (w : World) : (method 358 169 (.pointer (some p)) "Pop").run Tryz.prog w = .ok (182, .pointer (some p)) w := by kernel_rfl

/-- Go's up: j rises as long as it is less than its parent. -/
def upFn : Nat → List Wt → Nat → List Wt
  | 0, l, _ => l
  | f + 1, l, j => if (j - 1) / 2 = j ∨ ¬ numAt l j < numAt l ((j - 1) / 2) then l else upFn f (swapL l ((j - 1) / 2) j) ((j - 1) / 2)

set_option maxRecDepth 100000 in
set_option maxHeartbeats 400000 in
theorem up_any (lo : Nat) (p : Addr) (g cap n j : Nat) (qs : List Wt) (w : World) (hq : QAt w lo p g cap n qs) (hj : j < n) (hn : n ≤ 1000) :
    Calls Tryz.prog 110 #[.iface 169 (.pointer (some p)), .int .i64 j] w fun e w' => e = .returned (.tuple #[]) ∧ QAt w' lo p g cap n (upFn (j + 1) qs j) ∧ Chg (fun k => k = g) w w' := by
  go_enter Tryz.func110, Tryz.ntmps110
  go_wp2
  go_loopw [1, 4] (fun sj si wr => ∃ (j' f : Nat) (l : List Wt), sj = .int .i64 j' ∧ j' < n ∧ j' < f ∧ QAt wr lo p g cap n l ∧ Chg (fun k => k = g) w wr ∧ Hid (upFn (j + 1) qs j = upFn f l j')) (fun sj _ _ => (intOf sj).toNat)
  case atStart => exact ⟨j, j + 1, qs, rfl, hj, by omega, hq, Chg.refl _ _, rfl⟩
  case round =>
    obtain ⟨j', f, l, rfl, hj', hf, hl, hc, HE⟩ := hrel
    rcases Nat.eq_zero_or_pos j' with h0 | h0
    · subst h0
      go_wp2_with fail
      go_end0
      refine ⟨rfl, ?_, hc⟩
      rw [HE.out]
      obtain ⟨f, rfl⟩ : ∃ f', f = f' + 1 := ⟨f - 1, by omega⟩
      simpa [upFn] using hl
    · obtain ⟨m, rfl⟩ : ∃ m, j' = m + 1 := ⟨j' - 1, by omega⟩
      have hne : (((m : Int) / 2) == (m : Int) + 1) = false := by simp; omega
      have hv := hl.var
      have hm := fun W (h : W.cell? p = some (.slice (some ⟨g, 0, none⟩) n cap)) => (m_less p W).trans (load_then Tryz.prog 180 p W _ h)
      have hls := less_row hl.row hl.len (i := m + 1) (j := m / 2) hj' (by omega) hn
      rw [show ((m + 1 : Nat) : Int) = (m : Int) + 1 from rfl, show ((m / 2 : Nat) : Int) = (m : Int) / 2 from rfl] at hls
      go_wp2_with fail
      refine hls.mono ?_
      rintro _ w1 ⟨rfl, hq1⟩
      clear hls hm
      have hl1 := hl.quiet hq1
      have hc1 := hc.trans (hq1.chg (fun k => k = g)) (fun _ _ h => h)
      have hv1 := hl1.var
      have hsw := swap_row hl1.row hl1.len (i := m / 2) (j := m + 1) (by omega) hj' hn
      rw [show ((m + 1 : Nat) : Int) = (m : Int) + 1 from rfl, show ((m / 2 : Nat) : Int) = (m : Int) / 2 from rfl] at hsw
      have hm := fun W (h : W.cell? p = some (.slice (some ⟨g, 0, none⟩) n cap)) => (m_swap p W).trans (load_then Tryz.prog 181 p W _ h)
      by_cases ht : numAt l (m + 1) < numAt l (m / 2)
      · have hd : decide (numAt l (m + 1) < numAt l (m / 2)) = true := by simpa using ht
        rw [hd]
        go_wp2_with fail
        refine hsw.mono ?_
        rintro _ w2 ⟨rfl, hr2, hc2⟩
        go_wp2_with fail
        go_roundw
        case rel =>
          refine ⟨m / 2, f - 1, swapL l (m / 2) (m + 1), by go_num, by omega, by omega, ⟨?_, by rw [swapL_length]; exact hl.len, hr2, hl.ne⟩, hc1.trans hc2 (fun _ _ h => h), ?_⟩
          · exact (World.cell?_of_block (hc2.block p.block (World.block_lt_of_cell? w1 p hv1) hl.ne)).trans hv1
          · show _ = _
            rw [HE.out]
            obtain ⟨f, rfl⟩ : ∃ f', f = f' + 1 := ⟨f - 1, by omega⟩
            have : ¬ m / 2 = m + 1 := by omega
            simp [upFn, this, ht]
        case measure => simp [intOf]; omega
      · have hd : decide (numAt l (m + 1) < numAt l (m / 2)) = false := by simpa using ht
        rw [hd]
        go_wp2_with fail
        go_end0
        refine ⟨rfl, ?_, hc1⟩
        rw [HE.out]
        obtain ⟨f, rfl⟩ : ∃ f', f = f' + 1 := ⟨f - 1, by omega⟩
        have : upFn (f + 1) l (m + 1) = l := by simp [upFn, ht]
        rw [this]
        exact hl1

end Go.Proofs.YtdoedjmdcmgddaaGreat
