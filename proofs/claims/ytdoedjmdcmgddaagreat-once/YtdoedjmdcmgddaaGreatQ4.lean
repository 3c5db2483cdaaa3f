/- heap.Push, heap.down, the queue's Pop, heap.Pop, WALKED. -/
import Derived.Test.YtdoedjmdcmgddaaGreatQ3
namespace Go.Proofs.YtdoedjmdcmgddaaGreat
set_option linter.unusedVariables false
set_option linter.unusedSimpArgs false
open Go.RowKit

set_option maxRecDepth 100000 in
set_option maxHeartbeats 400000 in
theorem heapPush_any (lo : Nat) (p : Addr) (v : Value) (n : Nat) (qs : List Wt) (x : Wt) (w : World) (hp : w.cell? p = some v) (hz : w.frozen? p = false) (hr : w.ownsRow lo 144 3 v n (wtCells qs)) (hl : qs.length = n) (hne : v.ownBlock ≠ some p.block) (hlo : lo ≤ w.heap.size) (hn : n < 1000) :
    Calls Tryz.prog 89 #[.iface 169 (.pointer (some p)), .iface 144 (.agg #[.int .i64 x.num, .string x.key, .int .i64 x.val])] w fun e w' => ∃ g cap, e = .returned (.tuple #[]) ∧
      QAt w' lo p g cap (n + 1) (upFn (n + 1) (qs ++ [x]) n) ∧ (v.ownBlock = some g ∨ w.heap.size ≤ g) ∧ Slots p.block (fun j => j = p.off) w w' ∧ Chg (fun k => k = p.block ∨ v.ownBlock = some k) w w' := by
  have hmP := m_push p
  go_enter Tryz.func89, Tryz.ntmps89
  go_wp2_with fail
  refine (qPush_any lo p v n qs x w hp hz hr hne hlo (by omega)).mono ?_
  rintro _ w1 ⟨v1, rfl, hp1, hr1, hw1, hs1, hc1⟩
  obtain ⟨g, cap, rfl, hg, hcap, hcells⟩ := row_pos hr1 (by omega)
  have hQ : QAt w1 lo p g cap (n + 1) (qs ++ [x]) := by
    refine ⟨hp1, by simp [hl], hr1, ?_⟩
    rcases hw1 with h | h
    · intro e; rw [← h] at hne; exact hne (by rw [e]; rfl)
    · have h1 := h g rfl
      have h2 := World.block_lt_of_cell? w p hp
      omega
  have hwhere : v.ownBlock = some g ∨ w.heap.size ≤ g := by
    rcases hw1 with h | h
    · exact .inl h.symm
    · exact .inr (h g rfl)
  have hmL := (m_len p w1).trans (load_then Tryz.prog 179 p w1 _ hp1)
  clear hr hcells hmP
  go_wp2_with fail
  refine (qLen_any _ _ _ _).mono ?_
  rintro _ w2 ⟨rfl, h2⟩
  subst h2
  go_wp2_with fail
  refine (up_any lo p g cap (n + 1) n (qs ++ [x]) _ hQ (by omega) (by omega)).mono ?_
  rintro _ w3 ⟨rfl, hQ3, hc3⟩
  go_wp2_with fail
  go_end0
  refine ⟨g, cap, rfl, hQ3, hwhere, hs1.trans (Slots.of_chg (fun _ => False) hc3 (World.block_lt_of_cell? _ _ hp1) hQ.ne) (fun _ h => h.elim), hc1.trans hc3 ?_⟩
  rintro k hk rfl
  rcases hwhere with h | h
  · exact .inr h
  · omega

/-- Go's down, over the first n. -/
def downFn : Nat → List Wt → Nat → Nat → List Wt
  | 0, l, _, _ => l
  | f + 1, l, i, n => if n ≤ 2 * i + 1 then l else
    if 2 * i + 2 < n ∧ numAt l (2 * i + 2) < numAt l (2 * i + 1) then
      (if numAt l (2 * i + 2) < numAt l i then downFn f (swapL l i (2 * i + 2)) (2 * i + 2) n else l)
    else (if numAt l (2 * i + 1) < numAt l i then downFn f (swapL l i (2 * i + 1)) (2 * i + 1) n else l)

/-- The round's end: Less(j, i), and the exchange. -/
def DownRel (lo : Nat) (p : Addr) (g cap N n : Nat) (qs : List Wt) (w : World) (si : Value) (wr : World) : Prop :=
  ∃ (i f : Nat) (l : List Wt), si = .int .i64 i ∧ i < N ∧ n - i ≤ f ∧ QAt wr lo p g cap N l ∧ Chg (fun k => k = g) w wr ∧ Hid (downFn n qs 0 n = downFn f l i n)

set_option maxRecDepth 100000 in
set_option maxHeartbeats 1000000 in
theorem down_any (lo : Nat) (p : Addr) (g cap N n : Nat) (qs : List Wt) (w : World) (hq : QAt w lo p g cap N qs) (hj : n < N) (hn : N ≤ 1000) :
    Calls Tryz.prog 122 #[.iface 169 (.pointer (some p)), .int .i64 0, .int .i64 n] w fun e w' => ∃ b, e = .returned (.bool b) ∧ QAt w' lo p g cap N (downFn n qs 0 n) ∧ Chg (fun k => k = g) w w' := by
  go_enter Tryz.func122, Tryz.ntmps122
  go_wp2
  go_loopw [7, 8, 9, 10] (fun si _ _ _ wr => DownRel lo p g cap N n qs w si wr) (fun si _ _ _ _ => n - (intOf si).toNat)
  case atStart => exact ⟨0, n, qs, rfl, by omega, by omega, hq, Chg.refl _ _, rfl⟩
  case round =>
    obtain ⟨i, f, l, rfl, hi, hf, hl, hc, HE⟩ := hrel
    by_cases c1 : n ≤ 2 * i + 1
    · have c1' : (n : Int) ≤ 2 * (i : Int) + 1 := by omega
      go_wp2_with fail
      go_ret
      refine ⟨_, rfl, ?_, hc⟩
      rw [HE.out]
      have : downFn f l i n = l := by cases f with
        | zero => rfl
        | succ f => simp [downFn, c1]
      rw [this]; exact hl
    · have c1' : 2 * (i : Int) + 1 < (n : Int) := by omega
      have c0 : ¬ 2 * (i : Int) + 1 < 0 := by omega
      have c1d : decide ((n : Int) ≤ 2 * (i : Int) + 1) = false := by simpa using c1'
      by_cases c2 : 2 * i + 2 < n
      · have c2' : 2 * (i : Int) + 1 + 1 < (n : Int) := by omega
        have hl1s := less_row hl.row hl.len (i := 2 * i + 2) (j := 2 * i + 1) (by omega) (by omega) hn
        rw [show ((2 * i + 2 : Nat) : Int) = 2 * (i : Int) + 1 + 1 by omega, show ((2 * i + 1 : Nat) : Int) = 2 * (i : Int) + 1 by omega] at hl1s
        have hv7 := hl.var
        have hm := fun W (h : W.cell? p = some (.slice (some ⟨g, 0, none⟩) N cap)) => (m_less p W).trans (load_then Tryz.prog 180 p W _ h)
        go_wp2_with fail
        refine hl1s.mono ?_
        rintro _ w7 ⟨rfl, hq7⟩
        clear hl1s hm hv7
        have hl7 := hl.quiet hq7
        have hc7 := hc.trans (hq7.chg (fun k => k = g)) (fun _ _ h => h)
        by_cases t1 : numAt l (2 * i + 2) < numAt l (2 * i + 1)
        · have hd1 : decide (numAt l (2 * i + 2) < numAt l (2 * i + 1)) = true := by simpa using t1
          rw [hd1]
          have hls := less_row hl7.row hl7.len (i := 2 * i + 2) (j := i) (by omega) hi hn
          rw [show ((2 * i + 2 : Nat) : Int) = 2 * (i : Int) + 1 + 1 by omega] at hls
          have hv9 := hl7.var
          have hm := fun W (h : W.cell? p = some (.slice (some ⟨g, 0, none⟩) N cap)) => (m_less p W).trans (load_then Tryz.prog 180 p W _ h)
          go_wp2_with fail
          refine hls.mono ?_
          rintro _ w8 ⟨rfl, hq8⟩
          clear hls hm
          have hl8 := hl7.quiet hq8
          have hc8 := hc7.trans (hq8.chg (fun k => k = g)) (fun _ _ h => h)
          have hv8 := hl8.var
          clear hv9
          by_cases t2 : numAt l (2 * i + 2) < numAt l i
          · have hd : decide (numAt l (2 * i + 2) < numAt l i) = true := by simpa using t2
            rw [hd]
            have hsw := swap_row hl8.row hl8.len (i := i) (j := 2 * i + 2) hi (by omega) hn
            rw [show ((2 * i + 2 : Nat) : Int) = 2 * (i : Int) + 1 + 1 by omega] at hsw
            have hm := fun W (h : W.cell? p = some (.slice (some ⟨g, 0, none⟩) N cap)) => (m_swap p W).trans (load_then Tryz.prog 181 p W _ h)
            go_wp2_with fail
            refine hsw.mono ?_
            rintro _ w9 ⟨rfl, hr9, hc9⟩
            clear hsw hm
            go_wp2_with fail
            go_roundw
            case rel =>
              refine ⟨2 * i + 2, f - 1, swapL l i (2 * i + 2), by go_num, by omega, by omega, ⟨?_, by rw [swapL_length]; exact hl.len, hr9, hl.ne⟩, hc8.trans hc9 (fun _ _ h => h), ?_⟩
              · exact (World.cell?_of_block (hc9.block p.block (World.block_lt_of_cell? w8 p hv8) hl.ne)).trans hv8
              · show _ = _
                rw [HE.out]
                obtain ⟨f, rfl⟩ : ∃ f', f = f' + 1 := ⟨f - 1, by omega⟩
                simp [downFn, c1, c2, t1, t2]
            case measure => simp [intOf]; omega
          · have hd : decide (numAt l (2 * i + 2) < numAt l i) = false := by simpa using t2
            rw [hd]
            go_wp2_with fail
            go_ret
            refine ⟨_, rfl, ?_, hc8⟩
            rw [HE.out]
            obtain ⟨f, rfl⟩ : ∃ f', f = f' + 1 := ⟨f - 1, by omega⟩
            have T2 : ¬ numAt l (2 * i + 2) < numAt l i := by omega
            have : downFn (f + 1) l i n = l := by simp [downFn, c1, c2, t1, T2]
            rw [this]; exact hl8
        · have hd1 : decide (numAt l (2 * i + 2) < numAt l (2 * i + 1)) = false := by simpa using t1
          rw [hd1]
          have hls := less_row hl7.row hl7.len (i := 2 * i + 1) (j := i) (by omega) hi hn
          rw [show ((2 * i + 1 : Nat) : Int) = 2 * (i : Int) + 1 by omega] at hls
          have hv9 := hl7.var
          have hm := fun W (h : W.cell? p = some (.slice (some ⟨g, 0, none⟩) N cap)) => (m_less p W).trans (load_then Tryz.prog 180 p W _ h)
          go_wp2_with fail
          refine hls.mono ?_
          rintro _ w8 ⟨rfl, hq8⟩
          clear hls hm
          have hl8 := hl7.quiet hq8
          have hc8 := hc7.trans (hq8.chg (fun k => k = g)) (fun _ _ h => h)
          have hv8 := hl8.var
          clear hv9
          by_cases t2 : numAt l (2 * i + 1) < numAt l i
          · have hd : decide (numAt l (2 * i + 1) < numAt l i) = true := by simpa using t2
            rw [hd]
            have hsw := swap_row hl8.row hl8.len (i := i) (j := 2 * i + 1) hi (by omega) hn
            rw [show ((2 * i + 1 : Nat) : Int) = 2 * (i : Int) + 1 by omega] at hsw
            have hm := fun W (h : W.cell? p = some (.slice (some ⟨g, 0, none⟩) N cap)) => (m_swap p W).trans (load_then Tryz.prog 181 p W _ h)
            go_wp2_with fail
            refine hsw.mono ?_
            rintro _ w9 ⟨rfl, hr9, hc9⟩
            clear hsw hm
            go_wp2_with fail
            go_roundw
            case rel =>
              refine ⟨2 * i + 1, f - 1, swapL l i (2 * i + 1), by go_num, by omega, by omega, ⟨?_, by rw [swapL_length]; exact hl.len, hr9, hl.ne⟩, hc8.trans hc9 (fun _ _ h => h), ?_⟩
              · exact (World.cell?_of_block (hc9.block p.block (World.block_lt_of_cell? w8 p hv8) hl.ne)).trans hv8
              · show _ = _
                rw [HE.out]
                obtain ⟨f, rfl⟩ : ∃ f', f = f' + 1 := ⟨f - 1, by omega⟩
                simp [downFn, c1, show ¬ numAt l (2 * i + 2) < numAt l (2 * i + 1) by omega, t2]
            case measure => simp [intOf]; omega
          · have hd : decide (numAt l (2 * i + 1) < numAt l i) = false := by simpa using t2
            rw [hd]
            go_wp2_with fail
            go_ret
            refine ⟨_, rfl, ?_, hc8⟩
            rw [HE.out]
            obtain ⟨f, rfl⟩ : ∃ f', f = f' + 1 := ⟨f - 1, by omega⟩
            have T2 : ¬ numAt l (2 * i + 1) < numAt l i := by omega
            have : downFn (f + 1) l i n = l := by simp [downFn, c1, show ¬ numAt l (2 * i + 2) < numAt l (2 * i + 1) by omega, T2]
            rw [this]; exact hl8
      · have c2' : (n : Int) ≤ 2 * (i : Int) + 1 + 1 := by omega
        have hls := less_row hl.row hl.len (i := 2 * i + 1) (j := i) (by omega) hi hn
        rw [show ((2 * i + 1 : Nat) : Int) = 2 * (i : Int) + 1 by omega] at hls
        have hv9 := hl.var
        have hm := fun W (h : W.cell? p = some (.slice (some ⟨g, 0, none⟩) N cap)) => (m_less p W).trans (load_then Tryz.prog 180 p W _ h)
        go_wp2_with fail
        refine hls.mono ?_
        rintro _ w8 ⟨rfl, hq8⟩
        clear hls hm
        have hl8 := hl.quiet hq8
        have hc8 := hc.trans (hq8.chg (fun k => k = g)) (fun _ _ h => h)
        have hv8 := hl8.var
        clear hv9
        by_cases t2 : numAt l (2 * i + 1) < numAt l i
        · have hd : decide (numAt l (2 * i + 1) < numAt l i) = true := by simpa using t2
          rw [hd]
          have hsw := swap_row hl8.row hl8.len (i := i) (j := 2 * i + 1) hi (by omega) hn
          rw [show ((2 * i + 1 : Nat) : Int) = 2 * (i : Int) + 1 by omega] at hsw
          have hm := fun W (h : W.cell? p = some (.slice (some ⟨g, 0, none⟩) N cap)) => (m_swap p W).trans (load_then Tryz.prog 181 p W _ h)
          go_wp2_with fail
          refine hsw.mono ?_
          rintro _ w9 ⟨rfl, hr9, hc9⟩
          clear hsw hm
          go_wp2_with fail
          go_roundw
          case rel =>
            refine ⟨2 * i + 1, f - 1, swapL l i (2 * i + 1), by go_num, by omega, by omega, ⟨?_, by rw [swapL_length]; exact hl.len, hr9, hl.ne⟩, hc8.trans hc9 (fun _ _ h => h), ?_⟩
            · exact (World.cell?_of_block (hc9.block p.block (World.block_lt_of_cell? w8 p hv8) hl.ne)).trans hv8
            · show _ = _
              rw [HE.out]
              obtain ⟨f, rfl⟩ : ∃ f', f = f' + 1 := ⟨f - 1, by omega⟩
              simp [downFn, c1, c2, t2]
          case measure => simp [intOf]; omega
        · have hd : decide (numAt l (2 * i + 1) < numAt l i) = false := by simpa using t2
          rw [hd]
          go_wp2_with fail
          go_ret
          refine ⟨_, rfl, ?_, hc8⟩
          rw [HE.out]
          obtain ⟨f, rfl⟩ : ∃ f', f = f' + 1 := ⟨f - 1, by omega⟩
          have T2 : ¬ numAt l (2 * i + 1) < numAt l i := by omega
          have : downFn (f + 1) l i n = l := by simp [downFn, c1, c2, T2]
          rw [this]; exact hl8

end Go.Proofs.YtdoedjmdcmgddaaGreat
