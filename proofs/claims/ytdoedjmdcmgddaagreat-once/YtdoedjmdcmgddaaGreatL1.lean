/- A LANE: has, WALKED. -/
import Derived.Test.YtdoedjmdcmgddaaGreatQ5
namespace Go.Proofs.YtdoedjmdcmgddaaGreat
set_option linter.unusedVariables false
set_option linter.unusedSimpArgs false
open Go.RowKit

/-- A record that came already waits at some place. -/
def idxW (m : Int) : List Wt → Nat → Int
  | [], _ => -1
  | x :: r, k => if x.num = m then k else idxW m r (k + 1)

theorem idxW_drop (m : Int) (qs : List Wt) (k : Nat) (x : Wt) (h : qs[k]? = some x) : idxW m (qs.drop k) k = if x.num = m then (k : Int) else idxW m (qs.drop (k + 1)) (k + 1) := by
  have hk : k < qs.length := by
    rcases Nat.lt_or_ge k qs.length with h' | h'
    · exact h'
    · rw [List.getElem?_eq_none h'] at h; simp at h
  rw [List.drop_eq_getElem_cons hk]
  have e : qs[k] = x := by rw [List.getElem?_eq_getElem hk] at h; exact Option.some.inj h
  rw [e]
  rfl

theorem idxW_any (m : Int) : ∀ (l : List Wt) (k : Nat), decide (0 ≤ idxW m l k) = l.any (fun y => y.num == m)
  | [], k => by simp [idxW]
  | x :: r, k => by
    by_cases h : x.num = m
    · simp [idxW, h]
    · simp [idxW, h, idxW_any m r (k + 1)]

set_option maxRecDepth 100000 in
set_option maxHeartbeats 400000 in
theorem has1_any (x : Wt) (b : Nat) (m : Int) (w : World) (hb : b < w.heap.size) (h : w.cell? ⟨b, 0, none⟩ = some (.int .i64 m)) :
    Calls Tryz.prog 85 #[x.agg, .pointer (some ⟨b, 0, none⟩)] w fun e w' => e = .returned (.bool (x.num == m)) ∧ Chg (fun _ => False) w w' := by
  unfold Wt.agg
  go_enter Tryz.func85, Tryz.ntmps85
  go_wp2
  go_ret
  exact ⟨rfl, (Chg.refl _ _).alloc _⟩

set_option maxRecDepth 100000 in
set_option maxHeartbeats 400000 in
theorem indexFunc_any (lo n : Nat) (qs : List Wt) (b : Nat) (m : Int) (w : World) (v : Value) (hr : w.ownsRow lo 144 3 v n (wtCells qs)) (hl : qs.length = n) (hn : n ≤ 1000) (hb : w.cell? ⟨b, 0, none⟩ = some (.int .i64 m)) :
    Calls Tryz.prog 105 #[v, .func (.func 85) #[] #[.pointer (some ⟨b, 0, none⟩)]] w fun e w' => e = .returned (.int .i64 (idxW m qs 0)) ∧ Chg (fun _ => False) w w' := by
  obtain ⟨q, cap, rfl⟩ := row_any hr
  go_enter Tryz.func105, Tryz.ntmps105
  go_wp2
  go_loopw [5, 8] (fun _ si wr => ∃ (k : Nat), si = .int .i64 k ∧ k ≤ n ∧ Chg (fun _ => False) w wr ∧ Hid (idxW m qs 0 = idxW m (qs.drop k) k)) (fun _ si _ => n - (intOf si).toNat)
  case atStart => exact ⟨0, rfl, by omega, Chg.refl _ _, by show _ = _; simp⟩
  case round =>
    obtain ⟨k, rfl, hk, hc, HE⟩ := hrel
    by_cases hkn : k < n
    · obtain ⟨x, hx⟩ : ∃ x, qs[k]? = some x := ⟨_, List.getElem?_eq_getElem (by omega)⟩
      have cx := wtCells_at qs k x hx
      obtain ⟨g, cap', hv, hlg, _, hcell⟩ := row_pos hr (by omega)
      simp only [Value.slice.injEq] at hv
      obtain ⟨rfl, _, rfl⟩ := hv
      have a0 := hc.cellAt (hcell _ _ cx.1) id
      have a1 := hc.cellAt (hcell _ _ cx.2.1) id
      have a2 := hc.cellAt (hcell _ _ cx.2.2) id
      have hbr := hc.cellAt hb id
      have hkn' : (k : Int) < (n : Int) := by omega
      clear hcell hr cx
      go_wp2_with fail
      refine (has1_any x b m wr (World.block_lt_of_cell? _ _ hbr) hbr).mono ?_
      rintro _ w1 ⟨rfl, hc1⟩
      by_cases hxm : x.num = m
      · have hd : (x.num == m) = true := by simpa using hxm
        rw [hd]
        go_wp2_with fail
        go_ret
        refine ⟨?_, hc.trans hc1 (fun _ _ h => h)⟩
        rw [HE.out, idxW_drop m qs k x hx]
        simp [hxm]
      · have hd : (x.num == m) = false := by simpa using hxm
        rw [hd]
        go_wp2_with fail
        go_roundw
        case rel =>
          refine ⟨k + 1, by go_num, by omega, hc.trans hc1 (fun _ _ h => h), ?_⟩
          show _ = _
          rw [HE.out, idxW_drop m qs k x hx]
          simp [hxm]
        case measure => simp [intOf]; omega
    · have hkn' : ¬ (k : Int) < (n : Int) := by omega
      go_wp2_with fail
      go_ret
      refine ⟨?_, hc⟩
      rw [HE.out, List.drop_eq_nil_of_le (by omega)]
      rfl

set_option maxRecDepth 100000 in
set_option maxHeartbeats 400000 in
theorem containsFunc_any (lo n : Nat) (qs : List Wt) (b : Nat) (m : Int) (w : World) (v : Value) (hr : w.ownsRow lo 144 3 v n (wtCells qs)) (hl : qs.length = n) (hn : n ≤ 1000) (hb : w.cell? ⟨b, 0, none⟩ = some (.int .i64 m)) :
    Calls Tryz.prog 84 #[v, .func (.func 85) #[] #[.pointer (some ⟨b, 0, none⟩)]] w fun e w' => e = .returned (.bool (qs.any (fun y => y.num == m))) ∧ Chg (fun _ => False) w w' := by
  go_enter Tryz.func84, Tryz.ntmps84
  go_wp2_with fail
  refine (indexFunc_any lo n qs b m w v hr hl hn hb).mono ?_
  rintro _ w1 ⟨rfl, hc1⟩
  go_wp2_with fail
  go_ret
  exact ⟨by rw [← idxW_any m qs 0]; rfl, hc1⟩

set_option maxRecDepth 100000 in
set_option maxHeartbeats 400000 in
/-- has: the number is below the base, or waits. -/
theorem has_low (b o : Nat) (base m : Int) (w : World) (hbl : b < w.heap.size) (hb : w.cell? ⟨b, o + 1, none⟩ = some (.int .i64 base)) (hm : m < base) :
    Calls Tryz.prog 56 #[.pointer (some ⟨b, o, none⟩), .int .i64 m] w fun e w' => e = .returned (.bool true) ∧ Chg (fun _ => False) w w' := by
  go_enter Tryz.func56, Tryz.ntmps56
  go_wp2_with fail
  go_quiet (fail)
  go_wp2_with fail
  go_ret
  exact ⟨rfl, ((Chg.refl _ w).alloc _).trans (((Quiet.refl _).drewN _).chg _) (fun _ _ h => h)⟩

set_option maxRecDepth 100000 in
set_option maxHeartbeats 400000 in
theorem has_high (lo b o n : Nat) (base m : Int) (v : Value) (qs : List Wt) (w : World) (hbl : b < w.heap.size) (hb : w.cell? ⟨b, o + 1, none⟩ = some (.int .i64 base)) (hm : ¬ m < base)
    (hv : w.cell? ⟨b, o + 2, none⟩ = some v) (hr : w.ownsRow lo 144 3 v n (wtCells qs)) (hl : qs.length = n) (hn : n ≤ 1000) :
    Calls Tryz.prog 56 #[.pointer (some ⟨b, o, none⟩), .int .i64 m] w fun e w' => e = .returned (.bool (qs.any (fun y => y.num == m))) ∧ Chg (fun _ => False) w w' := by
  have hmf : ∀ (fn : Fn) (first cap : Array Value) (w : World), (Instr.makeFunc fn first cap).run Tryz.prog w = .ok (.func fn first cap) w := fun _ _ _ _ => rfl
  have hcf := containsFunc_any lo n qs w.heap.size m (w.alloc (.cells #[.int .i64 m] 3)).drew v (hr.alloc _) hl hn (by simp)
  have hd : decide (m < base) = false := by simpa using hm
  go_enter Tryz.func56, Tryz.ntmps56
  go_wp2_with fail
  go_region_with (go_at_call 84; refine hcf.mono ?_; rintro _ w1 ⟨rfl, hc1⟩)
  all_goals (go_wp2; go_ret; exact ⟨rfl, ((Chg.refl _ w).alloc _).drew.trans hc1 (fun _ _ h => h)⟩)

set_option maxRecDepth 100000 in
set_option maxHeartbeats 400000 in
theorem turn_same (b o : Nat) (e0 e : Int) (w : World) (h0 : w.cell? ⟨b, o, none⟩ = some (.int .i64 e0)) (hle : ¬ e0 < e) :
    Calls Tryz.prog 54 #[.pointer (some ⟨b, o, none⟩), .int .i64 e] w fun e w' => e = .returned (.tuple #[]) ∧ w' = w := by
  go_enter Tryz.func54, Tryz.ntmps54
  go_wp2
  go_end0
  exact ⟨rfl, rfl⟩

set_option maxRecDepth 100000 in
set_option maxHeartbeats 400000 in
theorem turn_new (b o : Nat) (e0 e b0 : Int) (v : Value) (w : World) (h0 : w.cell? ⟨b, o, none⟩ = some (.int .i64 e0)) (h1 : w.cell? ⟨b, o + 1, none⟩ = some (.int .i64 b0)) (h2 : w.cell? ⟨b, o + 2, none⟩ = some v)
    (f0 : w.frozen? ⟨b, o, none⟩ = false) (f1 : w.frozen? ⟨b, o + 1, none⟩ = false) (f2 : w.frozen? ⟨b, o + 2, none⟩ = false) (hlt : e0 < e) :
    Calls Tryz.prog 54 #[.pointer (some ⟨b, o, none⟩), .int .i64 e] w fun e' w' => e' = .returned (.tuple #[]) ∧
      w' = ((w.setCell ⟨b, o, none⟩ (.int .i64 e)).setCell ⟨b, o + 1, none⟩ (.int .i64 0)).setCell ⟨b, o + 2, none⟩ (.slice none 0 0) := by
  go_enter Tryz.func54, Tryz.ntmps54
  go_wp2
  go_end0
  exact ⟨rfl, rfl⟩

set_option maxRecDepth 100000 in
set_option maxHeartbeats 400000 in
theorem reaches_any (b o : Nat) (base m : Int) (w : World) (h1 : w.cell? ⟨b, o + 1, none⟩ = some (.int .i64 base)) (hb : 0 ≤ base ∧ base ≤ 1000) :
    Calls Tryz.prog 55 #[.pointer (some ⟨b, o, none⟩), .int .i64 m] w fun e w' => e = .returned (.bool (decide (0 ≤ m ∧ m < base + 4))) ∧ Quiet w w' := by
  obtain ⟨hb0, hb1⟩ := hb
  by_cases h0 : 0 ≤ m
  · have h0d : decide (0 ≤ m) = true := by simpa using h0
    go_enter Tryz.func55, Tryz.ntmps55
    go_wp2
    go_ret
    exact ⟨by simp [h0], Quiet.refl _⟩
  · have h0d : decide (0 ≤ m) = false := by simpa using h0
    go_enter Tryz.func55, Tryz.ntmps55
    go_wp2
    go_ret
    exact ⟨rfl, Quiet.refl _⟩

end Go.Proofs.YtdoedjmdcmgddaaGreat
