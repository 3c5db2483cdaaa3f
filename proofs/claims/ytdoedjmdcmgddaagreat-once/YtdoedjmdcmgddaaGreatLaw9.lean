/- Once: THE SMALL FUNCTIONS, WALKED: name, fold. -/
import Derived.Test.YtdoedjmdcmgddaaGreatLaw8
namespace Go.Proofs.YtdoedjmdcmgddaaGreat
set_option linter.unusedVariables false
set_option linter.unusedSimpArgs false
open Go.RowKit

def Rec.cells (x : Rec) : List Value := [.int .i64 x.session, .int .i64 x.epoch, .int .i64 x.number, .string x.key, .int .i64 x.value]

def recCells : List Rec → List Value
  | [] => []
  | x :: r => x.cells ++ recCells r

theorem recCells_len : ∀ l : List Rec, (recCells l).length = l.length * 5
  | [] => rfl
  | x :: r => by
    have := recCells_len r
    simp [recCells, Rec.cells, this]
    omega

theorem recCells_append : ∀ a b : List Rec, recCells (a ++ b) = recCells a ++ recCells b
  | [], b => rfl
  | x :: r, b => by simp [recCells, recCells_append r b]

theorem recCells_at : ∀ (l : List Rec) (i : Nat) (x : Rec), l[i]? = some x → (recCells l)[i * 5]? = some (.int .i64 x.session) ∧ (recCells l)[i * 5 + 1]? = some (.int .i64 x.epoch) ∧ (recCells l)[i * 5 + 2]? = some (.int .i64 x.number) ∧ (recCells l)[i * 5 + 3]? = some (.string x.key) ∧ (recCells l)[i * 5 + 4]? = some (.int .i64 x.value)
  | [], i, x, h => by simp at h
  | y :: r, 0, x, h => by simp at h; subst h; simp [recCells, Rec.cells]
  | y :: r, i + 1, x, h => by
    have := recCells_at r i x (by simpa using h)
    rw [show (i + 1) * 5 = i * 5 + 5 by omega, show i * 5 + 5 + 1 = i * 5 + 1 + 5 by omega, show i * 5 + 5 + 2 = i * 5 + 2 + 5 by omega, show i * 5 + 5 + 3 = i * 5 + 3 + 5 by omega, show i * 5 + 5 + 4 = i * 5 + 4 + 5 by omega]
    simpa [recCells, Rec.cells] using this

/-- The name that a raw number picks. -/
def nameI (c : Int) : ByteArray := names4.getD (pickI c 4).toNat kC

theorem nameI_mem (c : Int) : nameI c ∈ names4 := by
  have h := pickI_range (c := c) (n := 4) (by omega)
  unfold nameI
  have hl : (pickI c 4).toNat < names4.length := by show _ < 4; omega
  rw [List.getD_eq_getElem?_getD, List.getElem?_eq_getElem hl]
  exact List.getElem_mem hl

set_option maxHeartbeats 400000 in
theorem name_any (c : Int) (w : World) (hc : inInt c) : Calls Tryz.prog 25 #[.int .i64 c] w fun e w' => e = .returned (.string (nameI c)) ∧ Chg (fun _ => False) w w' := by
  have hp := fun w => pick_any c 4 w hc (by omega) (by omega)
  have hr := pickI_range (c := c) (n := 4) (by omega)
  go_enter Tryz.func25, Tryz.ntmps25
  go_wp2_with fail
  refine (hp _).mono ?_
  rintro _ w1 ⟨rfl, ew⟩
  rw [ew]
  clear ew w1
  obtain ⟨j, hj⟩ : ∃ j, j = pickI c 4 := ⟨_, rfl⟩
  have HJ : Hid (nameI c = names4.getD j.toNat kC) := by show _ = _; rw [hj]; rfl
  rw [← hj] at hr ⊢
  clear hj hp
  rcases (by omega : j = 0 ∨ j = 1 ∨ j = 2 ∨ j = 3) with rfl | rfl | rfl | rfl
  all_goals
    go_wp2
    go_ret
    refine ⟨?_, (Chg.refl _ _).alloc _⟩
    rw [HJ.out]
    rfl

theorem tally_range {key : ByteArray} (hk : key ∈ names4) : ∀ (l : List Rec) (p : Int × Int), (∀ x ∈ l, 0 ≤ x.value ∧ x.value ≤ 4294967295) → 0 ≤ p.1 → p.1 + l.length ≤ 1000 → 0 ≤ p.2 ∧ p.2 ≤ 4294967295 → 0 ≤ (l.foldl (tallyOne key) p).2 ∧ (l.foldl (tallyOne key) p).2 ≤ 4294967295
  | [], p, _, _, _, h => h
  | x :: r, p, hv, h0, h1, h2 => by
    rw [List.foldl_cons]
    have hx := hv x (by simp)
    simp only [List.length_cons] at h1
    have h3 : 0 ≤ (tallyOne key p x).1 ∧ (tallyOne key p x).1 ≤ p.1 + 1 ∧ 0 ≤ (tallyOne key p x).2 ∧ (tallyOne key p x).2 ≤ 4294967295 := by
      unfold tallyOne
      split
      · simp only [names4, List.mem_cons, List.not_mem_nil, or_false] at hk
        rcases hk with rfl | rfl | rfl | rfl <;> simp [foldOne, kC, kS, kL, kM] <;> omega
      · omega
    exact tally_range hk r _ (fun y hy => hv y (by simp [hy])) h3.1 (by omega) h3.2.2

set_option maxHeartbeats 2000000 in
theorem kfold_any {w : World} {lo : Nat} {v : Value} {l : List Rec} {key : ByteArray} (hr : w.ownsRow lo 37 5 v l.length (recCells l)) (hk : key ∈ names4) (hl : l.length ≤ 900) (hv : ∀ x ∈ l, 0 ≤ x.value ∧ x.value ≤ 4294967295) :
    Calls Tryz.prog 29 #[v, .string key, .int .i64 (tally key l).1] w fun e w' => e = .returned (.int .i64 (tally key l).2) ∧ w' = w := by
  obtain ⟨p, cap, rfl⟩ := row_any hr
  have hT := (tally_take_le key l 0).2.2
  have hT0 := (tally_take_le key l l.length).1
  rw [List.take_length] at hT0
  obtain ⟨N, hN⟩ : ∃ N, N = (tally key l).1 := ⟨_, rfl⟩
  rw [← hN] at hT hT0 ⊢
  have HN : Hid (N = (tally key l).1) := hN
  clear hN
  go_enter Tryz.func29, Tryz.ntmps29
  go_wp2_with fail
  go_loopw [7, 8, 9, 10] (fun sf sc si _ wr => ∃ (i : Nat) (c f : Int), si = .int .i64 i ∧ i ≤ l.length ∧ sc = .int .i64 c ∧ sf = .int .i64 f ∧ Hid (tally key (l.take i) = (c, f)) ∧ Hid (wr = w)) (fun _ _ si _ _ => l.length - (intOf si).toNat)
  case atStart => exact ⟨0, 0, 0, rfl, by omega, rfl, rfl, (show _ = _ from rfl), (show _ = _ from rfl)⟩
  case round =>
    obtain ⟨i, c, f, rfl, hi, rfl, rfl, HT, HW⟩ := hrel
    have hc : Chg (fun _ => False) w wr := by rw [HW.out]; exact Chg.refl _ _
    have hle := tally_take_le key l i
    rw [HT.out, ← HN.out] at hle
    simp only at hle
    have hrg := tally_range hk (l.take i) (0, 0) (fun x hx => hv x (List.mem_of_mem_take hx)) (by simp) (by simp only [List.length_take]; omega) (by simp)
    have hrg' : 0 ≤ f ∧ f ≤ 4294967295 := by
      have : ((l.take i).foldl (tallyOne key) (0, 0)) = (c, f) := HT.out
      rw [this] at hrg
      exact hrg
    clear hrg
    by_cases hil : i < l.length
    · have hil' : (i : Int) < (l.length : Int) := by omega
      by_cases hcn : c < N
      · obtain ⟨x, hx⟩ : ∃ x, l[i]? = some x := ⟨_, List.getElem?_eq_getElem hil⟩
        obtain ⟨g, cap', hvs, _, _, hcell⟩ := row_pos hr (by omega)
        simp only [Value.slice.injEq] at hvs
        obtain ⟨rfl, _, rfl⟩ := hvs
        have cx := recCells_at l i x hx
        have m3 := hc.cellAt (hcell _ _ cx.2.2.2.1) id
        have m4 := hc.cellAt (hcell _ _ cx.2.2.2.2) id
        have hxv := hv x (List.mem_of_getElem? hx)
        have hnx := tally_take_next key l i x hx
        rw [HT.out] at hnx
        have HNX : Hid (tally key (l.take (i + 1)) = tallyOne key (c, f) x) := hnx
        clear hcell cx hnx HN
        by_cases hke : x.key = key
        · rw [hke] at m3
          have HNX' : Hid (tally key (l.take (i + 1)) = (c + 1, foldOne key (c + 1) f x.value)) := by
            show _ = _
            rw [HNX.out]; unfold tallyOne; rw [if_pos hke]
          clear HNX hke HT
          simp only [names4, List.mem_cons, List.not_mem_nil, or_false] at hk
          rcases hk with rfl | rfl | rfl | rfl
          · simp only [kC] at m3 ⊢
            go_wp2_with fail
            refine ⟨⟨i + 1, c + 1, c + 1, by go_num, by omega, rfl, rfl, HNX', HW⟩, by simp [intOf]; omega⟩
          · simp only [kS] at m3 ⊢
            go_wp2_with fail
            exact ⟨⟨i + 1, c + 1, (f + x.value) % 4294967296, by go_num, by omega, rfl, rfl, HNX', HW⟩, by simp [intOf]; omega⟩
          · simp only [kL] at m3 ⊢
            go_wp2_with fail
            exact ⟨⟨i + 1, c + 1, x.value, by go_num, by omega, rfl, rfl, HNX', HW⟩, by simp [intOf]; omega⟩
          · have hmx : foldOne kM (c + 1) f x.value = max f x.value := rfl
            rw [hmx] at HNX'
            clear hmx
            simp only [kM] at m3 HNX' ⊢
            by_cases hgt : f < x.value
            · rw [Int.max_eq_right (by omega)] at HNX'
              go_wp2_with fail
              exact ⟨⟨i + 1, c + 1, x.value, by go_num, by omega, rfl, rfl, HNX', HW⟩, by simp [intOf]; omega⟩
            · rw [Int.max_eq_left (by omega)] at HNX'
              go_wp2_with fail
              exact ⟨⟨i + 1, c + 1, f, by go_num, by omega, rfl, rfl, HNX', HW⟩, by simp [intOf]; omega⟩
        · have hkn : (x.key.toList == key.toList) = false := by
            rw [beq_eq_false_iff_ne]
            intro e
            rw [ByteArray.toList_eq, ByteArray.toList_eq] at e
            exact hke (ByteArray.ext (Array.toList_inj.1 e))
          have HNX' : Hid (tally key (l.take (i + 1)) = (c, f)) := by
            show _ = _
            rw [HNX.out]; unfold tallyOne; rw [if_neg hke]
          clear HNX hke
          go_wp2_with fail
          refine ⟨⟨i + 1, c, f, by go_num, by omega, rfl, rfl, HNX', HW⟩, by simp [intOf]; omega⟩
      · have hcN : c = N := by omega
        have HF : Hid ((tally key l).2 = f) := by
          show _ = _
          rw [← tally_take_stop key l i (by rw [HT.out, ← HN.out]; exact hcN), HT.out]
        clear HT HN hcN
        go_wp2_with fail
        go_ret
        exact ⟨by rw [HF.out]; rfl, HW.out⟩
    · have hil' : ¬ (i : Int) < (l.length : Int) := by omega
      have HF : Hid ((tally key l).2 = f) := by
        show _ = _
        have := HT.out
        rw [List.take_of_length_le (by omega)] at this
        rw [this]
      clear HT HN
      go_wp2_with fail
      go_ret
      exact ⟨by rw [HF.out]; rfl, HW.out⟩

end Go.Proofs.YtdoedjmdcmgddaaGreat
