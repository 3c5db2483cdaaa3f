/- slices.Insert ON THE LEDGER, WALKED. -/
import Derived.Test.YtdoedjmdcmgddaaGreatI1
namespace Go.Proofs.YtdoedjmdcmgddaaGreat
set_option linter.unusedVariables false
set_option linter.unusedSimpArgs false
open Go.RowKit Go.Lib

def Ky.cells (k : Ky) : List Value := [.string k.name, .int .i64 k.count, .int .i64 k.fold, .int .i64 k.held]
def Ky.agg (k : Ky) : Value := .agg #[.string k.name, .int .i64 k.count, .int .i64 k.fold, .int .i64 k.held]

theorem keyCells_len : ∀ l : List Ky, (keyCells l).length = l.length * 4
  | [] => rfl
  | x :: r => by simp [keyCells, keyCells_len r]; omega

theorem keyCells_cat : ∀ (l r : List Ky), keyCells (l ++ r) = keyCells l ++ keyCells r
  | [], r => rfl
  | y :: l, r => by simp [keyCells, keyCells_cat l r]

theorem keyCells_one (k : Ky) : keyCells [k] = k.cells := rfl

theorem keyCells_at : ∀ (l : List Ky) (i : Nat) (x : Ky), l[i]? = some x → (keyCells l)[i * 4]? = some (.string x.name) ∧ (keyCells l)[i * 4 + 1]? = some (.int .i64 x.count) ∧ (keyCells l)[i * 4 + 2]? = some (.int .i64 x.fold) ∧ (keyCells l)[i * 4 + 3]? = some (.int .i64 x.held)
  | [], i, x, h => by simp at h
  | y :: r, 0, x, h => by simp at h; subst h; simp [keyCells]
  | y :: r, i + 1, x, h => by
    have := keyCells_at r i x (by simpa using h)
    have e : (i + 1) * 4 = i * 4 + 4 := by omega
    rw [e]
    simpa [keyCells] using this

theorem keyCells_one' : ∀ (l : List Ky), ∀ u ∈ keyCells l, u.oneCell' = true
  | [], u, h => by simp [keyCells] at h
  | y :: r, u, h => by
    simp [keyCells] at h
    rcases h with rfl | rfl | rfl | rfl | h
    · rfl
    · rfl
    · rfl
    · rfl
    · exact keyCells_one' r u h

theorem Tryz.infoK : (Tryz.prog.info? 60).map (fun i => (i.zero, i.size, i.bytes)) = some (some (.agg #[.string ⟨#[]⟩, .int .i64 0, .int .i64 0, .int .i64 0]), 4, 40) := by kernel_rfl

theorem ob_p (p : Option Addr) (n c : Nat) : (Value.slice p n c).ownBlock = p.map (·.block) := by cases p <;> rfl

set_option maxRecDepth 100000 in
set_option maxHeartbeats 400000 in
/-- At the end. -/
theorem insert_end (lo n vb : Nat) (v : Value) (ks : List Ky) (x : Ky) (w : World) (hr : w.ownsRow lo 60 4 v n (keyCells ks)) (hl : ks.length = n) (hn : n ≤ 1000) (hlo : lo ≤ w.heap.size)
    (hx : ∀ j u, x.cells[j]? = some u → w.cell? ⟨vb, j, none⟩ = some u) :
    Calls Tryz.prog 114 #[v, .int .i64 n, .slice (some ⟨vb, 0, none⟩) 1 1] w fun e w' => ∃ v', e = .returned v' ∧
      w'.ownsRow lo 60 4 v' (n + 1) (keyCells (ks ++ [x])) ∧ (v'.ownBlock = v.ownBlock ∨ ∀ k, v'.ownBlock = some k → w.heap.size ≤ k) ∧ Chg (fun k => v.ownBlock = some k) w w' := by
  obtain ⟨p, cap, rfl⟩ := row_any hr
  obtain ⟨i0, hi, hz0, hz1, hz2⟩ := info_parts Tryz.infoK
  have hcap : n ≤ cap := by
    rcases hr.2 with ⟨h, h0⟩ | ⟨g', cap', cur, hv, _, _, h, _⟩
    · omega
    · simp at hv; omega
  obtain ⟨v', w', hrun, r1, r2, r3⟩ := run_append_where (P := Tryz.prog) w lo 96 0 60 i0 _ 4 40 Tryz.underlying96 hi hz0 hz1 hz2 rfl (by decide) (.slice p n cap) n (keyCells ks) hr ⟨vb, 0, none⟩ 1 1 x.cells rfl
    (fun j u hj => by
      have := hx j u hj
      rcases Nat.eq_zero_or_pos j with h0 | h0
      · subst h0; simpa [Addr.add] using this
      · simpa [Addr.add, Nat.pos_iff_ne_zero.1 h0] using this) (keyCells_one' [x]) (by unfold maxLen; omega) (by omega) hlo
  rw [ob_p] at r2 r3
  have hrun' : ∀ ty, (Builtin.append_ #[96, 50] ty #[.slice p n cap, .slice (some ⟨vb, 0, none⟩) 1 1]).run Tryz.prog w = .ok v' w' := fun ty =>
    (run_append_types w 96 50 ty 60 60 i0 hi Tryz.underlying96 Tryz.underlying50 p n cap _).trans hrun
  go_enter Tryz.func114, Tryz.ntmps114
  go_wp2_with (at_builtin; refine wpList_append_run' _ rfl _ _ 96 50 rfl _ _ rfl rfl v' w' hrun' ?_)
  all_goals
    go_ret
    refine ⟨v', rfl, by rw [keyCells_cat]; exact r1, ?_, ?_⟩
    · rw [ob_p]; exact r3
    · exact ⟨r2.os, r2.tape, r2.output, r2.size, fun k hk hne => r2.block k hk (fun e => hne (by rw [ob_p]; exact e.symm))⟩

theorem add_lit' (g o j : Nat) : ((⟨g, o, none⟩ : Addr).add j) = ⟨g, o + j, none⟩ := by
  rcases Nat.eq_zero_or_pos j with h0 | h0
  · subst h0; simp [Addr.add]
  · simp [Addr.add, Nat.pos_iff_ne_zero.1 h0]

theorem keyCells_take : ∀ (l : List Ky) (i : Nat), keyCells (l.take i) = (keyCells l).take (i * 4)
  | [], i => by simp [keyCells]
  | y :: r, 0 => by simp [keyCells]
  | y :: r, i + 1 => by
    have e : (i + 1) * 4 = i * 4 + 4 := by omega
    rw [e]; simp [keyCells, keyCells_take r i]

theorem keyCells_drop : ∀ (l : List Ky) (i : Nat), keyCells (l.drop i) = (keyCells l).drop (i * 4)
  | [], i => by simp [keyCells]
  | y :: r, 0 => by simp [keyCells]
  | y :: r, i + 1 => by
    have e : (i + 1) * 4 = i * 4 + 4 := by omega
    rw [e]; simp [keyCells, keyCells_drop r i]

/-- The row with one place more, whatever lies there. -/
theorem row_more {w : World} {lo : Nat} {e : TypeId} {size g n cap : Nat} {xs : List Value} (h : w.ownsRow lo e size (.slice (some ⟨g, 0, none⟩) n cap) n xs) (hc : n + 1 ≤ cap) :
    ∃ ys, ys.length = size ∧ w.ownsRow lo e size (.slice (some ⟨g, 0, none⟩) (n + 1) cap) (n + 1) (xs ++ ys) := by
  rcases h.2 with ⟨hv, _⟩ | ⟨g', cap', cur, hv, hb, hg, hn, hm, hs, ht⟩
  · simp at hv
  · simp at hv
    obtain ⟨rfl, rfl⟩ := hv
    have hle : (n + 1) * size ≤ cur.size := by rw [hs]; exact Nat.mul_le_mul_right _ hc
    refine ⟨(cur.toList.drop (n * size)).take size, ?_, ?_, ?_⟩
    · rw [Nat.add_mul] at hle
      simp [List.length_take]; omega
    · rw [Nat.add_mul] at hle ⊢
      simp [h.1, List.length_take]; omega
    · refine .inr ⟨g, cap, cur, rfl, hb, hg, hc, hm, hs, ?_⟩
      rw [← ht, Nat.add_mul, Nat.one_mul, List.take_add]

/-- A row's shape. -/
theorem row_shape {w : World} {lo : Nat} {e : TypeId} {size g n cap : Nat} {xs : List Value} (h : w.ownsRow lo e size (.slice (some ⟨g, 0, none⟩) n cap) n xs) : w.shape? g = some (e, cap * size) := by
  rcases h.2 with ⟨hv, _⟩ | ⟨g', cap', cur, hv, hb, hg, hn, hm, hs, ht⟩
  · simp at hv
  · simp at hv
    obtain ⟨rfl, rfl⟩ := hv
    simp [World.shape?, hg, hs]

theorem shift_list (A ys : List Value) (i n : Nat) (D xc : List Value) (hA : A.length = n * 4) (hys : ys.length = 4) (hi : i < n) (hD : D = A.drop (i * 4)) (hx : xc.length = 4) :
    ((A ++ ys).take ((i + 1) * 4) ++ D ++ (A ++ ys).drop ((i + 1) * 4 + D.length)).take (i * 4) ++ xc ++ ((A ++ ys).take ((i + 1) * 4) ++ D ++ (A ++ ys).drop ((i + 1) * 4 + D.length)).drop (i * 4 + xc.length) = A.take (i * 4) ++ xc ++ D := by
  have hDl : D.length = n * 4 - i * 4 := by rw [hD, List.length_drop, hA]
  have h1 : (A ++ ys).drop ((i + 1) * 4 + D.length) = [] := List.drop_eq_nil_of_le (by simp [hA, hys]; omega)
  have h2 : (A ++ ys).take ((i + 1) * 4) = A.take ((i + 1) * 4) := by rw [List.take_append_of_le_length (by omega)]
  have h3 : (A.take ((i + 1) * 4)).length = (i + 1) * 4 := by rw [List.length_take]; omega
  rw [h1, h2, List.append_nil, hx]
  rw [List.take_append_of_le_length (by omega), List.take_take, Nat.min_eq_left (by omega)]
  rw [show i * 4 + 4 = (A.take ((i + 1) * 4)).length by omega, List.drop_left]

set_option maxRecDepth 100000 in
set_option maxHeartbeats 1000000 in
/-- There is room: in place. -/
theorem insert_shift (lo n i g cap vb : Nat) (ks : List Ky) (x : Ky) (w : World) (hr : w.ownsRow lo 60 4 (.slice (some ⟨g, 0, none⟩) n cap) n (keyCells ks)) (hl : ks.length = n) (hn : n ≤ 1000) (hi : i < n) (hroom : n + 1 ≤ cap) (hcap : cap ≤ 9223372036854775807) (hvb : vb ≠ g)
    (hx : w.heap[vb]? = some (.cells #[.string x.name, .int .i64 x.count, .int .i64 x.fold, .int .i64 x.held] 60)) :
    Calls Tryz.prog 114 #[.slice (some ⟨g, 0, none⟩) n cap, .int .i64 i, .slice (some ⟨vb, 0, none⟩) 1 1] w fun e w' => e = .returned (.slice (some ⟨g, 0, none⟩) (n + 1) cap) ∧
      w'.ownsRow lo 60 4 (.slice (some ⟨g, 0, none⟩) (n + 1) cap) (n + 1) (keyCells (ks.take i ++ [x] ++ ks.drop i)) ∧ Chg (fun k => k = g) w w' := by
  obtain ⟨ys, hys, hr1⟩ := row_more hr hroom
  have hlen : (keyCells ks ++ ys).length = (n + 1) * 4 := by simp [keyCells_len, hl, hys]; omega
  have hsz : (Tryz.prog.info? 60).map (·.size) = some 4 := by kernel_rfl
  have hsome : ∀ j, j < (n + 1) * 4 → (w.cell? ⟨g, j, none⟩).isSome = true := fun j hj => by
    rw [row_cell hr1 (List.getElem?_eq_getElem (by omega))]; rfl
  have hdl : (keyCells (ks.drop i)).length = (n - i) * 4 := by rw [keyCells_len, List.length_drop, hl]
  have hxc : ∀ j u, x.cells[j]? = some u → w.cell? ⟨vb, j, none⟩ = some u := fun j u hj => by
    simp only [World.cell?, hx]
    match j, hj with
    | 0, hj => simpa [Ky.cells] using hj
    | 1, hj => simpa [Ky.cells] using hj
    | 2, hj => simpa [Ky.cells] using hj
    | 3, hj => simpa [Ky.cells] using hj
    | k + 4, hj => simp [Ky.cells] at hj
  -- the two copies
  have hcp1 : ∀ ty dc sc, (Builtin.copy_ #[96, 96] ty #[.slice (some ⟨g, (i + 1) * 4, none⟩) (n - i) dc, .slice (some ⟨g, i * 4, none⟩) (n + 1 - i) sc]).run Tryz.prog w.drew = .ok (goInt (n - i : Nat)) (w.drew.setCells g ((i + 1) * 4) (keyCells (ks.drop i))) := fun ty dc sc => by
    have hmin : Nat.min (n + 1 - i) (n - i) = n - i := by simp only [Nat.min_def]; split <;> omega
    have := run_copy_sized (P := Tryz.prog) w.drew 96 96 ty 60 4 g ((i + 1) * 4) (n - i) dc ⟨g, i * 4, none⟩ (n + 1 - i) sc (keyCells (ks.drop i)) Tryz.underlying96 hsz (by rw [hmin, hdl])
      (fun j u hj => by
        rw [add_lit']
        refine (World.cell?_drew _ _).trans (row_cell hr ?_)
        rw [keyCells_drop, List.getElem?_drop] at hj
        exact hj)
      (fun j hj => hsome _ (by rw [hdl] at hj; omega)) (fun j hj => row_frozen hr _) (keyCells_one' _)
    rw [hmin] at this
    exact this
  obtain ⟨W1, hW1⟩ : ∃ W1, W1 = w.drew.setCells g ((i + 1) * 4) (keyCells (ks.drop i)) := ⟨_, rfl⟩
  rw [← hW1] at hcp1
  have hr1' : w.drew.ownsRow lo 60 4 (.slice (some ⟨g, 0, none⟩) (n + 1) cap) (n + 1) (keyCells ks ++ ys) := hr1
  obtain ⟨q1, c1⟩ := row_setCells (keyCells (ks.drop i)) ((i + 1) * 4) w.drew (keyCells ks ++ ys) hr1' (by rw [hlen, hdl]; omega)
  rw [← hW1] at q1 c1
  have c1' : Chg (fun k => k = g) w W1 := (Chg.refl _ w).drew.trans c1 (fun _ _ h => h)
  obtain ⟨L1, hL1⟩ : ∃ L1, L1 = (keyCells ks ++ ys).take ((i + 1) * 4) ++ keyCells (ks.drop i) ++ (keyCells ks ++ ys).drop ((i + 1) * 4 + (keyCells (ks.drop i)).length) := ⟨_, rfl⟩
  rw [← hL1] at q1
  have hL1l : L1.length = (n + 1) * 4 := q1.1
  have hcp2 : ∀ (W : World), (∀ a, W.cell? a = W1.cell? a) → (∀ a, W.frozen? a = W1.frozen? a) → ∀ ty dc, (Builtin.copy_ #[96, 50] ty #[.slice (some ⟨g, i * 4, none⟩) (n + 1 - i) dc, .slice (some ⟨vb, 0, none⟩) 1 1]).run Tryz.prog W = .ok (goInt (1 : Nat)) (W.setCells g (i * 4) x.cells) := fun W hWc hWf ty dc => by
    have hmin : Nat.min 1 (n + 1 - i) = 1 := by simp only [Nat.min_def]; split <;> omega
    have := run_copy_sized (P := Tryz.prog) W 96 50 ty 60 4 g (i * 4) (n + 1 - i) dc ⟨vb, 0, none⟩ 1 1 x.cells Tryz.underlying96 hsz (by rw [hmin]; rfl)
      (fun j u hj => by
        rw [add_lit', hWc, Nat.zero_add]
        exact c1'.cellAt (hxc j u hj) hvb)
      (fun j hj => by
        have : x.cells.length = 4 := rfl
        rw [hWc, row_cell q1 (List.getElem?_eq_getElem (by omega))]; rfl) (fun j hj => by rw [hWf]; exact row_frozen q1 _) (keyCells_one' [x])
    rw [hmin] at this
    exact this
  have hov : ∀ lb cb, (callFunc 124 #[.slice (some ⟨vb, 0, none⟩) 1 1, .slice (some ⟨g, (i + 1) * 4, none⟩) lb cb]).run Tryz.prog w = .ok (.value (.bool false)) w := fun lb cb => by
    rw [run_callFunc_extern Tryz.func124 (by kernel_rfl) (by kernel_rfl) (by kernel_rfl) (e := Extern.SlicesOverlaps.overlaps #[50, 50] #[4]) (by kernel_rfl),
      Lib.run_overlaps_apart w 50 4 60 Tryz.underlying50 4 (fun w => by kernel_rfl) ⟨vb, 0, none⟩ ⟨g, (i + 1) * 4, none⟩ 1 1 lb cb hvb 60 60 4 (cap * 4) (by simp [World.shape?, hx]) (row_shape hr) (by omega) (by simp [World.frozen?, hx]) (by simp [World.frozen?, hx])]
    rfl
  have hz2 : ¬ ((i : Int) = (n : Int)) := by omega
  have hb2 : ¬ (cap = i + 1) := by omega
  have hb4 : ¬ (cap = i) := by omega
  have hb3 : (i : Int) ≤ (n : Int) + 1 := by omega
  have hin : i ≤ n := by omega
  have hw1 : IntKind.i64.wrap ((i : Int) + 1) = (i : Int) + 1 := by rw [IntKind.wrap_i64]; omega
  have hb1 : (0 : Int) ≤ (i : Int) + 1 := by omega
  have hb5 : (i : Int) + 1 ≤ (n : Int) + 1 := by omega
  have htn : ((i : Int) + 1).toNat = i + 1 := by omega
  go_enter Tryz.func114, Tryz.ntmps114
  have HL : Hid (L1 = (keyCells ks ++ ys).take ((i + 1) * 4) ++ keyCells (ks.drop i) ++ (keyCells ks ++ ys).drop ((i + 1) * 4 + (keyCells (ks.drop i)).length)) := hL1
  clear hW1 hL1 hr1 hr1' c1 hsome hxc hx
  go_wp2_with (simp only [hov])
  go_region
  all_goals go_wp2_with (at_builtin; refine wpList_copy_run' _ rfl _ _ 96 50 rfl _ _ rfl rfl (hcp2 _ (fun _ => rfl) (fun _ => rfl) _ _) ?_)
  all_goals
    go_ret
    obtain ⟨q2, c2⟩ := row_setCells x.cells (i * 4) W1 L1 q1 (by rw [hL1l]; show i * 4 + 4 ≤ _; omega)
    refine ⟨rfl, ?_, c1'.trans c2 (fun _ _ h => h)⟩
    have e := shift_list (keyCells ks) ys i n (keyCells (ks.drop i)) x.cells (by rw [keyCells_len, hl]) hys hi (keyCells_drop ks i) rfl
    rw [← HL.out] at e
    rw [e, ← keyCells_take] at q2
    rw [keyCells_cat, keyCells_cat, keyCells_one]
    exact q2

end Go.Proofs.YtdoedjmdcmgddaaGreat
