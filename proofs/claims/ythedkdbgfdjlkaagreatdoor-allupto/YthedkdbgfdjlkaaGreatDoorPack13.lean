import Derived.Test.YthedkdbgfdjlkaaGreatDoorPack1
import Derived.Test.YthedkdbgfdjlkaaGreatDoorPack2
import Derived.Test.YthedkdbgfdjlkaaGreatDoorPack3
import Derived.Test.YthedkdbgfdjlkaaGreatDoorPack4
import Derived.Test.YthedkdbgfdjlkaaGreatDoorPack5
import Derived.Test.YthedkdbgfdjlkaaGreatDoorPack6
import Derived.Test.YthedkdbgfdjlkaaGreatDoorPack7
import Derived.Test.YthedkdbgfdjlkaaGreatDoorPack8
import Derived.Test.YthedkdbgfdjlkaaGreatDoorPack9
import Derived.Test.YthedkdbgfdjlkaaGreatDoorPack10
import Derived.Test.YthedkdbgfdjlkaaGreatDoorPack11
import Derived.Test.YthedkdbgfdjlkaaGreatDoorPack12
namespace Go.Proofs.YthedkdbgfdjlkaaGreatDoor
set_option linter.unusedVariables false
set_option linter.unusedSimpArgs false
open Go.RowKit Go.Lib
def flowVal (E B : Nat → Int) (V : Nat → Value) (vk : Value) : Value := .agg #[.int .i64 (E 0), .int .i64 (B 0), V 0, .int .i64 (E 1), .int .i64 (B 1), V 1, .int .i64 (E 2), .int .i64 (B 2), V 2, .int .i64 (E 3), .int .i64 (B 3), V 3, vk]
def flowZero : Value := .agg #[.int .i64 0, .int .i64 0, .slice none 0 0, .int .i64 0, .int .i64 0, .slice none 0 0, .int .i64 0, .int .i64 0, .slice none 0 0, .int .i64 0, .int .i64 0, .slice none 0 0, .slice none 0 0]
structure FlowV (w : World) (lo : Nat) (E B : Nat → Int) (V : Nat → Value) (vk : Value) (Q : Nat → List Wt) (ks : List Ky) (s : St) : Prop where
  rows : ∀ i, i < 4 → w.ownsRow 0 168 3 (V i) (Q i).length (wtCells (Q i))
  keys : w.ownsRow 0 87 4 vk ks.length (keyCells ks)
  sep : ∀ i j, i < 4 → j < 4 → i ≠ j → ∀ g, (V i).ownBlock = some g → (V j).ownBlock ≠ some g
  sepk : ∀ i, i < 4 → ∀ g, (V i).ownBlock = some g → vk.ownBlock ≠ some g
  fit : FlowFit E B Q ks
  ties : Ties E B Q ks s
  snd : s.sound
  young : ∀ k, Rows V vk k → lo ≤ k
theorem FlowV.lt {w : World} {lo : Nat} {E B : Nat → Int} {V : Nat → Value} {vk : Value} {Q : Nat → List Wt} {ks : List Ky} {s : St} (h : FlowV w lo E B V vk Q ks s) : ∀ k, Rows V vk k → k < w.heap.size := fun k hk => by
  rcases hk with ⟨i, hi, hk⟩ | hk
  · exact ((h.rows i hi).lt k hk).2
  · exact (h.keys.lt k hk).2
theorem FlowV.chg {F : Nat → Prop} {w w' : World} {lo : Nat} {E B : Nat → Int} {V : Nat → Value} {vk : Value} {Q : Nat → List Wt} {ks : List Ky} {s : St} (h : FlowV w lo E B V vk Q ks s) (c : Chg F w w') (hF : ∀ k, Rows V vk k → ¬ F k) : FlowV w' lo E B V vk Q ks s :=
  ⟨fun i hi => c.row' (h.rows i hi) (fun k hk => hF k (.inl ⟨i, hi, hk⟩)), c.row' h.keys (fun k hk => hF k (.inr hk)), h.sep, h.sepk, h.fit, h.ties, h.snd, h.young⟩
theorem FlowV.older {w : World} {lo lo' : Nat} {E B : Nat → Int} {V : Nat → Value} {vk : Value} {Q : Nat → List Wt} {ks : List Ky} {s : St} (h : FlowV w lo E B V vk Q ks s) (hl : lo' ≤ lo) : FlowV w lo' E B V vk Q ks s :=
  ⟨h.rows, h.keys, h.sep, h.sepk, h.fit, h.ties, h.snd, fun k hk => Nat.le_trans hl (h.young k hk)⟩
theorem FlowV.laid {w : World} {lo b o : Nat} {E B : Nat → Int} {V : Nat → Value} {vk : Value} {Q : Nat → List Wt} {ks : List Ky} {s : St} (h : FlowV w lo E B V vk Q ks s) (hc : FlowCells w b o E B V vk) (hz : ∀ j, w.frozen? ⟨b, j, none⟩ = false) (hb : ¬ Rows V vk b) : FlowIs w b o s (fun k => k = b ∨ Rows V vk k) :=
  ⟨.inl rfl, fun k hk => by
    rcases hk with rfl | hk
    · exact World.block_lt_of_cell? _ _ hc.le
    · exact h.lt k hk,
   E, B, V, vk, Q, ks, ⟨hc, hz, h.rows, h.keys, fun i hi e => hb (.inl ⟨i, hi, e⟩), fun e => hb (.inr e), h.sep, h.sepk, Nat.zero_le _⟩, h.fit, h.ties, h.snd, fun k hk => .inr hk⟩
theorem FlowIs.taken {w : World} {lo b o : Nat} {s : St} {F : Nat → Prop} (h : FlowIs w b o s F) (hF : ∀ k, F k → k = b ∨ lo ≤ k) : ∃ E B V vk Q ks, FlowCells w b o E B V vk ∧ FlowV w lo E B V vk Q ks s := by
  obtain ⟨_, _, E, B, V, vk, Q, ks, h4, h5, h6, h7, h8⟩ := h
  refine ⟨E, B, V, vk, Q, ks, h4.cells, h4.rows, h4.keys, h4.sep, h4.sepk, h5, h6, h7, fun k hk => ?_⟩
  rcases hF k (h8 k hk) with rfl | h
  · rcases hk with ⟨i, hi, hk⟩ | hk
    · exact absurd hk (h4.own i hi)
    · exact absurd hk h4.ownk
  · exact h
def RestoreRes (w w' : World) (e : Ending) : Option St → Prop
  | none => e = .returned (.tuple #[flowZero, .bool false])
  | some s => ∃ E B V vk Q ks, e = .returned (.tuple #[flowVal E B V vk, .bool true]) ∧ FlowV w' w.heap.size E B V vk Q ks s
theorem flowCells_some {w : World} {b : Nat} {E B : Nat → Int} {V : Nat → Value} {vk : Value} (h : FlowCells w b 0 E B V vk) : ∀ j, j < 13 → (w.cell? ⟨b, 0 + j, none⟩).isSome = true := fun j hj => by
  by_cases h12 : j = 12
  · subst h12; rw [h.le]; rfl
  · rcases (by omega : j % 3 = 0 ∨ j % 3 = 1 ∨ j % 3 = 2) with h3 | h3 | h3
    · rw [show 0 + j = 0 + j / 3 * 3 by omega, h.ep (j / 3) (by omega)]; rfl
    · rw [show 0 + j = 0 + j / 3 * 3 + 1 by omega, h.ba (j / 3) (by omega)]; rfl
    · rw [show 0 + j = 0 + j / 3 * 3 + 2 by omega, h.qu (j / 3) (by omega)]; rfl
def upToF (f : Nat → Int) (i : Nat) : Nat → Int := fun j => if j < i then f j else 0
theorem keyCells_snoc : ∀ (l : List Ky) (x : Ky), keyCells (l ++ [x]) = keyCells l ++ x.cells
  | [], x => rfl
  | y :: r, x => by simp [keyCells, keyCells_snoc r x]
theorem lane_put {w : World} {b i : Nat} {E B : Nat → Int} {V : Nat → Value} {vk : Value} (h : FlowCells w b 0 E B V vk) (hi : i < 4) (e' b' : Int) (v' : Value) :
    FlowCells (((w.setCell ⟨b, i * 3, none⟩ (.int .i64 e')).setCell ⟨b, i * 3 + 1, none⟩ (.int .i64 b')).setCell ⟨b, i * 3 + 2, none⟩ v') b 0 (upd E i e') (upd B i b') (upd V i v') vk := by
  have e0 := h.ep i hi
  have e1 := h.ba i hi
  have e2 := h.qu i hi
  rw [Nat.zero_add] at e0 e1 e2
  refine ⟨fun j hj => ?_, fun j hj => ?_, fun j hj => ?_, ?_⟩
  · have hj0 := h.ep j hj
    rw [Nat.zero_add] at hj0 ⊢
    unfold upd
    split
    · rename_i e; subst e
      exact (World.cell?_setCell_other _ _ _ _ (by simp)).trans ((World.cell?_setCell_other _ _ _ _ (by simp)).trans (World.cell?_setCell_same _ _ _ e0))
    · exact (World.cell?_setCell_other _ _ _ _ (by simp <;> omega)).trans ((World.cell?_setCell_other _ _ _ _ (by simp <;> omega)).trans ((World.cell?_setCell_other _ _ _ _ (by simp <;> omega)).trans hj0))
  · have hj0 := h.ba j hj
    rw [Nat.zero_add] at hj0 ⊢
    unfold upd
    split
    · rename_i e; subst e
      exact (World.cell?_setCell_other _ _ _ _ (by simp)).trans (World.cell?_setCell_same _ _ _ ((World.cell?_setCell_other _ _ _ _ (by simp)).trans e1))
    · exact (World.cell?_setCell_other _ _ _ _ (by simp <;> omega)).trans ((World.cell?_setCell_other _ _ _ _ (by simp <;> omega)).trans ((World.cell?_setCell_other _ _ _ _ (by simp <;> omega)).trans hj0))
  · have hj0 := h.qu j hj
    rw [Nat.zero_add] at hj0 ⊢
    unfold upd
    split
    · rename_i e; subst e
      exact World.cell?_setCell_same _ _ _ ((World.cell?_setCell_other _ _ _ _ (by simp)).trans ((World.cell?_setCell_other _ _ _ _ (by simp)).trans e2))
    · exact (World.cell?_setCell_other _ _ _ _ (by simp <;> omega)).trans ((World.cell?_setCell_other _ _ _ _ (by simp <;> omega)).trans ((World.cell?_setCell_other _ _ _ _ (by simp <;> omega)).trans hj0))
  · exact (World.cell?_setCell_other _ _ _ _ (by simp <;> omega)).trans ((World.cell?_setCell_other _ _ _ _ (by simp <;> omega)).trans ((World.cell?_setCell_other _ _ _ _ (by simp <;> omega)).trans h.le))
theorem upToF_step (f : Nat → Int) (i : Nat) : upd (upToF f i) i (f i) = upToF f (i + 1) := by
  funext j
  unfold upd upToF
  by_cases h1 : j = i
  · subst h1; simp
  · by_cases h2 : j < i
    · simp [h1, h2, show j < i + 1 by omega]
    · simp [h1, h2, show ¬ j < i + 1 by omega]
theorem FlowCells.congr {w : World} {b o : Nat} {E B E' B' : Nat → Int} {V : Nat → Value} {vk : Value} (h : FlowCells w b o E B V vk) (hE : ∀ i, i < 4 → E i = E' i) (hB : ∀ i, i < 4 → B i = B' i) : FlowCells w b o E' B' V vk :=
  ⟨fun i hi => by rw [← hE i hi]; exact h.ep i hi, fun i hi => by rw [← hB i hi]; exact h.ba i hi, h.qu, h.le⟩
theorem upd_const {α : Type} (x : α) (i : Nat) : upd (fun _ => x) i x = fun _ => x := by
  funext j; unfold upd; split <;> rfl
set_option maxRecDepth 100000 in
set_option maxHeartbeats 8000000 in
theorem restore_any {w : World} {lo : Nat} {vs vk vw : Value} {ss : List (Int × Int)} {ks : List Ky} {xs : List Rec}
    (hs : w.ownsRow lo 121 3 vs ss.length (sessRow ss)) (hk : w.ownsRow lo 87 4 vk ks.length (keyCells ks)) (hx : w.ownsRow lo 53 5 vw xs.length (recCells xs))
    (h4 : ss.length = 4) (hk4 : ks.length ≤ 4) (hx12 : xs.length ≤ 12) (hxf : ∀ x ∈ xs, x.fits) (hkn : ∀ k ∈ ks, k.name.size ≤ maxLen) (hep : ∀ s ∈ ss, s.1 ≤ 9223372036854775807) :
    Calls Tryz.prog 97 #[.agg #[vs, vk], vw] w fun e w' => RestoreRes w w' e (restore ss ks xs) ∧ Chg (fun _ => False) w w' := by
  obtain ⟨ps, cs, rfl⟩ := row_any hs
  obtain ⟨pk, ck, rfl⟩ := row_any hk
  obtain ⟨px, cx, rfl⟩ := row_any hx
  rw [h4] at hs ⊢
  obtain ⟨R, hR⟩ : ∃ R, R = restore ss ks xs := ⟨_, rfl⟩
  have HR : Hid (R = restore ss ks xs) := hR
  rw [← hR]
  clear hR
  obtain ⟨W0, hW0⟩ : ∃ W0, W0 = (w.alloc (.cells #[.slice ps 4 cs, .slice pk ks.length ck] 46)).alloc (.cells #[.int .i64 0, .int .i64 0, .slice none 0 0, .int .i64 0, .int .i64 0, .slice none 0 0, .int .i64 0, .int .i64 0, .slice none 0 0, .int .i64 0, .int .i64 0, .slice none 0 0, .slice none 0 0] 98) := ⟨_, rfl⟩
  have c0 : Chg (fun _ => False) w W0 := by rw [hW0]; exact ((Chg.refl _ w).alloc _).alloc _
  have hs0 : W0.heap.size = w.heap.size + 2 := by rw [hW0]; simp
  have z0 : FlowCells W0 (w.heap.size + 1) 0 (fun _ => 0) (fun _ => 0) (fun _ => .slice none 0 0) (.slice none 0 0) := by
    have := flow_alloc (w.alloc (.cells #[.slice ps 4 cs, .slice pk ks.length ck] 46)) 98 (fun _ => 0) (fun _ => 0) (fun _ => .slice none 0 0) (.slice none 0 0)
    rw [World.size_alloc] at this
    rw [hW0]
    exact this
  have zf : ∀ j, W0.frozen? ⟨w.heap.size + 1, j, none⟩ = false := fun j => by rw [hW0]; exact World.frozen?_alloc_at _ _ _ _ (by simp)
  have a0 : W0.cell? ⟨w.heap.size, 0, none⟩ = some (.slice ps 4 cs) := by rw [hW0]; exact ((Chg.refl (fun _ => False) _).alloc _).cellAt (World.cell?_alloc_at _ _ _ _ rfl) id
  have a1 : W0.cell? ⟨w.heap.size, 1, none⟩ = some (.slice pk ks.length ck) := by rw [hW0]; exact ((Chg.refl (fun _ => False) _).alloc _).cellAt (World.cell?_alloc_at _ _ _ _ rfl) id
  have hcan := canBe_any (ss := ss) (by rw [h4]; exact c0.row' hs (fun _ _ h => h)) (c0.row' hk (fun _ _ h => h)) h4 hk4 hkn
  go_enter Tryz.func97, Tryz.ntmps97
  go_wp2_with fail
  rw [← hW0]
  refine hcan.mono ?_
  rintro _ w1 ⟨rfl, c1⟩
  clear hcan hW0
  have c01 : Chg (fun _ => False) w w1 := c0.trans c1 (fun _ _ h => h)
  have z1 := z0.chg c1 id
  have zf1 : ∀ j, w1.frozen? ⟨w.heap.size + 1, j, none⟩ = false := fun j => (World.frozen?_of_block (w := W0) (c1.block (w.heap.size + 1) (by omega) id)).trans (zf j)
  have b0 := c1.cellAt a0 id
  have b1 := c1.cellAt a1 id
  have hs1 : w.heap.size + 2 ≤ w1.heap.size := by have := c1.size; omega
  clear z0 zf a0 a1 hs0 c0 c1
  cases hcb : canBe ss ks with
  | false =>
    have o0 := z1.ep 0 (by omega)
    have o1 := z1.ba 0 (by omega)
    have o2 := z1.qu 0 (by omega)
    have o3 := z1.ep 1 (by omega)
    have o4 := z1.ba 1 (by omega)
    have o5 := z1.qu 1 (by omega)
    have o6 := z1.ep 2 (by omega)
    have o7 := z1.ba 2 (by omega)
    have o8 := z1.qu 2 (by omega)
    have o9 := z1.ep 3 (by omega)
    have o10 := z1.ba 3 (by omega)
    have o11 := z1.qu 3 (by omega)
    have o12 := z1.le
    simp only [Nat.zero_mul, Nat.one_mul, Nat.add_zero, Nat.zero_add, Nat.reduceMul, Nat.reduceAdd] at o0 o1 o2 o3 o4 o5 o6 o7 o8 o9 o10 o11 o12
    have f0 := zf1 0
    have f1 := zf1 1
    have f2 := zf1 2
    have f3 := zf1 3
    have f4 := zf1 4
    have f5 := zf1 5
    have f6 := zf1 6
    have f7 := zf1 7
    have f8 := zf1 8
    have f9 := zf1 9
    have f10 := zf1 10
    have f11 := zf1 11
    have f12 := zf1 12
    go_wp2_with fail
    obtain ⟨W9, hW9⟩ : ∃ W9, W9 = (((((((((((((w1.setCell ⟨w.heap.size + 1, 0, none⟩ (.int .i64 0)).setCell ⟨w.heap.size + 1, 1, none⟩ (.int .i64 0)).setCell ⟨w.heap.size + 1, 2, none⟩ (.slice none 0 0)).setCell ⟨w.heap.size + 1, 3, none⟩ (.int .i64 0)).setCell ⟨w.heap.size + 1, 4, none⟩ (.int .i64 0)).setCell ⟨w.heap.size + 1, 5, none⟩ (.slice none 0 0)).setCell ⟨w.heap.size + 1, 6, none⟩ (.int .i64 0)).setCell ⟨w.heap.size + 1, 7, none⟩ (.int .i64 0)).setCell ⟨w.heap.size + 1, 8, none⟩ (.slice none 0 0)).setCell ⟨w.heap.size + 1, 9, none⟩ (.int .i64 0)).setCell ⟨w.heap.size + 1, 10, none⟩ (.int .i64 0)).setCell ⟨w.heap.size + 1, 11, none⟩ (.slice none 0 0)).setCell ⟨w.heap.size + 1, 12, none⟩ (.slice none 0 0)) := ⟨_, rfl⟩
    have hput : FlowCells W9 (w.heap.size + 1) 0 (fun _ => 0) (fun _ => 0) (fun _ => .slice none 0 0) (.slice none 0 0) := by rw [hW9]; exact flow_put (fun _ => 0) (fun _ => 0) (fun _ => .slice none 0 0) (.slice none 0 0) (flowCells_some z1)
    have c19 : Chg (fun k => k = w.heap.size + 1) w1 W9 := by rw [hW9]; exact (setCells_slots (w.heap.size + 1) (cells13 (fun _ => 0) (fun _ => 0) (fun _ => .slice none 0 0) (.slice none 0 0)) 0 w1).2
    rw [← hW9]
    clear hW9 o0 f0 o1 f1 o2 f2 o3 f3 o4 f4 o5 f5 o6 f6 o7 f7 o8 f8 o9 f9 o10 f10 o11 f11 o12 f12
    have d0 := hput.ep 0 (by omega)
    have d1 := hput.ba 0 (by omega)
    have d2 := hput.qu 0 (by omega)
    have d3 := hput.ep 1 (by omega)
    have d4 := hput.ba 1 (by omega)
    have d5 := hput.qu 1 (by omega)
    have d6 := hput.ep 2 (by omega)
    have d7 := hput.ba 2 (by omega)
    have d8 := hput.qu 2 (by omega)
    have d9 := hput.ep 3 (by omega)
    have d10 := hput.ba 3 (by omega)
    have d11 := hput.qu 3 (by omega)
    have d12 := hput.le
    simp only [Nat.zero_mul, Nat.one_mul, Nat.add_zero, Nat.zero_add, Nat.reduceMul, Nat.reduceAdd] at d0 d1 d2 d3 d4 d5 d6 d7 d8 d9 d10 d11 d12
    have e : R = none := by rw [HR.out]; simp [restore, hcb]
    refine bodyPost_ret (v := .tuple #[flowZero, .bool false]) ?_ rfl ⟨by rw [e]; rfl, c01.trans c19 (fun k hk e => by omega)⟩
    simp [results, Tryz.results97, go_sem, d0, d1, d2, d3, d4, d5, d6, d7, d8, d9, d10, d11, d12, flowZero]
  | true =>
    obtain ⟨fit0, ties0, snd0⟩ := bare_fit (canBe_out hcb) hep
    have hco := canBe_out hcb
    have HRa : Hid (R = acceptAll (bare ss ks) xs) := by show _ = _; rw [HR.out]; simp [restore, hcb]
    clear HR
    obtain ⟨W2, hW2⟩ : ∃ W2, W2 = w1.alloc (.cells #[.int .i64 0, .int .i64 0, .slice none 0 0, .int .i64 0, .int .i64 0, .slice none 0 0, .int .i64 0, .int .i64 0, .slice none 0 0, .int .i64 0, .int .i64 0, .slice none 0 0, .slice none 0 0] 98) := ⟨_, rfl⟩
    have c12 : Chg (fun _ => False) w1 W2 := by rw [hW2]; exact (Chg.refl _ w1).alloc _
    have hs2 : W2.heap.size = w1.heap.size + 1 := by rw [hW2]; simp
    have y2 : FlowCells W2 w1.heap.size 0 (upToF (epOf ss) 0) (upToF (baOf ss) 0) (fun _ => .slice none 0 0) (.slice none 0 0) := by
      rw [hW2]
      exact flow_alloc w1 98 (fun _ => 0) (fun _ => 0) (fun _ => .slice none 0 0) (.slice none 0 0)
    have yf2 : ∀ j, W2.frozen? ⟨w1.heap.size, j, none⟩ = false := fun j => by rw [hW2]; exact World.frozen?_alloc_at _ _ _ _ rfl
    have b0' := c12.cellAt b0 id
    have b1' := c12.cellAt b1 id
    obtain ⟨gs, caps, hvs, _, _, hcells⟩ := row_pos hs (by omega)
    have hgs : gs < w.heap.size := (hs.lt gs (by rw [hvs]; rfl)).2
    simp only [Value.slice.injEq] at hvs
    obtain ⟨rfl, _, rfl⟩ := hvs
    have HS2 : Hid (W2.heap.size = w1.heap.size + 1) := hs2
    have HW2 : Hid (W2 = w1.alloc (.cells #[.int .i64 0, .int .i64 0, .slice none 0 0, .int .i64 0, .int .i64 0, .slice none 0 0, .int .i64 0, .int .i64 0, .slice none 0 0, .int .i64 0, .int .i64 0, .slice none 0 0, .slice none 0 0] 98)) := hW2
    rw [hW2] at b0' b1'
    clear hW2 hs2
    go_wp2_with fail
    rw [← HW2.out]
    go_loopw [7, 8, 23] (fun _ _ si wr => ∃ (i : Nat), si = .int .i64 i ∧ i ≤ 4 ∧ FlowCells wr w1.heap.size 0 (upToF (epOf ss) i) (upToF (baOf ss) i) (fun _ => .slice none 0 0) (.slice none 0 0) ∧ (∀ j, wr.frozen? ⟨w1.heap.size, j, none⟩ = false) ∧ Chg (fun k => k = w1.heap.size) W2 wr) (fun _ _ si _ => 4 - (intOf si).toNat)
    case atStart => exact ⟨0, rfl, by omega, y2, yf2, Chg.refl _ _⟩
    case round =>
      obtain ⟨i, rfl, hi4, hFc, hFz, hcg⟩ := hrel
      clear y2 yf2
      have hc1r : Chg (fun k => k = w1.heap.size) w1 wr := (c12.mono (fun _ h => h.elim)).trans hcg (fun _ _ h => h)
      have hcwr : Chg (fun _ => False) w wr := c01.trans hc1r (fun k hk e => by have e' : k = w1.heap.size := e; omega)
      have hsr : w1.heap.size < wr.heap.size := by have := hcg.size; rw [HS2.out] at this; omega
      by_cases hlt : i < 4
      · have hlt' : (i : Int) < 4 := by omega
        obtain ⟨y, hy⟩ : ∃ y, ss[i]? = some y := ⟨_, List.getElem?_eq_getElem (by omega)⟩
        obtain ⟨hye, hyb⟩ := epOf_at hy
        obtain ⟨ye, yb⟩ := y
        have cy := sessRow_at ss i _ hy
        have p0 := hcwr.cellAt (hcells _ _ cy.1) id
        have p1 := hcwr.cellAt (hcells _ _ cy.2.1) id
        have p2 := hcwr.cellAt (hcells _ _ cy.2.2) id
        simp only at p0 p1 hye hyb
        have q0 := hFc.ep i hlt
        have q1 := hFc.ba i hlt
        have q2 := hFc.qu i hlt
        rw [Nat.zero_add] at q0 q1 q2
        have HE : Hid (upToF (epOf ss) (i + 1) = upd (upToF (epOf ss) i) i ye) := by show _ = _; rw [← upToF_step, hye]
        have HB : Hid (upToF (baOf ss) (i + 1) = upd (upToF (baOf ss) i) i yb) := by show _ = _; rw [← upToF_step, hyb]
        clear hye hyb cy
        obtain ⟨W3, hW3⟩ : ∃ W3, W3 = wr.alloc (.cells #[.int .i64 ye, .int .i64 yb, .slice none 0 0] 121) := ⟨_, rfl⟩
        have c3 : Chg (fun _ => False) wr W3 := by rw [hW3]; exact (Chg.refl _ wr).alloc _
        have t0 : W3.cell? ⟨wr.heap.size, 0, none⟩ = some (.int .i64 ye) := by rw [hW3]; exact World.cell?_alloc_at _ _ _ _ rfl
        have t1 : W3.cell? ⟨wr.heap.size, 1, none⟩ = some (.int .i64 yb) := by rw [hW3]; exact World.cell?_alloc_at _ _ _ _ rfl
        have hFc3 := hFc.chg c3 id
        have hFz3 : ∀ j, W3.frozen? ⟨w1.heap.size, j, none⟩ = false := fun j => by rw [hW3]; exact (World.frozen?_alloc_old wr _ ⟨w1.heap.size, j, none⟩ (by simp only; omega)).trans (hFz j)
        go_upto_region 7 with fail
        rw [← hW3]
        clear hW3
        have r0 := c3.cellAt q0 id
        have r1 := c3.cellAt q1 id
        have r2 := c3.cellAt q2 id
        have rz0 := hFz3 (i * 3)
        have rz1 := hFz3 (i * 3 + 1)
        have rz2 := hFz3 (i * 3 + 2)
        go_wp2_with fail
        clear r0 r1 r2 rz0 rz1 rz2 t0 t1
        have hput := lane_put hFc3 hlt ye yb (.slice none 0 0)
        rw [upd_const, ← HE.out, ← HB.out] at hput
        have c34 : Chg (fun k => k = w1.heap.size) W3 (((W3.setCell ⟨w1.heap.size, i * 3, none⟩ (.int .i64 ye)).setCell ⟨w1.heap.size, i * 3 + 1, none⟩ (.int .i64 yb)).setCell ⟨w1.heap.size, i * 3 + 2, none⟩ (.slice none 0 0)) :=
          (((Chg.refl (fun k => k = w1.heap.size) W3).setCell (p := ⟨w1.heap.size, i * 3, none⟩) (fun _ => rfl) _).setCell (p := ⟨w1.heap.size, i * 3 + 1, none⟩) (fun _ => rfl) _).setCell (p := ⟨w1.heap.size, i * 3 + 2, none⟩) (fun _ => rfl) _
        have s34 : Slots w1.heap.size (fun _ => True) W3 (((W3.setCell ⟨w1.heap.size, i * 3, none⟩ (.int .i64 ye)).setCell ⟨w1.heap.size, i * 3 + 1, none⟩ (.int .i64 yb)).setCell ⟨w1.heap.size, i * 3 + 2, none⟩ (.slice none 0 0)) :=
          (((Slots.refl w1.heap.size (fun _ => True) W3).setCell (p := ⟨w1.heap.size, i * 3, none⟩) _ (fun _ => trivial)).setCell (p := ⟨w1.heap.size, i * 3 + 1, none⟩) _ (fun _ => trivial)).setCell (p := ⟨w1.heap.size, i * 3 + 2, none⟩) _ (fun _ => trivial)
        go_roundw
        case rel => exact ⟨i + 1, by go_num, by omega, hput, fun j => (s34.frozen j).trans (hFz3 j), (hcg.trans c3 (fun _ _ h => h.elim)).trans c34 (fun _ _ h => h)⟩
        case measure => simp [intOf]; omega
      · have hi : i = 4 := by omega
        subst hi
        rw [show ((4 : Nat) : Int) = 4 from rfl]
        have hFc' : FlowCells wr w1.heap.size 0 (epOf ss) (baOf ss) (fun _ => .slice none 0 0) (.slice none 0 0) := hFc.congr (fun i hi => by simp [upToF, hi]) (fun i hi => by simp [upToF, hi])
        have d1 : wr.cell? ⟨w.heap.size, 1, none⟩ = some (.slice pk ks.length ck) := hc1r.cellAt b1 (by omega)
        obtain ⟨w5, hw5⟩ : ∃ w5, w5 = wr := ⟨_, rfl⟩
        rw [← hw5] at hFc' hFz hc1r hcwr hsr d1 ⊢
        clear hFc hcg hw5
        obtain ⟨i0, hin, hz0, hz1, hz2⟩ := info_parts Tryz.infoK
        have hw1w5 : w1.heap.size < w5.heap.size := hsr
        go_wp2_with fail
        go_loopw [10, 40] (fun _ si wr => ∃ (i : Nat) (vk' : Value), si = .int .i64 i ∧ i ≤ ks.length ∧ FlowCells wr w1.heap.size 0 (epOf ss) (baOf ss) (fun _ => .slice none 0 0) vk' ∧ (∀ j, wr.frozen? ⟨w1.heap.size, j, none⟩ = false) ∧ wr.ownsRow w5.heap.size 87 4 vk' i (keyCells (ks.take i)) ∧ Chg (fun k => k = w1.heap.size) w1 wr ∧ w5.heap.size ≤ wr.heap.size) (fun _ si _ => ks.length - (intOf si).toNat)
        case atStart => exact ⟨0, _, rfl, by omega, hFc', hFz, World.ownsRow_nil _ _ _ _, hc1r, Nat.le_refl _⟩
        case round =>
          obtain ⟨i, vk', rfl, hik, hFc2, hFz2, hown, hc1r2, hszr⟩ := hrel
          clear hFc' hFz hc1r d1
          have hcwr2 : Chg (fun _ => False) w wr := c01.trans hc1r2 (fun k hk e => by have e' : k = w1.heap.size := e; omega)
          obtain ⟨pk', ck', rfl⟩ := row_any hown
          by_cases hlt : i < ks.length
          · have hlt' : (i : Int) < (ks.length : Int) := by omega
            obtain ⟨x, hx'⟩ : ∃ x, ks[i]? = some x := ⟨_, List.getElem?_eq_getElem hlt⟩
            have cx := keyCells_at ks i x hx'
            obtain ⟨gk, cap', hv, hlg, _, hcell⟩ := row_pos hk (by omega)
            simp only [Value.slice.injEq] at hv
            obtain ⟨rfl, _, rfl⟩ := hv
            have p0 := hcwr2.cellAt (hcell _ _ cx.1) id
            have p1 := hcwr2.cellAt (hcell _ _ cx.2.1) id
            have p2 := hcwr2.cellAt (hcell _ _ cx.2.2.1) id
            have p3 := hcwr2.cellAt (hcell _ _ cx.2.2.2) id
            have hx6 : x.name.size ≤ 6 := (okKey_size (hco.key x (List.mem_of_getElem? hx')).name).2
            have HTK : Hid (ks.take (i + 1) = ks.take i ++ [x]) := by show _ = _; rw [List.take_add_one, hx']; rfl
            obtain ⟨name, count, fold, held⟩ := x
            simp only at p0 p1 p2 p3 hx6
            clear cx hcell
            obtain ⟨W3, hW3⟩ : ∃ W3, W3 = wr.alloc (.cells #[.string name, .int .i64 count, .int .i64 fold, .int .i64 held] 87) := ⟨_, rfl⟩
            have c3 : Chg (fun _ => False) wr W3 := by rw [hW3]; exact (Chg.refl _ wr).alloc _
            have hs3 : W3.heap.size = wr.heap.size + 1 := by rw [hW3]; simp
            have t0 : W3.cell? ⟨wr.heap.size, 0, none⟩ = some (.string name) := by rw [hW3]; exact World.cell?_alloc_at _ _ _ _ rfl
            have t1 : W3.cell? ⟨wr.heap.size, 1, none⟩ = some (.int .i64 count) := by rw [hW3]; exact World.cell?_alloc_at _ _ _ _ rfl
            have t2 : W3.cell? ⟨wr.heap.size, 2, none⟩ = some (.int .i64 fold) := by rw [hW3]; exact World.cell?_alloc_at _ _ _ _ rfl
            have t3 : W3.cell? ⟨wr.heap.size, 3, none⟩ = some (.int .i64 held) := by rw [hW3]; exact World.cell?_alloc_at _ _ _ _ rfl
            have tz : W3.frozen? ⟨wr.heap.size, 0, none⟩ = false := by rw [hW3]; exact World.frozen?_alloc_at _ _ _ _ rfl
            have hcl := clone_any name W3 hx6
            have HS3 : Hid (W3.heap.size = wr.heap.size + 1) := hs3
            clear hs3
            go_upto_region 12 with fail
            rw [← hW3]
            clear hW3
            go_upto_region 13 with (go_at_call 76; refine hcl.mono ?_; rintro _ w4 ⟨rfl, c4⟩; have q0 := c4.cellAt t0 id; have qz : w4.frozen? ⟨wr.heap.size, 0, none⟩ = false := (World.frozen?_of_block (w := W3) (c4.block wr.heap.size (by rw [HS3.out]; omega) id)).trans tz)
            obtain ⟨W5, hW5⟩ : ∃ W5, W5 = w4.setCell ⟨wr.heap.size, 0, none⟩ (.string name) := ⟨_, rfl⟩
            have c45 : Chg (fun k => k = wr.heap.size) w4 W5 := by rw [hW5]; exact (Chg.refl (fun k => k = wr.heap.size) w4).setCell (p := ⟨wr.heap.size, 0, none⟩) (fun _ => rfl) _
            have y0 : W5.cell? ⟨wr.heap.size, 0, none⟩ = some (.string name) := by rw [hW5]; exact World.cell?_setCell_same _ _ _ q0
            have y1 : W5.cell? ⟨wr.heap.size, 1, none⟩ = some (.int .i64 count) := by rw [hW5]; exact (World.cell?_setCell_other _ _ _ _ (by simp)).trans (c4.cellAt t1 id)
            have y2 : W5.cell? ⟨wr.heap.size, 2, none⟩ = some (.int .i64 fold) := by rw [hW5]; exact (World.cell?_setCell_other _ _ _ _ (by simp)).trans (c4.cellAt t2 id)
            have y3 : W5.cell? ⟨wr.heap.size, 3, none⟩ = some (.int .i64 held) := by rw [hW5]; exact (World.cell?_setCell_other _ _ _ _ (by simp)).trans (c4.cellAt t3 id)
            rw [← hW5]
            clear hW5 q0 qz t0 t1 t2 t3 tz
            have cr5 : Chg (fun _ => False) wr W5 := (c3.trans c4 (fun _ _ h => h)).trans c45 (fun k hk e => by have e' : k = wr.heap.size := e; omega)
            have hF5 := hFc2.chg cr5 id
            have hz5 : ∀ j, W5.frozen? ⟨w1.heap.size, j, none⟩ = false := fun j => (World.frozen?_of_block (w := wr) (cr5.block w1.heap.size (by omega) id)).trans (hFz2 j)
            have yk := hF5.le
            rw [Nat.zero_add] at yk
            have ykz := hz5 12
            have hown5 := cr5.row' hown (fun _ _ h => h)
            have hs5 : w5.heap.size ≤ W5.heap.size := Nat.le_trans hszr cr5.size
            obtain ⟨v6, w6, hrun, r1, r2, r3⟩ := run_append_where (P := Tryz.prog) (W5.alloc (.cells #[.string name, .int .i64 count, .int .i64 fold, .int .i64 held] 87)) w5.heap.size 96 96 87 i0 _ 4 40 Tryz.underlying96 hin hz0 hz1 hz2 rfl (by decide) (.slice pk' i ck') i _ (hown5.alloc _) ⟨W5.heap.size, 0, none⟩ 1 1 (⟨name, count, fold, held⟩ : Ky).cells rfl
              (fun j u hu => by rw [add_lit', Nat.zero_add]; rcases j with _ | _ | _ | _ | j <;> simp [Ky.cells] at hu <;> subst hu <;> exact World.cell?_alloc_at _ _ _ _ rfl)
              (fun u hu => by simp [Ky.cells] at hu; rcases hu with rfl | rfl | rfl | rfl <;> rfl) (by unfold maxLen; omega) (by omega) (by simp; omega)
            have c56 : Chg (fun k => (Value.slice pk' i ck').ownBlock = some k) W5 w6 := ((Chg.refl (fun k => (Value.slice pk' i ck').ownBlock = some k) W5).alloc _).trans (G := fun k => (Value.slice pk' i ck').ownBlock = some k) ⟨r2.os, r2.tape, r2.output, r2.size, fun k hk hne => r2.block k hk (fun e => hne e.symm)⟩ (fun _ _ h => h)
            have nw1 : ¬ (Value.slice pk' i ck').ownBlock = some w1.heap.size := fun e => by have := (hown.lt _ e).1; omega
            have hF6 := hF5.chg c56 nw1
            have hz6 : ∀ j, w6.frozen? ⟨w1.heap.size, j, none⟩ = false := fun j => (World.frozen?_of_block (w := W5) (c56.block w1.heap.size (by have := cr5.size; omega) nw1)).trans (hz5 j)
            have yk6 := hF6.le
            rw [Nat.zero_add] at yk6
            have ykz6 := hz6 12
            obtain ⟨p6, k6, rfl⟩ := row_any r1
            go_wp2_with (at_builtin; refine Lib.wpList_append_run _ rfl _ _ 96 96 rfl _ _ rfl rfl _ w6 hrun ?_)
            have c67 : Chg (fun k => k = w1.heap.size) w6 (w6.setCell ⟨w1.heap.size, 12, none⟩ (.slice p6 (i + 1) k6)) := (Chg.refl (fun k => k = w1.heap.size) w6).setCell (p := ⟨w1.heap.size, 12, none⟩) (fun _ => rfl) _
            have s67 : Slots w1.heap.size (fun j => j = 12) w6 (w6.setCell ⟨w1.heap.size, 12, none⟩ (.slice p6 (i + 1) k6)) := (Slots.refl w1.heap.size (fun j => j = 12) w6).setCell (p := ⟨w1.heap.size, 12, none⟩) _ (fun _ => rfl)
            go_roundw
            case rel =>
              refine ⟨i + 1, .slice p6 (i + 1) k6, by go_num, by omega, ⟨fun j hj => (s67.cell _ (by omega)).trans (hF6.ep j hj), fun j hj => (s67.cell _ (by omega)).trans (hF6.ba j hj), fun j hj => (s67.cell _ (by omega)).trans (hF6.qu j hj), World.cell?_setCell_same _ _ _ yk6⟩, fun j => (s67.frozen j).trans (hz6 j), ?_, ?_, ?_⟩
              · rw [HTK.out, keyCells_snoc]
                exact c67.row' r1 (fun k hk e => by have e' : k = w1.heap.size := e; have := (r1.lt k hk).1; omega)
              · refine ((hc1r2.trans cr5 (fun _ _ h => h.elim)).trans c56 (fun k hk e => ?_)).trans c67 (fun _ _ h => h)
                have := (hown.lt k e).1
                omega
              · exact Nat.le_trans hs5 (Nat.le_trans c56.size c67.size)
            case measure => simp [intOf]; omega
          · have hi : i = ks.length := by omega
            subst hi
            rw [List.take_length] at hown
            have hV0 : FlowV wr w5.heap.size (epOf ss) (baOf ss) (fun _ => .slice none 0 0) (.slice pk' ks.length ck') (fun _ => []) ks (bare ss ks) :=
              ⟨fun i _ => World.ownsRow_nil _ _ _ _, row_lower hown (Nat.zero_le _), fun i j _ _ _ g hg => by simp [Value.ownBlock] at hg, fun i _ g hg => by simp [Value.ownBlock] at hg, fit0, ties0, snd0, fun k hk => by
                rcases hk with ⟨i, _, hk⟩ | hk
                · simp [Value.ownBlock] at hk
                · exact (hown.lt k hk).1⟩
            have hF0 := hV0.laid hFc2 hFz2 (fun hk => by have := hV0.young _ hk; omega)
            have hFy : ∀ k, (k = w1.heap.size ∨ Rows (fun _ => .slice none 0 0) (.slice pk' ks.length ck') k) → w1.heap.size ≤ k := fun k hk => by
              rcases hk with rfl | hk
              · exact Nat.le_refl _
              · have := hV0.young k hk; omega
            have hcf1 : Chg (fun _ => False) w1 wr := ⟨hc1r2.os, hc1r2.tape, hc1r2.output, hc1r2.size, fun k hk _ => hc1r2.block k hk (fun e => by have e' : k = w1.heap.size := e; omega)⟩
            obtain ⟨F0, hF0e⟩ : ∃ F0 : Nat → Prop, F0 = fun k => k = w1.heap.size ∨ Rows (fun _ => .slice none 0 0) (.slice pk' ks.length ck') k := ⟨_, rfl⟩
            rw [← hF0e] at hF0
            have hFy0 : ∀ k, F0 k → w1.heap.size ≤ k := by rw [hF0e]; exact hFy
            clear hF0e hFy hV0 hFc2 hFz2 hown hc1r2
            go_wp2_with fail
            go_loopw [12, 13, 14, 15, 57] (fun _ _ _ _ sj wq => ∃ (j : Nat) (s : St) (F : Nat → Prop), sj = .int .i64 j ∧ j ≤ xs.length ∧ FlowIs wq w1.heap.size 0 s F ∧ (∀ k, F k → w1.heap.size ≤ k) ∧ Chg (fun _ => False) w1 wq ∧ Hid (R = acceptAll s (xs.drop j))) (fun _ _ _ _ sj _ => xs.length - (intOf sj).toNat)
            case atStart => exact ⟨0, _, F0, rfl, by omega, hF0, hFy0, hcf1, HRa⟩
            case round =>
              obtain ⟨j, s, F, rfl, hjx, hF, hFy, hcq, HRs⟩ := hrel
              clear hF0 hFy0 hcf1 hcwr2
              have hcwq : Chg (fun _ => False) w wr := c01.trans hcq (fun _ _ h => h)
              have hzq := z1.chg hcq id
              have hzfq : ∀ j, wr.frozen? ⟨w.heap.size + 1, j, none⟩ = false := fun j => (World.frozen?_of_block (w := w1) (hcq.block (w.heap.size + 1) (by omega) id)).trans (zf1 j)
              by_cases hlt : j < xs.length
              · have hlt' : (j : Int) < (xs.length : Int) := by omega
                obtain ⟨x, hx'⟩ : ∃ x, xs[j]? = some x := ⟨_, List.getElem?_eq_getElem hlt⟩
                have cx' := recCells_at xs j x hx'
                obtain ⟨gx, cap', hv, hlg, _, hcell⟩ := row_pos hx (by omega)
                simp only [Value.slice.injEq] at hv
                obtain ⟨rfl, _, rfl⟩ := hv
                have p0 := hcwq.cellAt (hcell _ _ cx'.1) id
                have p1 := hcwq.cellAt (hcell _ _ cx'.2.1) id
                have p2 := hcwq.cellAt (hcell _ _ cx'.2.2.1) id
                have p3 := hcwq.cellAt (hcell _ _ cx'.2.2.2.1) id
                have p4 := hcwq.cellAt (hcell _ _ cx'.2.2.2.2) id
                have hxfit := hxf x (List.mem_of_getElem? hx')
                have HD : Hid (xs.drop j = x :: xs.drop (j + 1)) := by
                  show _ = _
                  rw [List.drop_eq_getElem_cons hlt]
                  congr 1
                  rw [List.getElem?_eq_getElem hlt] at hx'
                  exact Option.some.inj hx'
                clear cx' hcell
                obtain ⟨W3, hW3⟩ : ∃ W3, W3 = wr.alloc (.cells #[.int .i64 x.session, .int .i64 x.epoch, .int .i64 x.number, .string x.key, .int .i64 x.value] 53) := ⟨_, rfl⟩
                have c3 : Chg (fun _ => False) wr W3 := by rw [hW3]; exact (Chg.refl _ wr).alloc _
                have hs3 : W3.heap.size = wr.heap.size + 1 := by rw [hW3]; simp
                have hacc := flowIs_accept x (hF.same c3 (fun _ _ h => h)) hxfit
                have hq1 : w1.heap.size ≤ wr.heap.size := hcq.size
                have HA : Hid (R = if (accept s x).1.2 = 0 then acceptAll (accept s x).2 (xs.drop (j + 1)) else none) := by
                  show _ = _
                  rw [HRs.out, HD.out]; rfl
                clear HRs
                generalize accept s x = A at hacc HA
                obtain ⟨⟨ab, ae⟩, s'⟩ := A
                simp only at hacc HA
                unfold Rec.value' at hacc
                have HS3 : Hid (W3.heap.size = wr.heap.size + 1) := hs3
                have HW3 : Hid (W3 = wr.alloc (.cells #[.int .i64 x.session, .int .i64 x.epoch, .int .i64 x.number, .string x.key, .int .i64 x.value] 53)) := hW3
                clear hs3 hW3
                by_cases h0 : ae = 0
                · subst h0
                  go_wp2_with (go_at_call 40; rw [← HW3.out]; refine hacc.mono ?_; rintro _ w4 ⟨ch, F', rfl, hF', hFF, c4⟩)
                  go_roundw
                  case rel =>
                    refine ⟨j + 1, s', F', by go_num, by omega, hF', fun k hk => ?_, ?_, by rw [HA.out]; rfl⟩
                    · rcases hFF k hk with h | h
                      · exact hFy k h
                      · rw [HS3.out] at h; omega
                    · exact (hcq.trans c3 (fun _ _ h => h)).trans c4 (fun k hk h => by have := hFy k h; omega)
                  case measure => simp [intOf]; omega
                · have h0' : (ae == 0) = false := by simpa using h0
                  go_upto_region 20 with (go_at_call 40; rw [← HW3.out]; refine hacc.mono ?_; rintro _ w4 ⟨ch, F', rfl, hF', hFF, c4⟩)
                  have c14 : Chg F wr w4 := (c3.mono (fun _ h => h.elim)).trans c4 (fun _ _ h => h)
                  have nF : ¬ F (w.heap.size + 1) := fun h => by have := hFy _ h; omega
                  have hz4 := hzq.chg c14 nF
                  have hzf4 : ∀ j, w4.frozen? ⟨w.heap.size + 1, j, none⟩ = false := fun j => (World.frozen?_of_block (w := wr) (c14.block (w.heap.size + 1) (by omega) nF)).trans (hzfq j)
                  have o0 := hz4.ep 0 (by omega)
                  have o1 := hz4.ba 0 (by omega)
                  have o2 := hz4.qu 0 (by omega)
                  have o3 := hz4.ep 1 (by omega)
                  have o4 := hz4.ba 1 (by omega)
                  have o5 := hz4.qu 1 (by omega)
                  have o6 := hz4.ep 2 (by omega)
                  have o7 := hz4.ba 2 (by omega)
                  have o8 := hz4.qu 2 (by omega)
                  have o9 := hz4.ep 3 (by omega)
                  have o10 := hz4.ba 3 (by omega)
                  have o11 := hz4.qu 3 (by omega)
                  have o12 := hz4.le
                  simp only [Nat.zero_mul, Nat.one_mul, Nat.add_zero, Nat.zero_add, Nat.reduceMul, Nat.reduceAdd] at o0 o1 o2 o3 o4 o5 o6 o7 o8 o9 o10 o11 o12
                  have f0 := hzf4 0
                  have f1 := hzf4 1
                  have f2 := hzf4 2
                  have f3 := hzf4 3
                  have f4 := hzf4 4
                  have f5 := hzf4 5
                  have f6 := hzf4 6
                  have f7 := hzf4 7
                  have f8 := hzf4 8
                  have f9 := hzf4 9
                  have f10 := hzf4 10
                  have f11 := hzf4 11
                  have f12 := hzf4 12
                  go_wp2_with fail
                  obtain ⟨W9, hW9⟩ : ∃ W9, W9 = (((((((((((((w4.setCell ⟨w.heap.size + 1, 0, none⟩ (.int .i64 0)).setCell ⟨w.heap.size + 1, 1, none⟩ (.int .i64 0)).setCell ⟨w.heap.size + 1, 2, none⟩ (.slice none 0 0)).setCell ⟨w.heap.size + 1, 3, none⟩ (.int .i64 0)).setCell ⟨w.heap.size + 1, 4, none⟩ (.int .i64 0)).setCell ⟨w.heap.size + 1, 5, none⟩ (.slice none 0 0)).setCell ⟨w.heap.size + 1, 6, none⟩ (.int .i64 0)).setCell ⟨w.heap.size + 1, 7, none⟩ (.int .i64 0)).setCell ⟨w.heap.size + 1, 8, none⟩ (.slice none 0 0)).setCell ⟨w.heap.size + 1, 9, none⟩ (.int .i64 0)).setCell ⟨w.heap.size + 1, 10, none⟩ (.int .i64 0)).setCell ⟨w.heap.size + 1, 11, none⟩ (.slice none 0 0)).setCell ⟨w.heap.size + 1, 12, none⟩ (.slice none 0 0)) := ⟨_, rfl⟩
                  have hput : FlowCells W9 (w.heap.size + 1) 0 (fun _ => 0) (fun _ => 0) (fun _ => .slice none 0 0) (.slice none 0 0) := by rw [hW9]; exact flow_put (fun _ => 0) (fun _ => 0) (fun _ => .slice none 0 0) (.slice none 0 0) (flowCells_some hz4)
                  have c19 : Chg (fun k => k = w.heap.size + 1) w4 W9 := by rw [hW9]; exact (setCells_slots (w.heap.size + 1) (cells13 (fun _ => 0) (fun _ => 0) (fun _ => .slice none 0 0) (.slice none 0 0)) 0 w4).2
                  rw [← hW9]
                  clear hW9 o0 f0 o1 f1 o2 f2 o3 f3 o4 f4 o5 f5 o6 f6 o7 f7 o8 f8 o9 f9 o10 f10 o11 f11 o12 f12
                  have d0 := hput.ep 0 (by omega)
                  have d1 := hput.ba 0 (by omega)
                  have d2 := hput.qu 0 (by omega)
                  have d3 := hput.ep 1 (by omega)
                  have d4 := hput.ba 1 (by omega)
                  have d5 := hput.qu 1 (by omega)
                  have d6 := hput.ep 2 (by omega)
                  have d7 := hput.ba 2 (by omega)
                  have d8 := hput.qu 2 (by omega)
                  have d9 := hput.ep 3 (by omega)
                  have d10 := hput.ba 3 (by omega)
                  have d11 := hput.qu 3 (by omega)
                  have d12 := hput.le
                  simp only [Nat.zero_mul, Nat.one_mul, Nat.add_zero, Nat.zero_add, Nat.reduceMul, Nat.reduceAdd] at d0 d1 d2 d3 d4 d5 d6 d7 d8 d9 d10 d11 d12
                  have e : R = none := by rw [HA.out, if_neg h0]
                  refine bodyPost_ret (v := .tuple #[flowZero, .bool false]) ?_ rfl ⟨by rw [e]; rfl, (hcwq.trans c14 (fun k hk h => by have := hFy k h; omega)).trans c19 (fun k hk e => by omega)⟩
                  simp [results, Tryz.results97, go_sem, d0, d1, d2, d3, d4, d5, d6, d7, d8, d9, d10, d11, d12, flowZero]
              · have hj : j = xs.length := by omega
                subst hj
                have e : Hid (R = some s) := by show _ = _; rw [HRs.out, List.drop_length]; rfl
                clear HRs
                obtain ⟨E, B, V, vk, Q, ks', hFc, hV⟩ := hF.taken (lo := w1.heap.size) (fun k hk => .inr (hFy k hk))
                obtain ⟨p0, n0, hV0⟩ := row_any (hV.rows 0 (by omega))
                obtain ⟨p1, n1, hV1⟩ := row_any (hV.rows 1 (by omega))
                obtain ⟨p2, n2, hV2⟩ := row_any (hV.rows 2 (by omega))
                obtain ⟨p3, n3, hV3⟩ := row_any (hV.rows 3 (by omega))
                obtain ⟨pk2, nk2, hvk⟩ := row_any hV.keys
                have o0 := hzq.ep 0 (by omega)
                have o1 := hzq.ba 0 (by omega)
                have o2 := hzq.qu 0 (by omega)
                have o3 := hzq.ep 1 (by omega)
                have o4 := hzq.ba 1 (by omega)
                have o5 := hzq.qu 1 (by omega)
                have o6 := hzq.ep 2 (by omega)
                have o7 := hzq.ba 2 (by omega)
                have o8 := hzq.qu 2 (by omega)
                have o9 := hzq.ep 3 (by omega)
                have o10 := hzq.ba 3 (by omega)
                have o11 := hzq.qu 3 (by omega)
                have o12 := hzq.le
                simp only [Nat.zero_mul, Nat.one_mul, Nat.add_zero, Nat.zero_add, Nat.reduceMul, Nat.reduceAdd] at o0 o1 o2 o3 o4 o5 o6 o7 o8 o9 o10 o11 o12
                have f0 := hzfq 0
                have f1 := hzfq 1
                have f2 := hzfq 2
                have f3 := hzfq 3
                have f4 := hzfq 4
                have f5 := hzfq 5
                have f6 := hzfq 6
                have f7 := hzfq 7
                have f8 := hzfq 8
                have f9 := hzfq 9
                have f10 := hzfq 10
                have f11 := hzfq 11
                have f12 := hzfq 12
                have y0 := hFc.ep 0 (by omega)
                have y1 := hFc.ba 0 (by omega)
                have y2 := hFc.qu 0 (by omega)
                have y3 := hFc.ep 1 (by omega)
                have y4 := hFc.ba 1 (by omega)
                have y5 := hFc.qu 1 (by omega)
                have y6 := hFc.ep 2 (by omega)
                have y7 := hFc.ba 2 (by omega)
                have y8 := hFc.qu 2 (by omega)
                have y9 := hFc.ep 3 (by omega)
                have y10 := hFc.ba 3 (by omega)
                have y11 := hFc.qu 3 (by omega)
                have y12 := hFc.le
                simp only [Nat.zero_mul, Nat.one_mul, Nat.add_zero, Nat.zero_add, Nat.reduceMul, Nat.reduceAdd] at y0 y1 y2 y3 y4 y5 y6 y7 y8 y9 y10 y11 y12
                rw [hV0] at y2
                rw [hV1] at y5
                rw [hV2] at y8
                rw [hV3] at y11
                rw [hvk] at y12
                have HV0 : Hid (V 0 = .slice p0 (Q 0).length n0) := hV0
                have HV1 : Hid (V 1 = .slice p1 (Q 1).length n1) := hV1
                have HV2 : Hid (V 2 = .slice p2 (Q 2).length n2) := hV2
                have HV3 : Hid (V 3 = .slice p3 (Q 3).length n3) := hV3
                have HVK : Hid (vk = .slice pk2 ks'.length nk2) := hvk
                clear hV0 hV1 hV2 hV3 hvk
                go_wp2_with fail
                obtain ⟨W9, hW9⟩ : ∃ W9, W9 = (((((((((((((wr.setCell ⟨w.heap.size + 1, 0, none⟩ (.int .i64 (E 0))).setCell ⟨w.heap.size + 1, 1, none⟩ (.int .i64 (B 0))).setCell ⟨w.heap.size + 1, 2, none⟩ (.slice p0 (Q 0).length n0)).setCell ⟨w.heap.size + 1, 3, none⟩ (.int .i64 (E 1))).setCell ⟨w.heap.size + 1, 4, none⟩ (.int .i64 (B 1))).setCell ⟨w.heap.size + 1, 5, none⟩ (.slice p1 (Q 1).length n1)).setCell ⟨w.heap.size + 1, 6, none⟩ (.int .i64 (E 2))).setCell ⟨w.heap.size + 1, 7, none⟩ (.int .i64 (B 2))).setCell ⟨w.heap.size + 1, 8, none⟩ (.slice p2 (Q 2).length n2)).setCell ⟨w.heap.size + 1, 9, none⟩ (.int .i64 (E 3))).setCell ⟨w.heap.size + 1, 10, none⟩ (.int .i64 (B 3))).setCell ⟨w.heap.size + 1, 11, none⟩ (.slice p3 (Q 3).length n3)).setCell ⟨w.heap.size + 1, 12, none⟩ (.slice pk2 ks'.length nk2)) := ⟨_, rfl⟩
                have hW9' : W9 = wr.setCells (w.heap.size + 1) 0 (cells13 E B V vk) := by rw [hW9]; unfold cells13; rw [HV0.out, HV1.out, HV2.out, HV3.out, HVK.out]; rfl
                have hput : FlowCells W9 (w.heap.size + 1) 0 E B V vk := by rw [hW9']; exact flow_put E B V vk (flowCells_some hzq)
                have c19 : Chg (fun k => k = w.heap.size + 1) wr W9 := by rw [hW9']; exact (setCells_slots (w.heap.size + 1) (cells13 E B V vk) 0 wr).2
                rw [← hW9]
                clear hW9 hW9' o0 f0 y0 o1 f1 y1 o2 f2 y2 o3 f3 y3 o4 f4 y4 o5 f5 y5 o6 f6 y6 o7 f7 y7 o8 f8 y8 o9 f9 y9 o10 f10 y10 o11 f11 y11 o12 f12 y12
                have d0 := hput.ep 0 (by omega)
                have d1 := hput.ba 0 (by omega)
                have d2 := hput.qu 0 (by omega)
                have d3 := hput.ep 1 (by omega)
                have d4 := hput.ba 1 (by omega)
                have d5 := hput.qu 1 (by omega)
                have d6 := hput.ep 2 (by omega)
                have d7 := hput.ba 2 (by omega)
                have d8 := hput.qu 2 (by omega)
                have d9 := hput.ep 3 (by omega)
                have d10 := hput.ba 3 (by omega)
                have d11 := hput.qu 3 (by omega)
                have d12 := hput.le
                simp only [Nat.zero_mul, Nat.one_mul, Nat.add_zero, Nat.zero_add, Nat.reduceMul, Nat.reduceAdd] at d0 d1 d2 d3 d4 d5 d6 d7 d8 d9 d10 d11 d12
                refine bodyPost_ret (v := .tuple #[flowVal E B V vk, .bool true]) ?_ rfl ⟨?_, hcwq.trans c19 (fun k hk e => by omega)⟩
                · simp [results, Tryz.results97, go_sem, d0, d1, d2, d3, d4, d5, d6, d7, d8, d9, d10, d11, d12, flowVal]
                · rw [e.out]
                  refine ⟨E, B, V, vk, Q, ks', rfl, (hV.older (by omega)).chg c19 (fun k hk e => ?_)⟩
                  have e' : k = w.heap.size + 1 := e
                  have := hV.young k hk
                  omega
end Go.Proofs.YthedkdbgfdjlkaaGreatDoor

namespace Go.Proofs.YthedkdbgfdjlkaaGreatDoor
set_option linter.unusedVariables false
set_option linter.unusedSimpArgs false
open Go.RowKit Go.Lib
def ErrAt (w : World) (b : Nat) : Option (Nat × Int) → Prop
  | none => w.cell? ⟨b, 2, none⟩ = some .nilIface
  | some (p, f) => ∃ g, w.cell? ⟨b, 2, none⟩ = some (.iface 231 (.pointer (some ⟨g, 0, none⟩))) ∧ g ≠ b ∧ w.cell? ⟨g, 0, none⟩ = some (.int .i64 p) ∧ w.cell? ⟨g, 1, none⟩ = some (.iface 154 (.int .i64 f))
structure RdAt (w : World) (b : Nat) (row : ByteArray) (r : Rs) : Prop where
  src : w.cell? ⟨b, 0, none⟩ = some (.string row)
  pos : w.cell? ⟨b, 1, none⟩ = some (.int .i64 r.at_)
  err : ErrAt w b r.err
  fz : ∀ j, w.frozen? ⟨b, j, none⟩ = false
  fits : r.at_ ≤ row.size
  max : row.size ≤ maxLen
theorem RdAt.chg {F : Nat → Prop} {w w' : World} {b : Nat} {row : ByteArray} {r : Rs} (h : RdAt w b row r) (c : Chg F w w') (hb : ¬ F b) (he : r.err = none ∨ ∀ k, ¬ F k) : RdAt w' b row r := by
  refine ⟨c.cellAt h.src hb, c.cellAt h.pos hb, ?_, fun j => (World.frozen?_of_block (w := w) (c.block b (World.block_lt_of_cell? _ _ h.src) hb)).trans (h.fz j), h.fits, h.max⟩
  have hE := h.err
  cases e : r.err with
  | none => rw [e] at hE; exact c.cellAt hE hb
  | some x =>
    obtain ⟨p, f⟩ := x
    rw [e] at hE
    obtain ⟨g, h1, h2, h3, h4⟩ := hE
    rcases he with he | he
    · rw [e] at he; cases he
    · exact ⟨g, c.cellAt h1 hb, h2, c.cellAt h3 (he g), c.cellAt h4 (he g)⟩
theorem RdAt.chgE {F : Nat → Prop} {w w' : World} {b : Nat} {row : ByteArray} {r : Rs} (h : RdAt w b row r) (c : Chg F w w') (hb : ¬ F b) (he : ∀ g f, w.cell? ⟨g, 1, none⟩ = some (.iface 154 (.int .i64 f)) → ¬ F g) : RdAt w' b row r := by
  refine ⟨c.cellAt h.src hb, c.cellAt h.pos hb, ?_, fun j => (World.frozen?_of_block (w := w) (c.block b (World.block_lt_of_cell? _ _ h.src) hb)).trans (h.fz j), h.fits, h.max⟩
  have hE := h.err
  cases e : r.err with
  | none => rw [e] at hE; exact c.cellAt hE hb
  | some x =>
    obtain ⟨p, f⟩ := x
    rw [e] at hE
    obtain ⟨g, h1, h2, h3, h4⟩ := hE
    exact ⟨g, c.cellAt h1 hb, h2, c.cellAt h3 (he g f h4), c.cellAt h4 (he g f h4)⟩
set_option maxRecDepth 100000 in
theorem rfail_any {w : World} {b : Nat} {row : ByteArray} {r : Rs} (h : RdAt w b row r) (f : Int) : Calls Tryz.prog 92 #[.pointer (some ⟨b, 0, none⟩), .int .i64 f] w fun e w' =>
    e = .returned (.tuple #[]) ∧ RdAt w' b row (r.fail f) ∧ Chg (fun k => k = b) w w' := by
  have hE := h.err
  have h1 := h.pos
  have h0 := h.src
  have hb := World.block_lt_of_cell? _ _ h0
  cases e : r.err with
  | some x =>
    obtain ⟨p, fo⟩ := x
    rw [e] at hE
    obtain ⟨g, c2, hg, g0, g1⟩ := hE
    rw [r.fail_some f e]
    go_enter Tryz.func92, Tryz.ntmps92
    go_wp2
    go_end0
    exact ⟨rfl, h, Chg.refl _ _⟩
  | none =>
    rw [e] at hE
    have c2 : w.cell? ⟨b, 2, none⟩ = some .nilIface := hE
    have hal : ∀ (p : Addr) (v : Value), w.cell? p = some v → ∀ ob, (w.alloc ob).cell? p = some v := fun p v hv ob => (World.cell?_alloc_lt w ob p (World.block_lt_of_cell? _ _ hv)).trans hv
    have a2 := hal _ _ c2
    have z2 : ∀ ob, (w.alloc ob).frozen? ⟨b, 2, none⟩ = false := fun ob => (World.frozen?_alloc_old w ob ⟨b, 2, none⟩ (Nat.ne_of_lt hb)).trans (h.fz 2)
    rw [r.fail_none f e]
    go_enter Tryz.func92, Tryz.ntmps92
    go_wp2
    go_end0
    obtain ⟨W1, hW1⟩ : ∃ W1, W1 = w.setCell ⟨b, 2, none⟩ (.iface 231 (.pointer (some ⟨w.heap.size, 0, none⟩))) := ⟨_, rfl⟩
    have c1 : Chg (fun k => k = b) w W1 := by rw [hW1]; exact (Chg.refl (fun k => k = b) w).setCell (p := ⟨b, 2, none⟩) (fun _ => rfl) _
    have hsz : W1.heap.size = w.heap.size := by rw [hW1]; simp [World.setCell]
    have d0 : W1.cell? ⟨b, 0, none⟩ = some (.string row) := by rw [hW1]; exact (World.cell?_setCell_other _ _ _ _ (by simp)).trans h0
    have d1 : W1.cell? ⟨b, 1, none⟩ = some (.int .i64 r.at_) := by rw [hW1]; exact (World.cell?_setCell_other _ _ _ _ (by simp)).trans h1
    have d2 : W1.cell? ⟨b, 2, none⟩ = some (.iface 231 (.pointer (some ⟨w.heap.size, 0, none⟩))) := by rw [hW1]; exact World.cell?_setCell_same _ _ _ c2
    have z1 : ∀ j, W1.frozen? ⟨b, j, none⟩ = false := fun j => by rw [hW1]; exact (((Slots.refl b (fun _ => True) w).setCell (p := ⟨b, 2, none⟩) (.iface 231 (.pointer (some ⟨w.heap.size, 0, none⟩))) (fun _ => trivial)).frozen j).trans (h.fz j)
    rw [← hW1]
    clear hW1
    have c2 : Chg (fun _ => False) W1 (W1.alloc (.cells #[.int .i64 r.at_, .iface 154 (.int .i64 f)] 233)) := (Chg.refl _ W1).alloc _
    refine ⟨rfl, ⟨c2.cellAt d0 id, c2.cellAt d1 id, ⟨w.heap.size, c2.cellAt d2 id, by omega, World.cell?_alloc_at _ _ _ _ (by rw [hsz]), World.cell?_alloc_at _ _ _ _ (by rw [hsz])⟩, fun j => (World.frozen?_alloc_old W1 _ ⟨b, j, none⟩ (by simp only; omega)).trans (z1 j), h.fits, h.max⟩, c1.trans c2 (fun _ _ h => h.elim)⟩
set_option maxRecDepth 100000 in
set_option maxHeartbeats 1000000 in
theorem rtext_any {w : World} {b : Nat} {row : ByteArray} {r : Rs} (h : RdAt w b row r) (n : Nat) (hn : n ≤ 1000) : Calls Tryz.prog 91 #[.pointer (some ⟨b, 0, none⟩), .int .i64 n] w fun e w' =>
    e = .returned (.string (rText row n r).1) ∧ RdAt w' b row (rText row n r).2 ∧ Chg (fun k => k = b) w w' := by
  have hE := h.err
  have h1 := h.pos
  have h0 := h.src
  have hb := World.block_lt_of_cell? _ _ h0
  have hfit := h.fits
  have hmax := h.max
  unfold maxLen at hmax
  cases e : r.err with
  | some x =>
    obtain ⟨p, fo⟩ := x
    rw [e] at hE
    obtain ⟨g, c2, hg, g0, g1⟩ := hE
    rw [rText_some row n r e]
    go_enter Tryz.func91, Tryz.ntmps91
    go_wp2_with fail
    go_quiet (fail)
    go_wp2_with fail
    go_ret
    have cq : Chg (fun _ => False) w (w.drewN nq) := (Chg.refl _ w).drewN' _
    exact ⟨rfl, h.chg cq id (.inr fun _ => id), cq.mono (fun _ h => h.elim)⟩
  | none =>
    rw [e] at hE
    have c2 : w.cell? ⟨b, 2, none⟩ = some .nilIface := hE
    by_cases hs : row.size < r.at_ + n
    · rw [rText_cut row n r e hs]
      have hs' : (row.size : Int) - r.at_ < n := by omega
      go_enter Tryz.func91, Tryz.ntmps91
      go_wp2_with fail
      go_quiet (fail)
      have cq : Chg (fun _ => False) w (w.drewN nq) := (Chg.refl _ w).drewN' _
      have hq := h.chg cq id (.inl e)
      have hf := rfail_any hq 1
      rw [r.fail_none 1 e] at hf
      generalize w.drewN nq = w0 at hf cq ⊢
      go_wp2_with (go_at_call 92; refine hf.mono ?_; rintro _ w1 ⟨rfl, h1', c1⟩; obtain ⟨g, d2, _⟩ := h1'.err)
      go_ret
      exact ⟨rfl, h1', (cq.mono (fun _ h => h.elim)).trans c1 (fun _ _ h => h)⟩
    · rw [rText_ok row n r e hs]
      have hs' : ¬ (row.size : Int) - r.at_ < n := by omega
      have f1 := h.fz 1
      go_enter Tryz.func91, Tryz.ntmps91
      go_wp2_with fail
      go_quiet (fail)
      have cq : Chg (fun _ => False) w (w.drewN nq) := (Chg.refl _ w).drewN' _
      have hq := h.chg cq id (.inl e)
      generalize w.drewN nq = w0 at cq hq ⊢
      have q0 := hq.src
      have q1 := hq.pos
      have qE := hq.err
      rw [e] at qE
      have q2 : w0.cell? ⟨b, 2, none⟩ = some .nilIface := qE
      have qz := hq.fz 1
      clear h0 h1 c2 hE
      obtain ⟨W1, hW1⟩ : ∃ W1, W1 = w0.setCell ⟨b, 1, none⟩ (.int .i64 (r.at_ + n)) := ⟨_, rfl⟩
      have c01 : Chg (fun k => k = b) w0 W1 := by rw [hW1]; exact (Chg.refl (fun k => k = b) w0).setCell (p := ⟨b, 1, none⟩) (fun _ => rfl) _
      have d0 : W1.cell? ⟨b, 0, none⟩ = some (.string row) := by rw [hW1]; exact (World.cell?_setCell_other _ _ _ _ (by simp)).trans q0
      have d1 : W1.cell? ⟨b, 1, none⟩ = some (.int .i64 (r.at_ + n)) := by rw [hW1]; exact World.cell?_setCell_same _ _ _ q1
      have d2 : W1.cell? ⟨b, 2, none⟩ = some .nilIface := by rw [hW1]; exact (World.cell?_setCell_other _ _ _ _ (by simp)).trans q2
      have z1 : ∀ j, W1.frozen? ⟨b, j, none⟩ = false := fun j => by rw [hW1]; exact (((Slots.refl b (fun _ => True) w0).setCell (p := ⟨b, 1, none⟩) (.int .i64 (r.at_ + n)) (fun _ => trivial)).frozen j).trans (hq.fz j)
      go_wp2_with fail
      rw [← hW1]
      clear hW1
      have he1 : ((r.at_ : Int) + n - n) = r.at_ := by omega
      go_quiet (fail)
      go_wp2_with fail
      go_ret
      have cq1 : Chg (fun _ => False) W1 (W1.drewN nq) := (Chg.refl _ W1).drewN' _
      refine ⟨by simp, ⟨cq1.cellAt d0 id, by rw [Int.natCast_add]; exact cq1.cellAt d1 id, cq1.cellAt d2 id, fun j => z1 j, by simp only; omega, h.max⟩, ((cq.mono (fun _ h => h.elim)).trans c01 (fun _ _ h => h)).trans (cq1.mono (fun _ h => h.elim)) (fun _ _ h => h)⟩
end Go.Proofs.YthedkdbgfdjlkaaGreatDoor

namespace Go.Proofs.YthedkdbgfdjlkaaGreatDoor
set_option linter.unusedVariables false
set_option linter.unusedSimpArgs false
open Go.RowKit Go.Lib
set_option maxRecDepth 100000 in
theorem digit_low (c : Nat) (h : c < 256) : bits .andNot .u8 (c : Int) 128 = ((c % 128 : Nat) : Int) := by
  have : ∀ r : Fin 256, bits .andNot .u8 ((r.val : Nat) : Int) 128 = ((r.val % 128 : Nat) : Int) := by decide
  exact this ⟨c, h⟩
theorem w64_of (n : Nat) (h : n < 9223372036854775808) : IntKind.i64.wrap (n : Int) = (n : Int) := by
  simp [IntKind.wrap, IntKind.bits, IntKind.signed]
  omega
theorem sum_lt {a d sh : Nat} (ha : a < 2 ^ sh) (hd : d < 128) (hsh : sh ≤ 56) : a + d * 2 ^ sh < 9223372036854775808 ∧ d * 2 ^ sh < 9223372036854775808 := by
  have h1 : 2 ^ sh ≤ 2 ^ 56 := Nat.pow_le_pow_right (by omega) hsh
  have h2 : d * 2 ^ sh ≤ 127 * 2 ^ sh := Nat.mul_le_mul_right _ (by omega)
  omega
theorem or_add {a d sh : Nat} (ha : a < 2 ^ sh) (hd : d < 128) (hsh : sh ≤ 56) : bits .or .i64 (a : Int) ((d * 2 ^ sh : Nat) : Int) = ((a + d * 2 ^ sh : Nat) : Int) := by
  obtain ⟨h1, h2⟩ := sum_lt ha hd hsh
  have hor : a ||| d * 2 ^ sh = a + d * 2 ^ sh := by
    have := Nat.shiftLeft_add_eq_or_of_lt ha d
    rw [Nat.shiftLeft_eq] at this
    rw [Nat.or_comm, ← this, Nat.add_comm]
  unfold bits
  simp only [BitVec.ofInt_natCast, BitVec.toNat_or, BitVec.toNat_ofNat]
  show IntKind.i64.wrap (((a % 2 ^ 64 ||| d * 2 ^ sh % 2 ^ 64 : Nat)) : Int) = _
  rw [Nat.mod_eq_of_lt (by omega), Nat.mod_eq_of_lt (by omega), hor, w64_of _ h1]
theorem sum_eq {c : UInt8} {sum j : Nat} (hsum : sum < 2 ^ (7 * j)) (hj : j ≤ 8) : bits .or .i64 (sum : Int) (wrap64 (wrap64 (bits .andNot .u8 (c.toNat : Int) 128) * 2 ^ (7 * j))) = ((sum + c.toNat % 128 * 2 ^ (7 * j) : Nat) : Int) := by
  have hdl : c.toNat % 128 < 128 := by omega
  obtain ⟨s1, s2⟩ := sum_lt (sh := 7 * j) hsum hdl (by omega)
  have e1 : wrap64 ((c.toNat % 128 : Nat) : Int) = ((c.toNat % 128 : Nat) : Int) := by unfold wrap64; omega
  have e2 : ((c.toNat % 128 : Nat) : Int) * 2 ^ (7 * j) = ((c.toNat % 128 * 2 ^ (7 * j) : Nat) : Int) := by rw [Int.natCast_mul, Int.natCast_pow]; rfl
  have e3 : wrap64 ((c.toNat % 128 * 2 ^ (7 * j) : Nat) : Int) = ((c.toNat % 128 * 2 ^ (7 * j) : Nat) : Int) := by unfold wrap64; omega
  rw [digit_low c.toNat c.toNat_lt, e1, e2, e3]
  exact or_add hsum hdl (by omega)
theorem rText_one (row : ByteArray) (r : Rs) (h : r.err = none) (hs : ¬ row.size < r.at_ + 1) : ∃ c : UInt8, rText row 1 r = (⟨#[c]⟩, ⟨r.at_ + 1, none⟩) := by
  rw [rText_ok row 1 r h hs]
  have hsz : (row.extract r.at_ (r.at_ + 1)).size = 1 := by simp only [ByteArray.size_extract]; omega
  obtain ⟨⟨l⟩, e⟩ : ∃ a : Array UInt8, row.extract r.at_ (r.at_ + 1) = ⟨a⟩ := ⟨(row.extract r.at_ (r.at_ + 1)).data, rfl⟩
  rw [e] at hsz ⊢
  match l, hsz with
  | [c], _ => exact ⟨c, rfl⟩
set_option maxRecDepth 100000 in
set_option maxHeartbeats 2000000 in
theorem rnum_any {w : World} {b : Nat} {row : ByteArray} {r : Rs} (h : RdAt w b row r) : Calls Tryz.prog 93 #[.pointer (some ⟨b, 0, none⟩)] w fun e w' =>
    e = .returned (.int .i64 (rNum row r).1) ∧ RdAt w' b row (rNum row r).2 ∧ Chg (fun k => k = b) w w' := by
  obtain ⟨R, hR⟩ : ∃ R, R = rNum row r := ⟨_, rfl⟩
  have HR : Hid (rNumFrom row 9 0 0 r = R) := hR.symm
  rw [← hR]
  clear hR
  go_enter Tryz.func93, Tryz.ntmps93
  go_wp2_with fail
  go_loopw [3, 4, 5] (fun ss sh _ wr => ∃ (j sum : Nat) (r' : Rs), ss = .int .i64 sum ∧ sh = .int .i64 ((7 * j : Nat) : Int) ∧ j ≤ 9 ∧ sum < 2 ^ (7 * j) ∧ RdAt wr b row r' ∧ Chg (fun k => k = b) w wr ∧ Hid (rNumFrom row (9 - j) (7 * j) sum r' = R)) (fun _ sh _ _ => 63 - (intOf sh).toNat)
  case atStart => exact ⟨0, 0, r, rfl, rfl, by omega, by simp, h, Chg.refl _ _, HR⟩
  case round =>
    obtain ⟨j, sum, r', rfl, rfl, hj, hsum, hr, hc, HJ⟩ := hrel
    by_cases hj9 : j = 9
    · subst hj9
      have hf := rfail_any hr 2
      go_wp2_with (go_at_call 92; refine hf.mono ?_; rintro _ w1 ⟨rfl, h1', c1⟩)
      go_ret
      have e : R = (0, r'.fail 2) := HJ.out.symm
      rw [e]
      exact ⟨rfl, h1', hc.trans c1 (fun _ _ h => h)⟩
    · have hj8 : ((7 * j : Nat) : Int) < 63 := by omega
      have ht := rtext_any hr 1 (by omega)
      obtain ⟨k, hk⟩ : ∃ k, 9 - j = k + 1 := ⟨8 - j, by omega⟩
      rw [hk] at HJ
      by_cases hone : ∃ c : UInt8, rText row 1 r' = (⟨#[c]⟩, ⟨r'.at_ + 1, none⟩)
      · obtain ⟨c, hone⟩ := hone
        rw [hone] at ht
        have hix : (⟨#[c]⟩ : ByteArray)[0]'(Nat.zero_lt_one) = c := rfl
        have hj8' : j ≤ 8 := by omega
        obtain ⟨s1, s2⟩ := sum_lt (d := c.toNat % 128) (sh := 7 * j) hsum (by omega) (by omega)
        have hsum' : sum + c.toNat % 128 * 2 ^ (7 * j) < 2 ^ (7 * (j + 1)) := by
          have h2 : c.toNat % 128 * 2 ^ (7 * j) ≤ 127 * 2 ^ (7 * j) := Nat.mul_le_mul_right _ (by omega)
          have h3 : 2 ^ (7 * (j + 1)) = 128 * 2 ^ (7 * j) := by rw [Nat.mul_add, Nat.pow_add]; omega
          omega
        by_cases hc1 : c.toNat < 128
        · have hc1' : (c.toNat : Int) < 128 := by omega
          go_wp2_with (go_at_call 91; refine ht.mono ?_; rintro _ w1 ⟨rfl, h1', c1⟩)
          go_ret
          have e : R = (sum + c.toNat % 128 * 2 ^ (7 * j), ⟨r'.at_ + 1, none⟩) := by
            have := HJ.out
            unfold rNumFrom at this
            rw [hone] at this
            simp only [hc1, if_true] at this
            exact this.symm
          rw [e]
          refine ⟨?_, h1', hc.trans c1 (fun _ _ h => h)⟩
          have := sum_eq (c := c) hsum hj8'
          simp [this]
        · have hc1' : ¬ (c.toNat : Int) < 128 := by omega
          go_wp2_with (go_at_call 91; refine ht.mono ?_; rintro _ w1 ⟨rfl, h1', c1⟩)
          refine ⟨⟨j + 1, _, _, by rw [sum_eq hsum hj8'], by rw [show 7 * (j + 1) = 7 * j + 7 by omega, Int.natCast_add, Int.natCast_mul]; rfl, by omega, hsum', h1', hc.trans c1 (fun _ _ h => h), ?_⟩, by simp [intOf]; omega⟩
          show _ = _
          rw [← HJ.out]
          conv => rhs; unfold rNumFrom
          rw [hone]
          simp only [hc1, if_false]
          rw [show 9 - (j + 1) = k by omega, show 7 * (j + 1) = 7 * j + 7 by omega]
      · have hnil : (rText row 1 r').1 = ⟨#[]⟩ := by
          cases e : r'.err with
          | some x => rw [rText_some row 1 r' e]
          | none =>
            by_cases hs : row.size < r'.at_ + 1
            · rw [rText_cut row 1 r' e hs]
            · exact absurd (rText_one row r' e hs) hone
        rw [hnil] at ht
        go_wp2_with (go_at_call 91; refine ht.mono ?_; rintro _ w1 ⟨rfl, h1', c1⟩)
        go_ret
        have e : R = (0, (rText row 1 r').2) := by
          have := HJ.out
          unfold rNumFrom at this
          rw [hnil] at this
          exact this.symm
        rw [e]
        exact ⟨rfl, h1', hc.trans c1 (fun _ _ h => h)⟩
end Go.Proofs.YthedkdbgfdjlkaaGreatDoor

namespace Go.Proofs.YthedkdbgfdjlkaaGreatDoor
set_option linter.unusedVariables false
set_option linter.unusedSimpArgs false
open Go.RowKit Go.Lib
set_option maxHeartbeats 1000000 in
theorem rupTo_any {w : World} {b : Nat} {row : ByteArray} {r : Rs} (h : RdAt w b row r) (n : Nat) : Calls Tryz.prog 94 #[.pointer (some ⟨b, 0, none⟩), .int .i64 n] w fun e w' =>
    e = .returned (.int .i64 (rUpTo row n r).1) ∧ RdAt w' b row (rUpTo row n r).2 ∧ Chg (fun k => k = b) w w' := by
  have hn := rnum_any h
  unfold rUpTo
  generalize rNum row r = q at hn ⊢
  obtain ⟨N, r1⟩ := q
  simp only at hn ⊢
  by_cases hg : n < N
  · have hg' : (n : Int) < (N : Int) := by omega
    rw [if_pos hg]
    go_enter Tryz.func94, Tryz.ntmps94
    go_wp2_with fail
    refine hn.mono ?_
    rintro _ w1 ⟨rfl, h1, c1⟩
    have hf := rfail_any h1 2
    go_wp2_with (go_at_call 92; refine hf.mono ?_; rintro _ w2 ⟨rfl, h2, c2⟩)
    go_ret
    exact ⟨rfl, h2, c1.trans c2 (fun _ _ h => h)⟩
  · have hg' : ¬ (n : Int) < (N : Int) := by omega
    rw [if_neg hg]
    go_enter Tryz.func94, Tryz.ntmps94
    go_wp2_with fail
    refine hn.mono ?_
    rintro _ w1 ⟨rfl, h1, c1⟩
    go_wp2_with fail
    go_ret
    exact ⟨rfl, h1, c1⟩
set_option maxHeartbeats 1000000 in
theorem rkey_any {w : World} {b : Nat} {row : ByteArray} {r : Rs} (h : RdAt w b row r) : Calls Tryz.prog 95 #[.pointer (some ⟨b, 0, none⟩)] w fun e w' =>
    e = .returned (.string (rKey row r).1) ∧ RdAt w' b row (rKey row r).2 ∧ Chg (fun k => k = b) w w' := by
  have hn := rupTo_any h 6
  have hle := rUpTo_le row 6 r
  unfold rKey
  generalize rUpTo row 6 r = q at hn hle ⊢
  obtain ⟨N, r1⟩ := q
  simp only at hn hle ⊢
  go_enter Tryz.func95, Tryz.ntmps95
  go_wp2_with fail
  refine hn.mono ?_
  rintro _ w1 ⟨rfl, h1, c1⟩
  have ht := rtext_any h1 N (by omega)
  go_wp2_with fail
  refine ht.mono ?_
  rintro _ w2 ⟨rfl, h2, c2⟩
  go_wp2_with fail
  go_ret
  exact ⟨rfl, h2, c1.trans c2 (fun _ _ h => h)⟩
theorem rRec_fits (row : ByteArray) (r : Rs) : (rRec row r).1.fits := by
  have h1 := rNum_lt row r
  have h2 := rNum_lt row (rNum row r).2
  have h3 := rNum_lt row (rNum row (rNum row r).2).2
  have h4 := rKey_size row (rNum row (rNum row (rNum row r).2).2).2
  have h5 := rNum_lt row (rKey row (rNum row (rNum row (rNum row r).2).2).2).2
  refine ⟨?_, ?_, ?_, ?_, ?_⟩
  · simp only [rRec, inInt]; omega
  · simp only [rRec, inInt]; omega
  · simp only [rRec, inInt]; omega
  · simp only [rRec, inInt]; omega
  · simp only [rRec]; unfold maxLen; omega
set_option maxRecDepth 100000 in
set_option maxHeartbeats 1000000 in
theorem rrec_any {w : World} {b : Nat} {row : ByteArray} {r : Rs} (h : RdAt w b row r) : Calls Tryz.prog 96 #[.pointer (some ⟨b, 0, none⟩)] w fun e w' =>
    e = .returned (rRec row r).1.value' ∧ RdAt w' b row (rRec row r).2 ∧ Chg (fun k => k = b) w w' := by
  have hb : b < w.heap.size := World.block_lt_of_cell? _ _ h.src
  obtain ⟨W0, hW0⟩ : ∃ W0, W0 = w.alloc (.cells #[.int .i64 0, .int .i64 0, .int .i64 0, .string ⟨#[]⟩, .int .i64 0] 53) := ⟨_, rfl⟩
  have c0 : Chg (fun _ => False) w W0 := by rw [hW0]; exact (Chg.refl _ w).alloc _
  have a0 : W0.cell? ⟨w.heap.size, 0, none⟩ = some (.int .i64 0) := by rw [hW0]; exact World.cell?_alloc_at _ _ _ _ rfl
  have a1 : W0.cell? ⟨w.heap.size, 1, none⟩ = some (.int .i64 0) := by rw [hW0]; exact World.cell?_alloc_at _ _ _ _ rfl
  have a2 : W0.cell? ⟨w.heap.size, 2, none⟩ = some (.int .i64 0) := by rw [hW0]; exact World.cell?_alloc_at _ _ _ _ rfl
  have a3 : W0.cell? ⟨w.heap.size, 3, none⟩ = some (.string ⟨#[]⟩) := by rw [hW0]; exact World.cell?_alloc_at _ _ _ _ rfl
  have a4 : W0.cell? ⟨w.heap.size, 4, none⟩ = some (.int .i64 0) := by rw [hW0]; exact World.cell?_alloc_at _ _ _ _ rfl
  have az : ∀ j, W0.frozen? ⟨w.heap.size, j, none⟩ = false := fun j => by rw [hW0]; exact World.frozen?_alloc_at _ _ _ _ rfl
  have h0 := h.chg c0 id (.inr fun _ => id)
  have hne : ¬ w.heap.size = b := by omega
  have hsz0 : w.heap.size < W0.heap.size := World.block_lt_of_cell? _ _ a0
  have n1 := rnum_any h0
  go_enter Tryz.func96, Tryz.ntmps96
  go_wp2_with fail
  rw [← hW0]
  refine n1.mono ?_
  rintro _ w1 ⟨rfl, h1, c1⟩
  clear n1 hW0
  obtain ⟨⟨n, r1⟩, e1⟩ : ∃ p, rNum row r = p := ⟨_, rfl⟩
  have E1 : Hid (rNum row r = (n, r1)) := e1
  rw [e1] at h1 ⊢
  clear e1
  simp only at h1 ⊢
  have n2 := rnum_any h1
  go_wp2_with fail
  refine n2.mono ?_
  rintro _ w2 ⟨rfl, h2, c2⟩
  clear n2
  obtain ⟨⟨m, r2⟩, e2⟩ : ∃ p, rNum row r1 = p := ⟨_, rfl⟩
  have E2 : Hid (rNum row r1 = (m, r2)) := e2
  rw [e2] at h2 ⊢
  clear e2
  simp only at h2 ⊢
  have n3 := rnum_any h2
  go_wp2_with fail
  refine n3.mono ?_
  rintro _ w3 ⟨rfl, h3, c3⟩
  clear n3
  obtain ⟨⟨u, r3⟩, e3⟩ : ∃ p, rNum row r2 = p := ⟨_, rfl⟩
  have E3 : Hid (rNum row r2 = (u, r3)) := e3
  rw [e3] at h3 ⊢
  clear e3
  simp only at h3 ⊢
  have n4 := rkey_any h3
  go_wp2_with fail
  refine n4.mono ?_
  rintro _ w4 ⟨rfl, h4, c4⟩
  clear n4
  obtain ⟨⟨ky, r4⟩, e4⟩ : ∃ p, rKey row r3 = p := ⟨_, rfl⟩
  have E4 : Hid (rKey row r3 = (ky, r4)) := e4
  rw [e4] at h4 ⊢
  clear e4
  simp only at h4 ⊢
  have n5 := rnum_any h4
  go_wp2_with fail
  refine n5.mono ?_
  rintro _ w5 ⟨rfl, h5, c5⟩
  clear n5
  obtain ⟨⟨x, r5⟩, e5⟩ : ∃ p, rNum row r4 = p := ⟨_, rfl⟩
  have E5 : Hid (rNum row r4 = (x, r5)) := e5
  rw [e5] at h5 ⊢
  clear e5
  simp only at h5 ⊢
  have c05 : Chg (fun k => k = b) W0 w5 := (((c1.trans c2 (fun _ _ h => h)).trans c3 (fun _ _ h => h)).trans c4 (fun _ _ h => h)).trans c5 (fun _ _ h => h)
  have b0 := c05.cellAt a0 hne
  have b1 := c05.cellAt a1 hne
  have b2 := c05.cellAt a2 hne
  have b3 := c05.cellAt a3 hne
  have b4 := c05.cellAt a4 hne
  have bz : ∀ j, w5.frozen? ⟨w.heap.size, j, none⟩ = false := fun j => (World.frozen?_of_block (w := W0) (c05.block w.heap.size hsz0 hne)).trans (az j)
  have z0 := bz 0
  have z1 := bz 1
  have z2 := bz 2
  have z3 := bz 3
  have z4 := bz 4
  clear a0 a1 a2 a3 a4
  go_wp2_with fail
  obtain ⟨W6, hW6⟩ : ∃ W6, W6 = (((((w5.setCell ⟨w.heap.size, 0, none⟩ (.int .i64 n)).setCell ⟨w.heap.size, 1, none⟩ (.int .i64 m)).setCell ⟨w.heap.size, 2, none⟩ (.int .i64 u)).setCell ⟨w.heap.size, 3, none⟩ (.string ky)).setCell ⟨w.heap.size, 4, none⟩ (.int .i64 x)) := ⟨_, rfl⟩
  have c56 : Chg (fun k => k = w.heap.size) w5 W6 := by
    rw [hW6]; exact (((((Chg.refl (fun k => k = w.heap.size) w5).setCell (p := ⟨w.heap.size, 0, none⟩) (fun _ => rfl) _).setCell (p := ⟨w.heap.size, 1, none⟩) (fun _ => rfl) _).setCell (p := ⟨w.heap.size, 2, none⟩) (fun _ => rfl) _).setCell (p := ⟨w.heap.size, 3, none⟩) (fun _ => rfl) _).setCell (p := ⟨w.heap.size, 4, none⟩) (fun _ => rfl) _
  have d0 : W6.cell? ⟨w.heap.size, 0, none⟩ = some (.int .i64 n) := by rw [hW6]; exact (World.cell?_setCell_other _ _ _ _ (by simp)).trans ((World.cell?_setCell_other _ _ _ _ (by simp)).trans ((World.cell?_setCell_other _ _ _ _ (by simp)).trans ((World.cell?_setCell_other _ _ _ _ (by simp)).trans (World.cell?_setCell_same _ _ _ (b0)))))
  have d1 : W6.cell? ⟨w.heap.size, 1, none⟩ = some (.int .i64 m) := by rw [hW6]; exact (World.cell?_setCell_other _ _ _ _ (by simp)).trans ((World.cell?_setCell_other _ _ _ _ (by simp)).trans ((World.cell?_setCell_other _ _ _ _ (by simp)).trans (World.cell?_setCell_same _ _ _ ((World.cell?_setCell_other _ _ _ _ (by simp)).trans (b1)))))
  have d2 : W6.cell? ⟨w.heap.size, 2, none⟩ = some (.int .i64 u) := by rw [hW6]; exact (World.cell?_setCell_other _ _ _ _ (by simp)).trans ((World.cell?_setCell_other _ _ _ _ (by simp)).trans (World.cell?_setCell_same _ _ _ ((World.cell?_setCell_other _ _ _ _ (by simp)).trans ((World.cell?_setCell_other _ _ _ _ (by simp)).trans (b2)))))
  have d3 : W6.cell? ⟨w.heap.size, 3, none⟩ = some (.string ky) := by rw [hW6]; exact (World.cell?_setCell_other _ _ _ _ (by simp)).trans (World.cell?_setCell_same _ _ _ ((World.cell?_setCell_other _ _ _ _ (by simp)).trans ((World.cell?_setCell_other _ _ _ _ (by simp)).trans ((World.cell?_setCell_other _ _ _ _ (by simp)).trans (b3)))))
  have d4 : W6.cell? ⟨w.heap.size, 4, none⟩ = some (.int .i64 x) := by rw [hW6]; exact World.cell?_setCell_same _ _ _ ((World.cell?_setCell_other _ _ _ _ (by simp)).trans ((World.cell?_setCell_other _ _ _ _ (by simp)).trans ((World.cell?_setCell_other _ _ _ _ (by simp)).trans ((World.cell?_setCell_other _ _ _ _ (by simp)).trans (b4)))))
  rw [← hW6]
  clear hW6
  have e : rRec row r = (⟨n, m, u, ky, x⟩, r5) := by simp only [rRec, E1.out, E2.out, E3.out, E4.out, E5.out]
  refine bodyPost_ret (v := .agg #[.int .i64 n, .int .i64 m, .int .i64 u, .string ky, .int .i64 x]) ?_ rfl ⟨by rw [e]; rfl, ?_, ?_⟩
  · simp [results, Tryz.results96, go_sem, d0, d1, d2, d3, d4]
  · rw [e]
    refine h5.chgE c56 (fun e => hne e.symm) (fun g f hg e => ?_)
    have e' : g = w.heap.size := e
    rw [e', b1] at hg
    cases hg
  · exact ((c0.mono (fun _ h => h.elim)).trans c05 (fun _ _ h => h)).trans c56 (fun k hk h => by have h' : k = w.heap.size := h; omega)
end Go.Proofs.YthedkdbgfdjlkaaGreatDoor
