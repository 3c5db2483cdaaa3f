/- THE LEDGER: take, WALKED. -/
import Derived.Test.YtdoedjmdcmgddaaGreatK2
namespace Go.Proofs.YtdoedjmdcmgddaaGreat
set_option linter.unusedVariables false
set_option linter.unusedSimpArgs false
open Go.RowKit Go.Lib

/-- Insert, whichever way it goes. -/
theorem insert_any (lo n i vb : Nat) (v : Value) (ks : List Ky) (x : Ky) (w : World) (hr : w.ownsRow lo 60 4 v n (keyCells ks)) (hl : ks.length = n) (hn : n ≤ 1000) (hi : i ≤ n) (hlo : lo ≤ w.heap.size) (hvb : v.ownBlock ≠ some vb)
    (hx : w.heap[vb]? = some (.cells #[.string x.name, .int .i64 x.count, .int .i64 x.fold, .int .i64 x.held] 60)) :
    Calls Tryz.prog 114 #[v, .int .i64 i, .slice (some ⟨vb, 0, none⟩) 1 1] w fun e w' => ∃ v', e = .returned v' ∧
      w'.ownsRow lo 60 4 v' (n + 1) (keyCells (ks.take i ++ [x] ++ ks.drop i)) ∧ (v'.ownBlock = v.ownBlock ∨ ∀ k, v'.ownBlock = some k → w.heap.size ≤ k) ∧ Chg (fun k => v.ownBlock = some k) w w' := by
  rcases Nat.lt_or_ge i n with h | h
  · obtain ⟨g, cap, rfl, hg, hcap, _⟩ := row_pos hr (by omega)
    have hm : cap ≤ maxLen := by
      rcases hr.2 with ⟨hv, _⟩ | ⟨g', cap', cur, hv, _, _, _, hm, _⟩
      · simp at hv
      · simp at hv; obtain ⟨_, rfl⟩ := hv; exact hm
    unfold maxLen at hm
    by_cases hroom : n + 1 ≤ cap
    · refine (insert_shift lo n i g cap vb ks x w hr hl hn h hroom (by omega) (fun e => hvb (by rw [e]; rfl)) hx).mono ?_
      rintro e w' ⟨rfl, h1, h2⟩
      exact ⟨_, rfl, h1, .inl rfl, h2.mono (fun k hk => by rw [hk]; rfl)⟩
    · refine (insert_grow lo n i g cap vb ks x w hr hl hn h (by omega) hlo hx).mono ?_
      rintro e w' ⟨v', rfl, h1, h2, h3⟩
      exact ⟨_, rfl, h1, .inr h2, h3.mono (fun k hk => hk.elim)⟩
  · obtain rfl : i = n := by omega
    have hxc : ∀ j u, x.cells[j]? = some u → w.cell? ⟨vb, j, none⟩ = some u := fun j u hj => by
      simp only [World.cell?, hx]
      match j, hj with
      | 0, hj => simpa [Ky.cells] using hj
      | 1, hj => simpa [Ky.cells] using hj
      | 2, hj => simpa [Ky.cells] using hj
      | 3, hj => simpa [Ky.cells] using hj
      | k + 4, hj => simp [Ky.cells] at hj
    refine (insert_end lo i vb v ks x w hr hl hn hlo hxc).mono ?_
    rintro e w' ⟨v', rfl, h1, h2, h3⟩
    refine ⟨v', rfl, ?_, h2, h3⟩
    rw [List.take_of_length_le (by omega), List.drop_eq_nil_of_le (by omega), List.append_nil]
    exact h1

/-- The last three statements of take: the key at a place is counted and folded. -/
def Ky.took (k : Ky) (val : Int) : Ky := k.more val

theorem keyCells_set : ∀ (l : List Ky) (i : Nat) (x : Ky), keyCells (l.set i x) = ((((keyCells l).set (i * 4) (.string x.name)).set (i * 4 + 1) (.int .i64 x.count)).set (i * 4 + 2) (.int .i64 x.fold)).set (i * 4 + 3) (.int .i64 x.held)
  | [], i, x => by simp [keyCells]
  | y :: r, 0, x => by simp [keyCells]
  | y :: r, i + 1, x => by
    have e : (i + 1) * 4 = i * 4 + 4 := by omega
    rw [e]
    simp [keyCells, keyCells_set r i x]

theorem set_same {α : Type} {l : List α} {i : Nat} {x : α} (h : l[i]? = some x) : l.set i x = l := by
  obtain ⟨hi, rfl⟩ := List.getElem?_eq_some_iff.1 h
  exact List.set_getElem_self hi

/-- Count and fold of a place written anew. -/
theorem key2_list {ks : List Ky} {i : Nat} {k : Ky} (hk : ks[i]? = some k) (c f : Int) :
    keyCells (ks.set i ⟨k.name, c, f, k.held⟩) = ((keyCells ks).set (i * 4 + 1) (.int .i64 c)).set (i * 4 + 2) (.int .i64 f) := by
  have cx := keyCells_at ks i k hk
  rw [keyCells_set]
  have e0 : (keyCells ks).set (i * 4) (.string k.name) = keyCells ks := set_same cx.1
  simp only [e0]
  refine set_same ?_
  rw [List.getElem?_set_ne (by omega), List.getElem?_set_ne (by omega)]
  exact cx.2.2.2

structure Ky.ok (k : Ky) : Prop where
  first : ∃ c r, k.name.data.toList = c :: r ∧ okFirst c = true
  fold : 0 ≤ k.fold ∧ k.fold ≤ 4294967295
  count : 0 ≤ k.count ∧ k.count ≤ 1000

set_option maxRecDepth 100000 in
set_option maxHeartbeats 1000000 in
/-- take, where the key is there. -/
theorem take_found (lo b o n i g cap : Nat) (ks : List Ky) (k : Ky) (name : ByteArray) (val : Int) (w : World) (hv : w.cell? ⟨b, o, none⟩ = some (.slice (some ⟨g, 0, none⟩) n cap))
    (hr : w.ownsRow lo 60 4 (.slice (some ⟨g, 0, none⟩) n cap) n (keyCells ks)) (hl : ks.length = n) (hn : n ≤ 1000) (hs : Rises ks) (hbg : b ≠ g) (hi : lowPos name ks = i) (hin : i < n) (hk : ks[i]? = some k) (hkn : k.name = name) (hok : k.ok) (hval : 0 ≤ val ∧ val ≤ 4294967295) :
    Calls Tryz.prog 92 #[.pointer (some ⟨b, o, none⟩), .string name, .int .i64 val] w fun e w' => e = .returned (.tuple #[]) ∧
      w'.ownsRow lo 60 4 (.slice (some ⟨g, 0, none⟩) n cap) n (keyCells (ks.set i (k.more val))) ∧ Chg (fun k => k = g) w w' := by
  subst hkn
  obtain ⟨cb, rb, hcb, hob⟩ := hok.first
  have hse := search_any lo n _ ks k.name w hr hl hn hs
  have hnm : nameAt ks i = k.name := by simp [nameAt, hk]
  have hd : decide (i < n ∧ nameAt ks i = k.name) = true := by simp [hin, hnm]
  rw [hi, hd] at hse
  obtain ⟨hc0, hc1⟩ := hok.count
  have hin' : (i : Int) < (n : Int) := by omega
  go_enter Tryz.func92, Tryz.ntmps92
  go_wp2_with fail
  refine hse.mono ?_
  rintro _ w1 ⟨rfl, c1⟩
  have hv1 := c1.cellAt hv id
  have r1 := c1.row' hr (fun _ _ h => h.elim)
  have cx := keyCells_at ks i k hk
  have a0 := row_cell r1 cx.1
  have a1 := row_cell r1 cx.2.1
  have a2 := row_cell r1 cx.2.2.1
  have a3 := row_cell r1 cx.2.2.2
  have f1 := row_frozen r1 (i * 4 + 1)
  have f2 := row_frozen r1 (i * 4 + 2)
  clear hse hd cx hnm
  go_wp2_with fail
  refine (fold_any ⟨k.name, k.count + 1, k.fold, k.held⟩ val _ cb rb hcb hok.fold hval hob).mono ?_
  rintro _ w2 ⟨rfl, c2⟩
  have r2 := c2.row' (r1.stored (i * 4 + 1) (.int .i64 (k.count + 1))).1 (fun _ _ h => h.elim)
  have a2' := c2.cellAt ((World.cell?_setCell_other w1 ⟨g, i * 4 + 1, none⟩ ⟨g, i * 4 + 2, none⟩ (.int .i64 (k.count + 1)) (by simp)).trans a2) id
  have f2' := row_frozen r2 (i * 4 + 2)
  have c12 : Chg (fun k => k = g) w w2 := ((c1.mono (G := fun k => k = g) (fun _ h => h.elim)).setCell (p := ⟨g, i * 4 + 1, none⟩) (fun _ => rfl) _).trans c2 (fun _ _ h => h.elim)
  clear a0 a1 a2 a3 f1 f2 hv1
  go_wp2_with fail
  go_end0
  refine ⟨rfl, ?_, c12.setCell (p := ⟨g, i * 4 + 2, none⟩) (fun _ => rfl) _⟩
  have e := key2_list hk (k.count + 1) (foldOne k.name (k.count + 1) k.fold val)
  show World.ownsRow _ lo _ 4 _ n (keyCells (ks.set i ⟨k.name, k.count + 1, foldOne k.name (k.count + 1) k.fold val, k.held⟩))
  rw [e]
  exact (r2.stored (i * 4 + 2) _).1

set_option maxRecDepth 100000 in
set_option maxHeartbeats 1000000 in
/-- take, where the key is new. -/
theorem take_new (lo b o n i : Nat) (v : Value) (ks : List Ky) (name : ByteArray) (val : Int) (w : World) (hv : w.cell? ⟨b, o, none⟩ = some v) (hz : w.frozen? ⟨b, o, none⟩ = false)
    (hr : w.ownsRow lo 60 4 v n (keyCells ks)) (hl : ks.length = n) (hn : n < 1000) (hs : Rises ks) (hbv : v.ownBlock ≠ some b) (hlo : lo ≤ w.heap.size) (hi : lowPos name ks = i) (hnot : ¬ (i < n ∧ nameAt ks i = name))
    (cb : UInt8) (rb : List UInt8) (hcb : name.data.toList = cb :: rb) (hob : okFirst cb = true) (hval : 0 ≤ val ∧ val ≤ 4294967295) :
    Calls Tryz.prog 92 #[.pointer (some ⟨b, o, none⟩), .string name, .int .i64 val] w fun e w' => ∃ v', e = .returned (.tuple #[]) ∧ w'.cell? ⟨b, o, none⟩ = some v' ∧
      w'.ownsRow lo 60 4 v' (n + 1) (keyCells (ks.take i ++ [(⟨name, 0, 0, 0⟩ : Ky).more val] ++ ks.drop i)) ∧ (v'.ownBlock = v.ownBlock ∨ ∀ k, v'.ownBlock = some k → w.heap.size ≤ k) ∧ Slots b (fun j => j = o) w w' ∧ Chg (fun k => k = b ∨ v.ownBlock = some k) w w' := by
  have hse := search_any lo n v ks name w hr hl (by omega) hs
  have hd : decide (i < n ∧ nameAt ks i = name) = false := by simpa using hnot
  rw [hi, hd] at hse
  have hile : i ≤ n := by have := lowPos_le name ks; omega
  have hbl : b < w.heap.size := World.block_lt_of_cell? w _ hv
  go_enter Tryz.func92, Tryz.ntmps92
  go_wp2_with fail
  refine hse.mono ?_
  rintro _ w1 ⟨rfl, c1⟩
  have hv1 := c1.cellAt hv id
  have r1 := c1.row' hr (fun _ _ h => h.elim)
  have hbl1 : b < w1.heap.size := World.block_lt_of_cell? w1 _ hv1
  clear hse hd
  go_wp2_with fail
  have hrW : (w1.alloc (.cells #[.string name, .int .i64 0, .int .i64 0, .int .i64 0] 60)).ownsRow lo 60 4 v n (keyCells ks) := r1.alloc _
  have hsW : (w1.alloc (.cells #[.string name, .int .i64 0, .int .i64 0, .int .i64 0] 60)).heap.size = w1.heap.size + 1 := World.size_alloc _ _
  have hcW : Chg (fun _ => False) w (w1.alloc (.cells #[.string name, .int .i64 0, .int .i64 0, .int .i64 0] 60)) := c1.alloc _
  refine (insert_any lo n i w1.heap.size v ks ⟨name, 0, 0, 0⟩ _ hrW hl (by omega) hile (by have := c1.size; omega) (fun h => by have := (r1.lt _ h).2; omega) (heap_alloc_new w1 _)).mono ?_
  rintro _ w2 ⟨v2, rfl, r2, hwh, c2⟩
  have hv2 : w2.cell? ⟨b, o, none⟩ = some v := c2.cellAt (hcW.cellAt hv id) hbv
  have hz2 : w2.frozen? ⟨b, o, none⟩ = false := (World.frozen?_of_block (w := w) ((c2.block b (by omega) hbv).trans (hcW.block b hbl id))).trans hz
  have c02 : Chg (fun k => v.ownBlock = some k) w w2 := (hcW.mono (G := fun k => v.ownBlock = some k) (fun _ h => h.elim)).trans c2 (fun _ _ h => h)
  obtain ⟨g2, cap2, rfl, hlg2, _, hcell2⟩ := row_pos r2 (by omega)
  have hwh' : v.ownBlock = some g2 ∨ w.heap.size ≤ g2 := by
    rcases hwh with h | h
    · exact .inl h.symm
    · have := h g2 rfl; have := c1.size; exact .inr (by omega)
  have hbg : b ≠ g2 := by
    rcases hwh' with h | h
    · intro e; exact hbv (by rw [e]; exact h)
    · omega
  have hLi : (ks.take i ++ [(⟨name, 0, 0, 0⟩ : Ky)] ++ ks.drop i)[i]? = some ⟨name, 0, 0, 0⟩ := by
    rw [List.append_assoc, List.getElem?_append_right (by simp [List.length_take]; omega)]
    simp [List.length_take, Nat.min_eq_left (show i ≤ ks.length by omega)]
  have cx := keyCells_at _ i _ hLi
  have a0 := row_cell r2 cx.1
  have a1 := row_cell r2 cx.2.1
  have a2 := row_cell r2 cx.2.2.1
  have a3 := row_cell r2 cx.2.2.2
  have f1 := row_frozen r2 (i * 4 + 1)
  have f2 := row_frozen r2 (i * 4 + 2)
  have hin' : (i : Int) < (n : Int) + 1 := by omega
  have r3 := ownsRow_setCell_other r2 (a := ⟨b, o, none⟩) (by simp [Value.ownBlock]; exact fun h => hbg h.symm) (.slice (some ⟨g2, 0, none⟩) (n + 1) cap2)
  have hc3 : (w2.setCell ⟨b, o, none⟩ (.slice (some ⟨g2, 0, none⟩) (n + 1) cap2)).cell? ⟨b, o, none⟩ = some (.slice (some ⟨g2, 0, none⟩) (n + 1) cap2) := World.cell?_setCell_same _ _ _ hv2
  clear cx hLi hcell2 hrW hv1 r1
  go_wp2_with fail
  refine (fold_any ⟨name, 1, 0, 0⟩ val _ cb rb hcb ⟨Int.le_refl _, by show (0 : Int) ≤ 4294967295; decide⟩ hval hob).mono ?_
  rintro _ w4 ⟨rfl, c4⟩
  have r4 := c4.row' (r3.stored (i * 4 + 1) (.int .i64 1)).1 (fun _ _ h => h.elim)
  have n2 : w4.cell? ⟨g2, i * 4 + 2, none⟩ = some (.int .i64 0) := c4.cellAt ((World.cell?_setCell_other _ ⟨g2, i * 4 + 1, none⟩ ⟨g2, i * 4 + 2, none⟩ (.int .i64 1) (by simp)).trans ((World.cell?_setCell_other w2 ⟨b, o, none⟩ ⟨g2, i * 4 + 2, none⟩ _ (fun e => hbg (congrArg Addr.block e))).trans a2)) id
  have z2 := row_frozen r4 (i * 4 + 2)
  have hv4 : w4.cell? ⟨b, o, none⟩ = some (.slice (some ⟨g2, 0, none⟩) (n + 1) cap2) := c4.cellAt ((World.cell?_setCell_other _ ⟨g2, i * 4 + 1, none⟩ ⟨b, o, none⟩ (.int .i64 1) (fun e => hbg (congrArg Addr.block e).symm)).trans hc3) id
  have c24 : Chg (fun k => k = b ∨ k = g2) w2 w4 := (((Chg.refl (fun k => k = b ∨ k = g2) w2).setCell (p := ⟨b, o, none⟩) (fun _ => Or.inl rfl) _).setCell (p := ⟨g2, i * 4 + 1, none⟩) (fun _ => Or.inr rfl) _).trans c4 (fun _ _ h => h.elim)
  have s24 : Slots b (fun j => j = o) w2 w4 := by
    have hb2 : b < w2.heap.size := World.block_lt_of_cell? w2 _ hv2
    exact (((Slots.refl b (fun j => j = o) w2).setCell (p := ⟨b, o, none⟩) _ (fun _ => rfl)).setCell (p := ⟨g2, i * 4 + 1, none⟩) _ (fun h => absurd h.symm hbg)).trans (Slots.of_chg (fun _ => False) c4 (by simp [World.setCell]; exact hb2) id) (fun _ h => h.elim)
  have s02 : Slots b (fun j => j = o) w w2 := Slots.of_chg _ c02 hbl hbv
  clear a0 a1 a2 a3 f1 f2 hc3 hv2 hz2
  go_wp2_with fail
  go_end0
  refine ⟨.slice (some ⟨g2, 0, none⟩) (n + 1) cap2, rfl, ?_, ?_, ?_, ?_, ?_⟩
  · exact (World.cell?_setCell_other w4 ⟨g2, i * 4 + 2, none⟩ ⟨b, o, none⟩ _ (fun e => hbg (congrArg Addr.block e).symm)).trans hv4
  · have hLi : (ks.take i ++ [(⟨name, 0, 0, 0⟩ : Ky)] ++ ks.drop i)[i]? = some ⟨name, 0, 0, 0⟩ := by
      rw [List.append_assoc, List.getElem?_append_right (by simp [List.length_take]; omega)]
      simp [List.length_take, Nat.min_eq_left (show i ≤ ks.length by omega)]
    have e := key2_list hLi 1 (foldOne name 1 0 val)
    have e2 : (ks.take i ++ [(⟨name, 0, 0, 0⟩ : Ky)] ++ ks.drop i).set i ⟨name, 1, foldOne name 1 0 val, 0⟩ = ks.take i ++ [(⟨name, 0, 0, 0⟩ : Ky).more val] ++ ks.drop i := by
      rw [List.append_assoc, List.set_append_right _ _ (by simp [List.length_take]; omega)]
      have : i - (ks.take i).length = 0 := by simp [List.length_take]; omega
      rw [this]
      simp [Ky.more]
    rw [← e2, e]
    exact (r4.stored (i * 4 + 2) _).1
  · rcases hwh' with h | h
    · exact .inl h.symm
    · exact .inr (fun k hk => by simp [Value.ownBlock] at hk; omega)
  · exact (s02.trans s24 (fun _ h => h)).setCell (p := ⟨g2, i * 4 + 2, none⟩) _ (fun h => absurd h.symm hbg)
  · have hg : g2 < w.heap.size → v.ownBlock = some g2 := fun h => hwh'.elim id (fun h' => by omega)
    refine ((c02.mono (G := fun k => k = b ∨ v.ownBlock = some k) (fun _ h => Or.inr h)).trans c24 (fun k hk h => ?_)).setCell (p := ⟨g2, i * 4 + 2, none⟩) (fun h => Or.inr (hg h)) _
    rcases h with h | h
    · exact Or.inl h
    · subst h; exact Or.inr (hg hk)

end Go.Proofs.YtdoedjmdcmgddaaGreat
