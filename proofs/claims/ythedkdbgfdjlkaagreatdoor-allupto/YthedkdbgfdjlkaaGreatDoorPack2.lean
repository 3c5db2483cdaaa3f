import Derived.Lib.SortBridgeS
import Derived.Lib.SmallJoins
import Derived.Lib.SlicesCompact
import Derived.Test.YthedkdbgfdjlkaaGreatDoorPack1
namespace Go.Proofs.YthedkdbgfdjlkaaGreatDoor
set_option linter.unusedVariables false
set_option linter.unusedSimpArgs false
open Go.RowKit Go.Lib
theorem insert_any (lo n i vb : Nat) (v : Value) (ks : List Ky) (x : Ky) (w : World) (hr : w.ownsRow lo 87 4 v n (keyCells ks)) (hl : ks.length = n) (hn : n ≤ 1000) (hi : i ≤ n) (hlo : lo ≤ w.heap.size) (hvb : v.ownBlock ≠ some vb)
    (hx : w.heap[vb]? = some (.cells #[.string x.name, .int .i64 x.count, .int .i64 x.fold, .int .i64 x.held] 87)) :
    Calls Tryz.prog 148 #[v, .int .i64 i, .slice (some ⟨vb, 0, none⟩) 1 1] w fun e w' => ∃ v', e = .returned v' ∧
      w'.ownsRow lo 87 4 v' (n + 1) (keyCells (ks.take i ++ [x] ++ ks.drop i)) ∧ (v'.ownBlock = v.ownBlock ∨ ∀ k, v'.ownBlock = some k → w.heap.size ≤ k) ∧ Chg (fun k => v.ownBlock = some k) w w' := by
  rcases Nat.lt_or_ge i n with h | h
  · obtain ⟨g, cap, rfl, hg, hcap, _⟩ := row_pos hr (by omega)
    have hm : cap ≤ maxLen := by
      rcases hr.2 with ⟨hv, _⟩ | ⟨g', cap', cur, hv, _, _, _, hm, _⟩
      · simp at hv
      · simp at hv; obtain ⟨_, rfl⟩ := hv; exact hm
    unfold maxLen at hm
    by_cases hroom : n + 1 ≤ cap
    · refine (insert_shift lo n i g cap vb ks x w hr hl hn h hroom (by omega) (fun e => hvb (by rw [e]; rfl)) hx).mono ?_
      rintro e w' ⟨rfl, h1, h2⟩
      exact ⟨_, rfl, h1, .inl rfl, h2.mono (fun k hk => by rw [hk]; rfl)⟩
    · refine (insert_grow lo n i g cap vb ks x w hr hl hn h (by omega) hlo hx).mono ?_
      rintro e w' ⟨v', rfl, h1, h2, h3⟩
      exact ⟨_, rfl, h1, .inr h2, h3.mono (fun k hk => hk.elim)⟩
  · obtain rfl : i = n := by omega
    have hxc : ∀ j u, x.cells[j]? = some u → w.cell? ⟨vb, j, none⟩ = some u := fun j u hj => by
      simp only [World.cell?, hx]
      match j, hj with
      | 0, hj => simpa [Ky.cells] using hj
      | 1, hj => simpa [Ky.cells] using hj
      | 2, hj => simpa [Ky.cells] using hj
      | 3, hj => simpa [Ky.cells] using hj
      | k + 4, hj => simp [Ky.cells] at hj
    refine (insert_end lo i vb v ks x w hr hl hn hlo hxc).mono ?_
    rintro e w' ⟨v', rfl, h1, h2, h3⟩
    refine ⟨v', rfl, ?_, h2, h3⟩
    rw [List.take_of_length_le (by omega), List.drop_eq_nil_of_le (by omega), List.append_nil]
    exact h1
theorem keyCells_set : ∀ (l : List Ky) (i : Nat) (x : Ky), keyCells (l.set i x) = ((((keyCells l).set (i * 4) (.string x.name)).set (i * 4 + 1) (.int .i64 x.count)).set (i * 4 + 2) (.int .i64 x.fold)).set (i * 4 + 3) (.int .i64 x.held)
  | [], i, x => by simp [keyCells]
  | y :: r, 0, x => by simp [keyCells]
  | y :: r, i + 1, x => by
    have e : (i + 1) * 4 = i * 4 + 4 := by omega
    rw [e]
    simp [keyCells, keyCells_set r i x]
theorem set_same {α : Type} {l : List α} {i : Nat} {x : α} (h : l[i]? = some x) : l.set i x = l := by
  obtain ⟨hi, rfl⟩ := List.getElem?_eq_some_iff.1 h
  exact List.set_getElem_self hi
theorem key2_list {ks : List Ky} {i : Nat} {k : Ky} (hk : ks[i]? = some k) (c f : Int) :
    keyCells (ks.set i ⟨k.name, c, f, k.held⟩) = ((keyCells ks).set (i * 4 + 1) (.int .i64 c)).set (i * 4 + 2) (.int .i64 f) := by
  have cx := keyCells_at ks i k hk
  rw [keyCells_set]
  have e0 : (keyCells ks).set (i * 4) (.string k.name) = keyCells ks := set_same cx.1
  simp only [e0]
  refine set_same ?_
  rw [List.getElem?_set_ne (by omega), List.getElem?_set_ne (by omega)]
  exact cx.2.2.2
structure Ky.ok (k : Ky) : Prop where
  first : ∃ c r, k.name.data.toList = c :: r ∧ okFirst c = true
  fold : 0 ≤ k.fold ∧ k.fold ≤ 4294967295
  count : 0 ≤ k.count ∧ k.count ≤ 1000
set_option maxRecDepth 100000 in
set_option maxHeartbeats 400000 in
theorem find_any (lo n : Nat) (v : Value) (ks : List Ky) (name : ByteArray) (w : World) (hr : w.ownsRow lo 87 4 v n (keyCells ks)) (hl : ks.length = n) (hn : n ≤ 1000) (hs : Rises ks) :
    Calls Tryz.prog 79 #[v, .string name] w fun e w' =>
      e = .returned (.tuple #[.int .i64 (lowPos name ks), .bool (decide (lowPos name ks < n ∧ nameAt ks (lowPos name ks) = name))]) ∧ Chg (fun _ => False) w w' := by
  have hse := search_any lo n v ks name w hr hl hn hs
  obtain ⟨p, cap, rfl⟩ := row_any hr
  go_enter Tryz.func79, Tryz.ntmps79
  go_wp2_with fail
  refine hse.mono ?_
  rintro _ w1 ⟨rfl, c1⟩
  clear hse
  go_wp2
  go_ret2
  exact ⟨by rw [Bool.decide_and]; rfl, c1⟩
set_option maxRecDepth 100000 in
set_option maxHeartbeats 1000000 in
theorem take_found (lo b o n i g cap : Nat) (ks : List Ky) (k : Ky) (name : ByteArray) (val : Int) (w : World) (hv : w.cell? ⟨b, o, none⟩ = some (.slice (some ⟨g, 0, none⟩) n cap))
    (hr : w.ownsRow lo 87 4 (.slice (some ⟨g, 0, none⟩) n cap) n (keyCells ks)) (hl : ks.length = n) (hn : n ≤ 1000) (hs : Rises ks) (hbg : b ≠ g) (hi : lowPos name ks = i) (hin : i < n) (hk : ks[i]? = some k) (hkn : k.name = name) (hok : k.ok) (hval : 0 ≤ val ∧ val ≤ 4294967295) :
    Calls Tryz.prog 119 #[.pointer (some ⟨b, o, none⟩), .string name, .int .i64 val] w fun e w' => e = .returned (.tuple #[]) ∧
      w'.ownsRow lo 87 4 (.slice (some ⟨g, 0, none⟩) n cap) n (keyCells (ks.set i (k.more val))) ∧ Chg (fun k => k = g) w w' := by
  subst hkn
  obtain ⟨cb, rb, hcb, hob⟩ := hok.first
  have hse := find_any lo n _ ks k.name w hr hl hn hs
  have hnm : nameAt ks i = k.name := by simp [nameAt, hk]
  have hd : decide (i < n ∧ nameAt ks i = k.name) = true := by simp [hin, hnm]
  rw [hi, hd] at hse
  obtain ⟨hc0, hc1⟩ := hok.count
  have hin' : (i : Int) < (n : Int) := by omega
  go_enter Tryz.func119, Tryz.ntmps119
  go_wp2_with fail
  refine hse.mono ?_
  rintro _ w1 ⟨rfl, c1⟩
  have hv1 := c1.cellAt hv id
  have r1 := c1.row' hr (fun _ _ h => h.elim)
  have cx := keyCells_at ks i k hk
  have a0 := row_cell r1 cx.1
  have a1 := row_cell r1 cx.2.1
  have a2 := row_cell r1 cx.2.2.1
  have a3 := row_cell r1 cx.2.2.2
  have f1 := row_frozen r1 (i * 4 + 1)
  have f2 := row_frozen r1 (i * 4 + 2)
  clear hse hd cx hnm
  go_wp2_with fail
  refine (fold_any ⟨k.name, k.count + 1, k.fold, k.held⟩ val _ cb rb hcb hok.fold hval hob).mono ?_
  rintro _ w2 ⟨rfl, c2⟩
  have r2 := c2.row' (r1.stored (i * 4 + 1) (.int .i64 (k.count + 1))).1 (fun _ _ h => h.elim)
  have a2' := c2.cellAt ((World.cell?_setCell_other w1 ⟨g, i * 4 + 1, none⟩ ⟨g, i * 4 + 2, none⟩ (.int .i64 (k.count + 1)) (by simp)).trans a2) id
  have f2' := row_frozen r2 (i * 4 + 2)
  have c12 : Chg (fun k => k = g) w w2 := ((c1.mono (G := fun k => k = g) (fun _ h => h.elim)).setCell (p := ⟨g, i * 4 + 1, none⟩) (fun _ => rfl) _).trans c2 (fun _ _ h => h.elim)
  clear a0 a1 a2 a3 f1 f2 hv1
  go_wp2_with fail
  go_end0
  refine ⟨rfl, ?_, c12.setCell (p := ⟨g, i * 4 + 2, none⟩) (fun _ => rfl) _⟩
  have e := key2_list hk (k.count + 1) (foldOne k.name (k.count + 1) k.fold val)
  show World.ownsRow _ lo _ 4 _ n (keyCells (ks.set i ⟨k.name, k.count + 1, foldOne k.name (k.count + 1) k.fold val, k.held⟩))
  rw [e]
  exact (r2.stored (i * 4 + 2) _).1
set_option maxRecDepth 100000 in
set_option maxHeartbeats 1000000 in
theorem take_new (lo b o n i : Nat) (v : Value) (ks : List Ky) (name : ByteArray) (val : Int) (w : World) (hv : w.cell? ⟨b, o, none⟩ = some v) (hz : w.frozen? ⟨b, o, none⟩ = false)
    (hr : w.ownsRow lo 87 4 v n (keyCells ks)) (hl : ks.length = n) (hn : n < 1000) (hs : Rises ks) (hbv : v.ownBlock ≠ some b) (hlo : lo ≤ w.heap.size) (hi : lowPos name ks = i) (hnot : ¬ (i < n ∧ nameAt ks i = name))
    (cb : UInt8) (rb : List UInt8) (hcb : name.data.toList = cb :: rb) (hob : okFirst cb = true) (hval : 0 ≤ val ∧ val ≤ 4294967295) :
    Calls Tryz.prog 119 #[.pointer (some ⟨b, o, none⟩), .string name, .int .i64 val] w fun e w' => ∃ v', e = .returned (.tuple #[]) ∧ w'.cell? ⟨b, o, none⟩ = some v' ∧
      w'.ownsRow lo 87 4 v' (n + 1) (keyCells (ks.take i ++ [(⟨name, 0, 0, 0⟩ : Ky).more val] ++ ks.drop i)) ∧ (v'.ownBlock = v.ownBlock ∨ ∀ k, v'.ownBlock = some k → w.heap.size ≤ k) ∧ Slots b (fun j => j = o) w w' ∧ Chg (fun k => k = b ∨ v.ownBlock = some k) w w' := by
  have hse := find_any lo n v ks name w hr hl (by omega) hs
  have hd : decide (i < n ∧ nameAt ks i = name) = false := by simpa using hnot
  rw [hi, hd] at hse
  have hile : i ≤ n := by have := lowPos_le name ks; omega
  have hbl : b < w.heap.size := World.block_lt_of_cell? w _ hv
  go_enter Tryz.func119, Tryz.ntmps119
  go_wp2_with fail
  refine hse.mono ?_
  rintro _ w1 ⟨rfl, c1⟩
  have hv1 := c1.cellAt hv id
  have r1 := c1.row' hr (fun _ _ h => h.elim)
  have hbl1 : b < w1.heap.size := World.block_lt_of_cell? w1 _ hv1
  clear hse hd
  go_wp2_with fail
  have hrW : (w1.alloc (.cells #[.string name, .int .i64 0, .int .i64 0, .int .i64 0] 87)).ownsRow lo 87 4 v n (keyCells ks) := r1.alloc _
  have hsW : (w1.alloc (.cells #[.string name, .int .i64 0, .int .i64 0, .int .i64 0] 87)).heap.size = w1.heap.size + 1 := World.size_alloc _ _
  have hcW : Chg (fun _ => False) w (w1.alloc (.cells #[.string name, .int .i64 0, .int .i64 0, .int .i64 0] 87)) := c1.alloc _
  refine (insert_any lo n i w1.heap.size v ks ⟨name, 0, 0, 0⟩ _ hrW hl (by omega) hile (by have := c1.size; omega) (fun h => by have := (r1.lt _ h).2; omega) (heap_alloc_new w1 _)).mono ?_
  rintro _ w2 ⟨v2, rfl, r2, hwh, c2⟩
  have hv2 : w2.cell? ⟨b, o, none⟩ = some v := c2.cellAt (hcW.cellAt hv id) hbv
  have hz2 : w2.frozen? ⟨b, o, none⟩ = false := (World.frozen?_of_block (w := w) ((c2.block b (by omega) hbv).trans (hcW.block b hbl id))).trans hz
  have c02 : Chg (fun k => v.ownBlock = some k) w w2 := (hcW.mono (G := fun k => v.ownBlock = some k) (fun _ h => h.elim)).trans c2 (fun _ _ h => h)
  obtain ⟨g2, cap2, rfl, hlg2, _, hcell2⟩ := row_pos r2 (by omega)
  have hwh' : v.ownBlock = some g2 ∨ w.heap.size ≤ g2 := by
    rcases hwh with h | h
    · exact .inl h.symm
    · have := h g2 rfl; have := c1.size; exact .inr (by omega)
  have hbg : b ≠ g2 := by
    rcases hwh' with h | h
    · intro e; exact hbv (by rw [e]; exact h)
    · omega
  have hLi : (ks.take i ++ [(⟨name, 0, 0, 0⟩ : Ky)] ++ ks.drop i)[i]? = some ⟨name, 0, 0, 0⟩ := by
    rw [List.append_assoc, List.getElem?_append_right (by simp [List.length_take]; omega)]
    simp [List.length_take, Nat.min_eq_left (show i ≤ ks.length by omega)]
  have cx := keyCells_at _ i _ hLi
  have a0 := row_cell r2 cx.1
  have a1 := row_cell r2 cx.2.1
  have a2 := row_cell r2 cx.2.2.1
  have a3 := row_cell r2 cx.2.2.2
  have f1 := row_frozen r2 (i * 4 + 1)
  have f2 := row_frozen r2 (i * 4 + 2)
  have hin' : (i : Int) < (n : Int) + 1 := by omega
  have r3 := ownsRow_setCell_other r2 (a := ⟨b, o, none⟩) (by simp [Value.ownBlock]; exact fun h => hbg h.symm) (.slice (some ⟨g2, 0, none⟩) (n + 1) cap2)
  have hc3 : (w2.setCell ⟨b, o, none⟩ (.slice (some ⟨g2, 0, none⟩) (n + 1) cap2)).cell? ⟨b, o, none⟩ = some (.slice (some ⟨g2, 0, none⟩) (n + 1) cap2) := World.cell?_setCell_same _ _ _ hv2
  clear cx hLi hcell2 hrW hv1 r1
  go_wp2_with fail
  refine (fold_any ⟨name, 1, 0, 0⟩ val _ cb rb hcb ⟨Int.le_refl _, by show (0 : Int) ≤ 4294967295; decide⟩ hval hob).mono ?_
  rintro _ w4 ⟨rfl, c4⟩
  have r4 := c4.row' (r3.stored (i * 4 + 1) (.int .i64 1)).1 (fun _ _ h => h.elim)
  have n2 : w4.cell? ⟨g2, i * 4 + 2, none⟩ = some (.int .i64 0) := c4.cellAt ((World.cell?_setCell_other _ ⟨g2, i * 4 + 1, none⟩ ⟨g2, i * 4 + 2, none⟩ (.int .i64 1) (by simp)).trans ((World.cell?_setCell_other w2 ⟨b, o, none⟩ ⟨g2, i * 4 + 2, none⟩ _ (fun e => hbg (congrArg Addr.block e))).trans a2)) id
  have z2 := row_frozen r4 (i * 4 + 2)
  have hv4 : w4.cell? ⟨b, o, none⟩ = some (.slice (some ⟨g2, 0, none⟩) (n + 1) cap2) := c4.cellAt ((World.cell?_setCell_other _ ⟨g2, i * 4 + 1, none⟩ ⟨b, o, none⟩ (.int .i64 1) (fun e => hbg (congrArg Addr.block e).symm)).trans hc3) id
  have c24 : Chg (fun k => k = b ∨ k = g2) w2 w4 := (((Chg.refl (fun k => k = b ∨ k = g2) w2).setCell (p := ⟨b, o, none⟩) (fun _ => Or.inl rfl) _).setCell (p := ⟨g2, i * 4 + 1, none⟩) (fun _ => Or.inr rfl) _).trans c4 (fun _ _ h => h.elim)
  have s24 : Slots b (fun j => j = o) w2 w4 := by
    have hb2 : b < w2.heap.size := World.block_lt_of_cell? w2 _ hv2
    exact (((Slots.refl b (fun j => j = o) w2).setCell (p := ⟨b, o, none⟩) _ (fun _ => rfl)).setCell (p := ⟨g2, i * 4 + 1, none⟩) _ (fun h => absurd h.symm hbg)).trans (Slots.of_chg (fun _ => False) c4 (by simp [World.setCell]; exact hb2) id) (fun _ h => h.elim)
  have s02 : Slots b (fun j => j = o) w w2 := Slots.of_chg _ c02 hbl hbv
  clear a0 a1 a2 a3 f1 f2 hc3 hv2 hz2
  go_wp2_with fail
  go_end0
  refine ⟨.slice (some ⟨g2, 0, none⟩) (n + 1) cap2, rfl, ?_, ?_, ?_, ?_, ?_⟩
  · exact (World.cell?_setCell_other w4 ⟨g2, i * 4 + 2, none⟩ ⟨b, o, none⟩ _ (fun e => hbg (congrArg Addr.block e).symm)).trans hv4
  · have hLi : (ks.take i ++ [(⟨name, 0, 0, 0⟩ : Ky)] ++ ks.drop i)[i]? = some ⟨name, 0, 0, 0⟩ := by
      rw [List.append_assoc, List.getElem?_append_right (by simp [List.length_take]; omega)]
      simp [List.length_take, Nat.min_eq_left (show i ≤ ks.length by omega)]
    have e := key2_list hLi 1 (foldOne name 1 0 val)
    have e2 : (ks.take i ++ [(⟨name, 0, 0, 0⟩ : Ky)] ++ ks.drop i).set i ⟨name, 1, foldOne name 1 0 val, 0⟩ = ks.take i ++ [(⟨name, 0, 0, 0⟩ : Ky).more val] ++ ks.drop i := by
      rw [List.append_assoc, List.set_append_right _ _ (by simp [List.length_take]; omega)]
      have : i - (ks.take i).length = 0 := by simp [List.length_take]; omega
      rw [this]
      simp [Ky.more]
    rw [← e2, e]
    exact (r4.stored (i * 4 + 2) _).1
  · rcases hwh' with h | h
    · exact .inl h.symm
    · exact .inr (fun k hk => by simp [Value.ownBlock] at hk; omega)
  · exact (s02.trans s24 (fun _ h => h)).setCell (p := ⟨g2, i * 4 + 2, none⟩) _ (fun h => absurd h.symm hbg)
  · have hg : g2 < w.heap.size → v.ownBlock = some g2 := fun h => hwh'.elim id (fun h' => by omega)
    refine ((c02.mono (G := fun k => k = b ∨ v.ownBlock = some k) (fun _ h => Or.inr h)).trans c24 (fun k hk h => ?_)).setCell (p := ⟨g2, i * 4 + 2, none⟩) (fun h => Or.inr (hg h)) _
    rcases h with h | h
    · exact Or.inl h
    · subst h; exact Or.inr (hg hk)
end Go.Proofs.YthedkdbgfdjlkaaGreatDoor

namespace Go.Proofs.YthedkdbgfdjlkaaGreatDoor
set_option linter.unusedVariables false
set_option linter.unusedSimpArgs false
open Go.Lib
theorem mem_takeKy (name : ByteArray) (val : Int) : ∀ (l : List Ky) (k : Ky), k ∈ takeKy name val l → k ∈ l ∨ (∃ y ∈ l, y.name = name ∧ k = y.more val) ∨ k = (⟨name, 0, 0, 0⟩ : Ky).more val
  | [], k, h => by simp [takeKy] at h; exact .inr (.inr h)
  | y :: r, k, h => by
    unfold takeKy at h
    split at h
    · rename_i hy
      rcases List.mem_cons.1 h with rfl | h
      · exact .inr (.inl ⟨y, by simp, hy, rfl⟩)
      · exact .inl (by simp [h])
    · split at h
      · rcases List.mem_cons.1 h with rfl | h
        · exact .inr (.inr rfl)
        · exact .inl h
      · rcases List.mem_cons.1 h with rfl | h
        · exact .inl (by simp)
        · rcases mem_takeKy name val r k h with h | ⟨z, hz, h⟩ | h
          · exact .inl (by simp [h])
          · exact .inr (.inl ⟨z, by simp [hz], h⟩)
          · exact .inr (.inr h)
theorem takeKy_name_mem (name : ByteArray) (val : Int) (l : List Ky) (k : Ky) (h : k ∈ takeKy name val l) : k.name = name ∨ ∃ y ∈ l, y.name = k.name := by
  rcases mem_takeKy name val l k h with h | ⟨z, hz, hn, h⟩ | h
  · exact .inr ⟨k, h, rfl⟩
  · exact .inl (by rw [h]; exact hn)
  · exact .inl (by rw [h]; rfl)
theorem takeKy_sorted (name : ByteArray) (val : Int) : ∀ {l : List Ky}, Sorted l → Sorted (takeKy name val l)
  | [], _ => by simp [takeKy, Sorted]
  | y :: r, h => by
    obtain ⟨h1, h2⟩ := List.pairwise_cons.1 h
    unfold takeKy
    split
    · rename_i hy
      exact List.pairwise_cons.2 ⟨fun z hz => h1 z hz, h2⟩
    · rename_i hy
      split
      · rename_i hl
        refine List.pairwise_cons.2 ⟨fun z hz => ?_, h⟩
        rcases List.mem_cons.1 hz with rfl | hz
        · exact hl
        · exact less_trans hl (h1 z hz)
      · rename_i hl
        refine List.pairwise_cons.2 ⟨fun z hz => ?_, takeKy_sorted name val h2⟩
        rcases takeKy_name_mem name val r z hz with h' | ⟨u, hu, h'⟩
        · rw [h']
          rcases less_tri y.name name with h'' | h'' | h''
          · exact h''
          · exact absurd h'' hy
          · exact absurd h'' hl
        · rw [← h']; exact h1 u hu
theorem counts_takeKy (name : ByteArray) (val : Int) : ∀ (l : List Ky), counts (takeKy name val l) = counts l + 1
  | [] => by simp [takeKy, counts, Ky.more]
  | y :: r => by
    unfold takeKy
    split
    · simp [counts, Ky.more]; omega
    · split
      · simp [counts, Ky.more]; omega
      · simp [counts, counts_takeKy name val r]; omega
structure Led (ks : List Ky) (m : Int) : Prop where
  sorted : Sorted ks
  first : ∀ k ∈ ks, ∃ c r, k.name.data.toList = c :: r ∧ okFirst c = true
  fold : ∀ k ∈ ks, 0 ≤ k.fold ∧ k.fold ≤ 4294967295
  count : ∀ k ∈ ks, 0 ≤ k.count
  total : counts ks + m ≤ 1000
theorem count_le : ∀ {ks : List Ky}, (∀ k ∈ ks, 0 ≤ k.count) → ∀ k ∈ ks, k.count ≤ counts ks ∧ 0 ≤ counts ks
  | [], _, k, h => by simp at h
  | y :: r, hc, k, h => by
    have h0 : 0 ≤ counts r := by
      clear h
      induction r with
      | nil => simp [counts]
      | cons z r ih =>
        have := ih (fun k hk => hc k (by rcases List.mem_cons.1 hk with rfl | hk <;> simp [*]))
        have := hc z (by simp)
        simp [counts]; omega
    have hy := hc y (by simp)
    rcases List.mem_cons.1 h with rfl | h
    · simp [counts]; omega
    · have := count_le (fun k hk => hc k (by simp [hk])) k h
      simp [counts]; omega
theorem counts_nonneg {ks : List Ky} (hc : ∀ k ∈ ks, 0 ≤ k.count) : 0 ≤ counts ks := by
  induction ks with
  | nil => simp [counts]
  | cons z r ih =>
    have := ih (fun k hk => hc k (by simp [hk]))
    have := hc z (by simp)
    simp [counts]; omega
theorem Led.ok {ks : List Ky} {m : Int} (h : Led ks m) (hm : 0 ≤ m) : ∀ k ∈ ks, k.ok := fun k hk =>
  ⟨h.first k hk, h.fold k hk, h.count k hk, by have := (count_le h.count k hk).1; have := h.total; omega⟩
theorem foldOne_range {name : ByteArray} {n f v : Int} {c : UInt8} {r : List UInt8} (hk : name.data.toList = c :: r) (hn : 0 ≤ n ∧ n ≤ 4294967295) (hf : 0 ≤ f ∧ f ≤ 4294967295) (hv : 0 ≤ v ∧ v ≤ 4294967295) : 0 ≤ foldOne name n f v ∧ foldOne name n f v ≤ 4294967295 := by
  rw [foldOne_c hk]
  split
  · exact hn
  · split
    · constructor <;> omega
    · split
      · exact hv
      · constructor <;> omega
theorem Led.take {ks : List Ky} {m : Int} (h : Led ks m) (hm : 1 ≤ m) {name : ByteArray} {val : Int} {c : UInt8} {r : List UInt8} (hk : name.data.toList = c :: r) (hc : okFirst c = true) (hv : 0 ≤ val ∧ val ≤ 4294967295) : Led (takeKy name val ks) (m - 1) := by
  have hcn := counts_nonneg h.count
  have ht := h.total
  refine ⟨takeKy_sorted name val h.sorted, fun k hk' => ?_, fun k hk' => ?_, fun k hk' => ?_, ?_⟩
  · rcases mem_takeKy name val ks k hk' with h' | ⟨z, hz, hn, rfl⟩ | rfl
    · exact h.first k h'
    · exact h.first z hz
    · exact ⟨c, r, hk, hc⟩
  · rcases mem_takeKy name val ks k hk' with h' | ⟨z, hz, hn, rfl⟩ | rfl
    · exact h.fold k h'
    · obtain ⟨c', r', h1, h2⟩ := h.first z hz
      have := (count_le h.count z hz).1
      have := h.count z hz
      exact foldOne_range h1 (by omega) (h.fold z hz) hv
    · exact foldOne_range (name := name) hk (show (0 : Int) ≤ 0 + 1 ∧ (0 : Int) + 1 ≤ 4294967295 by decide) (show (0 : Int) ≤ 0 ∧ (0 : Int) ≤ 4294967295 by decide) hv
  · rcases mem_takeKy name val ks k hk' with h' | ⟨z, hz, hn, rfl⟩ | rfl
    · exact h.count k h'
    · have := h.count z hz; simp [Ky.more]; omega
    · simp [Ky.more]
  · rw [counts_takeKy]; omega
end Go.Proofs.YthedkdbgfdjlkaaGreatDoor

namespace Go.Proofs.YthedkdbgfdjlkaaGreatDoor
set_option linter.unusedVariables false
set_option linter.unusedSimpArgs false
open Go.RowKit
set_option maxRecDepth 100000 in
set_option maxHeartbeats 400000 in
theorem heapPush_any (lo : Nat) (p : Addr) (v : Value) (n : Nat) (qs : List Wt) (x : Wt) (w : World) (hp : w.cell? p = some v) (hz : w.frozen? p = false) (hr : w.ownsRow lo 168 3 v n (wtCells qs)) (hl : qs.length = n) (hne : v.ownBlock ≠ some p.block) (hlo : lo ≤ w.heap.size) (hn : n < 1000) :
    Calls Tryz.prog 116 #[.iface 213 (.pointer (some p)), .iface 168 (.agg #[.int .i64 x.num, .string x.key, .int .i64 x.val])] w fun e w' => ∃ g cap, e = .returned (.tuple #[]) ∧
      QAt w' lo p g cap (n + 1) (upFn (n + 1) (qs ++ [x]) n) ∧ (v.ownBlock = some g ∨ w.heap.size ≤ g) ∧ Slots p.block (fun j => j = p.off) w w' ∧ Chg (fun k => k = p.block ∨ v.ownBlock = some k) w w' := by
  have hmP := m_push p
  go_enter Tryz.func116, Tryz.ntmps116
  go_wp2_with fail
  refine (qPush_any lo p v n qs x w hp hz hr hne hlo (by omega)).mono ?_
  rintro _ w1 ⟨v1, rfl, hp1, hr1, hw1, hs1, hc1⟩
  obtain ⟨g, cap, rfl, hg, hcap, hcells⟩ := row_pos hr1 (by omega)
  have hQ : QAt w1 lo p g cap (n + 1) (qs ++ [x]) := by
    refine ⟨hp1, by simp [hl], hr1, ?_⟩
    rcases hw1 with h | h
    · intro e; rw [← h] at hne; exact hne (by rw [e]; rfl)
    · have h1 := h g rfl
      have h2 := World.block_lt_of_cell? w p hp
      omega
  have hwhere : v.ownBlock = some g ∨ w.heap.size ≤ g := by
    rcases hw1 with h | h
    · exact .inl h.symm
    · exact .inr (h g rfl)
  have hmL := (m_len p w1).trans (load_then Tryz.prog 219 p w1 _ hp1)
  clear hr hcells hmP
  go_wp2_with fail
  refine (qLen_any _ _ _ _).mono ?_
  rintro _ w2 ⟨rfl, h2⟩
  subst h2
  go_wp2_with fail
  refine (up_any lo p g cap (n + 1) n (qs ++ [x]) _ hQ (by omega) (by omega)).mono ?_
  rintro _ w3 ⟨rfl, hQ3, hc3⟩
  go_wp2_with fail
  go_end0
  refine ⟨g, cap, rfl, hQ3, hwhere, hs1.trans (Slots.of_chg (fun _ => False) hc3 (World.block_lt_of_cell? _ _ hp1) hQ.ne) (fun _ h => h.elim), hc1.trans hc3 ?_⟩
  rintro k hk rfl
  rcases hwhere with h | h
  · exact .inr h
  · omega
def downFn : Nat → List Wt → Nat → Nat → List Wt
  | 0, l, _, _ => l
  | f + 1, l, i, n => if n ≤ 2 * i + 1 then l else
    if 2 * i + 2 < n ∧ numAt l (2 * i + 2) < numAt l (2 * i + 1) then
      (if numAt l (2 * i + 2) < numAt l i then downFn f (swapL l i (2 * i + 2)) (2 * i + 2) n else l)
    else (if numAt l (2 * i + 1) < numAt l i then downFn f (swapL l i (2 * i + 1)) (2 * i + 1) n else l)
def DownRel (lo : Nat) (p : Addr) (g cap N n : Nat) (qs : List Wt) (w : World) (si : Value) (wr : World) : Prop :=
  ∃ (i f : Nat) (l : List Wt), si = .int .i64 i ∧ i < N ∧ n - i ≤ f ∧ QAt wr lo p g cap N l ∧ Chg (fun k => k = g) w wr ∧ Hid (downFn n qs 0 n = downFn f l i n)
set_option maxRecDepth 100000 in
set_option maxHeartbeats 1000000 in
theorem down_any (lo : Nat) (p : Addr) (g cap N n : Nat) (qs : List Wt) (w : World) (hq : QAt w lo p g cap N qs) (hj : n < N) (hn : N ≤ 1000) :
    Calls Tryz.prog 161 #[.iface 213 (.pointer (some p)), .int .i64 0, .int .i64 n] w fun e w' => ∃ b, e = .returned (.bool b) ∧ QAt w' lo p g cap N (downFn n qs 0 n) ∧ Chg (fun k => k = g) w w' := by
  go_enter Tryz.func161, Tryz.ntmps161
  go_wp2
  go_loopw [7, 8, 9, 10] (fun si _ _ _ wr => DownRel lo p g cap N n qs w si wr) (fun si _ _ _ _ => n - (intOf si).toNat)
  case atStart => exact ⟨0, n, qs, rfl, by omega, by omega, hq, Chg.refl _ _, rfl⟩
  case round =>
    obtain ⟨i, f, l, rfl, hi, hf, hl, hc, HE⟩ := hrel
    by_cases c1 : n ≤ 2 * i + 1
    · have c1' : (n : Int) ≤ 2 * (i : Int) + 1 := by omega
      go_wp2_with fail
      go_ret
      refine ⟨_, rfl, ?_, hc⟩
      rw [HE.out]
      have : downFn f l i n = l := by cases f with
        | zero => rfl
        | succ f => simp [downFn, c1]
      rw [this]; exact hl
    · have c1' : 2 * (i : Int) + 1 < (n : Int) := by omega
      have c0 : ¬ 2 * (i : Int) + 1 < 0 := by omega
      have c1d : decide ((n : Int) ≤ 2 * (i : Int) + 1) = false := by simpa using c1'
      by_cases c2 : 2 * i + 2 < n
      · have c2' : 2 * (i : Int) + 1 + 1 < (n : Int) := by omega
        have hl1s := less_row hl.row hl.len (i := 2 * i + 2) (j := 2 * i + 1) (by omega) (by omega) hn
        rw [show ((2 * i + 2 : Nat) : Int) = 2 * (i : Int) + 1 + 1 by omega, show ((2 * i + 1 : Nat) : Int) = 2 * (i : Int) + 1 by omega] at hl1s
        have hv7 := hl.var
        have hm := fun W (h : W.cell? p = some (.slice (some ⟨g, 0, none⟩) N cap)) => (m_less p W).trans (load_then Tryz.prog 220 p W _ h)
        go_wp2_with fail
        refine hl1s.mono ?_
        rintro _ w7 ⟨rfl, hq7⟩
        clear hl1s hm hv7
        have hl7 := hl.quiet hq7
        have hc7 := hc.trans (hq7.chg (fun k => k = g)) (fun _ _ h => h)
        by_cases t1 : numAt l (2 * i + 2) < numAt l (2 * i + 1)
        · have hd1 : decide (numAt l (2 * i + 2) < numAt l (2 * i + 1)) = true := by simpa using t1
          rw [hd1]
          have hls := less_row hl7.row hl7.len (i := 2 * i + 2) (j := i) (by omega) hi hn
          rw [show ((2 * i + 2 : Nat) : Int) = 2 * (i : Int) + 1 + 1 by omega] at hls
          have hv9 := hl7.var
          have hm := fun W (h : W.cell? p = some (.slice (some ⟨g, 0, none⟩) N cap)) => (m_less p W).trans (load_then Tryz.prog 220 p W _ h)
          go_wp2_with fail
          refine hls.mono ?_
          rintro _ w8 ⟨rfl, hq8⟩
          clear hls hm
          have hl8 := hl7.quiet hq8
          have hc8 := hc7.trans (hq8.chg (fun k => k = g)) (fun _ _ h => h)
          have hv8 := hl8.var
          clear hv9
          by_cases t2 : numAt l (2 * i + 2) < numAt l i
          · have hd : decide (numAt l (2 * i + 2) < numAt l i) = true := by simpa using t2
            rw [hd]
            have hsw := swap_row hl8.row hl8.len (i := i) (j := 2 * i + 2) hi (by omega) hn
            rw [show ((2 * i + 2 : Nat) : Int) = 2 * (i : Int) + 1 + 1 by omega] at hsw
            have hm := fun W (h : W.cell? p = some (.slice (some ⟨g, 0, none⟩) N cap)) => (m_swap p W).trans (load_then Tryz.prog 221 p W _ h)
            go_wp2_with fail
            refine hsw.mono ?_
            rintro _ w9 ⟨rfl, hr9, hc9⟩
            clear hsw hm
            go_wp2_with fail
            go_roundw
            case rel =>
              refine ⟨2 * i + 2, f - 1, swapL l i (2 * i + 2), by go_num, by omega, by omega, ⟨?_, by rw [swapL_length]; exact hl.len, hr9, hl.ne⟩, hc8.trans hc9 (fun _ _ h => h), ?_⟩
              · exact (World.cell?_of_block (hc9.block p.block (World.block_lt_of_cell? w8 p hv8) hl.ne)).trans hv8
              · show _ = _
                rw [HE.out]
                obtain ⟨f, rfl⟩ : ∃ f', f = f' + 1 := ⟨f - 1, by omega⟩
                simp [downFn, c1, c2, t1, t2]
            case measure => simp [intOf]; omega
          · have hd : decide (numAt l (2 * i + 2) < numAt l i) = false := by simpa using t2
            rw [hd]
            go_wp2_with fail
            go_ret
            refine ⟨_, rfl, ?_, hc8⟩
            rw [HE.out]
            obtain ⟨f, rfl⟩ : ∃ f', f = f' + 1 := ⟨f - 1, by omega⟩
            have T2 : ¬ numAt l (2 * i + 2) < numAt l i := by omega
            have : downFn (f + 1) l i n = l := by simp [downFn, c1, c2, t1, T2]
            rw [this]; exact hl8
        · have hd1 : decide (numAt l (2 * i + 2) < numAt l (2 * i + 1)) = false := by simpa using t1
          rw [hd1]
          have hls := less_row hl7.row hl7.len (i := 2 * i + 1) (j := i) (by omega) hi hn
          rw [show ((2 * i + 1 : Nat) : Int) = 2 * (i : Int) + 1 by omega] at hls
          have hv9 := hl7.var
          have hm := fun W (h : W.cell? p = some (.slice (some ⟨g, 0, none⟩) N cap)) => (m_less p W).trans (load_then Tryz.prog 220 p W _ h)
          go_wp2_with fail
          refine hls.mono ?_
          rintro _ w8 ⟨rfl, hq8⟩
          clear hls hm
          have hl8 := hl7.quiet hq8
          have hc8 := hc7.trans (hq8.chg (fun k => k = g)) (fun _ _ h => h)
          have hv8 := hl8.var
          clear hv9
          by_cases t2 : numAt l (2 * i + 1) < numAt l i
          · have hd : decide (numAt l (2 * i + 1) < numAt l i) = true := by simpa using t2
            rw [hd]
            have hsw := swap_row hl8.row hl8.len (i := i) (j := 2 * i + 1) hi (by omega) hn
            rw [show ((2 * i + 1 : Nat) : Int) = 2 * (i : Int) + 1 by omega] at hsw
            have hm := fun W (h : W.cell? p = some (.slice (some ⟨g, 0, none⟩) N cap)) => (m_swap p W).trans (load_then Tryz.prog 221 p W _ h)
            go_wp2_with fail
            refine hsw.mono ?_
            rintro _ w9 ⟨rfl, hr9, hc9⟩
            clear hsw hm
            go_wp2_with fail
            go_roundw
            case rel =>
              refine ⟨2 * i + 1, f - 1, swapL l i (2 * i + 1), by go_num, by omega, by omega, ⟨?_, by rw [swapL_length]; exact hl.len, hr9, hl.ne⟩, hc8.trans hc9 (fun _ _ h => h), ?_⟩
              · exact (World.cell?_of_block (hc9.block p.block (World.block_lt_of_cell? w8 p hv8) hl.ne)).trans hv8
              · show _ = _
                rw [HE.out]
                obtain ⟨f, rfl⟩ : ∃ f', f = f' + 1 := ⟨f - 1, by omega⟩
                simp [downFn, c1, show ¬ numAt l (2 * i + 2) < numAt l (2 * i + 1) by omega, t2]
            case measure => simp [intOf]; omega
          · have hd : decide (numAt l (2 * i + 1) < numAt l i) = false := by simpa using t2
            rw [hd]
            go_wp2_with fail
            go_ret
            refine ⟨_, rfl, ?_, hc8⟩
            rw [HE.out]
            obtain ⟨f, rfl⟩ : ∃ f', f = f' + 1 := ⟨f - 1, by omega⟩
            have T2 : ¬ numAt l (2 * i + 1) < numAt l i := by omega
            have : downFn (f + 1) l i n = l := by simp [downFn, c1, show ¬ numAt l (2 * i + 2) < numAt l (2 * i + 1) by omega, T2]
            rw [this]; exact hl8
      · have c2' : (n : Int) ≤ 2 * (i : Int) + 1 + 1 := by omega
        have hls := less_row hl.row hl.len (i := 2 * i + 1) (j := i) (by omega) hi hn
        rw [show ((2 * i + 1 : Nat) : Int) = 2 * (i : Int) + 1 by omega] at hls
        have hv9 := hl.var
        have hm := fun W (h : W.cell? p = some (.slice (some ⟨g, 0, none⟩) N cap)) => (m_less p W).trans (load_then Tryz.prog 220 p W _ h)
        go_wp2_with fail
        refine hls.mono ?_
        rintro _ w8 ⟨rfl, hq8⟩
        clear hls hm
        have hl8 := hl.quiet hq8
        have hc8 := hc.trans (hq8.chg (fun k => k = g)) (fun _ _ h => h)
        have hv8 := hl8.var
        clear hv9
        by_cases t2 : numAt l (2 * i + 1) < numAt l i
        · have hd : decide (numAt l (2 * i + 1) < numAt l i) = true := by simpa using t2
          rw [hd]
          have hsw := swap_row hl8.row hl8.len (i := i) (j := 2 * i + 1) hi (by omega) hn
          rw [show ((2 * i + 1 : Nat) : Int) = 2 * (i : Int) + 1 by omega] at hsw
          have hm := fun W (h : W.cell? p = some (.slice (some ⟨g, 0, none⟩) N cap)) => (m_swap p W).trans (load_then Tryz.prog 221 p W _ h)
          go_wp2_with fail
          refine hsw.mono ?_
          rintro _ w9 ⟨rfl, hr9, hc9⟩
          clear hsw hm
          go_wp2_with fail
          go_roundw
          case rel =>
            refine ⟨2 * i + 1, f - 1, swapL l i (2 * i + 1), by go_num, by omega, by omega, ⟨?_, by rw [swapL_length]; exact hl.len, hr9, hl.ne⟩, hc8.trans hc9 (fun _ _ h => h), ?_⟩
            · exact (World.cell?_of_block (hc9.block p.block (World.block_lt_of_cell? w8 p hv8) hl.ne)).trans hv8
            · show _ = _
              rw [HE.out]
              obtain ⟨f, rfl⟩ : ∃ f', f = f' + 1 := ⟨f - 1, by omega⟩
              simp [downFn, c1, c2, t2]
          case measure => simp [intOf]; omega
        · have hd : decide (numAt l (2 * i + 1) < numAt l i) = false := by simpa using t2
          rw [hd]
          go_wp2_with fail
          go_ret
          refine ⟨_, rfl, ?_, hc8⟩
          rw [HE.out]
          obtain ⟨f, rfl⟩ : ∃ f', f = f' + 1 := ⟨f - 1, by omega⟩
          have T2 : ¬ numAt l (2 * i + 1) < numAt l i := by omega
          have : downFn (f + 1) l i n = l := by simp [downFn, c1, c2, T2]
          rw [this]; exact hl8
end Go.Proofs.YthedkdbgfdjlkaaGreatDoor

namespace Go.Proofs.YthedkdbgfdjlkaaGreatDoor
set_option linter.unusedVariables false
set_option linter.unusedSimpArgs false
open Go.RowKit
def Wt.zero : Wt := ⟨0, ⟨#[]⟩, 0⟩
def Wt.agg (x : Wt) : Value := .agg #[.int .i64 x.num, .string x.key, .int .i64 x.val]
set_option maxRecDepth 100000 in
set_option maxHeartbeats 400000 in
theorem qPop_cells (b o g cap n : Nat) (x : Wt) (w : World) (hn : n < 1000) (hne : b ≠ g) (hcap : n + 1 ≤ cap) (hbl : b < w.heap.size) (hgl : g < w.heap.size)
    (hp : w.cell? ⟨b, o, none⟩ = some (.slice (some ⟨g, 0, none⟩) (n + 1) cap)) (hz : w.frozen? ⟨b, o, none⟩ = false)
    (a0 : w.cell? ⟨g, n * 3, none⟩ = some (.int .i64 x.num)) (a1 : w.cell? ⟨g, n * 3 + 1, none⟩ = some (.string x.key)) (a2 : w.cell? ⟨g, n * 3 + 2, none⟩ = some (.int .i64 x.val))
    (f0 : w.frozen? ⟨g, n * 3, none⟩ = false) (f1 : w.frozen? ⟨g, n * 3 + 1, none⟩ = false) (f2 : w.frozen? ⟨g, n * 3 + 2, none⟩ = false) :
    Calls Tryz.prog 227 #[.pointer (some ⟨b, o, none⟩)] w fun e w' => e = .returned (.iface 168 x.agg) ∧
      w' = ((put3 w g (n * 3) Wt.zero).setCell ⟨b, o, none⟩ (.slice (some ⟨g, 0, none⟩) n cap)).alloc (.cells #[.int .i64 x.num, .string x.key, .int .i64 x.val] 168) := by
  go_enter Tryz.func227, Tryz.ntmps227
  go_wp2
  go_ret
  exact ⟨rfl, rfl⟩
theorem wtCells_cat : ∀ (l r : List Wt), wtCells (l ++ r) = wtCells l ++ wtCells r
  | [], r => rfl
  | y :: l, r => by simp [wtCells, wtCells_cat l r]
theorem set_last (l : List Wt) (n : Nat) (h : l.length = n + 1) (z : Wt) : l.set n z = l.take n ++ [z] := by
  rw [List.set_eq_take_append_cons_drop]
  simp [h]
theorem qPop_any (lo b o g cap n : Nat) (qs : List Wt) (x : Wt) (w : World) (hq : QAt w lo ⟨b, o, none⟩ g cap (n + 1) qs) (hz : w.frozen? ⟨b, o, none⟩ = false) (hx : qs[n]? = some x) (hn : n < 1000) :
    Calls Tryz.prog 227 #[.pointer (some ⟨b, o, none⟩)] w fun e w' => e = .returned (.iface 168 x.agg) ∧ QAt w' lo ⟨b, o, none⟩ g cap n (qs.take n) ∧ Slots b (fun j => j = o) w w' ∧ Chg (fun k => k = b ∨ k = g) w w' := by
  have cx := wtCells_at qs n x hx
  have hr := hq.row
  have hlt := World.block_lt_of_cell? w _ hq.var
  have hgl := World.block_lt_of_cell? w _ (row_cell hr cx.1)
  have hcap : n + 1 ≤ cap := by
    rcases hr.2 with ⟨h, _⟩ | ⟨g', cap', cur, hv, _, _, h, _⟩
    · simp at h
    · simp at hv; omega
  have hbg : b ≠ g := hq.ne
  refine (qPop_cells b o g cap n x w hn hbg hcap hlt hgl hq.var hz (row_cell hr cx.1) (row_cell hr cx.2.1) (row_cell hr cx.2.2) (row_frozen hr _) (row_frozen hr _) (row_frozen hr _)).mono ?_
  rintro e w' ⟨rfl, rfl⟩
  obtain ⟨r1, c1⟩ := row_put3 hr n Wt.zero
  have hv1 : (put3 w g (n * 3) Wt.zero).cell? ⟨b, o, none⟩ = some (.slice (some ⟨g, 0, none⟩) (n + 1) cap) := c1.cellAt hq.var hbg
  rw [set_last qs n hq.len, wtCells_cat] at r1
  have hl : (qs.take n).length = n := by have := hq.len; simp; omega
  have r2 := ownsRow_pop (by rw [wtCells_len, hl]) r1
  refine ⟨rfl, ⟨?_, hl, ?_, hq.ne⟩, ?_, ?_⟩
  · rw [World.cell?_alloc_lt _ _ _ (by show b < _; have := c1.size; have e2 : ((put3 w g (n * 3) Wt.zero).setCell ⟨b, o, none⟩ (.slice (some ⟨g, 0, none⟩) n cap)).heap.size = (put3 w g (n * 3) Wt.zero).heap.size := by simp [World.setCell]
                                       rw [e2]; have : b < w.heap.size := hlt; omega)]
    exact World.cell?_setCell_same _ _ _ hv1
  · refine World.ownsRow.alloc ?_ _
    exact ownsRow_setCell_other r2 (by simp [Value.ownBlock]; exact fun h => hbg h.symm) _
  · have hlt1 : b < ((put3 w g (n * 3) Wt.zero).setCell ⟨b, o, none⟩ (.slice (some ⟨g, 0, none⟩) n cap)).heap.size := by
      have e2 : ((put3 w g (n * 3) Wt.zero).setCell ⟨b, o, none⟩ (.slice (some ⟨g, 0, none⟩) n cap)).heap.size = (put3 w g (n * 3) Wt.zero).heap.size := by simp [World.setCell]
      rw [e2]; have := c1.size; have : b < w.heap.size := hlt; omega
    exact ((Slots.of_chg (fun j => j = o) c1 hlt hbg).setCell (p := ⟨b, o, none⟩) _ (fun _ => rfl)).trans (Slots.of_block (fun _ => False) (Below.heap_alloc _ _ _ hlt1)) (fun _ h => h.elim)
  · exact ((c1.mono (G := fun k => k = b ∨ k = g) (fun k h => Or.inr h)).setCell (p := ⟨b, o, none⟩) (fun _ => Or.inl rfl) _).alloc _
set_option maxRecDepth 100000 in
set_option maxHeartbeats 400000 in
theorem heapPop_any (lo b o g cap n : Nat) (qs : List Wt) (x : Wt) (w : World) (hq : QAt w lo ⟨b, o, none⟩ g cap (n + 1) qs) (hz : w.frozen? ⟨b, o, none⟩ = false) (hx : (downFn n (swapL qs 0 n) 0 n)[n]? = some x) (hn : n < 1000) :
    Calls Tryz.prog 147 #[.iface 213 (.pointer (some ⟨b, o, none⟩))] w fun e w' => e = .returned (.iface 168 x.agg) ∧
      QAt w' lo ⟨b, o, none⟩ g cap n ((downFn n (swapL qs 0 n) 0 n).take n) ∧ Slots b (fun j => j = o) w w' ∧ Chg (fun k => k = b ∨ k = g) w w' := by
  have hv := hq.var
  have hmL := (m_len ⟨b, o, none⟩ w).trans (load_then Tryz.prog 219 _ w _ hv)
  have hmS := (m_swap ⟨b, o, none⟩ w).trans (load_then Tryz.prog 221 _ w _ hv)
  have hmP := m_pop ⟨b, o, none⟩
  have hsw := swap_row hq.row hq.len (i := 0) (j := n) (by omega) (by omega) (by omega)
  go_enter Tryz.func147, Tryz.ntmps147
  go_wp2_with fail
  refine (qLen_any _ _ _ _).mono ?_
  rintro _ w1 ⟨rfl, h1⟩
  subst h1
  go_wp2_with fail
  refine hsw.mono ?_
  rintro _ w2 ⟨rfl, hr2, hc2⟩
  clear hsw hmL hmS
  have hq2 : QAt w2 lo ⟨b, o, none⟩ g cap (n + 1) (swapL qs 0 n) := ⟨hc2.cellAt hv hq.ne, by rw [swapL_length]; exact hq.len, hr2, hq.ne⟩
  go_wp2_with fail
  refine (down_any lo _ g cap (n + 1) n (swapL qs 0 n) w2 hq2 (by omega) (by omega)).mono ?_
  rintro _ w3 ⟨bb, rfl, hq3, hc3⟩
  have hlt := World.block_lt_of_cell? w2 _ hq2.var
  have hz3 : w3.frozen? ⟨b, o, none⟩ = false := by
    rw [World.frozen?_of_block (w := w1) ((hc3.block b hlt hq.ne).trans (hc2.block b (World.block_lt_of_cell? _ _ hv) hq.ne))]
    exact hz
  go_wp2_with fail
  refine (qPop_any lo b o g cap n _ x w3 hq3 hz3 hx hn).mono ?_
  rintro _ w4 ⟨rfl, hq4, hs4, hc4⟩
  go_wp2_with fail
  go_ret
  have hs3 : Slots b (fun j => j = o) w1 w3 := (Slots.of_chg (fun j => j = o) hc2 (World.block_lt_of_cell? _ _ hv) hq.ne).trans (Slots.of_chg (fun _ => False) hc3 hlt hq.ne) (fun _ h => h.elim)
  exact ⟨rfl, hq4, hs3.trans hs4 (fun _ h => h), ((hc2.mono (fun k h => Or.inr h)).trans hc3 (fun _ _ h => Or.inr h)).trans hc4 (fun _ _ h => h)⟩
end Go.Proofs.YthedkdbgfdjlkaaGreatDoor

namespace Go.Proofs.YthedkdbgfdjlkaaGreatDoor
set_option linter.unusedVariables false
set_option linter.unusedSimpArgs false
open Go.RowKit
def idxW (m : Int) : List Wt → Nat → Int
  | [], _ => -1
  | x :: r, k => if x.num = m then k else idxW m r (k + 1)
theorem idxW_drop (m : Int) (qs : List Wt) (k : Nat) (x : Wt) (h : qs[k]? = some x) : idxW m (qs.drop k) k = if x.num = m then (k : Int) else idxW m (qs.drop (k + 1)) (k + 1) := by
  have hk : k < qs.length := by
    rcases Nat.lt_or_ge k qs.length with h' | h'
    · exact h'
    · rw [List.getElem?_eq_none h'] at h; simp at h
  rw [List.drop_eq_getElem_cons hk]
  have e : qs[k] = x := by rw [List.getElem?_eq_getElem hk] at h; exact Option.some.inj h
  rw [e]
  rfl
theorem idxW_any (m : Int) : ∀ (l : List Wt) (k : Nat), decide (0 ≤ idxW m l k) = l.any (fun y => y.num == m)
  | [], k => by simp [idxW]
  | x :: r, k => by
    by_cases h : x.num = m
    · simp [idxW, h]
    · simp [idxW, h, idxW_any m r (k + 1)]
set_option maxRecDepth 100000 in
set_option maxHeartbeats 400000 in
theorem has1_any (x : Wt) (b : Nat) (m : Int) (w : World) (hb : b < w.heap.size) (h : w.cell? ⟨b, 0, none⟩ = some (.int .i64 m)) :
    Calls Tryz.prog 112 #[x.agg, .pointer (some ⟨b, 0, none⟩)] w fun e w' => e = .returned (.bool (x.num == m)) ∧ Chg (fun _ => False) w w' := by
  unfold Wt.agg
  go_enter Tryz.func112, Tryz.ntmps112
  go_wp2
  go_ret
  exact ⟨rfl, (Chg.refl _ _).alloc _⟩
set_option maxRecDepth 100000 in
set_option maxHeartbeats 400000 in
theorem indexFunc_any (lo n : Nat) (qs : List Wt) (b : Nat) (m : Int) (w : World) (v : Value) (hr : w.ownsRow lo 168 3 v n (wtCells qs)) (hl : qs.length = n) (hn : n ≤ 1000) (hb : w.cell? ⟨b, 0, none⟩ = some (.int .i64 m)) :
    Calls Tryz.prog 141 #[v, .func (.func 112) #[] #[.pointer (some ⟨b, 0, none⟩)]] w fun e w' => e = .returned (.int .i64 (idxW m qs 0)) ∧ Chg (fun _ => False) w w' := by
  obtain ⟨q, cap, rfl⟩ := row_any hr
  go_enter Tryz.func141, Tryz.ntmps141
  go_wp2
  go_loopw [5, 8] (fun _ si wr => ∃ (k : Nat), si = .int .i64 k ∧ k ≤ n ∧ Chg (fun _ => False) w wr ∧ Hid (idxW m qs 0 = idxW m (qs.drop k) k)) (fun _ si _ => n - (intOf si).toNat)
  case atStart => exact ⟨0, rfl, by omega, Chg.refl _ _, by show _ = _; simp⟩
  case round =>
    obtain ⟨k, rfl, hk, hc, HE⟩ := hrel
    by_cases hkn : k < n
    · obtain ⟨x, hx⟩ : ∃ x, qs[k]? = some x := ⟨_, List.getElem?_eq_getElem (by omega)⟩
      have cx := wtCells_at qs k x hx
      obtain ⟨g, cap', hv, hlg, _, hcell⟩ := row_pos hr (by omega)
      simp only [Value.slice.injEq] at hv
      obtain ⟨rfl, _, rfl⟩ := hv
      have a0 := hc.cellAt (hcell _ _ cx.1) id
      have a1 := hc.cellAt (hcell _ _ cx.2.1) id
      have a2 := hc.cellAt (hcell _ _ cx.2.2) id
      have hbr := hc.cellAt hb id
      have hkn' : (k : Int) < (n : Int) := by omega
      clear hcell hr cx
      go_wp2_with fail
      refine (has1_any x b m wr (World.block_lt_of_cell? _ _ hbr) hbr).mono ?_
      rintro _ w1 ⟨rfl, hc1⟩
      by_cases hxm : x.num = m
      · have hd : (x.num == m) = true := by simpa using hxm
        rw [hd]
        go_wp2_with fail
        go_ret
        refine ⟨?_, hc.trans hc1 (fun _ _ h => h)⟩
        rw [HE.out, idxW_drop m qs k x hx]
        simp [hxm]
      · have hd : (x.num == m) = false := by simpa using hxm
        rw [hd]
        go_wp2_with fail
        go_roundw
        case rel =>
          refine ⟨k + 1, by go_num, by omega, hc.trans hc1 (fun _ _ h => h), ?_⟩
          show _ = _
          rw [HE.out, idxW_drop m qs k x hx]
          simp [hxm]
        case measure => simp [intOf]; omega
    · have hkn' : ¬ (k : Int) < (n : Int) := by omega
      go_wp2_with fail
      go_ret
      refine ⟨?_, hc⟩
      rw [HE.out, List.drop_eq_nil_of_le (by omega)]
      rfl
set_option maxRecDepth 100000 in
set_option maxHeartbeats 400000 in
theorem containsFunc_any (lo n : Nat) (qs : List Wt) (b : Nat) (m : Int) (w : World) (v : Value) (hr : w.ownsRow lo 168 3 v n (wtCells qs)) (hl : qs.length = n) (hn : n ≤ 1000) (hb : w.cell? ⟨b, 0, none⟩ = some (.int .i64 m)) :
    Calls Tryz.prog 111 #[v, .func (.func 112) #[] #[.pointer (some ⟨b, 0, none⟩)]] w fun e w' => e = .returned (.bool (qs.any (fun y => y.num == m))) ∧ Chg (fun _ => False) w w' := by
  go_enter Tryz.func111, Tryz.ntmps111
  go_wp2_with fail
  refine (indexFunc_any lo n qs b m w v hr hl hn hb).mono ?_
  rintro _ w1 ⟨rfl, hc1⟩
  go_wp2_with fail
  go_ret
  exact ⟨by rw [← idxW_any m qs 0]; rfl, hc1⟩
set_option maxRecDepth 100000 in
set_option maxHeartbeats 400000 in
theorem has_low (b o : Nat) (base m : Int) (w : World) (hbl : b < w.heap.size) (hb : w.cell? ⟨b, o + 1, none⟩ = some (.int .i64 base)) (hm : m < base) :
    Calls Tryz.prog 73 #[.pointer (some ⟨b, o, none⟩), .int .i64 m] w fun e w' => e = .returned (.bool true) ∧ Chg (fun _ => False) w w' := by
  go_enter Tryz.func73, Tryz.ntmps73
  go_wp2_with fail
  go_quiet (fail)
  go_wp2_with fail
  go_ret
  exact ⟨rfl, ((Chg.refl _ w).alloc _).trans (((Quiet.refl _).drewN _).chg _) (fun _ _ h => h)⟩
set_option maxRecDepth 100000 in
set_option maxHeartbeats 400000 in
theorem has_high (lo b o n : Nat) (base m : Int) (v : Value) (qs : List Wt) (w : World) (hbl : b < w.heap.size) (hb : w.cell? ⟨b, o + 1, none⟩ = some (.int .i64 base)) (hm : ¬ m < base)
    (hv : w.cell? ⟨b, o + 2, none⟩ = some v) (hr : w.ownsRow lo 168 3 v n (wtCells qs)) (hl : qs.length = n) (hn : n ≤ 1000) :
    Calls Tryz.prog 73 #[.pointer (some ⟨b, o, none⟩), .int .i64 m] w fun e w' => e = .returned (.bool (qs.any (fun y => y.num == m))) ∧ Chg (fun _ => False) w w' := by
  have hmf : ∀ (fn : Fn) (first cap : Array Value) (w : World), (Instr.makeFunc fn first cap).run Tryz.prog w = .ok (.func fn first cap) w := fun _ _ _ _ => rfl
  have hcf := containsFunc_any lo n qs w.heap.size m (w.alloc (.cells #[.int .i64 m] 3)).drew v (hr.alloc _) hl hn (by simp)
  have hd : decide (m < base) = false := by simpa using hm
  go_enter Tryz.func73, Tryz.ntmps73
  go_wp2_with fail
  go_region_with (go_at_call 111; refine hcf.mono ?_; rintro _ w1 ⟨rfl, hc1⟩)
  all_goals (go_wp2; go_ret; exact ⟨rfl, ((Chg.refl _ w).alloc _).drew.trans hc1 (fun _ _ h => h)⟩)
set_option maxRecDepth 100000 in
set_option maxHeartbeats 400000 in
theorem turn_same (b o : Nat) (e0 e : Int) (w : World) (h0 : w.cell? ⟨b, o, none⟩ = some (.int .i64 e0)) (hle : ¬ e0 < e) :
    Calls Tryz.prog 71 #[.pointer (some ⟨b, o, none⟩), .int .i64 e] w fun e w' => e = .returned (.tuple #[]) ∧ w' = w := by
  go_enter Tryz.func71, Tryz.ntmps71
  go_wp2
  go_end0
  exact ⟨rfl, rfl⟩
set_option maxRecDepth 100000 in
set_option maxHeartbeats 400000 in
theorem turn_new (b o : Nat) (e0 e b0 : Int) (v : Value) (w : World) (h0 : w.cell? ⟨b, o, none⟩ = some (.int .i64 e0)) (h1 : w.cell? ⟨b, o + 1, none⟩ = some (.int .i64 b0)) (h2 : w.cell? ⟨b, o + 2, none⟩ = some v)
    (f0 : w.frozen? ⟨b, o, none⟩ = false) (f1 : w.frozen? ⟨b, o + 1, none⟩ = false) (f2 : w.frozen? ⟨b, o + 2, none⟩ = false) (hlt : e0 < e) :
    Calls Tryz.prog 71 #[.pointer (some ⟨b, o, none⟩), .int .i64 e] w fun e' w' => e' = .returned (.tuple #[]) ∧
      w' = ((w.setCell ⟨b, o, none⟩ (.int .i64 e)).setCell ⟨b, o + 1, none⟩ (.int .i64 0)).setCell ⟨b, o + 2, none⟩ (.slice none 0 0) := by
  go_enter Tryz.func71, Tryz.ntmps71
  go_wp2
  go_end0
  exact ⟨rfl, rfl⟩
set_option maxRecDepth 100000 in
set_option maxHeartbeats 400000 in
theorem reaches_any (b o : Nat) (base m : Int) (w : World) (h1 : w.cell? ⟨b, o + 1, none⟩ = some (.int .i64 base)) (hb : 0 ≤ base ∧ base ≤ 1000) :
    Calls Tryz.prog 72 #[.pointer (some ⟨b, o, none⟩), .int .i64 m] w fun e w' => e = .returned (.bool (decide (0 ≤ m ∧ m < base + 4))) ∧ Quiet w w' := by
  obtain ⟨hb0, hb1⟩ := hb
  by_cases h0 : 0 ≤ m
  · have h0d : decide (0 ≤ m) = true := by simpa using h0
    go_enter Tryz.func72, Tryz.ntmps72
    go_wp2
    go_ret
    exact ⟨by simp [h0], Quiet.refl _⟩
  · have h0d : decide (0 ≤ m) = false := by simpa using h0
    go_enter Tryz.func72, Tryz.ntmps72
    go_wp2
    go_ret
    exact ⟨rfl, Quiet.refl _⟩
end Go.Proofs.YthedkdbgfdjlkaaGreatDoor

namespace Go.Proofs.YthedkdbgfdjlkaaGreatDoor
set_option linter.unusedVariables false
set_option linter.unusedSimpArgs false
open Go.RowKit
set_option maxRecDepth 100000 in
set_option maxHeartbeats 400000 in
theorem add_any (lo b o n : Nat) (v : Value) (qs : List Wt) (x : Wt) (w : World) (hv : w.cell? ⟨b, o + 2, none⟩ = some v) (hz : w.frozen? ⟨b, o + 2, none⟩ = false) (hr : w.ownsRow lo 168 3 v n (wtCells qs)) (hl : qs.length = n) (hne : v.ownBlock ≠ some b) (hlo : lo ≤ w.heap.size) (hn : n < 1000) :
    Calls Tryz.prog 75 #[.pointer (some ⟨b, o, none⟩), x.agg] w fun e w' => ∃ g cap, e = .returned (.tuple #[]) ∧
      QAt w' lo ⟨b, o + 2, none⟩ g cap (n + 1) (upFn (n + 1) (qs ++ [x]) n) ∧ (v.ownBlock = some g ∨ w.heap.size ≤ g) ∧ Slots b (fun j => j = o + 2) w w' ∧ Chg (fun k => k = b ∨ v.ownBlock = some k) w w' := by
  have hbl := World.block_lt_of_cell? w _ hv
  have hbl' : b < w.heap.size := hbl
  have hpu := heapPush_any lo ⟨b, o + 2, none⟩ v n qs x (w.alloc (.cells #[.int .i64 x.num, .string x.key, .int .i64 x.val] 168)).drew ((World.cell?_alloc_lt w _ ⟨b, o + 2, none⟩ hbl).trans hv)
    ((World.frozen?_of_block (w := w) (Below.heap_alloc _ _ _ hbl)).trans hz) (hr.alloc _) hl hne (by show lo ≤ (w.alloc _).heap.size; rw [World.size_alloc]; omega) hn
  unfold Wt.agg
  go_enter Tryz.func75, Tryz.ntmps75
  go_wp2_with fail
  go_region_with (go_at_call 116; refine hpu.mono ?_; rintro _ w1 ⟨g, cap, rfl, hq1, hw1, hs1, hc1⟩)
  all_goals
    go_end0
    refine ⟨g, cap, rfl, hq1, hw1.imp id (fun h => ?_), ((Slots.of_block (fun j => j = o + 2) (Below.heap_alloc w _ b hbl)).quiet ((Quiet.refl _).drew)).trans hs1 (fun _ h => h), ((Chg.refl _ w).alloc _).drew.trans hc1 (fun _ _ h => h)⟩
    have e : ((w.alloc (.cells #[.int .i64 x.num, .string x.key, .int .i64 x.val] 168)).drew).heap.size = w.heap.size + 1 := World.size_alloc _ _
    omega
theorem Chg.drewN' {F : Nat → Prop} {a w : World} (h : Chg F a w) (n : Nat) : Chg F a (w.drewN n) := ⟨h.os, h.tape, h.output, h.size, h.block⟩
set_option maxRecDepth 100000 in
set_option maxHeartbeats 400000 in
theorem next_empty (b o : Nat) (p : Option Addr) (cap : Nat) (w : World) (hbl : b < w.heap.size) (hv : w.cell? ⟨b, o + 2, none⟩ = some (.slice p 0 cap)) :
    Calls Tryz.prog 118 #[.pointer (some ⟨b, o, none⟩)] w fun e w' => e = .returned (.tuple #[Wt.zero.agg, .bool false]) ∧ Chg (fun _ => False) w w' := by
  go_enter Tryz.func118, Tryz.ntmps118
  go_wp2_with fail
  go_quiet (fail)
  go_wp2_with fail
  refine bodyPost_ret (v := .tuple #[Wt.zero.agg, .bool false]) ?_ rfl ⟨rfl, ?_⟩
  · simp [results, Tryz.results118, go_sem, Wt.zero, Wt.agg]
  · exact (((((Chg.refl _ w).alloc _).drewN' _).setCell (fun h => absurd h (Nat.lt_irrefl _)) _).setCell (fun h => absurd h (Nat.lt_irrefl _)) _).setCell (fun h => absurd h (Nat.lt_irrefl _)) _
set_option maxRecDepth 100000 in
set_option maxHeartbeats 400000 in
theorem next_not (b o g cap n : Nat) (base num : Int) (w : World) (hbl : b < w.heap.size) (hgl : g < w.heap.size) (hv : w.cell? ⟨b, o + 2, none⟩ = some (.slice (some ⟨g, 0, none⟩) (n + 1) cap)) (hb : w.cell? ⟨b, o + 1, none⟩ = some (.int .i64 base)) (ha : w.cell? ⟨g, 0, none⟩ = some (.int .i64 num)) (hne : (num != base) = true) (hn : n < 1000) :
    Calls Tryz.prog 118 #[.pointer (some ⟨b, o, none⟩)] w fun e w' => e = .returned (.tuple #[Wt.zero.agg, .bool false]) ∧ Chg (fun _ => False) w w' := by
  have h0 : ((n : Int) + 1 == 0) = false := by simp; omega
  go_enter Tryz.func118, Tryz.ntmps118
  go_wp2_with fail
  go_quiet (fail)
  go_wp2_with fail
  refine bodyPost_ret (v := .tuple #[Wt.zero.agg, .bool false]) ?_ rfl ⟨rfl, ?_⟩
  · simp [results, Tryz.results118, go_sem, Wt.zero, Wt.agg]
  · exact (((((Chg.refl _ w).alloc _).drewN' _).setCell (fun h => absurd h (Nat.lt_irrefl _)) _).setCell (fun h => absurd h (Nat.lt_irrefl _)) _).setCell (fun h => absurd h (Nat.lt_irrefl _)) _
theorem frozen_setCell (w : World) (p : Addr) (u : Value) (a : Addr) : (w.setCell p u).frozen? a = w.frozen? a := by simp
set_option maxRecDepth 100000 in
set_option maxHeartbeats 1000000 in
theorem next_some (lo b o g cap n : Nat) (base : Int) (qs : List Wt) (x : Wt) (w : World) (hq : QAt w lo ⟨b, o + 2, none⟩ g cap (n + 1) qs) (hb : w.cell? ⟨b, o + 1, none⟩ = some (.int .i64 base)) (f1 : w.frozen? ⟨b, o + 1, none⟩ = false) (f2 : w.frozen? ⟨b, o + 2, none⟩ = false)
    (h0 : numAt qs 0 = base) (hb0 : 0 ≤ base ∧ base ≤ 1000) (hx : (downFn n (swapL qs 0 n) 0 n)[n]? = some x) (hn : n < 1000) :
    Calls Tryz.prog 118 #[.pointer (some ⟨b, o, none⟩)] w fun e w' => e = .returned (.tuple #[x.agg, .bool true]) ∧
      QAt w' lo ⟨b, o + 2, none⟩ g cap n ((downFn n (swapL qs 0 n) 0 n).take n) ∧ w'.cell? ⟨b, o + 1, none⟩ = some (.int .i64 (base + 1)) ∧ Slots b (fun j => j = o + 1 ∨ j = o + 2) w w' ∧ Chg (fun k => k = b ∨ k = g) w w' := by
  obtain ⟨y, hy⟩ : ∃ y, qs[0]? = some y := ⟨_, List.getElem?_eq_getElem (by have := hq.len; omega)⟩
  have hyn : y.num = base := by simpa [numAt, hy] using h0
  have cy := wtCells_at qs 0 y hy
  have ha : w.cell? ⟨g, 0, none⟩ = some (.int .i64 base) := by have := row_cell hq.row cy.1; rw [hyn] at this; simpa using this
  have hv := hq.var
  have hbl : b < w.heap.size := World.block_lt_of_cell? _ _ hv
  have hgl : g < w.heap.size := World.block_lt_of_cell? _ _ ha
  have hz0 : ((n : Int) + 1 == 0) = false := by simp; omega
  have hta := assert_waiter
  obtain ⟨hb1, hb2⟩ := hb0
  have hbg : b ≠ g := hq.ne
  go_enter Tryz.func118, Tryz.ntmps118
  go_wp2_with fail
  go_quiet (fail)
  go_wp2_with fail
  have hsz : (((w.alloc (.cells #[.int .i64 0, .string { data := #[] }, .int .i64 0] 168)).drewN nq).setCell ⟨b, o + 1, none⟩ (.int .i64 (base + 1))).heap.size = w.heap.size + 1 := by
    simp [World.setCell]
  generalize hW : ((w.alloc (.cells #[.int .i64 0, .string { data := #[] }, .int .i64 0] 168)).drewN nq).setCell ⟨b, o + 1, none⟩ (.int .i64 (base + 1)) = W at hsz
  have hcW : Chg (fun k => k = b) w W := by rw [← hW]; exact (((Chg.refl (fun k => k = b) w).alloc _).drewN' nq).setCell (p := ⟨b, o + 1, none⟩) (fun _ => rfl) _
  have hsW : Slots b (fun j => j = o + 1) w W := by
    rw [← hW]; exact ((Slots.of_block _ (Below.heap_alloc _ _ _ hbl)).quiet ((Quiet.refl _).drewN nq)).setCell (p := ⟨b, o + 1, none⟩) _ (fun _ => rfl)
  have hbW : W.cell? ⟨b, o + 1, none⟩ = some (.int .i64 (base + 1)) := by
    rw [← hW]; exact World.cell?_setCell_same _ _ _ ((World.cell?_alloc_lt w _ ⟨b, o + 1, none⟩ hbl).trans hb)
  have hnW : ∀ j, j < 3 → W.cell? ⟨w.heap.size, j, none⟩ ≠ none := by
    intro j hj
    rw [← hW, World.cell?_setCell_other _ _ _ _ (fun e => by have := congrArg Addr.block e; simp at this; omega)]
    show (w.alloc _).cell? ⟨w.heap.size, j, none⟩ ≠ none
    rw [World.cell?_alloc_new]
    match j, hj with
    | 0, _ => simp
    | 1, _ => simp
    | 2, _ => simp
  have hqW : QAt W lo ⟨b, o + 2, none⟩ g cap (n + 1) qs := ⟨(hsW.cell (o + 2) (by omega)).trans hv, hq.len, hcW.row' hq.row (fun k hk => by simp [Value.ownBlock] at hk; omega), hq.ne⟩
  refine (heapPop_any lo b (o + 2) g cap n qs x W hqW ((hsW.frozen _).trans f2) hx hn).mono ?_
  rintro _ w2 ⟨rfl, hq2, hs2, hc2⟩
  have hnew : ∀ j, j < 3 → (∃ u, w2.cell? ⟨w.heap.size, j, none⟩ = some u) ∧ w2.frozen? ⟨w.heap.size, j, none⟩ = false := by
    intro j hj
    have hb2 : w2.heap[w.heap.size]? = W.heap[w.heap.size]? := hc2.block _ (by omega) (by omega)
    refine ⟨Option.ne_none_iff_exists'.1 ?_, ?_⟩
    · rw [World.cell?_of_block (w := W) (a := ⟨w.heap.size, j, none⟩) hb2]; exact hnW j hj
    · rw [World.frozen?_of_block (w := W) (a := ⟨w.heap.size, j, none⟩) hb2, ← hW, frozen_setCell]
      show (w.alloc _).frozen? _ = false
      have e : (w.alloc (.cells #[.int .i64 0, .string { data := #[] }, .int .i64 0] 168)).heap[w.heap.size]? = some (.cells #[.int .i64 0, .string { data := #[] }, .int .i64 0] 168) := heap_alloc_new w _
      simp only [World.frozen?, e]
      simp
  obtain ⟨⟨u0, n0⟩, z0⟩ := hnew 0 (by omega)
  obtain ⟨⟨u1, n1⟩, z1⟩ := hnew 1 (by omega)
  obtain ⟨⟨u2, n2⟩, z2⟩ := hnew 2 (by omega)
  have hlt2 : w.heap.size < w2.heap.size := by have := hc2.size; omega
  unfold Wt.agg
  clear hnew hnW ha hv hb f1 f2
  go_wp2_with fail
  have hc3 : Chg (fun k => k = w.heap.size) w2 (((w2.setCell ⟨w.heap.size, 0, none⟩ (.int .i64 x.num)).setCell ⟨w.heap.size, 1, none⟩ (.string x.key)).setCell ⟨w.heap.size, 2, none⟩ (.int .i64 x.val)) :=
    (((Chg.refl (fun k => k = w.heap.size) w2).setCell (p := ⟨w.heap.size, 0, none⟩) (fun _ => rfl) _).setCell (p := ⟨w.heap.size, 1, none⟩) (fun _ => rfl) _).setCell (p := ⟨w.heap.size, 2, none⟩) (fun _ => rfl) _
  refine bodyPost_ret (v := .tuple #[x.agg, .bool true]) ?_ rfl ⟨rfl, ⟨?_, hq2.len, ?_, hq2.ne⟩, ?_, ?_, ?_⟩
  · simp [results, Tryz.results118, go_sem, Wt.agg, n0, n1, n2]
  · exact hc3.cellAt hq2.var (by omega)
  · exact hc3.row' hq2.row (fun k hk => by simp [Value.ownBlock] at hk; omega)
  · exact hc3.cellAt ((hs2.cell (o + 1) (by omega)).trans hbW) (by omega)
  · have hb2' : b < w2.heap.size := by omega
    exact ((hsW.mono (T := fun j => j = o + 1 ∨ j = o + 2) (fun _ h => Or.inl h)).trans hs2 (fun _ h => Or.inr h)).trans (Slots.of_chg (fun _ => False) hc3 hb2' (by omega)) (fun _ h => h.elim)
  · exact ((hcW.mono (G := fun k => k = b ∨ k = g) (fun _ h => Or.inl h)).trans hc2 (fun _ _ h => h)).trans hc3 (fun k hk h => by omega)
end Go.Proofs.YthedkdbgfdjlkaaGreatDoor

namespace Go.Proofs.YthedkdbgfdjlkaaGreatDoor
set_option linter.unusedVariables false
set_option linter.unusedSimpArgs false
open Go.RowKit Go.Lib Go.Sort
theorem grow_chg (w : World) (os : Array Obj) : Chg (fun _ => False) w (grow w os) :=
  ⟨rfl, rfl, rfl, by simp [grow], fun k hk _ => heap_grow_old w os hk⟩
theorem row_holds {α : Type} [Inhabited α] (enc : α → Value) {w : World} {ds : List α} {lo : Nat} {e : TypeId} {g n cap : Nat} (hr : w.ownsRow lo e 1 (.slice (some ⟨g, 0, none⟩) n cap) n (ds.map enc)) : Holds enc w g 0 ds.toArray := by
  intro j hj
  have hj' : j < ds.length := by simpa using hj
  refine ⟨?_, row_frozen hr _⟩
  rw [Nat.zero_add]
  refine row_cell hr ?_
  rw [List.getElem?_map, List.getElem?_eq_getElem hj', getElem!_pos _ j hj]
  simp
theorem row_put {α : Type} [Inhabited α] (enc : α → Value) (w : World) (ds ys : List α) {lo : Nat} {e : TypeId} {g n cap : Nat} (hr : w.ownsRow lo e 1 (.slice (some ⟨g, 0, none⟩) n cap) n (ds.map enc)) (hl : ys.length = n) (q : Nat) (os : Array Obj) :
    (grow (putRow enc (Sort.ahead w q) g 0 ys.toArray) os).ownsRow lo e 1 (.slice (some ⟨g, 0, none⟩) n cap) n (ys.map enc) ∧ Chg (fun k => k = g) w (grow (putRow enc (Sort.ahead w q) g 0 ys.toArray) os) := by
  have hdl : ds.length = n := by have := hr.1; simpa using this
  have hH : Holds enc w g 0 ds.toArray := by
    intro j hj
    have hj' : j < ds.length := by simpa using hj
    refine ⟨?_, row_frozen hr _⟩
    rw [Nat.zero_add]
    refine row_cell hr ?_
    rw [List.getElem?_map, List.getElem?_eq_getElem hj', getElem!_pos _ j hj]
    simp
  rw [putRow_eq_setCells enc w g 0 ds.toArray ys q hH (by simp [hl, hdl])]
  have hr' : (w.drewN q).ownsRow lo e 1 (.slice (some ⟨g, 0, none⟩) n cap) n (ds.map enc) := hr
  obtain ⟨r1, c1⟩ := row_setCells (ys.map enc) 0 (w.drewN q) (ds.map enc) hr' (by simp [hl, hdl])
  have e1 : (ds.map enc).take 0 ++ ys.map enc ++ (ds.map enc).drop (0 + (ys.map enc).length) = ys.map enc := by
    simp [hl, hdl]
  rw [e1] at r1
  have c0 : Chg (fun k => k = g) w (w.drewN q) := ⟨rfl, rfl, rfl, Nat.le_refl _, fun _ _ _ => rfl⟩
  exact ⟨(grow_chg _ os).row' r1 (fun _ _ h => h.elim), (c0.trans c1 (fun _ _ h => h)).trans (grow_chg _ os) (fun _ _ h => h.elim)⟩
theorem row_front {w : World} {lo : Nat} {e : TypeId} {size g n cap : Nat} {xs : List Value} (h : w.ownsRow lo e size (.slice (some ⟨g, 0, none⟩) n cap) n xs) (m : Nat) (hm : m ≤ n) : w.ownsRow lo e size (.slice (some ⟨g, 0, none⟩) m cap) m (xs.take (m * size)) := by
  rcases h.2 with ⟨hv, _⟩ | ⟨g', cap', cur, hv, hb, hg, hn, hmx, hs, ht⟩
  · simp at hv
  · simp at hv
    obtain ⟨rfl, rfl⟩ := hv
    have hle : m * size ≤ n * size := Nat.mul_le_mul_right _ hm
    refine ⟨by rw [List.length_take, h.1]; omega, .inr ⟨g, cap, cur, rfl, hb, hg, by omega, hmx, hs, ?_⟩⟩
    rw [← ht, List.take_take, Nat.min_eq_left hle]
theorem mem_upTo {α : Type} [DecidableEq α] [Inhabited α] (d : Array α) (x : α) : ∀ m, x ∈ compactUpTo d m ↔ ∃ j, j < m ∧ d[j]! = x
  | 0 => by simp [compactUpTo]
  | m + 1 => by
    rw [compactUpTo_succ, List.mem_append, mem_upTo d x m]
    constructor
    · rintro (⟨j, hj, h⟩ | h)
      · exact ⟨j, by omega, h⟩
      · split at h
        · simp at h; exact ⟨m, by omega, h.symm⟩
        · simp at h
    · rintro ⟨j, hj, h⟩
      rcases Nat.lt_or_ge j m with hjm | hjm
      · exact .inl ⟨j, hjm, h⟩
      · obtain rfl : j = m := by omega
        by_cases hk : keeps d j = true
        · right; simp [hk, h]
        · left
          have : ¬ (j = 0 ∨ d[j]! ≠ d[j - 1]!) := by simpa [keeps] using hk
          have h0 : j ≠ 0 := fun e => this (.inl e)
          have h1 : d[j]! = d[j - 1]! := Decidable.of_not_not fun e => this (.inr e)
          exact ⟨j - 1, by omega, h1.symm.trans h⟩
theorem mem_compact {α : Type} [DecidableEq α] [Inhabited α] (zs : List α) (x : α) : x ∈ compact zs ↔ x ∈ zs := by
  unfold compact
  rw [mem_upTo]
  constructor
  · rintro ⟨j, hj, rfl⟩
    rw [getElem!_pos _ j (by simpa using hj)]
    simp
  · intro h
    obtain ⟨j, hj, rfl⟩ := List.getElem_of_mem h
    exact ⟨j, hj, by rw [getElem!_pos _ j (by simpa using hj)]; simp⟩
theorem nodup_upTo {α : Type} [DecidableEq α] [Inhabited α] (le : α → α → Prop) (anti : ∀ a b, le a b → le b a → a = b) (d : Array α) (hs : ∀ i j, i < j → j < d.size → le d[i]! d[j]!) (hrefl : ∀ a, le a a) : ∀ m, m ≤ d.size → (compactUpTo d m).Nodup
  | 0, _ => by simp [compactUpTo]
  | m + 1, hm => by
    have ih := nodup_upTo le anti d hs hrefl m (by omega)
    rw [compactUpTo_succ]
    by_cases hk : keeps d m = true
    · rw [if_pos hk, List.nodup_append]
      refine ⟨ih, by simp, ?_⟩
      intro a ha b hb
      simp at hb
      subst hb
      rintro rfl
      obtain ⟨j, hj, he⟩ := (mem_upTo d d[m]! m).1 ha
      have hk' : m = 0 ∨ d[m]! ≠ d[m - 1]! := by simpa [keeps] using hk
      have h0 : d[m]! ≠ d[m - 1]! := hk'.resolve_left (by omega)
      apply h0
      have l1 : le d[m - 1]! d[m]! := hs (m - 1) m (by omega) (by omega)
      have l2 : le d[m]! d[m - 1]! := by
        rw [← he]
        rcases Nat.lt_or_ge j (m - 1) with h | h
        · exact hs j (m - 1) h (by omega)
        · obtain rfl : j = m - 1 := by omega
          exact hrefl _
      exact anti _ _ l2 l1
    · rw [if_neg hk]; simpa using ih
end Go.Proofs.YthedkdbgfdjlkaaGreatDoor

namespace Go.Proofs.YthedkdbgfdjlkaaGreatDoor
set_option linter.unusedVariables false
set_option linter.unusedSimpArgs false
open Go.RowKit Go.Lib
structure FlowCells (w : World) (b o : Nat) (E B : Nat → Int) (V : Nat → Value) (vk : Value) : Prop where
  ep : ∀ i, i < 4 → w.cell? ⟨b, o + i * 3, none⟩ = some (.int .i64 (E i))
  ba : ∀ i, i < 4 → w.cell? ⟨b, o + i * 3 + 1, none⟩ = some (.int .i64 (B i))
  qu : ∀ i, i < 4 → w.cell? ⟨b, o + i * 3 + 2, none⟩ = some (V i)
  le : w.cell? ⟨b, o + 12, none⟩ = some vk
theorem FlowCells.chg {F : Nat → Prop} {w w' : World} {b o : Nat} {E B : Nat → Int} {V : Nat → Value} {vk : Value} (h : FlowCells w b o E B V vk) (hc : Chg F w w') (hF : ¬ F b) : FlowCells w' b o E B V vk :=
  ⟨fun i hi => hc.cellAt (h.ep i hi) hF, fun i hi => hc.cellAt (h.ba i hi) hF, fun i hi => hc.cellAt (h.qu i hi) hF, hc.cellAt h.le hF⟩
theorem Tryz.infoS : (Tryz.prog.info? 9).map (fun i => (i.zero, i.size, i.bytes)) = some (some (.string ⟨#[]⟩), 1, 16) := by kernel_rfl
theorem index_lane (E B : Nat → Int) (V : Nat → Value) (k : Nat) (hk : k < 4) (w : World) :
    (Instr.index 95 (.agg #[.int .i64 (E 0), .int .i64 (B 0), V 0, .int .i64 (E 1), .int .i64 (B 1), V 1, .int .i64 (E 2), .int .i64 (B 2), V 2, .int .i64 (E 3), .int .i64 (B 3), V 3]) (.int .i64 k)).run Tryz.prog w = .ok (.agg #[.int .i64 (E k), .int .i64 (B k), V k]) w := by
  rcases (by omega : k = 0 ∨ k = 1 ∨ k = 2 ∨ k = 3) with rfl | rfl | rfl | rfl
  · kernel_rfl
  · kernel_rfl
  · kernel_rfl
  · kernel_rfl
def strs' (L : List ByteArray) : List Value := L.map Value.string
def qNames (Q : Nat → List Wt) : Nat → List ByteArray
  | 0 => []
  | k + 1 => qNames Q k ++ (Q k).map (·.key)
theorem wpList_app1 {P : Program} {W : World} {ops : Array Oper} {rest : List Oper} {o : Oper} {a : Act} {Qx : Exit → Act → World → Prop} (hgd : o.guard = none) (s x : Operand) (t : TypeId)
    (ho : o.op = .call { callee := .builtin .append, args := #[s, x], argTypes := #[t, t] }) (base : Nat) (e : TypeId) (i : TypeInfo) (z : Value) (bytes : Nat)
    (h1 : P.underlying t = some (.slice e)) (h2 : P.info? e = some i) (h3 : i.zero = some z) (h4 : i.size = 1) (h5 : i.bytes = bytes) (h6 : z.cells.size = 1)
    (v : Value) (n : Nat) (xs : List Value) (hs : a.eval s = v) (hown : W.ownsRow base e 1 v n xs) (q : Nat) (u : Value) (hx : a.eval x = .slice (some ⟨q, 0, none⟩) 1 1) (hu : W.cell? ⟨q, 0, none⟩ = some u) (h1c : u.oneCell' = true)
    (hn : n ≤ 1000000) (hby : bytes ≤ 1000) (hb : base ≤ W.heap.size)
    (hK : ∀ v' w', w'.ownsRow base e 1 v' (n + 1) (xs ++ [u]) → W.grownBy w' v.ownBlock → wpList P ops Qx rest (a.put o.dst v') w') : wpList P ops Qx (o :: rest) a W := by
  have hb2 : (n + 1) * bytes ≤ 140737488355328 := by
    have : (n + 1) * bytes ≤ 1000001 * 1000 := Nat.mul_le_mul (by omega) hby
    omega
  obtain ⟨v', w', hrun, r1, r2, _⟩ := run_append_own (P := P) W base t o.type e i z 1 bytes h1 h2 h3 h4 h5 h6 (by decide) v n xs hown ⟨q, 0, none⟩ 1 1 [u] rfl
    (fun j y hj => by
      cases j with
      | zero => simp at hj; subst hj; simpa [Addr.add] using hu
      | succ j => simp at hj) (fun y hy => by simp at hy; subst hy; exact h1c) (by unfold maxLen; omega) hb2 hb
  exact Lib.wpList_append_run W hgd s x t t ho v _ hs hx v' w' hrun (hK v' w' r1 r2)
theorem Chg.grown {w W w' : World} {row : Option Nat} (h : Chg (fun _ => False) w W) (hg : W.grownBy w' row) (hr : ∀ k, row = some k → w.heap.size ≤ k) : Chg (fun _ => False) w w' :=
  h.trans (G := fun k => row = some k) ⟨hg.os, hg.tape, hg.output, hg.size, fun k hk hne => hg.block k hk (fun e => hne e.symm)⟩ (fun k hk e => by have := hr k e; omega)
def theNames (ks : List Ky) (Q : Nat → List Wt) : List (List UInt8) := compact (((ks.map (·.name) ++ qNames Q 4).map (·.data.toList)).mergeSort fun x y => decide (x ≤ y))
set_option maxRecDepth 100000 in
set_option maxHeartbeats 2000000 in
theorem names_any (lo b o : Nat) (E B : Nat → Int) (V : Nat → Value) (vk : Value) (Q : Nat → List Wt) (ks : List Ky) (w : World) (hb : b < w.heap.size) (hF : FlowCells w b o E B V vk)
    (hk : w.ownsRow lo 87 4 vk ks.length (keyCells ks)) (hkn : ks.length ≤ 4) (hq : ∀ i, i < 4 → w.ownsRow lo 168 3 (V i) (Q i).length (wtCells (Q i))) (hqn : ∀ i, i < 4 → (Q i).length ≤ 4) :
    Calls Tryz.prog 113 #[.pointer (some ⟨b, o, none⟩)] w fun e w' => ∃ v, e = .returned v ∧ w'.ownsRow w.heap.size 9 1 v (theNames ks Q).length ((theNames ks Q).map encStr) ∧ Chg (fun _ => False) w w' := by
  obtain ⟨i0, hi, hz0, hz1, hz2⟩ := info_parts Tryz.infoS
  obtain ⟨pk, capk, rfl⟩ := row_any hk
  have hkc := hF.le
  go_enter Tryz.func113, Tryz.ntmps113
  go_wp2
  go_loopw [3, 5, 15] (fun sv _ si wr => ∃ (k : Nat), si = .int .i64 k ∧ k ≤ ks.length ∧ wr.ownsRow w.heap.size 9 1 sv k (strs' ((ks.take k).map (·.name))) ∧ Chg (fun _ => False) w wr) (fun _ _ si _ => ks.length - (intOf si).toNat)
  case atStart => exact ⟨0, rfl, by omega, World.ownsRow_nil _ _ _ _, Chg.refl _ _⟩
  case round =>
    obtain ⟨k, rfl, hk1, hown, hc⟩ := hrel
    by_cases hkl : k < ks.length
    · obtain ⟨x, hx⟩ : ∃ x, ks[k]? = some x := ⟨_, List.getElem?_eq_getElem hkl⟩
      have cx := keyCells_at ks k x hx
      obtain ⟨g, cap', hv, hlg, _, hcell⟩ := row_pos hk (by omega)
      simp only [Value.slice.injEq] at hv
      obtain ⟨rfl, _, rfl⟩ := hv
      have a0 := hc.cellAt (hcell _ _ cx.1) id
      have a1 := hc.cellAt (hcell _ _ cx.2.1) id
      have a2 := hc.cellAt (hcell _ _ cx.2.2.1) id
      have a3 := hc.cellAt (hcell _ _ cx.2.2.2) id
      have hkl' : (k : Int) < (ks.length : Int) := by omega
      have hsz := hc.size
      clear hcell cx
      go_wp2_with (at_builtin; refine wpList_app1 rfl _ _ 34 rfl w.heap.size 9 i0 _ 16 Tryz.underlying34 hi hz0 hz1 hz2 rfl _ k _ rfl ((hown.alloc _).alloc _) (wr.heap.size + 1) (.string x.name) rfl (by simp) rfl (by omega) (by omega) (by simp; omega) ?_; intro v' w1 hown' hg)
      have hc1 : Chg (fun _ => False) w w1 := ((hc.alloc _).alloc _).grown hg (fun k hk => (hown.lt k hk).1)
      clear hown hg a0 a1 a2 a3
      go_wp2_with fail
      go_roundw
      case rel =>
        refine ⟨k + 1, by go_num, by omega, ?_, hc1⟩
        have e : strs' ((ks.take (k + 1)).map (·.name)) = strs' ((ks.take k).map (·.name)) ++ [.string x.name] := by
          rw [List.take_add_one, hx]; simp [strs']
        rw [e]; exact hown'
      case measure => simp [intOf]; omega
    · have hkl' : ¬ (k : Int) < (ks.length : Int) := by omega
      obtain rfl : k = ks.length := by omega
      rw [List.take_length] at hown
      have hF1 := hF.chg hc id
      have e0 := hF1.ep 0 (by omega); have e1 := hF1.ep 1 (by omega); have e2 := hF1.ep 2 (by omega); have e3 := hF1.ep 3 (by omega)
      have b0 := hF1.ba 0 (by omega); have b1 := hF1.ba 1 (by omega); have b2 := hF1.ba 2 (by omega); have b3 := hF1.ba 3 (by omega)
      have v0 := hF1.qu 0 (by omega); have v1 := hF1.qu 1 (by omega); have v2 := hF1.qu 2 (by omega); have v3 := hF1.qu 3 (by omega)
      simp only [Nat.zero_mul, Nat.one_mul, Nat.add_zero] at e0 e1 e2 e3 b0 b1 b2 b3 v0 v1 v2 v3
      go_wp2_with fail
      go_loopw [3, 7, 9, 29, 35] (fun sv _ _ si _ wq => ∃ (k : Nat) (L : List ByteArray), si = .int .i64 k ∧ k ≤ 4 ∧ Hid (L = ks.map (·.name) ++ qNames Q k) ∧ L.length ≤ 4 + k * 4 ∧ wq.ownsRow w.heap.size 9 1 sv L.length (strs' L) ∧ Chg (fun _ => False) w wq) (fun _ _ _ si _ _ => 4 - (intOf si).toNat)
      case atStart => exact ⟨0, ks.map (·.name), rfl, by omega, (show _ = _ by simp [qNames]), by simp; omega, by simpa using hown, hc⟩
      case round =>
        obtain ⟨k, L, rfl, hk4, HL, hLn, hown2, hc2⟩ := hrel
        clear e0 e1 e2 e3 b0 b1 b2 b3 v0 v1 v2 v3 hown hc hF1
        by_cases hk4' : k < 4
        · have hk4i : (k : Int) < 4 := by omega
          have hix := fun W => index_lane E B V k hk4' W
          obtain ⟨pq, capq, hVk⟩ := row_any (hq k hk4')
          have hqk := hq k hk4'
          rw [hVk] at hqk
          have hql := hqn k hk4'
          go_wp2_with fail
          go_loopw [3, 9, 35] (fun sv _ sj wq => ∃ (j : Nat) (M : List ByteArray), sj = .int .i64 j ∧ j ≤ (Q k).length ∧ Hid (M = L ++ ((Q k).take j).map (·.key)) ∧ M.length ≤ 4 + k * 4 + j ∧ wq.ownsRow w.heap.size 9 1 sv M.length (strs' M) ∧ Chg (fun _ => False) w wq) (fun _ _ sj _ => (Q k).length - (intOf sj).toNat)
          case atStart => exact ⟨0, L, rfl, by omega, (show _ = _ by simp), by omega, hown2.alloc _, hc2.alloc _⟩
          case round =>
            obtain ⟨j, M, rfl, hj, HM, hMn, hown3, hc3⟩ := hrel
            clear hown2 hc2 hix
            by_cases hjl : j < (Q k).length
            · obtain ⟨x, hx⟩ : ∃ x, (Q k)[j]? = some x := ⟨_, List.getElem?_eq_getElem hjl⟩
              have cx := wtCells_at (Q k) j x hx
              obtain ⟨g, cap', hv, hlg, _, hcell⟩ := row_pos hqk (by omega)
              simp only [Value.slice.injEq] at hv
              obtain ⟨rfl, _, rfl⟩ := hv
              have a0 := hc3.cellAt (hcell _ _ cx.1) id
              have a1 := hc3.cellAt (hcell _ _ cx.2.1) id
              have a2 := hc3.cellAt (hcell _ _ cx.2.2) id
              have hjl' : (j : Int) < ((Q k).length : Int) := by omega
              have hsz := hc3.size
              clear hcell cx
              go_wp2_with (at_builtin; refine wpList_app1 rfl _ _ 34 rfl w.heap.size 9 i0 _ 16 Tryz.underlying34 hi hz0 hz1 hz2 rfl _ M.length _ rfl ((hown3.alloc _).alloc _) (wr.heap.size + 1) (.string x.key) rfl (by simp) rfl (by omega) (by omega) (by simp; omega) ?_; intro v' w1 hown' hg)
              have hc1 : Chg (fun _ => False) w w1 := ((hc3.alloc _).alloc _).grown hg (fun k hk => (hown3.lt k hk).1)
              clear hown3 hg a0 a1 a2
              go_wp2_with fail
              go_roundw
              case rel =>
                refine ⟨j + 1, M ++ [x.key], by go_num, by omega, ?_, by simp; omega, ?_, hc1⟩
                · show _ = _
                  rw [HM.out, List.take_add_one, hx]; simp
                · have e : strs' (M ++ [x.key]) = strs' M ++ [.string x.key] := by simp [strs']
                  rw [e]
                  simpa using hown'
              case measure => simp [intOf]; omega
            · have hjl' : ¬ (j : Int) < ((Q k).length : Int) := by omega
              obtain rfl : j = (Q k).length := by omega
              go_wp2_with fail
              go_roundw
              case rel =>
                refine ⟨k + 1, M, by go_num, by omega, ?_, by omega, hown3, hc3⟩
                show _ = _
                rw [HM.out, HL.out, List.take_length]
                simp [qNames]
              case measure => simp [intOf]; omega
        · have hk4i : ¬ (k : Int) < 4 := by omega
          obtain rfl : k = 4 := by omega
          have hsz := hc2.size
          obtain ⟨T, hT⟩ : ∃ T, T = L.map (·.data.toList) := ⟨_, rfl⟩
          have hTl : T.length = L.length := by rw [hT]; simp
          have hfin : Hid (theNames ks Q = compact (T.mergeSort fun x y => decide (x ≤ y))) := by
            show _ = _
            rw [hT, HL.out]; rfl
          have hown4 : wr.ownsRow w.heap.size 9 1 u3 T.length (T.map encStr) := by
            rw [hTl, hT, ← Joins.strings_enc]; exact hown2
          have hT16 : T.length ≤ 20 := by omega
          clear hT hown2 HL hTl
          go_wp2_with fail
          by_cases hne : T.length = 0
          · obtain rfl : T = [] := List.eq_nil_of_length_eq_zero hne
            obtain ⟨pp, cc, rfl⟩ := row_any hown4
            refine (Tryz.slices_Sort_string_none pp cc wr).mono ?_
            rintro _ w5 ⟨rfl, rfl⟩
            go_wp2_with fail
            refine (Tryz.slices_Compact_string_empty pp cc _).mono ?_
            rintro _ w6 ⟨rfl, rfl⟩
            go_wp2_with fail
            go_ret
            refine ⟨_, rfl, ?_, hc2⟩
            rw [hfin.out]
            simpa [compact, compactUpTo] using hown4
          · obtain ⟨g, cap, rfl, hg, hcap, _⟩ := row_pos hown4 (by omega)
            have hgl : g < wr.heap.size := (hown4.lt g rfl).2
            have hH := row_holds encStr hown4
            refine (Tryz.slices_Sort_string g 0 cap T wr hH hgl (by omega)).mono ?_
            rintro _ w5 ⟨rfl, q5, os5, h5⟩
            obtain ⟨S, hS⟩ : ∃ S, S = T.mergeSort fun x y => decide (x ≤ y) := ⟨_, rfl⟩
            rw [← hS] at h5
            have hSl : S.length = T.length := by rw [hS]; exact List.length_mergeSort _
            obtain ⟨r5, c5⟩ := row_put encStr wr T S hown4 hSl q5 os5
            rw [← h5] at r5 c5
            clear h5 hH
            have hH5 := row_holds encStr r5
            have hcp := Tryz.slices_Compact_string g 0 cap S w5 hH5 (by omega) (by omega)
            rw [hSl] at hcp
            have HS : Hid (S = T.mergeSort fun x y => decide (x ≤ y)) := hS
            clear hS hH5
            go_wp2_with fail
            refine hcp.mono ?_
            rintro _ w6 ⟨rfl, q6, h6⟩
            obtain ⟨C, hC⟩ : ∃ C, C = compact S := ⟨_, rfl⟩
            rw [← hC] at h6
            have hCl : C.length ≤ S.length := by
              rw [hC]
              unfold compact compactUpTo
              rw [List.length_map]
              exact Nat.le_trans (List.length_filter_le _ _) (by simp)
            obtain ⟨r6, c6⟩ := row_put encStr w5 S (C ++ List.replicate (T.length - C.length) []) r5 (by simp; omega) q6 #[]
            rw [Sort.grow_empty] at r6 c6
            rw [← h6] at r6 c6
            have r7 := row_front r6 C.length (by omega)
            have e7 : (List.map encStr (C ++ List.replicate (T.length - C.length) [])).take (C.length * 1) = C.map encStr := by
              rw [Nat.mul_one, List.map_append, List.take_append_of_le_length (by simp), List.take_of_length_le (by simp)]
            rw [e7] at r7
            have HC : Hid (C = compact S) := hC
            clear h6 hcp
            rw [← hC]
            clear hC
            go_wp2_with fail
            go_ret
            refine ⟨_, rfl, ?_, ?_⟩
            · rw [hfin.out, ← HS.out, ← HC.out]; exact r7
            · exact (hc2.trans c5 (fun k hk h => by omega)).trans c6 (fun k hk h => by omega)
end Go.Proofs.YthedkdbgfdjlkaaGreatDoor

namespace Go.Proofs.YthedkdbgfdjlkaaGreatDoor
set_option linter.unusedVariables false
set_option linter.unusedSimpArgs false
open Go.RowKit Go.Lib
theorem counts_take (ks : List Ky) (k : Nat) (x : Ky) (hx : ks[k]? = some x) : counts (ks.take (k + 1)) = counts (ks.take k) + x.count := by
  rw [List.take_add_one, hx]
  have : ∀ (l : List Ky), counts (l ++ [x]) = counts l + x.count := by
    intro l
    induction l with
    | nil => simp [counts]
    | cons y r ih => simp [counts, ih]; omega
  exact this _
set_option maxRecDepth 100000 in
set_option maxHeartbeats 400000 in
theorem taken_any (lo : Nat) (vk : Value) (ks : List Ky) (w : World) (hk : w.ownsRow lo 87 4 vk ks.length (keyCells ks)) (hkn : ks.length ≤ 4) (hcn : ∀ k ∈ ks, 0 ≤ k.count ∧ k.count ≤ 1000) :
    Calls Tryz.prog 145 #[vk] w fun e w' => e = .returned (.int .i64 (counts ks)) ∧ Chg (fun _ => False) w w' := by
  obtain ⟨pk, capk, rfl⟩ := row_any hk
  go_enter Tryz.func145, Tryz.ntmps145
  go_wp2
  go_loopw [3, 5, 8] (fun ss _ si wr => ∃ (k : Nat) (s : Int), si = .int .i64 k ∧ k ≤ ks.length ∧ ss = .int .i64 s ∧ Hid (s = counts (ks.take k)) ∧ 0 ≤ s ∧ s ≤ 1000 * k ∧ Chg (fun _ => False) w wr) (fun _ _ si _ => ks.length - (intOf si).toNat)
  case atStart => exact ⟨0, 0, rfl, by omega, rfl, rfl, by omega, by omega, Chg.refl _ _⟩
  case round =>
    obtain ⟨k, s, rfl, hk1, rfl, HS, hs0, hs1, hc⟩ := hrel
    by_cases hkl : k < ks.length
    · obtain ⟨x, hx⟩ : ∃ x, ks[k]? = some x := ⟨_, List.getElem?_eq_getElem hkl⟩
      have cx := keyCells_at ks k x hx
      obtain ⟨g, cap', hv, hlg, _, hcell⟩ := row_pos hk (by omega)
      simp only [Value.slice.injEq] at hv
      obtain ⟨rfl, _, rfl⟩ := hv
      have a0 := hc.cellAt (hcell _ _ cx.1) id
      have a1 := hc.cellAt (hcell _ _ cx.2.1) id
      have a2 := hc.cellAt (hcell _ _ cx.2.2.1) id
      have a3 := hc.cellAt (hcell _ _ cx.2.2.2) id
      have hkl' : (k : Int) < (ks.length : Int) := by omega
      obtain ⟨x0, x1⟩ := hcn x (List.mem_of_getElem? hx)
      clear hcell cx
      go_wp2_with fail
      go_roundw
      case rel =>
        refine ⟨k + 1, s + x.count, by go_num, by omega, rfl, ?_, by omega, by omega, hc.alloc _⟩
        show _ = _
        rw [counts_take ks k x hx, HS.out]
      case measure => simp [intOf]; omega
    · have hkl' : ¬ (k : Int) < (ks.length : Int) := by omega
      obtain rfl : k = ks.length := by omega
      go_wp2_with fail
      go_ret
      refine ⟨?_, hc⟩
      have := HS.out
      rw [List.take_length] at this
      rw [← this]
      rfl
def qLens (Q : Nat → List Wt) : Nat → Int
  | 0 => 0
  | k + 1 => qLens Q k + ((Q k).length : Int)
set_option maxRecDepth 100000 in
set_option maxHeartbeats 400000 in
theorem records_any (lo b o : Nat) (E B : Nat → Int) (V : Nat → Value) (vk : Value) (Q : Nat → List Wt) (ks : List Ky) (w : World) (hb : b < w.heap.size) (hF : FlowCells w b o E B V vk)
    (hk : w.ownsRow lo 87 4 vk ks.length (keyCells ks)) (hkn : ks.length ≤ 4) (hcn : ∀ k ∈ ks, 0 ≤ k.count ∧ k.count ≤ 1000) (hc0 : 0 ≤ counts ks ∧ counts ks ≤ 4000) (hq : ∀ i, i < 4 → w.ownsRow lo 168 3 (V i) (Q i).length (wtCells (Q i))) (hqn : ∀ i, i < 4 → (Q i).length ≤ 4) :
    Calls Tryz.prog 115 #[.pointer (some ⟨b, o, none⟩)] w fun e w' => e = .returned (.int .i64 (counts ks + qLens Q 4)) ∧ Chg (fun _ => False) w w' := by
  have hkc := hF.le
  obtain ⟨hc1, hc2⟩ := hc0
  go_enter Tryz.func115, Tryz.ntmps115
  go_wp2_with fail
  refine (taken_any lo vk ks w hk hkn hcn).mono ?_
  rintro _ w1 ⟨rfl, hcg⟩
  have hF1 := hF.chg hcg id
  have e0 := hF1.ep 0 (by omega); have e1 := hF1.ep 1 (by omega); have e2 := hF1.ep 2 (by omega); have e3 := hF1.ep 3 (by omega)
  have b0 := hF1.ba 0 (by omega); have b1 := hF1.ba 1 (by omega); have b2 := hF1.ba 2 (by omega); have b3 := hF1.ba 3 (by omega)
  have v0 := hF1.qu 0 (by omega); have v1 := hF1.qu 1 (by omega); have v2 := hF1.qu 2 (by omega); have v3 := hF1.qu 3 (by omega)
  simp only [Nat.zero_mul, Nat.one_mul, Nat.add_zero] at e0 e1 e2 e3 b0 b1 b2 b3 v0 v1 v2 v3
  obtain ⟨C, hC⟩ : ∃ C, C = counts ks := ⟨_, rfl⟩
  rw [← hC]
  rw [← hC] at hc1 hc2
  have HC : Hid (C = counts ks) := hC
  clear hC
  go_wp2_with fail
  go_loopw [3, 5, 15] (fun ss _ si wr => ∃ (k : Nat) (s : Int), si = .int .i64 k ∧ k ≤ 4 ∧ ss = .int .i64 s ∧ Hid (s = C + qLens Q k) ∧ 0 ≤ s ∧ s ≤ 4000 + 4 * k ∧ Chg (fun _ => False) w wr) (fun _ _ si _ => 4 - (intOf si).toNat)
  case atStart => exact ⟨0, C, rfl, by omega, rfl, (show _ = _ by simp [qLens]), by omega, by omega, hcg⟩
  case round =>
    obtain ⟨k, s, rfl, hk4, rfl, HS, hs0, hs1, hc⟩ := hrel
    clear e0 e1 e2 e3 b0 b1 b2 b3 v0 v1 v2 v3
    by_cases hk4' : k < 4
    · have hk4i : (k : Int) < 4 := by omega
      have hix := fun W => index_lane E B V k hk4' W
      obtain ⟨pq, capq, hVk⟩ := row_any (hq k hk4')
      have hql := hqn k hk4'
      go_wp2_with fail
      go_roundw
      case rel =>
        refine ⟨k + 1, s + ((Q k).length : Int), by go_num, by omega, rfl, ?_, by omega, by omega, hc.alloc _⟩
        show _ = _
        rw [HS.out]; simp [qLens]; omega
      case measure => simp [intOf]; omega
    · have hk4i : ¬ (k : Int) < 4 := by omega
      obtain rfl : k = 4 := by omega
      go_wp2_with fail
      go_ret
      refine ⟨?_, hc⟩
      rw [← HC.out, ← HS.out]
      rfl
end Go.Proofs.YthedkdbgfdjlkaaGreatDoor

namespace Go.Proofs.YthedkdbgfdjlkaaGreatDoor
set_option linter.unusedVariables false
set_option linter.unusedSimpArgs false
open Go.RowKit Go.Lib
theorem kinds_ok (c : UInt8) : decide (0 ≤ indexByte [99, 115, 108, 109] c) = okFirst c := by
  by_cases h1 : c = 99
  · subst h1; decide
  · by_cases h2 : c = 115
    · subst h2; decide
    · by_cases h3 : c = 108
      · subst h3; decide
      · by_cases h4 : c = 109
        · subst h4; decide
        · have g1 : ((99 : UInt8) == c) = false := by simp; exact fun h => h1 h.symm
          have g2 : ((115 : UInt8) == c) = false := by simp; exact fun h => h2 h.symm
          have g3 : ((108 : UInt8) == c) = false := by simp; exact fun h => h3 h.symm
          have g4 : ((109 : UInt8) == c) = false := by simp; exact fun h => h4 h.symm
          simp [indexByte, g1, g2, g3, g4, okFirst, h1, h2, h3, h4]
set_option maxRecDepth 100000 in
set_option maxHeartbeats 400000 in
theorem isKey_any (k : ByteArray) (w : World) (hk : k.size ≤ maxLen) :
    Calls Tryz.prog 78 #[.string k] w fun e w' => e = .returned (.bool (okKey k)) ∧ w' = w := by
  unfold maxLen at hk
  cases hl : k.data.toList with
  | nil =>
    have h0 : k.size = 0 := by show k.data.size = 0; rw [← Array.length_toList, hl]; rfl
    have hok : okKey k = false := by simp [okKey, hl]
    rw [hok]
    go_enter Tryz.func78, Tryz.ntmps78
    go_wp2
    go_ret
    exact ⟨rfl, rfl⟩
  | cons c r =>
    have h0 : 1 ≤ k.size := by show 1 ≤ k.data.size; rw [← Array.length_toList, hl]; simp
    have hc : k[0] = c := by
      have : k.data.toList[0]'(by rw [hl]; simp) = c := by simp [hl]
      exact this
    by_cases h6 : k.size ≤ 6
    · have hok : okKey k = okFirst c := by simp [okKey, hl, h6]
      rw [hok]
      have hib := Tryz.strings_IndexByte { data := #[99, 115, 108, 109] } (c.toNat : Int) w
      have hcc : ((c.toNat : Int)).toNat.toUInt8 = c := by simp
      rw [hcc] at hib
      clear hcc
      go_enter Tryz.func78, Tryz.ntmps78
      go_wp2_with fail
      refine hib.mono ?_
      rintro _ w1 ⟨rfl, hw⟩
      subst hw
      go_wp2_with fail
      go_ret
      exact ⟨by rw [← kinds_ok]; rfl, rfl⟩
    · have hok : okKey k = false := by simp [okKey, hl, h6]
      rw [hok]
      have h6' : ¬ (k.size : Int) ≤ 6 := by omega
      go_enter Tryz.func78, Tryz.ntmps78
      go_wp2
      go_ret
      exact ⟨rfl, rfl⟩
set_option maxRecDepth 100000 in
set_option maxHeartbeats 400000 in
theorem isValue_any (v : Int) (w : World) :
    Calls Tryz.prog 110 #[.int .i64 v] w fun e w' => e = .returned (.bool (decide (0 ≤ v ∧ v ≤ 4294967295))) ∧ w' = w := by
  by_cases h0 : 0 ≤ v
  · have h0d : decide (0 ≤ v) = true := by simpa using h0
    go_enter Tryz.func110, Tryz.ntmps110
    go_wp2
    go_ret
    exact ⟨by simp [h0], rfl⟩
  · have h0d : decide (0 ≤ v) = false := by simpa using h0
    go_enter Tryz.func110, Tryz.ntmps110
    go_wp2
    go_ret
    exact ⟨rfl, rfl⟩
def recErr (x : Rec) : Int := if x.session < 0 ∨ 4 ≤ x.session then 2 else if okKey x.key = false ∨ x.value < 0 ∨ 4294967295 < x.value then 3 else 0
set_option maxRecDepth 100000 in
set_option maxHeartbeats 400000 in
theorem checkRecord_any (x : Rec) (w : World) (hx : x.fits) :
    Calls Tryz.prog 70 #[x.value'] w fun e w' => e = .returned (.int .i64 (recErr x)) ∧ Chg (fun _ => False) w w' := by
  have hk := isKey_any x.key (w.alloc (.cells #[.int .i64 x.session, .int .i64 x.epoch, .int .i64 x.number, .string x.key, .int .i64 x.value] 53)) hx.key
  have hv := isValue_any x.value (w.alloc (.cells #[.int .i64 x.session, .int .i64 x.epoch, .int .i64 x.number, .string x.key, .int .i64 x.value] 53))
  have hcg : Chg (fun _ => False) w (w.alloc (.cells #[.int .i64 x.session, .int .i64 x.epoch, .int .i64 x.number, .string x.key, .int .i64 x.value] 53)) := (Chg.refl _ w).alloc _
  unfold Rec.value'
  by_cases hs : x.session < 0 ∨ 4 ≤ x.session
  · have he : recErr x = 2 := by simp [recErr, hs]
    rw [he]
    rcases hs with hs | hs
    · have hd : decide (x.session < 0) = true := by simpa using hs
      go_enter Tryz.func70, Tryz.ntmps70
      go_wp2_with fail
      go_ret
      exact ⟨rfl, hcg⟩
    · have hd : decide (x.session < 0) = false := by simp; omega
      go_enter Tryz.func70, Tryz.ntmps70
      go_wp2_with fail
      go_ret
      exact ⟨rfl, hcg⟩
  · have hs1 : ¬ x.session < 0 := fun h => hs (.inl h)
    have hs2 : ¬ 4 ≤ x.session := fun h => hs (.inr h)
    have hd : decide (x.session < 0) = false := by simpa using hs1
    by_cases hkk : okKey x.key = true
    · rw [hkk] at hk
      by_cases hvv : 0 ≤ x.value ∧ x.value ≤ 4294967295
      · have hvd : decide (0 ≤ x.value ∧ x.value ≤ 4294967295) = true := by simpa using hvv
        rw [hvd] at hv
        have he : recErr x = 0 := by simp [recErr, hs1, hs2, hkk]; omega
        rw [he]
        go_enter Tryz.func70, Tryz.ntmps70
        go_wp2_with fail
        refine hk.mono ?_
        rintro _ w1 ⟨rfl, hw⟩
        subst hw
        go_wp2_with fail
        refine hv.mono ?_
        rintro _ w2 ⟨rfl, hw⟩
        subst hw
        go_wp2_with fail
        go_ret
        exact ⟨rfl, hcg⟩
      · have hvd : decide (0 ≤ x.value ∧ x.value ≤ 4294967295) = false := by simpa using hvv
        rw [hvd] at hv
        have he : recErr x = 3 := by simp [recErr, hs1, hs2, hkk]; omega
        rw [he]
        go_enter Tryz.func70, Tryz.ntmps70
        go_wp2_with fail
        refine hk.mono ?_
        rintro _ w1 ⟨rfl, hw⟩
        subst hw
        go_wp2_with fail
        refine hv.mono ?_
        rintro _ w2 ⟨rfl, hw⟩
        subst hw
        go_wp2_with fail
        go_ret
        exact ⟨rfl, hcg⟩
    · have hkf : okKey x.key = false := by simpa using hkk
      rw [hkf] at hk
      have he : recErr x = 3 := by simp [recErr, hs1, hs2, hkf]
      rw [he]
      go_enter Tryz.func70, Tryz.ntmps70
      go_wp2_with fail
      refine hk.mono ?_
      rintro _ w1 ⟨rfl, hw⟩
      subst hw
      go_wp2_with fail
      go_ret
      exact ⟨rfl, hcg⟩
set_option maxRecDepth 100000 in
set_option maxHeartbeats 400000 in
theorem clone_any (s : ByteArray) (w : World) (hs : s.size ≤ 6) :
    Calls Tryz.prog 76 #[.string s] w fun e w' => e = .returned (.string s) ∧ Chg (fun _ => False) w w' := by
  go_enter Tryz.func76, Tryz.ntmps76
  go_wp2_with fail
  refine (Tryz.stringslite_Clone s w (by omega)).mono ?_
  rintro _ w1 ⟨rfl, hb⟩
  go_wp2_with fail
  go_ret
  exact ⟨rfl, ⟨hb.os, hb.tape, hb.output, hb.size, fun k hk _ => hb.block k hk⟩⟩
def roomErr (key : ByteArray) (ks : List Ky) (Q : Nat → List Wt) : Int :=
  if 4 ≤ (theNames ks Q).length ∧ ¬ key.data.toList ∈ theNames ks Q then 6 else if 1000 ≤ counts ks + qLens Q 4 then 7 else 0
set_option maxRecDepth 100000 in
set_option maxHeartbeats 400000 in
theorem checkRoom_any (lo b o : Nat) (E B : Nat → Int) (V : Nat → Value) (vk : Value) (Q : Nat → List Wt) (ks : List Ky) (key : ByteArray) (w : World) (hb : b < w.heap.size) (hF : FlowCells w b o E B V vk)
    (hk : w.ownsRow lo 87 4 vk ks.length (keyCells ks)) (hkn : ks.length ≤ 4) (hcn : ∀ k ∈ ks, 0 ≤ k.count ∧ k.count ≤ 1000) (hc0 : 0 ≤ counts ks ∧ counts ks ≤ 4000) (hq : ∀ i, i < 4 → w.ownsRow lo 168 3 (V i) (Q i).length (wtCells (Q i))) (hqn : ∀ i, i < 4 → (Q i).length ≤ 4) (hNl : (theNames ks Q).length ≤ 100) :
    Calls Tryz.prog 74 #[.pointer (some ⟨b, o, none⟩), .string key] w fun e w' => e = .returned (.int .i64 (roomErr key ks Q)) ∧ Chg (fun _ => False) w w' := by
  go_enter Tryz.func74, Tryz.ntmps74
  go_wp2_with fail
  refine (names_any lo b o E B V vk Q ks w hb hF hk hkn hq hqn).mono ?_
  rintro _ w1 ⟨v1, rfl, r1, c1⟩
  have hb1 : b < w1.heap.size := by have := c1.size; omega
  have hrec := fun (w2 : World) (c2 : Chg (fun _ => False) w w2) => records_any lo b o E B V vk Q ks w2 (by have := c2.size; omega) (hF.chg c2 id) (c2.row' hk (fun _ _ h => h.elim)) hkn hcn hc0 (fun i hi => c2.row' (hq i hi) (fun _ _ h => h.elim)) hqn
  have hr1 := hrec w1 c1
  obtain ⟨N, hN⟩ : ∃ N, N = theNames ks Q := ⟨_, rfl⟩
  rw [← hN] at r1 hNl
  have HN : Hid (N = theNames ks Q) := hN
  obtain ⟨T, hT⟩ : ∃ T, T = counts ks + qLens Q 4 := ⟨_, rfl⟩
  rw [← hT] at hr1
  have HT : Hid (T = counts ks + qLens Q 4) := hT
  clear hN hT hrec
  have hroom : Hid (roomErr key ks Q = if 4 ≤ N.length ∧ ¬ key.data.toList ∈ N then 6 else if 1000 ≤ T then 7 else 0) := by
    show _ = _
    rw [HN.out, HT.out]; rfl
  by_cases h4 : 4 ≤ N.length
  · obtain ⟨g, cap, rfl, hg, hcap, hcell⟩ := row_pos r1 (by omega)
    have hco := Tryz.slices_Contains_string g 0 N.length cap (N.map fun l => ⟨l.toArray⟩) key w1 (by simp) (by omega) (fun j hj => by
      have hj' : j < N.length := by simpa using hj
      rw [Nat.zero_add]
      refine hcell j _ ?_
      simp [List.getElem?_map, List.getElem?_eq_getElem hj'])
    rw [List.take_of_length_le (by simp)] at hco
    have h4' : (4 : Int) ≤ (N.length : Int) := by omega
    have hin : (containsS (N.map fun l => (⟨l.toArray⟩ : ByteArray)) key = true) ↔ key.data.toList ∈ N := by
      rw [containsS_iff, List.mem_map]
      constructor
      · rintro ⟨l, hl, rfl⟩; simpa using hl
      · intro h; exact ⟨_, h, by cases key; simp⟩
    by_cases hc : key.data.toList ∈ N
    · rw [hin.2 hc] at hco
      clear hin hcell
      go_wp2_with fail
      refine hco.mono ?_
      rintro _ w2 ⟨rfl, hw⟩
      subst hw
      go_wp2_with fail
      refine hr1.mono ?_
      rintro _ w3 ⟨rfl, c3⟩
      by_cases hf : 1000 ≤ T
      · go_wp2_with fail
        go_ret
        refine ⟨?_, c1.trans c3 (fun _ _ h => h)⟩
        rw [hroom.out]; simp [hc, hf]
      · go_wp2_with fail
        go_ret
        refine ⟨?_, c1.trans c3 (fun _ _ h => h)⟩
        rw [hroom.out]; simp [hc]; omega
    · have hcf : containsS (N.map fun l => (⟨l.toArray⟩ : ByteArray)) key = false := by
        cases e : containsS (N.map fun l => (⟨l.toArray⟩ : ByteArray)) key with
        | false => rfl
        | true => exact absurd (hin.1 e) hc
      rw [hcf] at hco
      clear hin hcell
      go_wp2_with fail
      refine hco.mono ?_
      rintro _ w2 ⟨rfl, hw⟩
      subst hw
      go_wp2_with fail
      go_ret
      refine ⟨?_, c1⟩
      rw [hroom.out]; simp [hc, h4]
  · obtain ⟨pp, cc, rfl⟩ := row_any r1
    have h4' : ¬ (4 : Int) ≤ (N.length : Int) := by omega
    go_wp2_with fail
    refine hr1.mono ?_
    rintro _ w3 ⟨rfl, c3⟩
    by_cases hf : 1000 ≤ T
    · go_wp2_with fail
      go_ret
      refine ⟨?_, c1.trans c3 (fun _ _ h => h)⟩
      rw [hroom.out]; simp [h4, hf]
    · go_wp2_with fail
      go_ret
      refine ⟨?_, c1.trans c3 (fun _ _ h => h)⟩
      rw [hroom.out]; simp [h4]; omega
end Go.Proofs.YthedkdbgfdjlkaaGreatDoor
