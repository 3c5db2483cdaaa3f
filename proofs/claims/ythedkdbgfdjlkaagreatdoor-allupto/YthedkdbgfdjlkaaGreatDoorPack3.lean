import Derived.OwnWalk
import Derived.Deep.Cut
import Derived.RangeFuncNested
import Derived.RangeFuncBox
import Derived.RangeFuncLeaves
import Derived.Shelf.Abstract
import Derived.WalkKit
import Derived.OwnWalkIn
import Derived.TacticsInMore
import Derived.LoopNIn
import Derived.LoopIn
import Derived.Maps.AppendAt
import Derived.Shelf.SlSortCmp.SmallK
import Derived.Test.YthedkdbgfdjlkaaGreatDoorPack1
import Derived.Test.YthedkdbgfdjlkaaGreatDoorPack2
namespace Go.Proofs.YthedkdbgfdjlkaaGreatDoor
set_option linter.unusedVariables false
set_option linter.unusedSimpArgs false
open Go.RowKit Go.Lib
theorem take_any (lo b o : Nat) (v : Value) (ks : List Ky) (name : ByteArray) (val m : Int) (w : World) (hv : w.cell? ⟨b, o, none⟩ = some v) (hz : w.frozen? ⟨b, o, none⟩ = false)
    (hr : w.ownsRow lo 87 4 v ks.length (keyCells ks)) (hn : ks.length < 1000) (hL : Led ks m) (hm : 1 ≤ m) (hbv : v.ownBlock ≠ some b) (hlo : lo ≤ w.heap.size)
    (cb : UInt8) (rb : List UInt8) (hcb : name.data.toList = cb :: rb) (hob : okFirst cb = true) (hval : 0 ≤ val ∧ val ≤ 4294967295) :
    Calls Tryz.prog 119 #[.pointer (some ⟨b, o, none⟩), .string name, .int .i64 val] w fun e w' => ∃ v', e = .returned (.tuple #[]) ∧ w'.cell? ⟨b, o, none⟩ = some v' ∧
      w'.ownsRow lo 87 4 v' (takeKy name val ks).length (keyCells (takeKy name val ks)) ∧ (v'.ownBlock = v.ownBlock ∨ ∀ k, v'.ownBlock = some k → w.heap.size ≤ k) ∧ Slots b (fun j => j = o) w w' ∧ Chg (fun k => k = b ∨ v.ownBlock = some k) w w' := by
  have hbl : b < w.heap.size := World.block_lt_of_cell? w _ hv
  by_cases hf : lowPos name ks < ks.length ∧ nameAt ks (lowPos name ks) = name
  · obtain ⟨k, hk⟩ : ∃ k, ks[lowPos name ks]? = some k := ⟨_, List.getElem?_eq_getElem hf.1⟩
    have hkn : k.name = name := by have := hf.2; simpa [nameAt, hk] using this
    obtain ⟨g, cap, rfl, hg, hcap, _⟩ := row_pos hr (by omega)
    have hbg : b ≠ g := fun e => hbv (by rw [e]; rfl)
    refine (take_found lo b o ks.length (lowPos name ks) g cap ks k name val w hv hr rfl (by omega) hL.sorted.rises hbg rfl hf.1 hk hkn (hL.ok (by omega) k (List.mem_of_getElem? hk)) hval).mono ?_
    rintro e w' ⟨rfl, h1, h2⟩
    have e1 := takeKy_found name val hL.sorted (i := lowPos name ks) (k := k) rfl hk hkn
    refine ⟨_, rfl, h2.cellAt hv hbg, ?_, .inl rfl, Slots.of_chg _ h2 hbl hbg, h2.mono (fun k hk => .inr (by rw [hk]; rfl))⟩
    rw [e1, List.length_set]; exact h1
  · refine (take_new lo b o ks.length (lowPos name ks) v ks name val w hv hz hr rfl hn hL.sorted.rises hbv hlo rfl hf cb rb hcb hob hval).mono ?_
    rintro e w' ⟨v', rfl, h1, h2, h3, h4, h5⟩
    have e1 := takeKy_new name val hL.sorted (i := lowPos name ks) rfl hf
    refine ⟨v', rfl, h1, ?_, h3, h4, h5⟩
    have e2 : (takeKy name val ks).length = ks.length + 1 := by
      rw [e1]; simp; have := lowPos_le name ks; omega
    rw [e2, e1]; exact h2
def drainH : Nat → Int → List Wt → List Ky → Int × List Wt × List Ky
  | 0, b, qs, ks => (b, qs, ks)
  | f + 1, b, qs, ks => match qs with
    | [] => (b, [], ks)
    | q :: r => if q.num = b then
        (match (downFn r.length (swapL (q :: r) 0 r.length) 0 r.length)[r.length]? with
          | some x => drainH f (b + 1) ((downFn r.length (swapL (q :: r) 0 r.length) 0 r.length).take r.length) (takeKy x.key x.val ks)
          | none => (b, q :: r, ks))
      else (b, q :: r, ks)
theorem downFn_length : ∀ (f : Nat) (l : List Wt) (i n : Nat), (downFn f l i n).length = l.length
  | 0, l, i, n => rfl
  | f + 1, l, i, n => by
    unfold downFn
    split
    · rfl
    · split
      · split
        · rw [downFn_length, swapL_length]
        · rfl
      · split
        · rw [downFn_length, swapL_length]
        · rfl
theorem takeKy_length (name : ByteArray) (val : Int) : ∀ l : List Ky, (takeKy name val l).length ≤ l.length + 1
  | [] => by simp [takeKy]
  | y :: r => by
    have := takeKy_length name val r
    unfold takeKy
    split
    · simp
    · split
      · simp
      · simp; omega
def Wt.ok (x : Wt) : Prop := (∃ c r, x.key.data.toList = c :: r ∧ okFirst c = true) ∧ 0 ≤ x.val ∧ x.val ≤ 4294967295
theorem mem_swapL {l : List Wt} {i j : Nat} {x : Wt} (h : x ∈ swapL l i j) : x ∈ l := by
  unfold swapL at h
  split at h
  · rename_i a b ha hb
    rcases List.mem_or_eq_of_mem_set h with h | rfl
    · rcases List.mem_or_eq_of_mem_set h with h | rfl
      · exact h
      · exact List.mem_of_getElem? hb
    · exact List.mem_of_getElem? ha
  · exact h
theorem mem_downFn {x : Wt} : ∀ (f : Nat) (l : List Wt) (i n : Nat), x ∈ downFn f l i n → x ∈ l
  | 0, l, i, n, h => h
  | f + 1, l, i, n, h => by
    unfold downFn at h
    split at h
    · exact h
    · split at h
      · split at h
        · exact mem_swapL (mem_downFn f _ _ _ h)
        · exact h
      · split at h
        · exact mem_swapL (mem_downFn f _ _ _ h)
        · exact h
set_option maxRecDepth 100000 in
set_option maxHeartbeats 2000000 in
theorem drain_any (lo b o s : Nat) (base : Int) (v vk : Value) (qs : List Wt) (ks : List Ky) (w : World) (hs : s < 4)
    (hba : w.cell? ⟨b, o + s * 3 + 1, none⟩ = some (.int .i64 base)) (hqu : w.cell? ⟨b, o + s * 3 + 2, none⟩ = some v) (hle : w.cell? ⟨b, o + 12, none⟩ = some vk) (hz : ∀ j, w.frozen? ⟨b, j, none⟩ = false)
    (hr : w.ownsRow lo 168 3 v qs.length (wtCells qs)) (hk : w.ownsRow lo 87 4 vk ks.length (keyCells ks)) (hlo : lo ≤ w.heap.size) (hvb : v.ownBlock ≠ some b) (hkb : vk.ownBlock ≠ some b) (hvk : ∀ g, v.ownBlock = some g → vk.ownBlock ≠ some g)
    (hqn : qs.length ≤ 4) (hkn : ks.length ≤ 100) (hb0 : 0 ≤ base ∧ base + qs.length ≤ 1000) (hL : Led ks qs.length) (hq : ∀ x ∈ qs, x.ok) :
    Calls Tryz.prog 77 #[.pointer (some ⟨b, o, none⟩), .int .i64 s] w fun e w' => ∃ v' vk', e = .returned (.tuple #[]) ∧
      w'.cell? ⟨b, o + s * 3 + 1, none⟩ = some (.int .i64 (drainH 5 base qs ks).1) ∧ w'.cell? ⟨b, o + s * 3 + 2, none⟩ = some v' ∧ w'.cell? ⟨b, o + 12, none⟩ = some vk' ∧
      w'.ownsRow lo 168 3 v' (drainH 5 base qs ks).2.1.length (wtCells (drainH 5 base qs ks).2.1) ∧ w'.ownsRow lo 87 4 vk' (drainH 5 base qs ks).2.2.length (keyCells (drainH 5 base qs ks).2.2) ∧
      v'.ownBlock = v.ownBlock ∧ (vk'.ownBlock = vk.ownBlock ∨ ∀ k, vk'.ownBlock = some k → w.heap.size ≤ k) ∧
      Slots b (fun j => j = o + s * 3 + 1 ∨ j = o + s * 3 + 2 ∨ j = o + 12) w w' ∧ Chg (fun k => k = b ∨ v.ownBlock = some k ∨ vk.ownBlock = some k) w w' := by
  have hbl : b < w.heap.size := World.block_lt_of_cell? w _ hba
  have hs' : (s : Int) < 4 := by omega
  have hvlt : ∀ g, v.ownBlock = some g → g < w.heap.size := fun g h => (hr.lt g h).2
  go_enter Tryz.func77, Tryz.ntmps77
  go_wp2
  go_loopg [4, 5] 5 (fun f _ _ wr => ∃ (base' : Int) (v' vk' : Value) (qs' : List Wt) (ks' : List Ky), Hid (drainH 5 base qs ks = drainH f base' qs' ks') ∧ qs'.length < f ∧
      wr.cell? ⟨b, o + s * 3 + 1, none⟩ = some (.int .i64 base') ∧ wr.cell? ⟨b, o + s * 3 + 2, none⟩ = some v' ∧ wr.cell? ⟨b, o + 12, none⟩ = some vk' ∧ wr.ownsRow lo 168 3 v' qs'.length (wtCells qs') ∧ wr.ownsRow lo 87 4 vk' ks'.length (keyCells ks') ∧
      v'.ownBlock = v.ownBlock ∧ (vk'.ownBlock = vk.ownBlock ∨ ∀ k, vk'.ownBlock = some k → w.heap.size ≤ k) ∧ qs'.length ≤ 4 ∧ ks'.length + qs'.length ≤ 104 ∧ 0 ≤ base' ∧ base' + qs'.length ≤ 1000 ∧ Led ks' qs'.length ∧ (∀ x ∈ qs', x.ok) ∧
      Slots b (fun j => j = o + s * 3 + 1 ∨ j = o + s * 3 + 2 ∨ j = o + 12) w wr ∧ Chg (fun k => k = b ∨ v.ownBlock = some k ∨ vk.ownBlock = some k) w wr)
  case atStart => exact ⟨base, v, vk, qs, ks, rfl, by omega, hba, hqu, hle, hr, hk, rfl, .inl rfl, hqn, by omega, hb0.1, hb0.2, hL, hq, Slots.refl _ _ _, Chg.refl _ _⟩
  case round =>
    obtain ⟨base', v', vk', qs', ks', HE, hlen, h1, h2, h3, hr', hk', hvv, hkk, hq4, hk104, hb0', hb1', hL', hq', hsl, hcg⟩ := hrel
    clear hba hqu hle hr hk hL hq hqn hkn hb0
    have hvb' : v'.ownBlock ≠ some b := by rw [hvv]; exact hvb
    have hblr : b < wr.heap.size := World.block_lt_of_cell? _ _ h1
    have hzr : ∀ j, wr.frozen? ⟨b, j, none⟩ = false := fun j => (hsl.frozen j).trans (hz j)
    cases qs' with
    | nil =>
      obtain ⟨pp, cc, rfl⟩ := row_any hr'
      go_wp2_with fail
      refine (next_empty b (o + s * 3) pp cc wr hblr h2).mono ?_
      rintro _ w1 ⟨rfl, c1⟩
      unfold Wt.agg Wt.zero
      go_wp2_with fail
      have e : drainH gk base' [] ks' = (base', [], ks') := by cases gk <;> rfl
      have cF : Chg (fun _ => False) wr (w1.alloc (.cells #[.int .i64 0, .string { data := #[] }, .int .i64 0] 168)) := c1.alloc _
      refine bodyPost_ret (results_none rfl _ _ _) rfl ⟨.slice pp ([] : List Wt).length cc, vk', rfl, ?_⟩
      rw [HE.out, e]
      exact ⟨cF.cellAt h1 id, cF.cellAt h2 id, cF.cellAt h3 id, cF.row' hr' (fun _ _ h => h.elim), cF.row' hk' (fun _ _ h => h.elim), hvv, hkk, hsl.trans (Slots.of_chg (fun _ => False) cF hblr id) (fun _ h => h.elim), hcg.trans cF (fun _ _ h => h.elim)⟩
    | cons q r =>
      obtain ⟨g, cap, rfl, hg, hcap, hcell⟩ := row_pos hr' (by simp)
      have hbg : b ≠ g := fun e => hvb' (by rw [e]; rfl)
      obtain ⟨n, hn⟩ : ∃ n, n = r.length := ⟨_, rfl⟩
      have hn1 : (q :: r).length = n + 1 := by simp [hn]
      rw [hn1] at h2 hr' hvv hvb'
      have hq0 : wr.cell? ⟨g, 0, none⟩ = some (.int .i64 q.num) := hcell 0 _ rfl
      have hgl : g < wr.heap.size := World.block_lt_of_cell? _ _ hq0
      by_cases hnum : q.num = base'
      · have hQ : QAt wr lo ⟨b, o + s * 3 + 2, none⟩ g cap (n + 1) (q :: r) := ⟨h2, hn1, hr', hbg⟩
        obtain ⟨D, hD⟩ : ∃ D, D = downFn n (swapL (q :: r) 0 n) 0 n := ⟨_, rfl⟩
        have hDl : D.length = n + 1 := by rw [hD, downFn_length, swapL_length]; exact hn1
        obtain ⟨x, hx⟩ : ∃ x, D[n]? = some x := ⟨_, List.getElem?_eq_getElem (by omega)⟩
        have hDm : ∀ y ∈ D, y ∈ q :: r := fun y hy => mem_swapL (mem_downFn _ _ _ _ (by rw [hD] at hy; exact hy))
        have hxo : x.ok := hq' x (hDm x (List.mem_of_getElem? hx))
        have hstep : drainH gk base' (q :: r) ks' = drainH (gk - 1) (base' + 1) (D.take n) (takeKy x.key x.val ks') := by
          obtain ⟨g', rfl⟩ : ∃ g', gk = g' + 1 := ⟨gk - 1, by omega⟩
          have hD' : D = downFn r.length (swapL (q :: r) 0 r.length) 0 r.length := by rw [hD, hn]
          simp only [drainH, hnum, if_true]
          rw [← hD', ← hn, hx]
          rfl
        have hnx := next_some lo b (o + s * 3) g cap n base' (q :: r) x wr hQ h1 (hzr _) (hzr _) (by simp [numAt, hnum]) (by omega) (by rw [← hD]; exact hx) (by omega)
        rw [← hD] at hnx
        have HST : Hid (drainH gk base' (q :: r) ks' = drainH (gk - 1) (base' + 1) (D.take n) (takeKy x.key x.val ks')) := hstep
        clear hstep hD hcell hq0
        go_wp2_with fail
        refine hnx.mono ?_
        rintro _ w1 ⟨rfl, hq1, hb1, hs1, hc1⟩
        clear hnx
        have hk1 : w1.cell? ⟨b, o + 12, none⟩ = some vk' := (hs1.cell (o + 12) (by omega)).trans h3
        have hbl1 : b < w1.heap.size := World.block_lt_of_cell? _ _ hb1
        have hkb' : vk'.ownBlock ≠ some b := by
          rcases hkk with h | h
          · rw [h]; exact hkb
          · intro h'; have := h b h'; omega
        have hkg' : vk'.ownBlock ≠ some g := by
          have hvg : v.ownBlock = some g := hvv.symm
          rcases hkk with h | h
          · rw [h]; exact hvk g hvg
          · intro h'
            have := h g h'
            have := hvlt g hvg
            omega
        have hr1 : w1.ownsRow lo 87 4 vk' ks'.length (keyCells ks') := hc1.row' hk' (fun k hk h => by
          rcases h with rfl | rfl
          · exact hkb' hk
          · exact hkg' hk)
        obtain ⟨⟨cb, rb, hcb, hob⟩, hval⟩ := hxo
        have hsz1 : wr.heap.size ≤ w1.heap.size := hc1.size
        have hszr : w.heap.size ≤ wr.heap.size := hcg.size
        have hcF : Chg (fun _ => False) w1 (w1.alloc (.cells #[.int .i64 x.num, .string x.key, .int .i64 x.val] 168)).drew := ((Chg.refl _ w1).alloc _).drew
        have hLn : Led ks' (n + 1 : Nat) := by rw [← hn1]; exact hL'
        have htk := take_any lo b (o + 12) vk' ks' x.key x.val (n + 1 : Nat) (w1.alloc (.cells #[.int .i64 x.num, .string x.key, .int .i64 x.val] 168)).drew (hcF.cellAt hk1 id)
          ((World.frozen?_of_block (w := w1) (hcF.block b hbl1 id)).trans ((hs1.frozen _).trans (hzr _))) (hcF.row' hr1 (fun _ _ h => h.elim)) (by omega) hLn (by omega) hkb' (by have := hcF.size; omega) cb rb hcb hob hval
        unfold Wt.agg
        go_wp2_with fail
        go_region_with (go_at_call 119; refine htk.mono ?_; rintro _ w2 ⟨vk2, rfl, t1, t2, t3, t4, t5⟩)
        all_goals
          have hszF : (w1.alloc (.cells #[.int .i64 x.num, .string x.key, .int .i64 x.val] 168)).drew.heap.size = w1.heap.size + 1 := World.size_alloc _ _
          have hvg : v.ownBlock = some g := hvv.symm
          have u1 : w2.cell? ⟨b, o + s * 3 + 1, none⟩ = some (.int .i64 (base' + 1)) := (t4.cell _ (by omega)).trans (hcF.cellAt hb1 id)
          have u2 : w2.cell? ⟨b, o + s * 3 + 2, none⟩ = some (.slice (some ⟨g, 0, none⟩) n cap) := (t4.cell _ (by omega)).trans (hcF.cellAt hq1.var id)
          have u3 : w2.ownsRow lo 168 3 (.slice (some ⟨g, 0, none⟩) n cap) (D.take n).length (wtCells (D.take n)) := by
            have := t5.row' (hcF.row' hq1.row (fun _ _ h => h.elim)) (fun k hk h => by
              simp [Value.ownBlock] at hk
              subst hk
              rcases h with h | h
              · exact hbg h.symm
              · exact hkg' h)
            rw [hq1.len]; exact this
          have u4' : vk2.ownBlock = vk.ownBlock ∨ ∀ k, vk2.ownBlock = some k → w.heap.size ≤ k := by
            rcases t3 with h | h
            · rw [h]; exact hkk
            · exact .inr fun k hk => by have := h k hk; omega
          have u5' : Led (takeKy x.key x.val ks') ((D.take n).length : Int) := by
            have := hLn.take (by omega) hcb hob hval
            rw [hq1.len]
            have e : ((n + 1 : Nat) : Int) - 1 = (n : Int) := by omega
            rw [e] at this
            exact this
          have u6' : Slots b (fun j => j = o + s * 3 + 1 ∨ j = o + s * 3 + 2 ∨ j = o + 12) w w2 :=
            ((hsl.trans hs1 (fun j h => by rcases h with h | h <;> simp [h])).trans (Slots.of_chg (fun _ => False) hcF hbl1 id) (fun _ h => h.elim)).trans t4 (fun j h => by simp [h])
          have u7' : Chg (fun k => k = b ∨ v.ownBlock = some k ∨ vk.ownBlock = some k) w w2 := by
            refine ((hcg.trans hc1 (fun k _ h => ?_)).trans hcF (fun _ _ h => h.elim)).trans t5 (fun k hk h => ?_)
            · rcases h with h | h
              · exact .inl h
              · subst h; exact .inr (.inl hvg)
            · rcases h with h | h
              · exact .inl h
              · rcases hkk with h' | h'
                · exact .inr (.inr (by rw [← h']; exact h))
                · have := h' k h; omega
          have u8' : (takeKy x.key x.val ks').length + (D.take n).length ≤ 104 := by
            have := takeKy_length x.key x.val ks'
            rw [hq1.len]; omega
          have u9' : ∀ y ∈ D.take n, y.ok := fun y hy => hq' y (hDm y (List.mem_of_mem_take hy))
          have HE2 : Hid (drainH 5 base qs ks = drainH (gk - 1) (base' + 1) (D.take n) (takeKy x.key x.val ks')) := HE.out.trans HST.out
          have l1 : (D.take n).length < gk - 1 := by rw [hq1.len]; omega
          have l2 : (D.take n).length ≤ 4 := by rw [hq1.len]; omega
          have l3 : base' + 1 + ((D.take n).length : Int) ≤ 1000 := by rw [hq1.len]; omega
          clear htk hc1 hs1 hcg hsl hQ hr' hk' h1 h2 h3 hb1 hk1 hr1 hcF t3 t4 t5 hq' hDm
          go_wp2_with fail
          go_roundg (gk - 1)
          case measure => omega
          case rel => exact ⟨base' + 1, .slice (some ⟨g, 0, none⟩) n cap, vk2, D.take n, takeKy x.key x.val ks', HE2, l1, u1, u2, t1, u3, t2, hvg.symm, u4', l2, u8', by omega, l3, u5', u9', u6', u7'⟩
      · have hnb : (q.num != base') = true := by simp [hnum]
        have hnx := next_not b (o + s * 3) g cap n base' q.num wr hblr hgl h2 h1 hq0 hnb (by omega)
        clear hcell hnb
        go_wp2_with fail
        refine hnx.mono ?_
        rintro _ w1 ⟨rfl, c1⟩
        unfold Wt.agg Wt.zero
        go_wp2_with fail
        have e : drainH gk base' (q :: r) ks' = (base', q :: r, ks') := by
          cases gk with
          | zero => rfl
          | succ gk => simp [drainH, hnum]
        have cF : Chg (fun _ => False) wr (w1.alloc (.cells #[.int .i64 0, .string { data := #[] }, .int .i64 0] 168)) := c1.alloc _
        refine bodyPost_ret (results_none rfl _ _ _) rfl ⟨.slice (some ⟨g, 0, none⟩) (n + 1) cap, vk', rfl, ?_⟩
        rw [HE.out, e]
        refine ⟨cF.cellAt h1 id, cF.cellAt h2 id, cF.cellAt h3 id, ?_, cF.row' hk' (fun _ _ h => h.elim), hvv, hkk, hsl.trans (Slots.of_chg (fun _ => False) cF hblr id) (fun _ h => h.elim), hcg.trans cF (fun _ _ h => h.elim)⟩
        rw [hn1]
        exact cF.row' hr' (fun _ _ h => h.elim)
end Go.Proofs.YthedkdbgfdjlkaaGreatDoor

namespace Go.Proofs.YthedkdbgfdjlkaaGreatDoor
set_option linter.unusedVariables false
set_option linter.unusedSimpArgs false
open Go.RowKit Go.Lib
structure FlowAt (w : World) (lo b o : Nat) (E B : Nat → Int) (V : Nat → Value) (vk : Value) (Q : Nat → List Wt) (ks : List Ky) : Prop where
  cells : FlowCells w b o E B V vk
  froz : ∀ j, w.frozen? ⟨b, j, none⟩ = false
  rows : ∀ i, i < 4 → w.ownsRow lo 168 3 (V i) (Q i).length (wtCells (Q i))
  keys : w.ownsRow lo 87 4 vk ks.length (keyCells ks)
  own : ∀ i, i < 4 → (V i).ownBlock ≠ some b
  ownk : vk.ownBlock ≠ some b
  sep : ∀ i j, i < 4 → j < 4 → i ≠ j → ∀ g, (V i).ownBlock = some g → (V j).ownBlock ≠ some g
  sepk : ∀ i, i < 4 → ∀ g, (V i).ownBlock = some g → vk.ownBlock ≠ some g
  low : lo ≤ w.heap.size
structure FlowFit (E B : Nat → Int) (Q : Nat → List Wt) (ks : List Ky) : Prop where
  ql : ∀ i, i < 4 → (Q i).length ≤ 3
  kl : ks.length ≤ 4
  led : Led ks (qLens Q 4)
  ba : ∀ i, i < 4 → 0 ≤ B i ∧ B i ≤ counts ks
  wok : ∀ i, i < 4 → ∀ x ∈ Q i, x.ok
def upd {α : Type} (f : Nat → α) (i : Nat) (x : α) : Nat → α := fun j => if j = i then x else f j
def tE (E : Nat → Int) (s : Nat) (ep : Int) : Int := if E s < ep then ep else E s
def tB (E B : Nat → Int) (s : Nat) (ep : Int) : Int := if E s < ep then 0 else B s
def tQ (E : Nat → Int) (Q : Nat → List Wt) (s : Nat) (ep : Int) : List Wt := if E s < ep then [] else Q s
set_option maxRecDepth 100000 in
set_option maxHeartbeats 400000 in
theorem flowAccept_bad (b o : Nat) (x : Rec) (w : World) (hx : x.fits) (hbad : recErr x ≠ 0) :
    Calls Tryz.prog 40 #[.pointer (some ⟨b, o, none⟩), x.value'] w fun e w' => e = .returned (.tuple #[.int .i64 0, .bool false, .int .i64 (recErr x)]) ∧ Chg (fun _ => False) w w' := by
  have hcr := checkRecord_any x (w.alloc (.cells #[.int .i64 x.session, .int .i64 x.epoch, .int .i64 x.number, .string x.key, .int .i64 x.value] 53)) hx
  have hne : (recErr x != 0) = true := by simpa using hbad
  unfold Rec.value' at hcr ⊢
  go_enter Tryz.func40, Tryz.ntmps40
  go_wp2_with fail
  refine hcr.mono ?_
  rintro _ w1 ⟨rfl, c1⟩
  go_wp2_with fail
  go_ret3
  exact ⟨rfl, ((Chg.refl _ w).alloc _).trans c1 (fun _ _ h => h)⟩
set_option maxRecDepth 100000 in
set_option maxHeartbeats 2000000 in
theorem flowAccept_old (lo b o s : Nat) (E B : Nat → Int) (V : Nat → Value) (vk : Value) (Q : Nat → List Wt) (ks : List Ky) (ep num val : Int) (key : ByteArray) (w : World) (hs : s < 4) (hF : FlowAt w lo b o E B V vk Q ks) (hx : (⟨s, ep, num, key, val⟩ : Rec).fits) (hgood : recErr ⟨s, ep, num, key, val⟩ = 0) (hep : ep < E s) :
    Calls Tryz.prog 40 #[.pointer (some ⟨b, o, none⟩), (⟨s, ep, num, key, val⟩ : Rec).value'] w fun e w' => e = .returned (.tuple #[.int .i64 0, .bool false, .int .i64 4]) ∧ Chg (fun _ => False) w w' := by
  have hcr := checkRecord_any ⟨s, ep, num, key, val⟩ (w.alloc (.cells #[.int .i64 s, .int .i64 ep, .int .i64 num, .string key, .int .i64 val] 53)) hx
  rw [hgood] at hcr
  have hes := hF.cells.ep s hs
  have hbl : b < w.heap.size := World.block_lt_of_cell? _ _ hes
  have hs' : (s : Int) < 4 := by omega
  unfold Rec.value' at hcr ⊢
  go_enter Tryz.func40, Tryz.ntmps40
  go_wp2_with fail
  refine hcr.mono ?_
  rintro _ w1 ⟨rfl, c1⟩
  have c01 : Chg (fun _ => False) w w1 := ((Chg.refl _ w).alloc _).trans c1 (fun _ _ h => h)
  have x0 := c1.cellAt (World.cell?_alloc_at (w := w) #[.int .i64 s, .int .i64 ep, .int .i64 num, .string key, .int .i64 val] 53 w.heap.size 0 rfl) id
  have x1 := c1.cellAt (World.cell?_alloc_at (w := w) #[.int .i64 s, .int .i64 ep, .int .i64 num, .string key, .int .i64 val] 53 w.heap.size 1 rfl) id
  replace hes := c01.cellAt hes id
  simp only [List.getElem_toArray, List.getElem_cons_zero, List.getElem_cons_succ] at x0 x1
  clear hcr
  go_wp2_with fail
  go_quiet (fail)
  go_wp2_with fail
  go_ret3
  exact ⟨rfl, c01.trans (((Quiet.refl _).drewN _).chg _) (fun _ _ h => h)⟩
end Go.Proofs.YthedkdbgfdjlkaaGreatDoor

namespace Go.Proofs.YthedkdbgfdjlkaaGreatDoor
set_option linter.unusedVariables false
set_option linter.unusedSimpArgs false
open Go.RowKit Go.Lib
theorem upd_same {α : Type} (f : Nat → α) (i : Nat) (x : α) : upd f i x i = x := by simp [upd]
theorem upd_ne {α : Type} (f : Nat → α) {i j : Nat} (x : α) (h : j ≠ i) : upd f i x j = f j := by simp [upd, h]
theorem FlowAt.update {w w' : World} {lo b o s : Nat} {E B : Nat → Int} {V : Nat → Value} {vk : Value} {Q : Nat → List Wt} {ks : List Ky} (h : FlowAt w lo b o E B V vk Q ks) (hs : s < 4) (hb : b < w.heap.size) {e' b' : Int} {v' vk' : Value} {q' : List Wt} {ks' : List Ky}
    (c0 : w'.cell? ⟨b, o + s * 3, none⟩ = some (.int .i64 e')) (c1 : w'.cell? ⟨b, o + s * 3 + 1, none⟩ = some (.int .i64 b')) (c2 : w'.cell? ⟨b, o + s * 3 + 2, none⟩ = some v') (c3 : w'.cell? ⟨b, o + 12, none⟩ = some vk')
    (sl : Slots b (fun j => j = o + s * 3 ∨ j = o + s * 3 + 1 ∨ j = o + s * 3 + 2 ∨ j = o + 12) w w') (cg : Chg (fun k => k = b ∨ (V s).ownBlock = some k ∨ vk.ownBlock = some k) w w')
    (r1 : w'.ownsRow lo 168 3 v' q'.length (wtCells q')) (r2 : w'.ownsRow lo 87 4 vk' ks'.length (keyCells ks'))
    (wv : v'.ownBlock = none ∨ v'.ownBlock = (V s).ownBlock ∨ ∀ k, v'.ownBlock = some k → w.heap.size ≤ k) (wk : vk'.ownBlock = vk.ownBlock ∨ ∀ k, vk'.ownBlock = some k → w.heap.size ≤ k)
    (dis : ∀ g, v'.ownBlock = some g → vk'.ownBlock ≠ some g) : FlowAt w' lo b o (upd E s e') (upd B s b') (upd V s v') vk' (upd Q s q') ks' := by
  have hlt : ∀ i, i < 4 → ∀ g, (V i).ownBlock = some g → g < w.heap.size := fun i hi g hg => ((h.rows i hi).lt g hg).2
  have hltk : ∀ g, vk.ownBlock = some g → g < w.heap.size := fun g hg => (h.keys.lt g hg).2
  refine ⟨⟨fun i hi => ?_, fun i hi => ?_, fun i hi => ?_, c3⟩, fun j => (sl.frozen j).trans (h.froz j), fun i hi => ?_, r2, fun i hi => ?_, ?_, fun i j hi hj hij g hg => ?_, fun i hi g hg => ?_, Nat.le_trans h.low cg.size⟩
  · by_cases e : i = s
    · subst e; rw [upd_same]; exact c0
    · rw [upd_ne _ _ e]; exact (sl.cell _ (by omega)).trans (h.cells.ep i hi)
  · by_cases e : i = s
    · subst e; rw [upd_same]; exact c1
    · rw [upd_ne _ _ e]; exact (sl.cell _ (by omega)).trans (h.cells.ba i hi)
  · by_cases e : i = s
    · subst e; rw [upd_same]; exact c2
    · rw [upd_ne _ _ e]; exact (sl.cell _ (by omega)).trans (h.cells.qu i hi)
  · by_cases e : i = s
    · subst e; rw [upd_same, upd_same]; exact r1
    · rw [upd_ne _ _ e, upd_ne _ _ e]
      refine cg.row' (h.rows i hi) (fun k hk hf => ?_)
      rcases hf with rfl | hf | hf
      · exact h.own i hi hk
      · exact h.sep i s hi hs e k hk hf
      · exact h.sepk i hi k hk hf
  · by_cases e : i = s
    · subst e; rw [upd_same]
      rcases wv with h' | h' | h'
      · rw [h']; simp
      · rw [h']; exact h.own i hi
      · intro hb'; have := h' b hb'; omega
    · rw [upd_ne _ _ e]; exact h.own i hi
  · rcases wk with h' | h'
    · rw [h']; exact h.ownk
    · intro hb'; have := h' b hb'; omega
  · by_cases e : i = s
    · subst e
      rw [upd_same] at hg
      rw [upd_ne _ _ (fun e => hij e.symm)]
      rcases wv with h' | h' | h'
      · rw [h'] at hg; cases hg
      · rw [h'] at hg; exact h.sep i j hi hj hij g hg
      · intro hj'; have := h' g hg; have := hlt j hj g hj'; omega
    · rw [upd_ne _ _ e] at hg
      by_cases e' : j = s
      · subst e'
        rw [upd_same]
        rcases wv with h' | h' | h'
        · rw [h']; simp
        · rw [h']; exact h.sep i j hi hj hij g hg
        · intro hj'; have := h' g hj'; have := hlt i hi g hg; omega
      · rw [upd_ne _ _ e']; exact h.sep i j hi hj hij g hg
  · by_cases e : i = s
    · subst e; rw [upd_same] at hg; exact dis g hg
    · rw [upd_ne _ _ e] at hg
      rcases wk with h' | h'
      · rw [h']; exact h.sepk i hi g hg
      · intro hj'; have := h' g hj'; have := hlt i hi g hg; omega
theorem FlowAt.chg {F : Nat → Prop} {w w' : World} {lo b o : Nat} {E B : Nat → Int} {V : Nat → Value} {vk : Value} {Q : Nat → List Wt} {ks : List Ky} (h : FlowAt w lo b o E B V vk Q ks) (hb : b < w.heap.size) (hc : Chg F w w') (hF : ¬ F b) (hV : ∀ i, i < 4 → ∀ k, (V i).ownBlock = some k → ¬ F k) (hK : ∀ k, vk.ownBlock = some k → ¬ F k) : FlowAt w' lo b o E B V vk Q ks :=
  ⟨h.cells.chg hc hF, fun j => (World.frozen?_of_block (w := w) (hc.block b hb hF)).trans (h.froz j), fun i hi => hc.row' (h.rows i hi) (hV i hi), hc.row' h.keys hK, h.own, h.ownk, h.sep, h.sepk, Nat.le_trans h.low hc.size⟩
def tV (E : Nat → Int) (V : Nat → Value) (s : Nat) (ep : Int) : Value := if E s < ep then .slice none 0 0 else V s
theorem turn_any {w : World} {lo b o s : Nat} {E B : Nat → Int} {V : Nat → Value} {vk : Value} {Q : Nat → List Wt} {ks : List Ky} (h : FlowAt w lo b o E B V vk Q ks) (hs : s < 4) (ep : Int) :
    Calls Tryz.prog 71 #[.pointer (some ⟨b, o + s * 3, none⟩), .int .i64 ep] w fun e w' => e = .returned (.tuple #[]) ∧
      FlowAt w' lo b o (upd E s (tE E s ep)) (upd B s (tB E B s ep)) (upd V s (tV E V s ep)) vk (upd Q s (tQ E Q s ep)) ks ∧ Chg (fun k => k = b) w w' := by
  have h0 := h.cells.ep s hs
  have h1 := h.cells.ba s hs
  have h2 := h.cells.qu s hs
  have hb : b < w.heap.size := World.block_lt_of_cell? _ _ h0
  by_cases hlt : E s < ep
  · refine (turn_new b (o + s * 3) (E s) ep (B s) (V s) w h0 h1 h2 (h.froz _) (h.froz _) (h.froz _) hlt).mono ?_
    rintro e w' ⟨rfl, rfl⟩
    have cg : Chg (fun k => k = b) w (((w.setCell ⟨b, o + s * 3, none⟩ (.int .i64 ep)).setCell ⟨b, o + s * 3 + 1, none⟩ (.int .i64 0)).setCell ⟨b, o + s * 3 + 2, none⟩ (.slice none 0 0)) :=
      (((Chg.refl (fun k => k = b) w).setCell (p := ⟨b, o + s * 3, none⟩) (fun _ => rfl) _).setCell (p := ⟨b, o + s * 3 + 1, none⟩) (fun _ => rfl) _).setCell (p := ⟨b, o + s * 3 + 2, none⟩) (fun _ => rfl) _
    have sl : Slots b (fun j => j = o + s * 3 ∨ j = o + s * 3 + 1 ∨ j = o + s * 3 + 2 ∨ j = o + 12) w (((w.setCell ⟨b, o + s * 3, none⟩ (.int .i64 ep)).setCell ⟨b, o + s * 3 + 1, none⟩ (.int .i64 0)).setCell ⟨b, o + s * 3 + 2, none⟩ (.slice none 0 0)) :=
      (((Slots.refl b _ w).setCell (p := ⟨b, o + s * 3, none⟩) _ (fun _ => Or.inl rfl)).setCell (p := ⟨b, o + s * 3 + 1, none⟩) _ (fun _ => Or.inr (Or.inl rfl))).setCell (p := ⟨b, o + s * 3 + 2, none⟩) _ (fun _ => Or.inr (Or.inr (Or.inl rfl)))
    have k0 : (w.setCell ⟨b, o + s * 3, none⟩ (.int .i64 ep)).cell? ⟨b, o + s * 3, none⟩ = some (.int .i64 ep) := World.cell?_setCell_same _ _ _ h0
    have k1 : (w.setCell ⟨b, o + s * 3, none⟩ (.int .i64 ep)).cell? ⟨b, o + s * 3 + 1, none⟩ = some (.int .i64 (B s)) := (World.cell?_setCell_other _ _ _ _ (by simp)).trans h1
    have k2 : ((w.setCell ⟨b, o + s * 3, none⟩ (.int .i64 ep)).setCell ⟨b, o + s * 3 + 1, none⟩ (.int .i64 0)).cell? ⟨b, o + s * 3 + 2, none⟩ = some (V s) := (World.cell?_setCell_other _ _ _ _ (by simp)).trans ((World.cell?_setCell_other _ _ _ _ (by simp)).trans h2)
    refine ⟨rfl, ?_, cg⟩
    have eE : tE E s ep = ep := by simp [tE, hlt]
    have eB : tB E B s ep = 0 := by simp [tB, hlt]
    have eV : tV E V s ep = .slice none 0 0 := by simp [tV, hlt]
    have eQ : tQ E Q s ep = [] := by simp [tQ, hlt]
    rw [eE, eB, eV, eQ]
    refine h.update hs hb ?_ ?_ (World.cell?_setCell_same _ _ _ k2) ?_ sl (cg.mono (fun k hk => .inl hk)) (World.ownsRow_nil _ _ _ _) (cg.row' h.keys (fun k hk e => h.ownk (by rw [← e]; exact hk))) (.inl rfl) (.inl rfl) (fun g hg => by simp [Value.ownBlock] at hg)
    · exact (World.cell?_setCell_other _ _ _ _ (by simp)).trans ((World.cell?_setCell_other _ _ _ _ (by simp)).trans k0)
    · exact (World.cell?_setCell_other _ _ _ _ (by simp)).trans (World.cell?_setCell_same _ _ _ k1)
    · have n1 : (⟨b, o + s * 3 + 2, none⟩ : Addr) ≠ ⟨b, o + 12, none⟩ := fun e => by have := congrArg Addr.off e; simp at this; omega
      have n2 : (⟨b, o + s * 3 + 1, none⟩ : Addr) ≠ ⟨b, o + 12, none⟩ := fun e => by have := congrArg Addr.off e; simp at this; omega
      have n3 : (⟨b, o + s * 3, none⟩ : Addr) ≠ ⟨b, o + 12, none⟩ := fun e => by have := congrArg Addr.off e; simp at this; omega
      exact (World.cell?_setCell_other _ _ _ _ n1).trans ((World.cell?_setCell_other _ _ _ _ n2).trans ((World.cell?_setCell_other _ _ _ _ n3).trans h.cells.le))
  · refine (turn_same b (o + s * 3) (E s) ep w h0 hlt).mono ?_
    rintro e w' ⟨rfl, rfl⟩
    have eE : tE E s ep = E s := by simp [tE, hlt]
    have eB : tB E B s ep = B s := by simp [tB, hlt]
    have eV : tV E V s ep = V s := by simp [tV, hlt]
    have eQ : tQ E Q s ep = Q s := by simp [tQ, hlt]
    rw [eE, eB, eV, eQ]
    have hu : ∀ {α : Type} (f : Nat → α), upd f s (f s) = f := fun f => funext fun j => by by_cases e : j = s <;> simp [upd, e]
    rw [hu, hu, hu, hu]
    exact ⟨rfl, h, Chg.refl _ _⟩
theorem addf_any {w : World} {lo b o s : Nat} {E B : Nat → Int} {V : Nat → Value} {vk : Value} {Q : Nat → List Wt} {ks : List Ky} (h : FlowAt w lo b o E B V vk Q ks) (hs : s < 4) (x : Wt) (hn : (Q s).length < 1000) :
    Calls Tryz.prog 75 #[.pointer (some ⟨b, o + s * 3, none⟩), x.agg] w fun e w' => ∃ v', e = .returned (.tuple #[]) ∧
      FlowAt w' lo b o E B (upd V s v') vk (upd Q s (upFn ((Q s).length + 1) (Q s ++ [x]) (Q s).length)) ks ∧ (v'.ownBlock = (V s).ownBlock ∨ ∀ k, v'.ownBlock = some k → w.heap.size ≤ k) ∧ Chg (fun k => k = b ∨ (V s).ownBlock = some k) w w' := by
  have h0 := h.cells.ep s hs
  have h1 := h.cells.ba s hs
  have h2 := h.cells.qu s hs
  have hb : b < w.heap.size := World.block_lt_of_cell? _ _ h0
  refine (add_any lo b (o + s * 3) (Q s).length (V s) (Q s) x w h2 (h.froz _) (h.rows s hs) rfl (h.own s hs) h.low hn).mono ?_
  rintro e w' ⟨g, cap, rfl, hq, hw, hsl, hcg⟩
  have hw' : (Value.slice (some ⟨g, 0, none⟩) ((Q s).length + 1) cap).ownBlock = (V s).ownBlock ∨ ∀ k, (Value.slice (some ⟨g, 0, none⟩) ((Q s).length + 1) cap).ownBlock = some k → w.heap.size ≤ k := by
    rcases hw with hw | hw
    · exact .inl hw.symm
    · exact .inr (fun k hk => by simp [Value.ownBlock] at hk; omega)
  refine ⟨_, rfl, ?_, hw', hcg⟩
  have hu : ∀ {α : Type} (f : Nat → α), upd f s (f s) = f := fun f => funext fun j => by by_cases e : j = s <;> simp [upd, e]
  have hkeys : w'.ownsRow lo 87 4 vk ks.length (keyCells ks) := hcg.row' h.keys (fun k hk hf => by
    rcases hf with rfl | hf
    · exact h.ownk hk
    · exact h.sepk s hs k hf hk)
  have hrow : w'.ownsRow lo 168 3 (.slice (some ⟨g, 0, none⟩) ((Q s).length + 1) cap) (upFn ((Q s).length + 1) (Q s ++ [x]) (Q s).length).length (wtCells (upFn ((Q s).length + 1) (Q s ++ [x]) (Q s).length)) := by
    rw [hq.len]; exact hq.row
  have := h.update (e' := E s) (b' := B s) (v' := .slice (some ⟨g, 0, none⟩) ((Q s).length + 1) cap) (vk' := vk) hs hb ((hsl.cell _ (by omega)).trans h0) ((hsl.cell _ (by omega)).trans h1) hq.var ((hsl.cell _ (by omega)).trans h.cells.le)
    (hsl.mono (fun j hj => by simp [hj])) (hcg.mono (fun k hk => by rcases hk with hk | hk <;> simp [hk])) hrow hkeys (.inr hw') (.inl rfl) (fun g' hg' => by
      rcases hw' with hw' | hw'
      · rw [hw'] at hg'; exact h.sepk s hs g' hg'
      · intro hk
        have := hw' g' hg'
        have := (h.keys.lt g' hk).2
        omega)
  rw [hu, hu] at this
  exact this
theorem drainf_any {w : World} {lo b o s : Nat} {E B : Nat → Int} {V : Nat → Value} {vk : Value} {Q : Nat → List Wt} {ks : List Ky} (h : FlowAt w lo b o E B V vk Q ks) (hs : s < 4)
    (hqn : (Q s).length ≤ 4) (hkn : ks.length ≤ 100) (hb0 : 0 ≤ B s ∧ B s + (Q s).length ≤ 1000) (hL : Led ks (Q s).length) (hq : ∀ x ∈ Q s, x.ok) :
    Calls Tryz.prog 77 #[.pointer (some ⟨b, o, none⟩), .int .i64 s] w fun e w' => ∃ v' vk', e = .returned (.tuple #[]) ∧
      FlowAt w' lo b o E (upd B s (drainH 5 (B s) (Q s) ks).1) (upd V s v') vk' (upd Q s (drainH 5 (B s) (Q s) ks).2.1) (drainH 5 (B s) (Q s) ks).2.2 ∧ v'.ownBlock = (V s).ownBlock ∧ (vk'.ownBlock = vk.ownBlock ∨ ∀ k, vk'.ownBlock = some k → w.heap.size ≤ k) ∧
      Chg (fun k => k = b ∨ (V s).ownBlock = some k ∨ vk.ownBlock = some k) w w' := by
  have h0 := h.cells.ep s hs
  have hb : b < w.heap.size := World.block_lt_of_cell? _ _ h0
  refine (drain_any lo b o s (B s) (V s) vk (Q s) ks w hs (h.cells.ba s hs) (h.cells.qu s hs) h.cells.le h.froz (h.rows s hs) h.keys h.low (h.own s hs) h.ownk (h.sepk s hs) hqn hkn hb0 hL hq).mono ?_
  rintro e w' ⟨v', vk', rfl, c1, c2, c3, r1, r2, wv, wk, sl, cg⟩
  have hu : ∀ {α : Type} (f : Nat → α), upd f s (f s) = f := fun f => funext fun j => by by_cases e : j = s <;> simp [upd, e]
  refine ⟨v', vk', rfl, ?_, wv, wk, cg⟩
  have := h.update (e' := E s) hs hb ((sl.cell _ (by omega)).trans h0) c1 c2 c3 (sl.mono (fun j hj => by rcases hj with hj | hj | hj <;> simp [hj])) cg r1 r2 (.inr (.inl wv)) wk (fun g hg => by
    rw [wv] at hg
    rcases wk with wk | wk
    · rw [wk]; exact h.sepk s hs g hg
    · intro hk
      have := wk g hk
      have := ((h.rows s hs).lt g hg).2
      omega)
  rw [hu] at this
  exact this
end Go.Proofs.YthedkdbgfdjlkaaGreatDoor

namespace Go.Proofs.YthedkdbgfdjlkaaGreatDoor
set_option linter.unusedVariables false
set_option linter.unusedSimpArgs false
open Go.RowKit Go.Lib
def accH (E B : Nat → Int) (Q : Nat → List Wt) (ks : List Ky) (s : Nat) (ep num : Int) (key : ByteArray) (val : Int) : (Int × Int) × Option (Int × Int × List Wt × List Ky) :=
  if ¬ (0 ≤ num ∧ num < tB E B s ep + 4) then ((0, 5), none)
  else if num < tB E B s ep ∨ (tQ E Q s ep).any (fun y => y.num == num) = true then ((tB E B s ep, 0), none)
  else if roomErr key ks (upd Q s (tQ E Q s ep)) ≠ 0 then ((0, roomErr key ks (upd Q s (tQ E Q s ep))), none)
  else
    let d := drainH 5 (tB E B s ep) (upFn ((tQ E Q s ep).length + 1) (tQ E Q s ep ++ [⟨num, key, val⟩]) (tQ E Q s ep).length) ks
    ((d.1, 0), some (tE E s ep, d.1, d.2.1, d.2.2))
theorem flow_alloc (w : World) (t : TypeId) (E B : Nat → Int) (V : Nat → Value) (vk : Value) :
    FlowCells (w.alloc (.cells #[.int .i64 (E 0), .int .i64 (B 0), V 0, .int .i64 (E 1), .int .i64 (B 1), V 1, .int .i64 (E 2), .int .i64 (B 2), V 2, .int .i64 (E 3), .int .i64 (B 3), V 3, vk] t)) w.heap.size 0 E B V vk := by
  refine ⟨fun i hi => ?_, fun i hi => ?_, fun i hi => ?_, ?_⟩
  · rw [World.cell?_alloc_new]
    rcases (by omega : i = 0 ∨ i = 1 ∨ i = 2 ∨ i = 3) with rfl | rfl | rfl | rfl <;> rfl
  · rw [World.cell?_alloc_new]
    rcases (by omega : i = 0 ∨ i = 1 ∨ i = 2 ∨ i = 3) with rfl | rfl | rfl | rfl <;> rfl
  · rw [World.cell?_alloc_new]
    rcases (by omega : i = 0 ∨ i = 1 ∨ i = 2 ∨ i = 3) with rfl | rfl | rfl | rfl <;> rfl
  · rw [World.cell?_alloc_new]; rfl
def cells13 (E B : Nat → Int) (V : Nat → Value) (vk : Value) : List Value := [.int .i64 (E 0), .int .i64 (B 0), V 0, .int .i64 (E 1), .int .i64 (B 1), V 1, .int .i64 (E 2), .int .i64 (B 2), V 2, .int .i64 (E 3), .int .i64 (B 3), V 3, vk]
theorem flow_put {w : World} {b o : Nat} (E B : Nat → Int) (V : Nat → Value) (vk : Value) (hsome : ∀ j, j < 13 → (w.cell? ⟨b, o + j, none⟩).isSome = true) :
    FlowCells (w.setCells b o (cells13 E B V vk)) b o E B V vk := by
  have hin := World.cell?_setCells_in b (cells13 E B V vk) o w (fun j hj => hsome j hj)
  refine ⟨fun i hi => ?_, fun i hi => ?_, fun i hi => ?_, ?_⟩
  · have := hin (i * 3) (by show i * 3 < 13; omega)
    rw [this]
    rcases (by omega : i = 0 ∨ i = 1 ∨ i = 2 ∨ i = 3) with rfl | rfl | rfl | rfl <;> rfl
  · have := hin (i * 3 + 1) (by show i * 3 + 1 < 13; omega)
    rw [← Nat.add_assoc] at this
    rw [this]
    rcases (by omega : i = 0 ∨ i = 1 ∨ i = 2 ∨ i = 3) with rfl | rfl | rfl | rfl <;> rfl
  · have := hin (i * 3 + 2) (by show i * 3 + 2 < 13; omega)
    rw [← Nat.add_assoc] at this
    rw [this]
    rcases (by omega : i = 0 ∨ i = 1 ∨ i = 2 ∨ i = 3) with rfl | rfl | rfl | rfl <;> rfl
  · have := hin 12 (by show 12 < 13; omega)
    rw [this]; rfl
theorem setCells_slots (b : Nat) : ∀ (vs : List Value) (o : Nat) (w : World), Slots b (fun j => o ≤ j ∧ j < o + vs.length) w (w.setCells b o vs) ∧ Chg (fun k => k = b) w (w.setCells b o vs)
  | [], o, w => ⟨by simpa [World.setCells] using Slots.refl b _ w, by simpa [World.setCells] using Chg.refl _ w⟩
  | v :: r, o, w => by
    obtain ⟨h1, h2⟩ := setCells_slots b r (o + 1) (w.setCell ⟨b, o, none⟩ v)
    have h0 : Slots b (fun j => o ≤ j ∧ j < o + (v :: r).length) w (w.setCell ⟨b, o, none⟩ v) := (Slots.refl b _ w).setCell (p := ⟨b, o, none⟩) v (fun _ => by simp)
    have c0 : Chg (fun k => k = b) w (w.setCell ⟨b, o, none⟩ v) := (Chg.refl (fun k => k = b) w).setCell (p := ⟨b, o, none⟩) (fun _ => rfl) v
    constructor
    · simpa [World.setCells] using h0.trans h1 (fun j hj => by simp; omega)
    · simpa [World.setCells] using c0.trans h2 (fun _ _ h => h)
theorem qNames_length (Q : Nat → List Wt) (m : Nat) (h : ∀ i, i < m → (Q i).length ≤ 4) : (qNames Q m).length ≤ 4 * m := by
  induction m with
  | zero => simp [qNames]
  | succ m ih =>
    have := ih (fun i hi => h i (by omega))
    have := h m (by omega)
    simp [qNames]; omega
theorem theNames_length (ks : List Ky) (Q : Nat → List Wt) (hk : ks.length ≤ 4) (h : ∀ i, i < 4 → (Q i).length ≤ 4) : (theNames ks Q).length ≤ 100 := by
  have h1 := qNames_length Q 4 h
  unfold theNames compact compactUpTo
  rw [List.length_map]
  refine Nat.le_trans (List.length_filter_le _ _) ?_
  rw [List.length_range, List.length_mergeSort]
  simp; omega
theorem upd_upd {α : Type} (f : Nat → α) (i : Nat) (x y : α) : upd (upd f i x) i y = upd f i y := funext fun j => by by_cases e : j = i <;> simp [upd, e]
theorem mem_upFn {x : Wt} : ∀ (f : Nat) (l : List Wt) (j : Nat), x ∈ upFn f l j → x ∈ l
  | 0, l, j, h => h
  | f + 1, l, j, h => by
    unfold upFn at h
    split at h
    · exact h
    · exact mem_swapL (mem_upFn f _ _ h)
theorem upFn_length : ∀ (f : Nat) (l : List Wt) (j : Nat), (upFn f l j).length = l.length
  | 0, l, j => rfl
  | f + 1, l, j => by
    unfold upFn
    split
    · rfl
    · rw [upFn_length, swapL_length]
theorem qLens_ge (Q : Nat → List Wt) (s : Nat) (hs : s < 4) : ((Q s).length : Int) ≤ qLens Q 4 := by
  simp only [qLens]
  rcases (by omega : s = 0 ∨ s = 1 ∨ s = 2 ∨ s = 3) with rfl | rfl | rfl | rfl <;> omega
def AccPost (lo b o s : Nat) (E B : Nat → Int) (V : Nat → Value) (vk : Value) (Q : Nat → List Wt) (w w' : World) : Option (Int × Int × List Wt × List Ky) → Prop
  | none => Chg (fun _ => False) w w'
  | some (e', b', q', ks') => ∃ v' vk', FlowAt w' lo b o (upd E s e') (upd B s b') (upd V s v') vk' (upd Q s q') ks' ∧
      (∀ k, v'.ownBlock = some k → (V s).ownBlock = some k ∨ w.heap.size ≤ k) ∧ (∀ k, vk'.ownBlock = some k → vk.ownBlock = some k ∨ w.heap.size ≤ k) ∧
      Slots b (fun j => o ≤ j ∧ j < o + 13) w w' ∧ Chg (fun k => k = b ∨ (V s).ownBlock = some k ∨ vk.ownBlock = some k) w w'
set_option maxRecDepth 100000 in
set_option maxHeartbeats 4000000 in
theorem flowAccept_new (lo b o s : Nat) (E B : Nat → Int) (V : Nat → Value) (vk : Value) (Q : Nat → List Wt) (ks : List Ky) (ep num val : Int) (key : ByteArray) (w : World) (hs : s < 4) (hF : FlowAt w lo b o E B V vk Q ks) (hfit : FlowFit E B Q ks)
    (hx : (⟨s, ep, num, key, val⟩ : Rec).fits) (hgood : recErr ⟨s, ep, num, key, val⟩ = 0) (hep : ¬ ep < E s) :
    Calls Tryz.prog 40 #[.pointer (some ⟨b, o, none⟩), (⟨s, ep, num, key, val⟩ : Rec).value'] w fun e w' =>
      e = .returned (.tuple #[.int .i64 (accH E B Q ks s ep num key val).1.1, .bool (accH E B Q ks s ep num key val).2.isSome, .int .i64 (accH E B Q ks s ep num key val).1.2]) ∧
      AccPost lo b o s E B V vk Q w w' (accH E B Q ks s ep num key val).2 := by
  have hcr := checkRecord_any ⟨s, ep, num, key, val⟩ (w.alloc (.cells #[.int .i64 s, .int .i64 ep, .int .i64 num, .string key, .int .i64 val] 53)) hx
  rw [hgood] at hcr
  have hes := hF.cells.ep s hs
  have hbl : b < w.heap.size := World.block_lt_of_cell? _ _ hes
  have hs' : (s : Int) < 4 := by omega
  obtain ⟨pk, kc, hvk⟩ := row_any hF.keys
  obtain ⟨p0, k0, hV0⟩ := row_any (hF.rows 0 (by omega))
  obtain ⟨p1, k1, hV1⟩ := row_any (hF.rows 1 (by omega))
  obtain ⟨p2, k2, hV2⟩ := row_any (hF.rows 2 (by omega))
  obtain ⟨p3, k3, hV3⟩ := row_any (hF.rows 3 (by omega))
  unfold Rec.value' at hcr ⊢
  go_enter Tryz.func40, Tryz.ntmps40
  go_wp2_with fail
  refine hcr.mono ?_
  rintro _ w1 ⟨rfl, c1⟩
  have c01 : Chg (fun _ => False) w w1 := ((Chg.refl _ w).alloc _).trans c1 (fun _ _ h => h)
  have x0 := c1.cellAt (World.cell?_alloc_at (w := w) #[.int .i64 s, .int .i64 ep, .int .i64 num, .string key, .int .i64 val] 53 w.heap.size 0 rfl) id
  have x1 := c1.cellAt (World.cell?_alloc_at (w := w) #[.int .i64 s, .int .i64 ep, .int .i64 num, .string key, .int .i64 val] 53 w.heap.size 1 rfl) id
  have x2 := c1.cellAt (World.cell?_alloc_at (w := w) #[.int .i64 s, .int .i64 ep, .int .i64 num, .string key, .int .i64 val] 53 w.heap.size 2 rfl) id
  have x3 := c1.cellAt (World.cell?_alloc_at (w := w) #[.int .i64 s, .int .i64 ep, .int .i64 num, .string key, .int .i64 val] 53 w.heap.size 3 rfl) id
  have x4 := c1.cellAt (World.cell?_alloc_at (w := w) #[.int .i64 s, .int .i64 ep, .int .i64 num, .string key, .int .i64 val] 53 w.heap.size 4 rfl) id
  simp only [List.getElem_toArray, List.getElem_cons_zero, List.getElem_cons_succ] at x0 x1 x2 x3 x4
  have hsz1 : w.heap.size + 1 ≤ w1.heap.size := by have := c1.size; rw [World.size_alloc] at this; exact this
  have hbl1 : b < w1.heap.size := by omega
  replace hes := c01.cellAt hes id
  clear hcr
  go_wp2_with fail
  go_quiet (fail)
  generalize hw2 : w1.drewN nq = w2
  have q12 : Quiet w1 w2 := by rw [← hw2]; exact (Quiet.refl _).drewN _
  have hsz2 : w2.heap.size = w1.heap.size := by rw [q12.heap]
  have c02 : Chg (fun _ => False) w w2 := c01.trans (q12.chg _) (fun _ _ h => h)
  rw [← q12.cell] at x0 x1 x2 x3 x4
  have hF2 := hF.cells.chg c02 id
  have e0 := hF2.ep 0 (by omega); have e1 := hF2.ep 1 (by omega); have e2 := hF2.ep 2 (by omega); have e3 := hF2.ep 3 (by omega)
  have b0 := hF2.ba 0 (by omega); have b1 := hF2.ba 1 (by omega); have b2 := hF2.ba 2 (by omega); have b3 := hF2.ba 3 (by omega)
  have v0 := hF2.qu 0 (by omega); have v1 := hF2.qu 1 (by omega); have v2 := hF2.qu 2 (by omega); have v3 := hF2.qu 3 (by omega)
  have kk := hF2.le
  simp only [Nat.zero_mul, Nat.one_mul, Nat.add_zero] at e0 e1 e2 e3 b0 b1 b2 b3 v0 v1 v2 v3
  have hbl2 : b < w2.heap.size := by omega
  have hxl2 : w.heap.size < w2.heap.size := by omega
  have hlow2 : lo ≤ w2.heap.size := Nat.le_trans hF.low c02.size
  clear hes hw2 c1 hsz2 hsz1 c01 q12 hbl1
  go_wp2_with fail
  clear e0 e1 e2 e3 b0 b1 b2 b3 v0 v1 v2 v3 kk
  -- the copy
  have hcF : Chg (fun _ => False) w2 (w2.alloc (.cells #[.int .i64 (E 0), .int .i64 (B 0), V 0, .int .i64 (E 1), .int .i64 (B 1), V 1, .int .i64 (E 2), .int .i64 (B 2), V 2, .int .i64 (E 3), .int .i64 (B 3), V 3, vk] 98)) := (Chg.refl _ w2).alloc _
  have hA : FlowAt (w2.alloc (.cells #[.int .i64 (E 0), .int .i64 (B 0), V 0, .int .i64 (E 1), .int .i64 (B 1), V 1, .int .i64 (E 2), .int .i64 (B 2), V 2, .int .i64 (E 3), .int .i64 (B 3), V 3, vk] 98)) lo w2.heap.size 0 E B V vk Q ks := by
    have h2 := hF.chg hbl c02 id (fun _ _ _ _ => id) (fun _ _ => id)
    refine ⟨flow_alloc w2 _ E B V vk, fun j => World.frozen?_alloc_at _ _ _ _ rfl, fun i hi => (h2.rows i hi).alloc _, h2.keys.alloc _, fun i hi h => ?_, fun h => ?_, h2.sep, h2.sepk, by rw [World.size_alloc]; omega⟩
    · have := ((h2.rows i hi).lt _ h).2; omega
    · have := (h2.keys.lt _ h).2; omega
  rw [hV0, hV1, hV2, hV3] at hcF hA
  have hsz3 : w2.heap.size < (w2.alloc (.cells #[.int .i64 (E 0), .int .i64 (B 0), .slice p0 (Q 0).length k0, .int .i64 (E 1), .int .i64 (B 1), .slice p1 (Q 1).length k1, .int .i64 (E 2), .int .i64 (B 2), .slice p2 (Q 2).length k2, .int .i64 (E 3), .int .i64 (B 3), .slice p3 (Q 3).length k3, vk] 98)).heap.size := by rw [World.size_alloc]; omega
  rw [← hvk]
  generalize hw3 : w2.alloc (.cells #[.int .i64 (E 0), .int .i64 (B 0), .slice p0 (Q 0).length k0, .int .i64 (E 1), .int .i64 (B 1), .slice p1 (Q 1).length k1, .int .i64 (E 2), .int .i64 (B 2), .slice p2 (Q 2).length k2, .int .i64 (E 3), .int .i64 (B 3), .slice p3 (Q 3).length k3, vk] 98) = w3 at hcF hA hsz3
  obtain ⟨nb, hnb⟩ : ∃ nb, nb = w2.heap.size := ⟨_, rfl⟩
  have ht := turn_any hA hs ep
  rw [Nat.zero_add] at ht
  have c03 : Chg (fun _ => False) w w3 := c02.trans hcF (fun _ _ h => h)
  have y0 := hcF.cellAt x0 id
  have y2 := hcF.cellAt x2 id
  have y3 := hcF.cellAt x3 id
  have y4 := hcF.cellAt x4 id
  clear x0 x1 x2 x3 x4 hw3 hA hcF hF2
  refine ht.mono ?_
  rintro _ w4 ⟨rfl, hT, c34⟩
  clear ht
  rw [← hnb] at hT c34 hxl2 hbl2 hsz3 ⊢
  have HNB : Hid (nb = w2.heap.size) := hnb
  clear hnb hlow2
  have c04 : Chg (fun _ => False) w w4 := c03.trans c34 (fun k hk h => by omega)
  have z0 := c34.cellAt y0 (by omega)
  have z2 := c34.cellAt y2 (by omega)
  have z3 := c34.cellAt y3 (by omega)
  have z4 := c34.cellAt y4 (by omega)
  have hsz4 : nb < w4.heap.size := Nat.lt_of_lt_of_le hsz3 c34.size
  clear y0 y2 y3 y4 c03 c02 c34 hsz3
  obtain ⟨TB, hTB⟩ : ∃ x, x = tB E B s ep := ⟨_, rfl⟩
  obtain ⟨TQ, hTQ⟩ : ∃ x, x = tQ E Q s ep := ⟨_, rfl⟩
  obtain ⟨TE, hTE⟩ : ∃ x, x = tE E s ep := ⟨_, rfl⟩
  obtain ⟨TV, hTV⟩ : ∃ x, x = tV E V s ep := ⟨_, rfl⟩
  rw [← hTB, ← hTQ, ← hTE, ← hTV] at hT
  have hcnt := counts_nonneg hfit.led.count
  have hqlt : 0 ≤ qLens Q 4 := by simp [qLens]; omega
  have hTB0 : 0 ≤ TB ∧ TB ≤ counts ks := by
    rw [hTB]; unfold tB
    split
    · exact ⟨Int.le_refl _, hcnt⟩
    · exact hfit.ba s hs
  have htot := hfit.led.total
  have hacc : Hid (accH E B Q ks s ep num key val = if ¬ (0 ≤ num ∧ num < TB + 4) then ((0, 5), none) else if num < TB ∨ TQ.any (fun y => y.num == num) = true then ((TB, 0), none) else if roomErr key ks (upd Q s TQ) ≠ 0 then ((0, roomErr key ks (upd Q s TQ)), none) else (((drainH 5 TB (upFn (TQ.length + 1) (TQ ++ [⟨num, key, val⟩]) TQ.length) ks).1, 0), some (TE, (drainH 5 TB (upFn (TQ.length + 1) (TQ ++ [⟨num, key, val⟩]) TQ.length) ks).1, (drainH 5 TB (upFn (TQ.length + 1) (TQ ++ [⟨num, key, val⟩]) TQ.length) ks).2.1, (drainH 5 TB (upFn (TQ.length + 1) (TQ ++ [⟨num, key, val⟩]) TQ.length) ks).2.2))) := by
    show _ = _
    rw [hTB, hTQ, hTE]; rfl
  have HTQ : Hid (TQ = tQ E Q s ep) := hTQ
  have HTV : Hid (TV = tV E V s ep) := hTV
  clear hTB hTQ hTE hTV hV0 hV1 hV2 hV3 hvk hep
  have hba := hT.cells.ba s hs
  rw [Nat.zero_add, upd_same] at hba
  have hre := reaches_any nb (s * 3) TB num w4 hba (by omega)
  go_wp2_with fail
  refine hre.mono ?_
  rintro _ w5 ⟨rfl, q45⟩
  have c05 : Chg (fun _ => False) w w5 := c04.trans (q45.chg _) (fun _ _ h => h)
  have hT5 := hT.chg hsz4 (q45.chg (fun _ => False)) id (fun _ _ _ _ => id) (fun _ _ => id)
  rw [← q45.cell] at z0 z2 z3 z4
  have hsz5 : nb < w5.heap.size := Nat.lt_of_lt_of_le hsz4 (q45.chg (fun _ => False)).size
  clear hre q45 hba hT c04 hsz4
  by_cases hrea : 0 ≤ num ∧ num < TB + 4
  · have hd : decide (0 ≤ num ∧ num < TB + 4) = true := by simpa using hrea
    rw [hd]
    clear hd
    have hba := hT5.cells.ba s hs
    have hqu := hT5.cells.qu s hs
    have hrow := hT5.rows s hs
    rw [Nat.zero_add, upd_same] at hba hqu
    rw [upd_same, upd_same] at hrow
    have hTQl : TQ.length ≤ 3 := by
      rw [HTQ.out]; unfold tQ
      split
      · simp
      · exact hfit.ql s hs
    by_cases hlow : num < TB
    · have hha := has_low nb (s * 3) TB num w5 hsz5 hba hlow
      go_wp2_with fail
      refine hha.mono ?_
      rintro _ w6 ⟨rfl, c56⟩
      have hba6 := c56.cellAt hba id
      clear hha hba hqu
      go_wp2_with fail
      go_ret3
      have e : accH E B Q ks s ep num key val = ((TB, 0), none) := by rw [hacc.out]; simp [hrea, hlow]
      rw [e]
      exact ⟨rfl, c05.trans c56 (fun _ _ h => h)⟩
    · have hha := has_high lo nb (s * 3) TQ.length TB num TV TQ w5 hsz5 hba hlow hqu hrow rfl (by omega)
      by_cases hany : TQ.any (fun y => y.num == num) = true
      · rw [hany] at hha
        go_wp2_with fail
        refine hha.mono ?_
        rintro _ w6 ⟨rfl, c56⟩
        have hba6 := c56.cellAt hba id
        clear hha hba hqu
        go_wp2_with fail
        go_ret3
        have e : accH E B Q ks s ep num key val = ((TB, 0), none) := by rw [hacc.out]; simp only [hrea, hany]; simp
        rw [e]
        exact ⟨rfl, c05.trans c56 (fun _ _ h => h)⟩
      · have hanyf : TQ.any (fun y => y.num == num) = false := by simpa using hany
        rw [hanyf] at hha
        go_wp2_with fail
        refine hha.mono ?_
        rintro _ w6 ⟨rfl, c56⟩
        have hT6 := hT5.chg hsz5 c56 id (fun _ _ _ _ => id) (fun _ _ => id)
        have c06 : Chg (fun _ => False) w w6 := c05.trans c56 (fun _ _ h => h)
        replace z0 := c56.cellAt z0 id
        replace z2 := c56.cellAt z2 id
        replace z3 := c56.cellAt z3 id
        replace z4 := c56.cellAt z4 id
        have hsz6 : nb < w6.heap.size := Nat.lt_of_lt_of_le hsz5 c56.size
        have hUQ : ∀ i, i < 4 → (upd Q s TQ i).length ≤ 3 := fun i hi => by
          by_cases e : i = s
          · subst e; rw [upd_same]; exact hTQl
          · rw [upd_ne _ _ e]; exact hfit.ql i hi
        have hro := checkRoom_any lo nb 0 (upd E s TE) (upd B s TB) (upd V s TV) vk (upd Q s TQ) ks key w6 hsz6 hT6.cells hT6.keys hfit.kl (fun k hk => ⟨hfit.led.count k hk, by have := (count_le hfit.led.count k hk).1; omega⟩) (by omega) hT6.rows (fun i hi => by have := hUQ i hi; omega) (theNames_length _ _ hfit.kl (fun i hi => by have := hUQ i hi; omega))
        obtain ⟨RM, hRM⟩ : ∃ x, x = roomErr key ks (upd Q s TQ) := ⟨_, rfl⟩
        rw [← hRM] at hro
        have HRM : Hid (RM = roomErr key ks (upd Q s TQ)) := hRM
        clear hha hba hqu hrow hRM hT5 c05 c56 hsz5
        go_wp2_with fail
        refine hro.mono ?_
        rintro _ w7 ⟨rfl, c67⟩
        by_cases hrm : RM = 0
        · subst hrm
          clear hro
          have hok : okKey key = true ∧ 0 ≤ val ∧ val ≤ 4294967295 := by
            unfold recErr at hgood
            simp only at hgood
            split at hgood
            · cases hgood
            · split at hgood
              · cases hgood
              · rename_i h1 h2
                refine ⟨?_, by omega, by omega⟩
                cases e : okKey key with
                | true => rfl
                | false => exact absurd (Or.inl e) h2
          have hkey6 : key.size ≤ 6 ∧ ∃ c r, key.data.toList = c :: r ∧ okFirst c = true := by
            have := hok.1
            unfold okKey at this
            split at this
            · cases this
            · rename_i c r hl
              simp at this
              exact ⟨this.2, c, r, hl, this.1⟩
          have hT7 := hT6.chg hsz6 c67 id (fun _ _ _ _ => id) (fun _ _ => id)
          have c07 : Chg (fun _ => False) w w7 := c06.trans c67 (fun _ _ h => h)
          have hsz7 : nb < w7.heap.size := Nat.lt_of_lt_of_le hsz6 c67.size
          replace z0 := c67.cellAt z0 id
          replace z2 := c67.cellAt z2 id
          replace z3 := c67.cellAt z3 id
          replace z4 := c67.cellAt z4 id
          have hcl := clone_any key w7.drew hkey6.1
          have hadd := fun (W : World) (cW : Chg (fun _ => False) w7 W) => addf_any (hT7.chg hsz7 cW id (fun _ _ _ _ => id) (fun _ _ => id)) hs ⟨num, key, val⟩ (by rw [upd_same]; omega)
          simp only [Nat.zero_add, upd_same, Wt.agg] at hadd
          have HADD : Hid (∀ (W : World), Chg (fun _ => False) w7 W → _) := hadd
          clear hadd hT6 c06 c67 hsz6
          go_wp2_with fail
          go_cut [] from 10 (fun wc => ∃ v9, FlowAt wc lo nb 0 (upd E s TE) (upd B s TB) (upd (upd V s TV) s v9) vk (upd (upd Q s TQ) s (upFn (TQ.length + 1) (TQ ++ [⟨num, key, val⟩]) TQ.length)) ks ∧ (v9.ownBlock = TV.ownBlock ∨ ∀ k, v9.ownBlock = some k → w7.heap.size ≤ k) ∧ Chg (fun k => k = nb ∨ TV.ownBlock = some k) w7 wc)
          case first =>
            go_region_with (first | (go_at_call 76; refine hcl.mono ?_; rintro _ w8 ⟨rfl, c78⟩; have t2 := c78.cellAt (show w7.drew.cell? _ = _ from z2) id; have t3 := c78.cellAt (show w7.drew.cell? _ = _ from z3) id; have t4 := c78.cellAt (show w7.drew.cell? _ = _ from z4) id) | (go_at_call 75; refine (HADD.out _ ((Chg.refl _ w7).drew.trans c78 (fun _ _ h => h))).mono ?_; rintro _ w9 ⟨v9, rfl, hT9, hw9, c89⟩))
            all_goals
              go_wp2_with fail
              go_meet
              case rel =>
                refine ⟨v9, hT9, hw9.imp id (fun h k hk => Nat.le_trans c78.size (h k hk)), ?_⟩
                exact ((Chg.refl _ w7).drew.trans (c78.mono (fun _ h => h.elim)) (fun _ _ h => h)).trans c89 (fun _ _ h => h)
          case rest =>
            obtain ⟨v9, hT9, hw9, c79⟩ := hcut
            clear HADD hcl hT7
            rw [upd_upd, upd_upd] at hT9
            obtain ⟨q2, hq2⟩ : ∃ q2, q2 = upFn (TQ.length + 1) (TQ ++ [⟨num, key, val⟩]) TQ.length := ⟨_, rfl⟩
            rw [← hq2] at hT9
            have hq2l : q2.length = TQ.length + 1 := by rw [hq2, upFn_length]; simp
            have hq2m : ∀ y ∈ q2, y.ok := fun y hy => by
              rw [hq2] at hy
              rcases List.mem_append.1 (mem_upFn _ _ _ hy) with h | h
              · rw [HTQ.out] at h
                unfold tQ at h
                split at h
                · simp at h
                · exact hfit.wok s hs y h
              · simp at h; subst h; exact ⟨hkey6.2, hok.2⟩
            have hTVlt : ∀ k, TV.ownBlock = some k → k < w.heap.size := fun k hk => by
              rw [HTV.out] at hk
              unfold tV at hk
              split at hk
              · simp [Value.ownBlock] at hk
              · exact ((hF.rows s hs).lt k hk).2
            have hTVs : ∀ k, TV.ownBlock = some k → (V s).ownBlock = some k := fun k hk => by
              rw [HTV.out] at hk
              unfold tV at hk
              split at hk
              · simp [Value.ownBlock] at hk
              · exact hk
            have hvlt : ∀ k, vk.ownBlock = some k → k < w.heap.size := fun k hk => (hF.keys.lt k hk).2
            have hroom : counts ks + qLens (upd Q s TQ) 4 < 1000 := by
              have h0 := HRM.out
              unfold roomErr at h0
              split at h0
              · cases h0
              · split at h0
                · cases h0
                · omega
            have hge := qLens_ge (upd Q s TQ) s hs
            rw [upd_same] at hge
            have hLd : Led ks ((q2.length : Int)) := ⟨hfit.led.sorted, hfit.led.first, hfit.led.fold, hfit.led.count, by rw [hq2l]; omega⟩
            have hsz9 : nb < wc.heap.size := Nat.lt_of_lt_of_le hsz7 c79.size
            have hdr := drainf_any hT9 hs (by rw [upd_same]; omega) (by have := hfit.kl; omega) (by rw [upd_same, upd_same]; omega) (by rw [upd_same]; exact hLd) (by rw [upd_same]; exact hq2m)
            simp only [upd_same, upd_upd] at hdr
            obtain ⟨D, hD⟩ : ∃ D, D = drainH 5 TB q2 ks := ⟨_, rfl⟩
            rw [← hD] at hdr
            have z0' := c79.cellAt z0 (by rintro (h | h); omega; have := hTVlt _ h; omega)
            have hacc2 : Hid (accH E B Q ks s ep num key val = ((D.1, 0), some (TE, D.1, D.2.1, D.2.2))) := by
              show _ = _
              have hlow' : ¬ num < TB := by omega
              rw [hacc.out, if_neg (fun h => h hrea), if_neg (fun h => by rcases h with h | h; exact hlow' h; rw [hanyf] at h; cases h), if_neg (fun h => h HRM.out.symm), ← hq2, ← hD]
            clear hq2 hD hacc HRM z0 z2 z3 z4 hge hrea hanyf hany hlow
            go_wp2_with fail
            refine hdr.mono ?_
            rintro _ w10 ⟨v10, vk10, rfl, hT10, hv10, hk10, c910⟩
            clear hdr
            have hsz10 : nb < w10.heap.size := Nat.lt_of_lt_of_le hsz9 c910.size
            have hw7 : w.heap.size ≤ w7.heap.size := c07.size
            have c010 : Chg (fun k => (V s).ownBlock = some k ∨ vk.ownBlock = some k) w w10 := by
              refine ((c07.mono (fun _ h => h.elim)).trans c79 (fun n hn h => ?_)).trans c910 (fun n hn h => ?_)
              · rcases h with h | h
                · omega
                · exact .inl (hTVs n h)
              · rcases h with h | h | h
                · omega
                · rcases hw9 with h9 | h9
                  · rw [h9] at h; exact .inl (hTVs n h)
                  · have := h9 n h; omega
                · exact .inr h
            have hnb' : ¬ ((V s).ownBlock = some b ∨ vk.ownBlock = some b) := by
              rintro (h | h)
              · exact hF.own s hs h
              · exact hF.ownk h
            have hFo := hF.cells.chg c010 hnb'
            have hfz : ∀ j, w10.frozen? ⟨b, j, none⟩ = false := fun j => (World.frozen?_of_block (w := w) (c010.block b hbl hnb')).trans (hF.froz j)
            obtain ⟨E', hE'⟩ : ∃ x, x = upd E s TE := ⟨_, rfl⟩
            obtain ⟨B', hB'⟩ : ∃ x, x = upd B s D.1 := ⟨_, rfl⟩
            obtain ⟨V', hV'⟩ : ∃ x, x = upd V s v10 := ⟨_, rfl⟩
            obtain ⟨Q', hQ'⟩ : ∃ x, x = upd Q s D.2.1 := ⟨_, rfl⟩
            have hbD := hT10.cells.ba s hs
            rw [upd_same, Nat.zero_add] at hbD
            have HE' : Hid (E' = upd E s TE) := hE'
            have HB' : Hid (B' = upd B s D.1) := hB'
            have HV' : Hid (V' = upd V s v10) := hV'
            have HQ' : Hid (Q' = upd Q s D.2.1) := hQ'
            rw [← hE', ← hB', ← hV', ← hQ'] at hT10
            clear hE' hB' hV' hQ'
            obtain ⟨p0', k0', hV0'⟩ := row_any (hT10.rows 0 (by omega))
            obtain ⟨p1', k1', hV1'⟩ := row_any (hT10.rows 1 (by omega))
            obtain ⟨p2', k2', hV2'⟩ := row_any (hT10.rows 2 (by omega))
            obtain ⟨p3', k3', hV3'⟩ := row_any (hT10.rows 3 (by omega))
            obtain ⟨pk', kc', hvk'⟩ := row_any hT10.keys
            have n0 := hT10.cells.ep 0 (by omega); have n1 := hT10.cells.ba 0 (by omega); have n2 := hT10.cells.qu 0 (by omega)
            have n3 := hT10.cells.ep 1 (by omega); have n4 := hT10.cells.ba 1 (by omega); have n5 := hT10.cells.qu 1 (by omega)
            have n6 := hT10.cells.ep 2 (by omega); have n7 := hT10.cells.ba 2 (by omega); have n8 := hT10.cells.qu 2 (by omega)
            have n9 := hT10.cells.ep 3 (by omega); have n10 := hT10.cells.ba 3 (by omega); have n11 := hT10.cells.qu 3 (by omega)
            have n12 := hT10.cells.le
            rw [hV0'] at n2; rw [hV1'] at n5; rw [hV2'] at n8; rw [hV3'] at n11; rw [hvk'] at n12
            simp only [Nat.zero_mul, Nat.one_mul, Nat.add_zero, Nat.zero_add, Nat.reduceMul, Nat.reduceAdd] at n0 n1 n2 n3 n4 n5 n6 n7 n8 n9 n10 n11 n12
            have o0 := hFo.ep 0 (by omega); have o1 := hFo.ba 0 (by omega); have o2 := hFo.qu 0 (by omega)
            have o3 := hFo.ep 1 (by omega); have o4 := hFo.ba 1 (by omega); have o5 := hFo.qu 1 (by omega)
            have o6 := hFo.ep 2 (by omega); have o7 := hFo.ba 2 (by omega); have o8 := hFo.qu 2 (by omega)
            have o9 := hFo.ep 3 (by omega); have o10 := hFo.ba 3 (by omega); have o11 := hFo.qu 3 (by omega)
            have o12 := hFo.le
            simp only [Nat.zero_mul, Nat.one_mul, Nat.add_zero, Nat.reduceMul, Nat.add_assoc, Nat.reduceAdd] at o0 o1 o2 o3 o4 o5 o6 o7 o8 o9 o10 o11 o12
            have f0 := hfz o; have f1 := hfz (o + 1); have f2 := hfz (o + 2); have f3 := hfz (o + 3); have f4 := hfz (o + 4); have f5 := hfz (o + 5); have f6 := hfz (o + 6); have f7 := hfz (o + 7); have f8 := hfz (o + 8); have f9 := hfz (o + 9); have f10 := hfz (o + 10); have f11 := hfz (o + 11); have f12 := hfz (o + 12)
            go_wp2_with fail
            go_ret3
            rw [hacc2.out]
            refine ⟨rfl, ?_⟩
            have hsome : ∀ j, j < 13 → (w10.cell? ⟨b, o + j, none⟩).isSome = true := fun j hj => by
              by_cases h12 : j = 12
              · subst h12; rw [hFo.le]; rfl
              · rcases (by omega : j % 3 = 0 ∨ j % 3 = 1 ∨ j % 3 = 2) with h3 | h3 | h3
                · rw [show o + j = o + j / 3 * 3 by omega, hFo.ep (j / 3) (by omega)]; rfl
                · rw [show o + j = o + j / 3 * 3 + 1 by omega, hFo.ba (j / 3) (by omega)]; rfl
                · rw [show o + j = o + j / 3 * 3 + 2 by omega, hFo.qu (j / 3) (by omega)]; rfl
            obtain ⟨sl, cg⟩ := setCells_slots b (cells13 E' B' V' vk10) o w10
            have hv10s : ∀ k, v10.ownBlock = some k → (V s).ownBlock = some k ∨ w.heap.size ≤ k := fun k hk => by
              rw [hv10] at hk
              rcases hw9 with h9 | h9
              · rw [h9] at hk; exact .inl (hTVs k hk)
              · have := h9 k hk; exact .inr (by omega)
            have hk10s : ∀ k, vk10.ownBlock = some k → vk.ownBlock = some k ∨ w.heap.size ≤ k := fun k hk => by
              rcases hk10 with h9 | h9
              · rw [h9] at hk; exact .inl hk
              · have := h9 k hk; have := c79.size; exact .inr (by omega)
            have hV'b : ∀ i, i < 4 → (V' i).ownBlock ≠ some b := fun i hi h => by
              rw [HV'.out] at h
              by_cases e : i = s
              · subst e
                rw [upd_same] at h
                rcases hv10s b h with h' | h'
                · exact hF.own i hi h'
                · omega
              · rw [upd_ne _ _ e] at h
                exact hF.own i hi h
            have hvkb : vk10.ownBlock ≠ some b := fun h => by
              rcases hk10s b h with h' | h'
              · exact hF.ownk h'
              · omega
            have hAt : FlowAt (w10.setCells b o (cells13 E' B' V' vk10)) lo b o E' B' V' vk10 Q' D.2.2 :=
              ⟨flow_put E' B' V' vk10 hsome, fun j => (sl.frozen j).trans (hfz j), fun i hi => cg.row' (hT10.rows i hi) (fun k hk e => hV'b i hi (by rw [← e]; exact hk)), cg.row' hT10.keys (fun k hk e => hvkb (by rw [← e]; exact hk)), hV'b, hvkb, hT10.sep, hT10.sepk, Nat.le_trans hT10.low cg.size⟩
            have P : AccPost lo b o s E B V vk Q w (w10.setCells b o (cells13 E' B' V' vk10)) (some (TE, D.1, D.2.1, D.2.2)) := by
              refine ⟨v10, vk10, ?_, hv10s, hk10s, (Slots.of_chg _ c010 hbl hnb').trans sl (fun j hj => hj), (c010.mono (fun k hk => .inr hk)).trans cg (fun k _ hk => .inl hk)⟩
              rw [← HE'.out, ← HB'.out, ← HV'.out, ← HQ'.out]
              exact hAt
            unfold cells13 at P
            rw [hV0', hV1', hV2', hV3', hvk'] at P
            exact P
        · have hrb : (RM != 0) = true := by simpa using hrm
          clear hro
          go_wp2_with fail
          go_ret3
          have e : accH E B Q ks s ep num key val = ((0, RM), none) := by
            rw [hacc.out, ← HRM.out]
            have hlow' : ¬ num < TB := by omega
            rw [if_neg (fun h => h hrea), if_neg (fun h => by rcases h with h | h; exact hlow' h; rw [hanyf] at h; cases h), if_pos hrm]
          rw [e]
          exact ⟨rfl, c06.trans c67 (fun _ _ h => h)⟩
  · have hd : decide (0 ≤ num ∧ num < TB + 4) = false := by simpa using hrea
    rw [hd]
    have hrea' : Hid (¬ (0 ≤ num ∧ num < TB + 4)) := hrea
    clear hd hrea
    go_wp2_with fail
    go_ret3
    have e : accH E B Q ks s ep num key val = ((0, 5), none) := by rw [hacc.out, if_pos hrea'.out]
    rw [e]
    exact ⟨rfl, c05⟩
end Go.Proofs.YthedkdbgfdjlkaaGreatDoor

namespace Go.Proofs.YthedkdbgfdjlkaaGreatDoor
set_option linter.unusedVariables false
set_option linter.unusedSimpArgs false
open Go.RowKit Go.Shelf
attribute [local go_sem] Oper.semAt_some
def WtsAt (n0 : Nat) (W : World) (sv : Value) (qs : List Wt) : Prop :=
  (sv = .slice none 0 0 ∧ qs = []) ∨ ∃ b cap, sv = .slice (some ⟨b, 0, none⟩) qs.length cap ∧ b < n0 ∧ ∀ (j : Nat) (x : Wt), qs[j]? = some x → W.cell? ⟨b, j * 3, none⟩ = some (.int .i64 x.num) ∧ W.cell? ⟨b, j * 3 + 1, none⟩ = some (.string x.key) ∧ W.cell? ⟨b, j * 3 + 2, none⟩ = some (.int .i64 x.val)
theorem WtsAt.below {n0 : Nat} {A B : World} (h : Below n0 A B) {sv : Value} {qs : List Wt} : WtsAt n0 A sv qs → WtsAt n0 B sv qs
  | .inl e => .inl e
  | .inr ⟨b, cap, e, hb, hc⟩ => .inr ⟨b, cap, e, hb, fun j x hj => ⟨(h.cell (p := ⟨b, j * 3, none⟩) hb).trans (hc j x hj).1, (h.cell (p := ⟨b, j * 3 + 1, none⟩) hb).trans (hc j x hj).2.1, (h.cell (p := ⟨b, j * 3 + 2, none⟩) hb).trans (hc j x hj).2.2⟩⟩
set_option maxRecDepth 100000 in
set_option maxHeartbeats 2000000 in
theorem values1_in (F : Fence) (n : Nat) (h7 : F.fn 156) (hro : F.round = none) (hn : 1 ≤ n) (l Bs n0 b cap : Nat) (qs : List Wt) (hreach : qs.length ≤ 1000) (hb : b < n0) (J Jx : List Wt → World → Prop)
    (hY : ∀ pre x W, J pre W → pre.length < qs.length → YieldAt F (n - 1) Tryz.prog l #[Wt.agg x] W fun e W' =>
      (e = .returned (.bool true) ∧ J (pre ++ [x]) W' ∧ Below n0 W W') ∨ (e = .returned (.bool false) ∧ Jx (pre ++ [x]) W'))
    (W : World) (hJ : AbidesFrom W.heap.size J) (hn0 : n0 ≤ W.heap.size) (hBs : Bs < W.heap.size) (hBs1 : W.cell? ⟨Bs, 0, none⟩ = some (.slice (some ⟨b, 0, none⟩) qs.length cap))
    (hc : ∀ (j : Nat) (x : Wt), qs[j]? = some x → W.cell? ⟨b, j * 3, none⟩ = some (.int .i64 x.num) ∧ W.cell? ⟨b, j * 3 + 1, none⟩ = some (.string x.key) ∧ W.cell? ⟨b, j * 3 + 2, none⟩ = some (.int .i64 x.val)) (h0 : J [] W) :
    CallsIn F n Tryz.prog 156 #[.func (.yield l) #[] #[], .pointer (some ⟨Bs, 0, none⟩)] W fun e W' => (∃ v, e = .returned v) ∧
      ((∃ ys, ys = qs ∧ J ys W') ∨ (∃ pre, pre <+: qs ∧ Jx pre W')) := by
  refine callsIn_of_wp Tryz.func156 rfl h7 ?_ hro
  simp only [Tryz.ntmps156, List.size_toArray, List.length_cons, List.length_nil, Nat.reduceAdd, Nat.reduceSub, Array.replicate_succ, Array.replicate_zero, List.push_toArray, List.append_toArray, List.nil_append, List.cons_append]
  gi_wp2
  gi_loopw [4, 7] (fun _ i wr => ∃ k : Nat, k ≤ qs.length ∧ i = .int .i64 k ∧ J (qs.take k) wr ∧ Below n0 W wr)
    (fun _ i _ => qs.length - (intOf i).toNat)
  case atStart => exact ⟨0, Nat.zero_le _, rfl, h0, Below.refl _ _⟩
  case round =>
    obtain ⟨k, hk, rfl, hJs, hnx⟩ := hrel
    by_cases hlt : k < qs.length
    · obtain ⟨x, hx⟩ : ∃ x, qs[k]? = some x := ⟨_, List.getElem?_eq_getElem hlt⟩
      obtain ⟨c0, c1, c2⟩ := hc k x hx
      have d0 := (hnx.cell (p := ⟨b, k * 3, none⟩) hb).trans c0
      have d1 := (hnx.cell (p := ⟨b, k * 3 + 1, none⟩) hb).trans c1
      have d2 := (hnx.cell (p := ⟨b, k * 3 + 2, none⟩) hb).trans c2
      have hkl' : (k : Int) < (qs.length : Int) := by omega
      have hsz := hnx.size
      obtain ⟨W1, hW1⟩ : ∃ W1, W1 = wr.alloc (.cells #[.int .i64 x.num, .string x.key, .int .i64 x.val] 168) := ⟨_, rfl⟩
      have hJ1 : J (qs.take k) W1 := by rw [hW1]; exact hJ _ _ _ _ hJs (World.grownBy_alloc wr _ none) (fun r e => by cases e)
      obtain ⟨fn, tmps, assign, body, hy, hR⟩ := hY _ x W1 hJ1 (by simp; omega)
      have hb1 : Below n0 wr W1 := by rw [hW1]; exact (Below.refl _ wr).alloc (by omega) _
      unfold Wt.agg at hy
      rw [hW1] at hy hR
      gi_wp2
      refine hR.mono ?_
      rintro e W3 (⟨rfl, hJ3, hk3⟩ | ⟨rfl, hJx3⟩)
      · gi_wp2
        go_roundw
        case rel =>
          refine ⟨k + 1, by omega, by simp, ?_, (hnx.trans hb1).trans (by rw [hW1]; exact hk3)⟩
          rw [List.take_add_one, hx]; exact hJ3
        case measure => simp [intOf]; omega
      · gi_wp2
        refine bodyPost_ret (results_none rfl _ _ _) rfl ?_
        refine ⟨⟨_, rfl⟩, .inr ⟨_, ?_, hJx3⟩⟩
        have e : qs.take k ++ [x] = qs.take (k + 1) := by rw [List.take_add_one, hx]; rfl
        rw [e]; exact List.take_prefix _ _
    · obtain rfl : k = qs.length := by omega
      have hkl' : ¬ (qs.length : Int) < (qs.length : Int) := by omega
      gi_wp2
      go_end0
      rw [List.take_length] at hJs
      exact ⟨⟨_, rfl⟩, .inl hJs⟩
set_option maxRecDepth 100000 in
set_option maxHeartbeats 1000000 in
theorem values1_nil_in (F : Fence) (n : Nat) (h7 : F.fn 156) (hro : F.round = none) (l Bs : Nat) (J : List Wt → World → Prop) (W : World) (hBs : W.cell? ⟨Bs, 0, none⟩ = some (.slice none 0 0)) (h0 : J [] W) :
    CallsIn F n Tryz.prog 156 #[.func (.yield l) #[] #[], .pointer (some ⟨Bs, 0, none⟩)] W fun e W' => (∃ v, e = .returned v) ∧ J [] W' := by
  refine callsIn_of_wp Tryz.func156 rfl h7 ?_ hro
  simp only [Tryz.ntmps156, List.size_toArray, List.length_cons, List.length_nil, Nat.reduceAdd, Nat.reduceSub, Array.replicate_succ, Array.replicate_zero, List.push_toArray, List.append_toArray, List.nil_append, List.cons_append]
  gi_wp2
  gi_loopw [7] (fun i wr => i = .int .i64 0 ∧ J [] wr) (fun _ _ => 0)
  case atStart => exact ⟨rfl, h0⟩
  case round =>
    obtain ⟨rfl, hJs⟩ := hrel
    gi_wp2
    go_end0
    exact ⟨⟨_, rfl⟩, hJs⟩
set_option maxHeartbeats 1000000 in
theorem values_in (F : Fence) (n : Nat) (h5 : F.fn 127) (hro : F.round = none) (a : Option Addr) (len cap : Nat) (w : World) :
    CallsIn F n Tryz.prog 127 #[.slice a len cap] w fun e w' => e = .returned (.func (.func 156) #[] #[.pointer (some ⟨w.heap.size, 0, none⟩)]) ∧ w' = w.alloc (.cells #[.slice a len cap] 92) := by
  refine callsIn_of_wp Tryz.func127 rfl h5 ?_ hro
  simp only [Tryz.ntmps127, List.size_toArray, List.length_cons, List.length_nil, Nat.reduceAdd, Nat.reduceSub, Array.replicate_succ, Array.replicate_zero, List.push_toArray, List.append_toArray, List.nil_append, List.cons_append]
  gi_wp2
  go_ret
  exact ⟨rfl, rfl⟩
theorem values_stops (F : Fence) (n : Nat) (h7 : F.fn 156) (hro : F.round = none) (hn : 1 ≤ n) (Bs n0 : Nat) (sv : Value) (qs : List Wt) (hreach : qs.length ≤ 1000) (w : World) (hBs : Bs < w.heap.size) (hn0 : n0 ≤ w.heap.size)
    (hc : w.cell? ⟨Bs, 0, none⟩ = some sv) (hI : WtsAt n0 w sv qs) :
    SeqStopsK F n Tryz.prog 156 #[.pointer (some ⟨Bs, 0, none⟩)] (fun x : Wt => #[Wt.agg x]) (Below n0) (fun ys => ys = qs) (fun pre => pre <+: qs) qs.length w := fun l J Jx W hW hJ _ hY h0 => by
  have hc' := (hW.cell (p := ⟨Bs, 0, none⟩) hBs).trans hc
  have hsz := hW.size
  rcases hI.below (hW.mono hn0) with ⟨rfl, rfl⟩ | ⟨b, cap, rfl, hb, hcs⟩
  · exact (values1_nil_in F n h7 hro l Bs J W hc' h0).mono fun e W' ⟨he, hj⟩ => ⟨he, .inl ⟨_, rfl, hj⟩⟩
  · exact values1_in F n h7 hro hn l Bs n0 b cap qs hreach hb J Jx hY W hJ (by omega) (by omega) hc' hcs h0
end Go.Proofs.YthedkdbgfdjlkaaGreatDoor

namespace Go.Proofs.YthedkdbgfdjlkaaGreatDoor
set_option linter.unusedVariables false
set_option linter.unusedSimpArgs false
open Go.RowKit Go.Shelf
attribute [local go_sem] Oper.semAt_some
def BoxW (W : World) (B : Nat) (x : Wt) : Prop := W.heap[B]? = some (.cells #[.int .i64 x.num, .string x.key, .int .i64 x.val] 168 (0, 0))
theorem BoxW.cells {W : World} {B : Nat} {x : Wt} (h : BoxW W B x) : W.cell? ⟨B, 0, none⟩ = some (.int .i64 x.num) ∧ W.cell? ⟨B, 1, none⟩ = some (.string x.key) ∧ W.cell? ⟨B, 2, none⟩ = some (.int .i64 x.val) := by
  refine ⟨?_, ?_, ?_⟩ <;> simp [World.cell?, show W.heap[B]? = _ from h]
theorem boxW_own (B : Nat) (x : Wt) : Own (fun (_ : Unit) W => BoxW W B x) := fun s X Y row hs hg hrow => by
  have hlt : B < X.heap.size := (Array.getElem?_eq_some_iff.1 (show X.heap[B]? = _ from hs)).1
  refine (hg.block B hlt (fun e' => ?_)).trans hs
  obtain ⟨o, ho, hc⟩ := hrow B e'.symm
  rw [show X.heap[B]? = _ from hs] at ho; cases ho; cases hc
theorem wtCells_snoc (l : List Wt) (x : Wt) : wtCells (l ++ [x]) = wtCells l ++ [.int .i64 x.num, .string x.key, .int .i64 x.val] := wtCells_append l x
set_option maxRecDepth 100000 in
set_option maxHeartbeats 4000000 in
theorem appendSeq_in (F : Fence) (n : Nat) (h3 : F.fn 166) (h7 : F.fn 156) (hro : F.round = none) (hn : 3 ≤ n) (Bs : Nat) (sv : Value) (qs : List Wt) (hq : qs.length ≤ 1000) (w : World)
    (hBs : Bs < w.heap.size) (hc : w.cell? ⟨Bs, 0, none⟩ = some sv) (hI : WtsAt w.heap.size w sv qs) :
    CallsIn F n Tryz.prog 166 #[.slice none 0 0, .func (.func 156) #[] #[.pointer (some ⟨Bs, 0, none⟩)]] w fun e W' => ∃ v, e = .returned v ∧ W'.ownsRow w.heap.size 168 3 v qs.length (wtCells qs) ∧ Below w.heap.size w W' := by
  have h1 : 1 ≤ n := by omega
  obtain ⟨i0, hi, hz0, hz1, hz2⟩ := info_parts Tryz.infoW
  refine callsIn_of_wp_marks Tryz.func166 rfl h3 ?_ hro
  simp only [Tryz.ntmps166, List.size_toArray, List.length_cons, List.length_nil, Nat.reduceAdd, Nat.reduceSub, Array.replicate_succ, Array.replicate_zero, List.push_toArray, List.append_toArray, List.nil_append, List.cons_append]
  gi_wp2
  have bO := Boxed.new w 91 (.slice none 0 0)
  have hB0 : Below w.heap.size w (w.alloc (.cells #[.slice none 0 0] 91)) := (Below.refl _ w).alloc (Nat.le_refl _) _
  have hc0 := (hB0.cell (p := ⟨Bs, 0, none⟩) hBs).trans hc
  have hsz : (w.alloc (.cells #[.slice none 0 0] 91)).heap.size = w.heap.size + 1 := by simp
  obtain ⟨W0, hW0⟩ : ∃ W0, w.alloc (.cells #[.slice none 0 0] 91) = W0 := ⟨_, rfl⟩
  rw [hW0] at bO hB0 hc0 hsz ⊢
  clear hW0
  refine wpIn_rangeFunc_ownH hro h1 (gf := 156) (lb := #[.pointer (some ⟨Bs, 0, none⟩)]) rfl h7 (enters_of Tryz.func156 (by kernel_rfl) rfl)
    (values_stops F (n - 1) h7 hro (by omega) Bs w.heap.size sv qs hq W0 (by omega) (by omega) hc0 (hI.below hB0)) belowK_t (belowK_b (by omega)) (Below.refl _ _) (fun _ => rfl)
    (fun pre W => (∃ v, Boxed W w.heap.size 91 v ∧ W.ownsRow w.heap.size 168 3 v pre.length (wtCells pre) ∧ True) ∧ Below w.heap.size w W)
    (fun _ _ _ => False)
    (OwnFrom.and (Own.from (holdsRow_own w.heap.size w.heap.size 91 168 3 (fun pre => pre.length) (fun pre => wtCells pre) (fun _ _ => True)) _) (ownFrom_below (Nat.le_refl _) (by omega)))
    (fun _ _ _ _ _ hs _ _ => hs)
    ⟨⟨_, bO, World.ownsRow_nil _ _ _ _, trivial⟩, hB0⟩
    (fun x a' W => ∃ Bx, w.heap.size < Bx ∧ BoxW W Bx x ∧ a' = { tmps := #[.slice none 0 0, .func (.func 156) #[] #[.pointer (some ⟨Bs, 0, none⟩)], .pointer (some ⟨w.heap.size, 0, none⟩), undef, .slice none 0 0, .pointer (some ⟨Bx, 0, none⟩), .func (.func 156) #[] #[.pointer (some ⟨Bs, 0, none⟩)], Wt.agg x, undef, undef, undef, undef, undef], defers := [] })
    (fun x a' _ X Y row hs hg hr => by obtain ⟨Bx, h1, h2, h3⟩ := hs; exact ⟨Bx, h1, boxW_own Bx x () X Y row h2 hg (fun r e => (hr r e).2), h3⟩)
    ?assign ?body ?done ?stop
  case assign =>
    rintro l pre x W K ⟨⟨v, bS1, hrow, _⟩, hB1⟩ hK
    unfold Wt.agg
    gi_wp2
    exact hK _ _ ((KeepsOthers.alloc _ _).from _) ((Below.refl _ W).alloc hB1.size _) ⟨⟨v, bS1.alloc _, hrow.alloc _, trivial⟩, hB1.alloc hB1.size _⟩ ⟨W.heap.size, bS1.lt, World.alloc_heap_new W _, rfl⟩
  case body =>
    rintro l pre x a' W hl ⟨r, hr⟩ ⟨⟨v, hv, hrow, _⟩, hB⟩ ⟨Bx, hBx, bX, rfl⟩ hlt
    have hcv := hv.cell
    obtain ⟨x0, x1, x2⟩ := bX.cells
    have hpl : pre.length ≤ 1000 := by omega
    obtain ⟨pv, cv, rfl⟩ := row_any hrow
    have hnew : ∀ (j : Nat) (y : Value), [Value.int .i64 x.num, .string x.key, .int .i64 x.val][j]? = some y → (W.alloc (.cells #[.int .i64 x.num, .string x.key, .int .i64 x.val] 168)).cell? ((⟨W.heap.size, 0, none⟩ : Addr).add j) = some y := by
      intro j y hj
      rw [add_lit', Nat.zero_add]
      rcases j with _ | _ | _ | j <;> simp at hj <;> subst hj <;> exact World.cell?_alloc_at _ _ _ _ rfl
    have hone : ∀ u ∈ [Value.int .i64 x.num, .string x.key, .int .i64 x.val], u.oneCell' = true := by
      intro u hu
      simp at hu
      rcases hu with rfl | rfl | rfl <;> rfl
    have hle1 : pre.length + 1 ≤ maxLen := by unfold maxLen; omega
    have hle2 : (pre.length + 1) * 32 ≤ 140737488355328 := by omega
    have hle3 : w.heap.size ≤ (W.alloc (.cells #[.int .i64 x.num, .string x.key, .int .i64 x.val] 168)).heap.size := by have := hB.size; simp; omega
    gi_wp2_with (gi_at_builtin; refine wpListIn_append_own _ rfl _ _ 91 rfl w.heap.size 168 i0 (.agg #[.int .i64 0, .string ⟨#[]⟩, .int .i64 0]) 3 32 Tryz.underlying91 hi hz0 hz1 hz2 rfl (by decide) _ _ _ rfl (hrow.alloc _) ⟨W.heap.size, 0, none⟩ 1 1 [.int .i64 x.num, .string x.key, .int .i64 x.val] rfl rfl hnew hone hle1 hle2 hle3 ?_; intro v' w1 hown' hgrow _; obtain ⟨g', cap', rfl⟩ := ownsRow_succ hown'; obtain ⟨hv1, hv2, hr2, hk2, hb2⟩ := hv.appended (by decide) hrow hB.size (Nat.le_refl _) hown' hgrow; have hc1 := hv1.cell; have hf1 := hv1.frozen)
    exact ⟨hk2.from _, hb2, ⟨_, hv2, by rw [wtCells_snoc]; simpa using hr2, trivial⟩, hB.trans hb2⟩
  case done =>
    rintro D ys W hD rfl ⟨⟨v, hv, hrow, _⟩, hB⟩ hK
    have hcv := hv.cell
    gi_wp2
    refine ⟨by simp, .inl ⟨_, _, rfl, run_takeDeferred hK, ?_⟩⟩
    exact ⟨_, results_tmp rfl _ _ _, v, rfl, ownsRow_putObj hrow _ hK rfl, hB.trans (belowK_b (w := w) (Nat.le_refl _) W D _ _ (by omega) hK rfl rfl)⟩
  case stop =>
    rintro D c pre W _ _ h _
    exact h.elim
set_option maxHeartbeats 1000000 in
theorem collect_any (Bs : Nat) (sv : Value) (qs : List Wt) (hq : qs.length ≤ 1000) (w : World) (hBs : Bs < w.heap.size) (hc : w.cell? ⟨Bs, 0, none⟩ = some sv) (hI : WtsAt w.heap.size w sv qs) :
    Calls Tryz.prog 154 #[.func (.func 156) #[] #[.pointer (some ⟨Bs, 0, none⟩)]] w fun e W' => ∃ v, e = .returned v ∧ W'.ownsRow w.heap.size 168 3 v qs.length (wtCells qs) ∧ Below w.heap.size w W' := by
  have hap := callsIn_wide.1 (appendSeq_in Fence.wide 3 trivial trivial rfl (by omega) Bs sv qs hq w hBs hc hI)
  go_enter Tryz.func154, Tryz.ntmps154
  go_wp2_with fail
  refine hap.mono ?_
  rintro _ w1 ⟨v, rfl, h1, h2⟩
  go_wp2_with fail
  go_ret
  exact ⟨_, rfl, h1, h2⟩
end Go.Proofs.YthedkdbgfdjlkaaGreatDoor

namespace Go.Proofs.YthedkdbgfdjlkaaGreatDoor
set_option linter.unusedVariables false
set_option linter.unusedSimpArgs false
open Go.RowKit Go.Shelf Go.Lib Go.Sort
def Up (l : List Wt) : Prop := l.Pairwise fun a b => a.num < b.num
def wEnc (x : Wt) : List Value := [.int .i64 x.num, .string x.key, .int .i64 x.val]
theorem wEnc_len (x : Wt) : (wEnc x).length = 3 := rfl
theorem wEnc_one (x : Wt) : ∀ v ∈ wEnc x, v.oneCell' = true := by
  intro v hv
  simp [wEnc] at hv
  rcases hv with rfl | rfl | rfl <;> rfl
theorem wtCells_len3 : ∀ q : List Wt, (wtCells q).length = q.length * 3
  | [] => rfl
  | x :: r => by
    have := wtCells_len3 r
    simp [wtCells, this]; omega
theorem flat_cells [Inhabited Wt] (q : List Wt) : flatK wEnc 3 q.toArray = (wtCells q).toArray := by
  refine ext_get! (by simp [wtCells_len3]) fun t ht => ?_
  have ht' : t < q.length * 3 := by simpa using ht
  rw [get_flatK _ _ _ t (by simpa using ht')]
  obtain ⟨x, hx⟩ : ∃ x, q[t / 3]? = some x := ⟨_, List.getElem?_eq_getElem (by omega)⟩
  have hq : q.toArray[t / 3]! = x := by
    rw [getElem!_pos _ _ (by simp; omega)]
    have := List.getElem?_eq_some_iff.1 hx
    simpa using this.2
  rw [hq]
  obtain ⟨c0, c1, c2⟩ := wtCells_at q (t / 3) x hx
  have key : ∀ (u : Value), (wtCells q)[t]? = some u → (wtCells q).toArray[t]! = u := fun u hu => by
    obtain ⟨h1, h2⟩ := List.getElem?_eq_some_iff.1 hu
    rw [getElem!_pos _ _ (by simpa using h1)]
    simpa using h2
  rcases (by omega : t % 3 = 0 ∨ t % 3 = 1 ∨ t % 3 = 2) with h | h | h
  · rw [h, key _ (by rw [show t = t / 3 * 3 by omega]; exact c0)]; rfl
  · rw [h, key _ (by rw [show t = t / 3 * 3 + 1 by omega]; exact c1)]; rfl
  · rw [h, key _ (by rw [show t = t / 3 * 3 + 2 by omega]; exact c2)]; rfl
theorem holdsK_row [Inhabited Wt] {w : World} {lo g cap : Nat} {q : List Wt} (hr : w.ownsRow lo 168 3 (.slice (some ⟨g, 0, none⟩) q.length cap) q.length (wtCells q)) : HoldsK wEnc 3 w g 0 q.toArray := by
  unfold HoldsK
  rw [flat_cells]
  intro j hj
  have hj' : j < (wtCells q).length := by simpa using hj
  refine ⟨?_, row_frozen hr _⟩
  rw [Nat.zero_add]
  refine row_cell hr ?_
  rw [List.getElem?_eq_getElem hj', getElem!_pos _ j hj]
  simp
theorem putK_row [Inhabited Wt] {w : World} {lo g cap : Nat} {q ys : List Wt} (hr : w.ownsRow lo 168 3 (.slice (some ⟨g, 0, none⟩) q.length cap) q.length (wtCells q)) (hl : ys.length = q.length) (m : Nat) (os : Array Obj) :
    (sortWorldK wEnc 3 w g 0 m ys.toArray os).ownsRow lo 168 3 (.slice (some ⟨g, 0, none⟩) q.length cap) q.length (wtCells ys) ∧ Chg (fun k => k = g) w (sortWorldK wEnc 3 w g 0 m ys.toArray os) := by
  have hH := holdsK_row hr
  unfold HoldsK at hH
  rw [flat_cells] at hH
  unfold sortWorldK putRowK
  rw [flat_cells, putRow_eq_setCells id w g 0 (wtCells q).toArray (wtCells ys) m hH (by simp [wtCells_len3, hl])]
  have hr' : (w.drewN m).ownsRow lo 168 3 (.slice (some ⟨g, 0, none⟩) q.length cap) q.length (wtCells q) := hr
  obtain ⟨r1, c1⟩ := row_setCells ((wtCells ys).map id) 0 (w.drewN m) (wtCells q) hr' (by simp [wtCells_len3, hl])
  have e1 : (wtCells q).take 0 ++ (wtCells ys).map id ++ (wtCells q).drop (0 + ((wtCells ys).map id).length) = wtCells ys := by
    simp [wtCells_len3, hl]
  rw [e1] at r1
  have c0 : Chg (fun k => k = g) w (w.drewN m) := ⟨rfl, rfl, rfl, Nat.le_refl _, fun _ _ _ => rfl⟩
  exact ⟨(grow_chg _ os).row' r1 (fun _ _ h => h.elim), (c0.trans c1 (fun _ _ h => h)).trans (grow_chg _ os) (fun _ _ h => h.elim)⟩
def wCmp (x y : Wt) : Int := compareInt x.num y.num
set_option maxHeartbeats 400000 in
theorem ordered1_any (x y : Wt) (w : World) : Calls Tryz.prog 128 #[.agg (wEnc x).toArray, .agg (wEnc y).toArray] w fun e w' => e = .returned (.int .i64 (wCmp x y)) ∧ ∃ q os', w' = grow (w.drewN q) os' := by
  unfold wEnc wCmp
  go_enter Tryz.func128, Tryz.ntmps128
  go_wp2_with fail
  refine (Tryz.cmp_Compare_int x.num y.num _).mono ?_
  rintro _ w1 ⟨rfl, ew⟩
  rw [ew]
  clear ew w1
  go_wp2_with fail
  go_ret
  refine ⟨rfl, 0, #[.cells #[.int .i64 x.num, .string x.key, .int .i64 x.val] 168, .cells #[.int .i64 y.num, .string y.key, .int .i64 y.val] 168], ?_⟩
  rfl
theorem wCmp_lt (x y : Wt) : ltOf wCmp x y = decide (x.num < y.num) := by
  unfold ltOf wCmp compareInt
  by_cases h : x.num < y.num
  · simp [h]
  · by_cases h2 : x.num > y.num
    · simp [h, h2]
    · simp [h, h2]
theorem wCmp_swo : SWO (ltOf wCmp) := by
  refine ⟨fun x => ?_, fun x y z h1 h2 => ?_, fun x y z h1 h2 => ?_⟩
  · rw [wCmp_lt]; simp
  · rw [wCmp_lt] at h1 h2 ⊢
    simp only [decide_eq_true_eq] at h1 h2 ⊢
    omega
  · rw [wCmp_lt] at h1 h2 ⊢
    simp only [decide_eq_false_iff_not] at h1 h2 ⊢
    omega
theorem sorted_ws {q' ws : List Wt} (hu : Up ws) (hp : q'.Perm ws) (hs : q'.Pairwise fun a b => a.num ≤ b.num) : q' = ws := by
  refine List.Perm.eq_of_pairwise (le := fun a b => a.num ≤ b.num) (fun a b ha hb h1 h2 => ?_) hs (hu.imp (fun h => by omega)) hp
  have ha' : a ∈ ws := hp.mem_iff.1 ha
  obtain ⟨i, hi, rfl⟩ := List.getElem_of_mem ha'
  obtain ⟨j, hj, rfl⟩ := List.getElem_of_mem hb
  rcases Nat.lt_trichotomy i j with h | h | h
  · have := List.pairwise_iff_getElem.1 hu i j hi hj h; omega
  · subst h; rfl
  · have := List.pairwise_iff_getElem.1 hu j i hj hi h; omega
theorem sortFunc_any {w : World} {lo g cap : Nat} {q ws : List Wt} (hr : w.ownsRow lo 168 3 (.slice (some ⟨g, 0, none⟩) q.length cap) q.length (wtCells q)) (hq : q.length ≤ 12) (hu : Up ws) (hp : q.Perm ws) :
    Calls Tryz.prog 155 #[.slice (some ⟨g, 0, none⟩) q.length cap, .func (.func 128) #[] #[]] w fun e w' => e = .returned (.tuple #[]) ∧ w'.ownsRow lo 168 3 (.slice (some ⟨g, 0, none⟩) q.length cap) q.length (wtCells ws) ∧ Chg (fun k => k = g) w w' := by
  letI : Inhabited Wt := ⟨⟨0, ⟨#[]⟩, 0⟩⟩
  have hg : g < w.heap.size := (hr.lt g rfl).2
  have hS := AnyQ.slices_SortFunc_small_sorted (P := Tryz.prog) (ρ := Tryz.sortW_ren) Tryz.sortW 3 Tryz.isAgg168 Tryz.sizeOf168 wEnc wEnc_len wEnc_one wCmp 128 #[] wCmp_swo g 0 cap q.toArray w
    (enters_of Tryz.func128 (by kernel_rfl) rfl) (fun m os dk _ x y => ordered1_any x y _) (holdsK_row hr) hg (by simpa using hq)
    (fun n W hn => (Tryz.bits_Len (n : Int) W (by omega) (by omega)).mono fun _ _ ⟨h1, h2⟩ => ⟨⟨_, h1⟩, h2⟩)
  rw [List.size_toArray] at hS
  refine hS.mono ?_
  rintro e w' ⟨rfl, d', m, os, ⟨hsz, _, hperm⟩, hsort, rfl⟩
  have hpl : d'.toList.Perm q := by
    have h1 : (d'.extract 0 q.length).toList = d'.toList := by
      have hz : d'.toList.length = q.length := by simpa using hsz
      simp only [Array.toList_extract, List.extract_eq_take_drop, Nat.sub_zero, List.drop_zero]
      rw [← hz, List.take_length]
    have h2 : (q.toArray.extract 0 q.length).toList = q := by simp
    rw [h1, h2] at hperm
    exact hperm
  have hd : d' = (d'.toList).toArray := by simp
  have hso : d'.toList.Pairwise fun a b => a.num ≤ b.num := by
    rw [List.pairwise_iff_getElem]
    intro i j hi hj hij
    have h1 : j < d'.size := by simpa using hj
    have h2 : i < d'.size := by simpa using hi
    have hij' := hsort i j (Nat.zero_le _) hij (by have hz := hsz; simp at hz; omega)
    rw [getElem!_pos d' j h1, getElem!_pos d' i h2, wCmp_lt, decide_eq_false_iff_not] at hij'
    simp only [Array.getElem_toList]
    omega
  have e := sorted_ws hu (hpl.trans hp) hso
  have := putK_row (ys := d'.toList) hr hpl.length_eq m os
  rw [← hd, e] at this
  exact ⟨rfl, this⟩
set_option maxRecDepth 100000 in
set_option maxHeartbeats 1000000 in
theorem insertion_none (p : Option Addr) (cap : Nat) (f : Value) (w : World) : Calls Tryz.prog 181 #[.slice p 0 cap, .int .i64 0, .int .i64 0, f] w fun e w' => e = .returned (.tuple #[]) ∧ w' = w := by
  go_enter Tryz.func181, Tryz.ntmps181
  go_wp2_with fail
  go_loopw [8] (fun si wr => si = .int .i64 1 ∧ wr = w) (fun _ _ => 0)
  case atStart => exact ⟨rfl, rfl⟩
  case round =>
    obtain ⟨rfl, rfl⟩ := hrel
    go_wp2_with fail
    go_end0
    exact ⟨rfl, rfl⟩
set_option maxRecDepth 100000 in
set_option maxHeartbeats 1000000 in
theorem pdq_none (p : Option Addr) (cap : Nat) (l : Int) (f : Value) (w : World) : Calls Tryz.prog 167 #[.slice p 0 cap, .int .i64 0, .int .i64 0, .int .i64 l, f] w fun e w' => e = .returned (.tuple #[]) ∧ w' = w := by
  go_enter Tryz.func167, Tryz.ntmps167
  go_wp2_with fail
  go_loopw [1, 2] (fun sa sb wr => sa = .int .i64 0 ∧ sb = .int .i64 0 ∧ wr = w) (fun _ _ _ => 0)
  case atStart => exact ⟨rfl, rfl, rfl⟩
  case round =>
    obtain ⟨rfl, rfl, rfl⟩ := hrel
    go_wp2_with fail
    refine (insertion_none p cap f _).mono ?_
    rintro _ w1 ⟨rfl, ew⟩
    rw [ew]
    go_wp2_with fail
    (try simp only [Exit.inBlock, Exit.then])
    refine bodyPost_ret (results_none rfl _ _ _) rfl ?_
    exact ⟨rfl, rfl⟩
set_option maxHeartbeats 1000000 in
theorem sortFunc_none (p : Option Addr) (cap : Nat) (f : Value) (w : World) : Calls Tryz.prog 155 #[.slice p 0 cap, f] w fun e w' => e = .returned (.tuple #[]) ∧ w' = w := by
  go_enter Tryz.func155, Tryz.ntmps155
  go_wp2_with fail
  refine (Tryz.bits_Len 0 _ (by omega) (by omega)).mono ?_
  rintro _ w1 ⟨rfl, ew⟩
  rw [ew]
  go_wp2_with fail
  refine (pdq_none p cap _ f _).mono ?_
  rintro _ w1 ⟨rfl, ew⟩
  rw [ew]
  go_wp2_with fail
  go_end0
  exact ⟨rfl, rfl⟩
theorem sortedFunc_any (Bs : Nat) (sv : Value) (q ws : List Wt) (w : World) (hq : q.length ≤ 12) (hu : Up ws) (hp : q.Perm ws) (hBs : Bs < w.heap.size) (hc : w.cell? ⟨Bs, 0, none⟩ = some sv) (hI : WtsAt w.heap.size w sv q) :
    Calls Tryz.prog 126 #[.func (.func 156) #[] #[.pointer (some ⟨Bs, 0, none⟩)], .func (.func 128) #[] #[]] w fun e w' => ∃ v, e = .returned v ∧ w'.ownsRow w.heap.size 168 3 v q.length (wtCells ws) ∧ Chg (fun _ => False) w w' := by
  have hco := collect_any Bs sv q (by omega) w hBs hc hI
  go_enter Tryz.func126, Tryz.ntmps126
  go_wp2_with fail
  refine hco.mono ?_
  rintro _ w1 ⟨v, rfl, r1, b1⟩
  have c1 : Chg (fun _ => False) w w1 := ⟨b1.os, b1.tape, b1.output, b1.size, fun k hk _ => b1.block k hk⟩
  by_cases h0 : q.length = 0
  · obtain rfl : q = [] := List.eq_nil_of_length_eq_zero h0
    obtain rfl : ws = [] := List.perm_nil.1 hp.symm
    obtain ⟨pv, cv, rfl⟩ := row_any r1
    go_wp2_with fail
    refine (sortFunc_none pv cv _ _).mono ?_
    rintro _ w2 ⟨rfl, ew⟩
    rw [ew]
    go_wp2_with fail
    go_ret
    exact ⟨_, rfl, r1, c1⟩
  · obtain ⟨g, cap, rfl, hg, hcap, _⟩ := row_pos r1 (by omega)
    go_wp2_with fail
    refine (sortFunc_any r1 hq hu hp).mono ?_
    rintro _ w2 ⟨rfl, r2, c2⟩
    go_wp2_with fail
    go_ret
    exact ⟨_, rfl, r2, c1.trans c2 (fun n hn h => by omega)⟩
set_option maxHeartbeats 1000000 in
theorem ordered_any (lo b o : Nat) (v : Value) (q ws : List Wt) (w : World) (h2 : w.cell? ⟨b, o + 2, none⟩ = some v) (hr : w.ownsRow lo 168 3 v q.length (wtCells q)) (hq : q.length ≤ 12) (hu : Up ws) (hp : q.Perm ws) :
    Calls Tryz.prog 90 #[.pointer (some ⟨b, o, none⟩)] w fun e w' => ∃ u, e = .returned u ∧ w'.ownsRow w.heap.size 168 3 u q.length (wtCells ws) ∧ Chg (fun _ => False) w w' := by
  obtain ⟨pv, cv, rfl⟩ := row_any hr
  have hv := callsIn_wide.1 (values_in Fence.wide 3 trivial rfl pv q.length cv w)
  have c1 : Chg (fun _ => False) w (w.alloc (.cells #[.slice pv q.length cv] 92)) := (Chg.refl _ w).alloc _
  have hI : WtsAt (w.alloc (.cells #[.slice pv q.length cv] 92)).heap.size (w.alloc (.cells #[.slice pv q.length cv] 92)) (.slice pv q.length cv) q := by
    have hr1 := hr.alloc (.cells #[.slice pv q.length cv] 92)
    obtain ⟨W1, hW1⟩ : ∃ W1, W1 = w.alloc (.cells #[.slice pv q.length cv] 92) := ⟨_, rfl⟩
    rw [← hW1] at hr1 ⊢
    clear hW1
    rcases hr1.2 with ⟨e, hz⟩ | ⟨g, cap, cur, hv, hlo, hg, _⟩
    · rw [e]; exact .inl ⟨rfl, List.eq_nil_of_length_eq_zero hz⟩
    · rw [hv] at hr1 ⊢
      refine .inr ⟨g, cap, rfl, (Array.getElem?_eq_some_iff.1 hg).1, fun j x hj => ?_⟩
      have cx := wtCells_at q j x hj
      exact ⟨row_cell hr1 cx.1, row_cell hr1 cx.2.1, row_cell hr1 cx.2.2⟩
  have hso := sortedFunc_any w.heap.size _ q ws (w.alloc (.cells #[.slice pv q.length cv] 92)) hq hu hp (by simp) (World.cell?_alloc_at _ _ _ _ rfl) hI
  go_enter Tryz.func90, Tryz.ntmps90
  go_wp2_with fail
  refine hv.mono ?_
  rintro _ w1 ⟨rfl, ew⟩
  rw [ew]
  clear ew w1
  go_wp2_with fail
  refine hso.mono ?_
  rintro _ w2 ⟨u, rfl, r2, c2⟩
  go_wp2_with fail
  go_ret
  exact ⟨_, rfl, row_lower r2 c1.size, c1.trans c2 (fun _ _ h => h)⟩
end Go.Proofs.YthedkdbgfdjlkaaGreatDoor

namespace Go.Proofs.YthedkdbgfdjlkaaGreatDoor
set_option linter.unusedVariables false
set_option linter.unusedSimpArgs false
open Go.RowKit Go.Lib
theorem Tryz.infoI : (Tryz.prog.info? 3).map (fun i => (i.zero, i.size, i.bytes)) = some (some (.int .i64 0), 1, 8) := by kernel_rfl
def ints' (L : List Int) : List Value := L.map (Value.int .i64)
def theNums (q : List Wt) : List Int := (q.map (·.num)).mergeSort fun x y => decide (x ≤ y)
theorem row_kinds0 {w : World} {lo lo' : Nat} {e e' : TypeId} {size size' : Nat} {v v' : Value} {n n' : Nat} {xs xs' : List Value} (h : w.ownsRow lo e size v n xs) (h' : w.ownsRow lo' e' size' v' n' xs') (hne : e ≠ e') : ∀ g, v.ownBlock = some g → v'.ownBlock ≠ some g := by
  intro g hg hg'
  rcases h.2 with ⟨rfl, _⟩ | ⟨k, cap, cur, rfl, _, hk, _⟩
  · simp [Value.ownBlock] at hg
  · rcases h'.2 with ⟨rfl, _⟩ | ⟨k', cap', cur', rfl, _, hk', _⟩
    · simp [Value.ownBlock] at hg'
    · obtain rfl : k = g := by simpa [Value.ownBlock] using hg
      obtain rfl : k' = k := by simpa [Value.ownBlock] using hg'
      rw [hk] at hk'
      cases hk'
      exact hne rfl
theorem nums_tie {q ws : List Wt} (hu : Up ws) (hp : q.Perm ws) : theNums q = ws.map (·.num) := by
  unfold theNums
  refine List.Perm.eq_of_pairwise (le := fun a b => a ≤ b) (fun a b _ _ h1 h2 => by omega) ?_ ?_ ((List.mergeSort_perm _ _).trans (hp.map _))
  · have := List.pairwise_mergeSort (le := fun x y : Int => decide (x ≤ y)) (by simp; omega) (by simp; omega) (q.map (·.num))
    simpa using this
  · rw [List.pairwise_map]
    exact hu.imp (fun h => by omega)
set_option maxRecDepth 100000 in
set_option maxHeartbeats 2000000 in
theorem laneState_any (lo b o : Nat) (ep ba : Int) (v : Value) (q ws : List Wt) (w : World) (h0 : w.cell? ⟨b, o, none⟩ = some (.int .i64 ep)) (h1 : w.cell? ⟨b, o + 1, none⟩ = some (.int .i64 ba)) (h2 : w.cell? ⟨b, o + 2, none⟩ = some v)
    (hr : w.ownsRow lo 168 3 v q.length (wtCells q)) (hq : q.length ≤ 4) (hu : Up ws) (hp : q.Perm ws) :
    Calls Tryz.prog 68 #[.pointer (some ⟨b, o, none⟩)] w fun e w' => ∃ u, e = .returned (.agg #[.int .i64 ep, .int .i64 ba, u]) ∧ w'.ownsRow w.heap.size 3 1 u q.length (ints' (theNums q)) ∧ Chg (fun _ => False) w w' := by
  obtain ⟨i0, hi, hz0, hz1, hz2⟩ := info_parts Tryz.infoI
  obtain ⟨pq, capq, rfl⟩ := row_any hr
  have hbl : b < w.heap.size := World.block_lt_of_cell? _ _ h0
  have hbl' : b ≠ w.heap.size := by omega
  have hwl : ws.length = q.length := hp.length_eq.symm
  rw [nums_tie hu hp]
  obtain ⟨W0, hW0⟩ : ∃ W0, W0 = w.alloc (Obj.cells #[.int .i64 0, .int .i64 0, .slice none 0 0] 121) := ⟨_, rfl⟩
  have hs0 : W0.heap.size = w.heap.size + 1 := by rw [hW0]; simp
  have c0 : Chg (fun _ => False) w W0 := by rw [hW0]; exact (Chg.refl _ w).alloc _
  have r0 : W0.cell? ⟨w.heap.size, 0, none⟩ = some (.int .i64 0) := by rw [hW0]; exact World.cell?_alloc_at _ _ _ _ rfl
  have r1 : W0.cell? ⟨w.heap.size, 1, none⟩ = some (.int .i64 0) := by rw [hW0]; exact World.cell?_alloc_at _ _ _ _ rfl
  have r2 : W0.cell? ⟨w.heap.size, 2, none⟩ = some (.slice none 0 0) := by rw [hW0]; exact World.cell?_alloc_at _ _ _ _ rfl
  have rf : ∀ j, W0.frozen? ⟨w.heap.size, j, none⟩ = false := fun j => by rw [hW0]; exact World.frozen?_alloc_at _ _ _ _ rfl
  have HW0 : Hid (W0 = w.alloc (Obj.cells #[.int .i64 0, .int .i64 0, .slice none 0 0] 121)) := hW0
  have HS0 : Hid (W0.heap.size = w.heap.size + 1) := hs0
  clear hW0 hs0
  go_enter Tryz.func68, Tryz.ntmps68
  go_wp2_with (refine wpList_make_own _ rfl _ _ 36 rfl (w.heap.size + 1) 3 i0 _ 1 Tryz.underlying36 hi hz0 hz1 .i64 .i64 _ q.length rfl rfl rfl (by rw [hz2]; omega) (by unfold maxLen; omega) (by simp) ?_; intro w1 hown1 hg1; have hc1 : Chg (fun _ => False) W0 w1 := by { rw [HW0.out]; exact (Chg.refl _ _).grown hg1 (by simp) }; have h2' := hc1.cellAt (c0.cellAt h2 id) id)
  refine (ordered_any lo b o _ q ws w1 h2' ((c0.trans hc1 (fun _ _ h => h)).row' hr (fun _ _ h => h)) (by omega) hu hp).mono ?_
  rintro _ w2 ⟨u, rfl, ru, c2⟩
  obtain ⟨pu, cu, rfl⟩ := row_any ru
  have hsz1 : w.heap.size + 1 ≤ w1.heap.size := by rw [← HS0.out]; exact hc1.size
  have hown2 := c2.row' hown1 (fun _ _ h => h)
  have hc2 : Chg (fun _ => False) W0 w2 := hc1.trans c2 (fun _ _ h => h)
  clear hown1 hg1 hc1 h2'
  go_wp2_with fail
  go_loopw [3, 5, 15] (fun sv _ si wr => ∃ (k : Nat), si = .int .i64 k ∧ k ≤ q.length ∧ wr.ownsRow (w.heap.size + 1) 3 1 sv k (ints' ((ws.take k).map (·.num))) ∧ wr.ownsRow w1.heap.size 168 3 (.slice pu q.length cu) q.length (wtCells ws) ∧ Chg (fun _ => False) W0 wr) (fun _ _ si _ => q.length - (intOf si).toNat)
  case atStart => exact ⟨0, rfl, by omega, by simpa [ints'] using hown2, ru, hc2⟩
  case round =>
    obtain ⟨k, rfl, hk1, hown, hru, hc⟩ := hrel
    clear hown2 hc2 ru c2
    by_cases hkl : k < q.length
    · obtain ⟨x, hx⟩ : ∃ x, ws[k]? = some x := ⟨_, List.getElem?_eq_getElem (by omega)⟩
      have cx := wtCells_at ws k x hx
      obtain ⟨g, cap', hv, hlg, _, hcell⟩ := row_pos hru (by omega)
      simp only [Value.slice.injEq] at hv
      obtain ⟨rfl, _, rfl⟩ := hv
      have a0 := hcell _ _ cx.1
      have a1 := hcell _ _ cx.2.1
      have a2 := hcell _ _ cx.2.2
      have hkl' : (k : Int) < (q.length : Int) := by omega
      have hsz : w.heap.size + 1 ≤ wr.heap.size := by rw [← HS0.out]; exact hc.size
      clear hcell cx
      go_wp2_with (at_builtin; refine wpList_app1 rfl _ _ 36 rfl (w.heap.size + 1) 3 i0 _ 8 Tryz.underlying36 hi hz0 hz1 hz2 rfl _ k _ rfl ((hown.alloc _).alloc _) (wr.heap.size + 1) (.int .i64 x.num) rfl (by simp) rfl (by omega) (by omega) (by simp; omega) ?_; intro v' w3 hown' hg)
      have hc3 : Chg (fun _ => False) W0 w3 := ((hc.alloc _).alloc _).grown hg (fun k hk => by rw [HS0.out]; exact (hown.lt k hk).1)
      have hru3 := ((hru.alloc (.cells #[.int .i64 x.num, .string x.key, .int .i64 x.val] 168)).alloc (.cells #[.int .i64 x.num] 3)).kept hg (.inr (fun e => row_kinds0 hown hru (by decide) g e.symm rfl))
      clear hown hg a0 a1 a2 hru
      go_wp2_with fail
      go_roundw
      case rel =>
        refine ⟨k + 1, by go_num, by omega, ?_, hru3, hc3⟩
        have e : ints' ((ws.take (k + 1)).map (·.num)) = ints' ((ws.take k).map (·.num)) ++ [.int .i64 x.num] := by
          rw [List.take_add_one, hx]; simp [ints']
        rw [e]; exact hown'
      case measure => simp [intOf]; omega
    · have hkl' : ¬ (k : Int) < (q.length : Int) := by omega
      obtain rfl : k = q.length := by omega
      rw [← hwl, List.take_length, hwl] at hown
      obtain ⟨pp, cc, rfl⟩ := row_any hown
      have d0 := hc.cellAt (c0.cellAt h0 id) id
      have d1 := hc.cellAt (c0.cellAt h1 id) id
      have s0 := hc.cellAt r0 id
      have s1 := hc.cellAt r1 id
      have s2 := hc.cellAt r2 id
      have hfz : ∀ j, wr.frozen? ⟨w.heap.size, j, none⟩ = false := fun j => (World.frozen?_of_block (w := W0) (hc.block w.heap.size (by rw [HS0.out]; omega) id)).trans (rf j)
      have f0 := hfz 0
      have f1 := hfz 1
      have f2 := hfz 2
      clear r0 r1 r2 rf h0 h1 h2 hru
      go_wp2_with fail
      go_region
      go_wp2_with fail
      have hcw : Chg (fun k => k = w.heap.size) wr (((wr.setCell ⟨w.heap.size, 0, none⟩ (.int .i64 ep)).setCell ⟨w.heap.size, 1, none⟩ (.int .i64 ba)).setCell ⟨w.heap.size, 2, none⟩ (.slice pp q.length cc)).drew :=
        ((((Chg.refl (fun k => k = w.heap.size) wr).setCell (p := ⟨w.heap.size, 0, none⟩) (fun _ => rfl) _).setCell (p := ⟨w.heap.size, 1, none⟩) (fun _ => rfl) _).setCell (p := ⟨w.heap.size, 2, none⟩) (fun _ => rfl) _).drew
      refine bodyPost_ret (v := .agg #[.int .i64 ep, .int .i64 ba, .slice pp q.length cc]) ?_ rfl ⟨_, rfl, ?_, ?_⟩
      · simp [results, Tryz.results68, go_sem, s0, s1, s2]
      · exact row_lower (hcw.row hown (fun k hk => .inl (by omega))) (by omega)
      · exact (c0.trans hc (fun _ _ h => h)).trans hcw (fun k hk h => by omega)
end Go.Proofs.YthedkdbgfdjlkaaGreatDoor

namespace Go.Proofs.YthedkdbgfdjlkaaGreatDoor
set_option linter.unusedVariables false
set_option linter.unusedSimpArgs false
def Hp : List Wt → Prop
  | [] => True
  | [_] => True
  | [a, b] => a.num ≤ b.num
  | [a, b, c] => a.num ≤ b.num ∧ a.num ≤ c.num
  | [a, b, c, d] => a.num ≤ b.num ∧ a.num ≤ c.num ∧ b.num ≤ d.num
  | _ => False
theorem up_heap (q : List Wt) (x : Wt) (hl : q.length ≤ 3) (hh : Hp q) : Hp (upFn (q.length + 1) (q ++ [x]) q.length) ∧ (upFn (q.length + 1) (q ++ [x]) q.length).Perm (x :: q) := by
  classical
  match q, hl, hh with
  | [], _, _ => exact ⟨by simp [upFn, Hp], by simp [upFn]⟩
  | [a], _, _ =>
    by_cases h : x.num < a.num
    · simp [upFn, swapL, numAt, h, Hp]; omega
    · simp [upFn, swapL, numAt, h, Hp]
      exact ⟨by omega, .swap _ _ _⟩
  | [a, b], _, hh =>
    simp only [Hp] at hh
    by_cases h : x.num < a.num
    · simp [upFn, swapL, numAt, h, Hp]
      exact ⟨by omega, .swap _ _ _⟩
    · simp [upFn, swapL, numAt, h, Hp]
      refine ⟨by omega, List.perm_iff_count.2 fun y => ?_⟩
      simp only [List.count_cons, List.count_nil]; omega
  | [a, b, c], _, hh =>
    simp only [Hp] at hh
    by_cases h : x.num < b.num
    · by_cases h' : x.num < a.num
      · simp [upFn, swapL, numAt, h, h', Hp]
        refine ⟨by omega, List.perm_iff_count.2 fun y => ?_⟩
        simp only [List.count_cons, List.count_nil]; omega
      · simp [upFn, swapL, numAt, h, h', Hp]
        refine ⟨by omega, List.perm_iff_count.2 fun y => ?_⟩
        simp only [List.count_cons, List.count_nil]; omega
    · simp [upFn, swapL, numAt, h, Hp]
      refine ⟨by omega, List.perm_iff_count.2 fun y => ?_⟩
      simp only [List.count_cons, List.count_nil]; omega
  | _ :: _ :: _ :: _ :: _, hl, _ => simp at hl
theorem pop_heap (x : Wt) (r : List Wt) (hl : r.length ≤ 3) (hh : Hp (x :: r)) :
    (downFn r.length (swapL (x :: r) 0 r.length) 0 r.length)[r.length]? = some x ∧ Hp ((downFn r.length (swapL (x :: r) 0 r.length) 0 r.length).take r.length) ∧ ((downFn r.length (swapL (x :: r) 0 r.length) 0 r.length).take r.length).Perm r := by
  classical
  match r, hl, hh with
  | [], _, _ => simp [downFn, swapL, Hp]
  | [a], _, _ => simp [downFn, swapL, Hp]
  | [a, b], _, hh =>
    simp only [Hp] at hh
    by_cases h : a.num < b.num
    · simp [downFn, swapL, numAt, h, Hp]; omega
    · simp [downFn, swapL, numAt, h, Hp]
      exact ⟨by omega, .swap _ _ _⟩
  | [a, b, c], _, hh =>
    simp only [Hp] at hh
    by_cases h : b.num < a.num
    · by_cases h' : b.num < c.num
      · simp [downFn, swapL, numAt, h, h', Hp]
        refine ⟨by omega, List.perm_iff_count.2 fun y => ?_⟩
        simp only [List.count_cons, List.count_nil]; omega
      · simp [downFn, swapL, numAt, h, h', Hp]
        refine ⟨by omega, List.perm_iff_count.2 fun y => ?_⟩
        simp only [List.count_cons, List.count_nil]; omega
    · by_cases h' : a.num < c.num
      · simp [downFn, swapL, numAt, h, h', Hp]
        refine ⟨by omega, List.perm_iff_count.2 fun y => ?_⟩
        simp only [List.count_cons, List.count_nil]; omega
      · simp [downFn, swapL, numAt, h, h', Hp]
        refine ⟨by omega, List.perm_iff_count.2 fun y => ?_⟩
        simp only [List.count_cons, List.count_nil]; omega
  | _ :: _ :: _ :: _ :: _, hl, _ => simp at hl
theorem Hp.least {x : Wt} {r : List Wt} (h : Hp (x :: r)) : ∀ y ∈ r, x.num ≤ y.num := by
  match r, h with
  | [], _ => simp
  | [a], h => simpa [Hp] using h
  | [a, b], h => simpa [Hp] using h
  | [a, b, c], h => simp only [Hp] at h; simp; omega
  | _ :: _ :: _ :: _ :: _, h => exact h.elim
theorem put_up (x : Wt) : ∀ {l : List Wt}, Up l → (∀ y ∈ l, y.num ≠ x.num) → Up (putW x l) ∧ (putW x l).Perm (x :: l)
  | [], _, _ => by simp [putW, Up]
  | y :: r, h, hn => by
    have h' := List.pairwise_cons.1 h
    obtain ⟨i1, i2⟩ := put_up x (l := r) h'.2 (fun z hz => hn z (by simp [hz]))
    by_cases hlt : x.num < y.num
    · simp only [putW, if_pos hlt]
      refine ⟨List.pairwise_cons.2 ⟨fun z hz => ?_, h⟩, .refl _⟩
      rcases List.mem_cons.1 hz with rfl | hz
      · exact hlt
      · have := h'.1 z hz; omega
    · simp only [putW, if_neg hlt]
      refine ⟨List.pairwise_cons.2 ⟨fun z hz => ?_, i1⟩, (List.Perm.cons y i2).trans (.swap _ _ _)⟩
      rcases List.mem_cons.1 (i2.mem_iff.1 hz) with rfl | hz
      · have := hn y (by simp); omega
      · exact h'.1 z hz
theorem drain_tie : ∀ (f : Nat) (b : Int) (q ws : List Wt) (ks : List Ky), q.length < f → q.length ≤ 4 → Hp q → Up ws → q.Perm ws →
    (drainH f b q ks).1 = (drainW b ws ks).1 ∧ (drainH f b q ks).2.2 = (drainW b ws ks).2.2 ∧ Hp (drainH f b q ks).2.1 ∧ Up (drainW b ws ks).2.1 ∧ (drainH f b q ks).2.1.Perm (drainW b ws ks).2.1
  | 0, _, q, _, _, hf, _, _, _, _ => by omega
  | f + 1, b, [], ws, ks, _, _, _, hu, hp => by
    obtain rfl : ws = [] := List.Perm.eq_nil hp.symm
    simp [drainH, drainW, Hp, Up]
  | f + 1, b, x :: r, ws, ks, hf, hl, hh, hu, hp => by
    match ws, hu, hp with
    | [], _, hp => exact absurd hp.length_eq (by simp)
    | y :: s, hu, hp =>
      have hu' := List.pairwise_cons.1 hu
      have hxy : x = y := by
        have hx : x ∈ y :: s := hp.mem_iff.1 (by simp)
        have hy : y ∈ x :: r := hp.mem_iff.2 (by simp)
        rcases List.mem_cons.1 hx with h | h
        · exact h
        · rcases List.mem_cons.1 hy with h2 | h2
          · exact h2.symm
          · have := hu'.1 x h
            have := hh.least y h2
            omega
      subst hxy
      have hp' : r.Perm s := List.Perm.cons_inv hp
      by_cases hb : x.num = b
      · obtain ⟨e, h1, h2⟩ := pop_heap x r (by simp at hl; omega) hh
        have ih := drain_tie f (b + 1) ((downFn r.length (swapL (x :: r) 0 r.length) 0 r.length).take r.length) s (takeKy x.key x.val ks) (by rw [h2.length_eq]; simp at hf; omega) (by rw [h2.length_eq]; simp at hl; omega) h1 hu'.2 (h2.trans hp')
        simp only [drainH, drainW, if_pos hb, e]
        exact ih
      · simp only [drainH, drainW, if_neg hb]
        exact ⟨trivial, trivial, hh, hu, hp⟩
theorem drain_above : ∀ (b : Int) (ws : List Wt) (ks : List Ky) (hi : Int), Up ws → (∀ y ∈ ws, b ≤ y.num ∧ y.num < hi) →
    (∀ y ∈ (drainW b ws ks).2.1, (drainW b ws ks).1 < y.num ∧ y.num < hi) ∧ b ≤ (drainW b ws ks).1 ∧ (drainW b ws ks).1 + (drainW b ws ks).2.1.length = b + ws.length ∧ counts (drainW b ws ks).2.2 = counts ks + ((drainW b ws ks).1 - b) ∧ (∀ y ∈ (drainW b ws ks).2.1, y ∈ ws)
  | b, [], ks, hi, _, _ => by simp [drainW]
  | b, x :: r, ks, hi, hu, h => by
    have hu' := List.pairwise_cons.1 hu
    by_cases hb : x.num = b
    · obtain ⟨h1, h2, h3, h4, h5⟩ := drain_above (b + 1) r (takeKy x.key x.val ks) hi hu'.2 (fun y hy => by have := hu'.1 y hy; have := h y (by simp [hy]); omega)
      simp only [drainW, if_pos hb]
      rw [counts_takeKy] at h4
      exact ⟨h1, by omega, by simp; omega, by omega, fun y hy => by simp [h5 y hy]⟩
    · simp only [drainW, if_neg hb]
      refine ⟨fun y hy => ?_, by omega, trivial, by omega, fun y hy => hy⟩
      have h0 := h x (by simp)
      have := h y hy
      rcases List.mem_cons.1 hy with rfl | hy
      · omega
      · have := hu'.1 y hy; omega
theorem up_short : ∀ (l : List Wt) (lo hi : Int), Up l → (∀ y ∈ l, lo ≤ y.num ∧ y.num < hi) → lo ≤ hi → (l.length : Int) ≤ hi - lo
  | [], lo, hi, _, _, h => by simp; omega
  | x :: r, lo, hi, hu, h, _ => by
    have hu' := List.pairwise_cons.1 hu
    have h0 := h x (by simp)
    have := up_short r (x.num + 1) hi hu'.2 (fun y hy => by have := hu'.1 y hy; have := h y (by simp [hy]); omega) (by omega)
    simp; omega
end Go.Proofs.YthedkdbgfdjlkaaGreatDoor
