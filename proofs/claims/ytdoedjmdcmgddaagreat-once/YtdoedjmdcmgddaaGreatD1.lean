/- take AS A WHOLE; drain, WALKED. -/
import Derived.Test.YtdoedjmdcmgddaaGreatP2
import Derived.Test.YtdoedjmdcmgddaaGreatL2
import Derived.Test.YtdoedjmdcmgddaaGreatC1
namespace Go.Proofs.YtdoedjmdcmgddaaGreat
set_option linter.unusedVariables false
set_option linter.unusedSimpArgs false
open Go.RowKit Go.Lib

theorem take_any (lo b o : Nat) (v : Value) (ks : List Ky) (name : ByteArray) (val m : Int) (w : World) (hv : w.cell? ⟨b, o, none⟩ = some v) (hz : w.frozen? ⟨b, o, none⟩ = false)
    (hr : w.ownsRow lo 60 4 v ks.length (keyCells ks)) (hn : ks.length < 1000) (hL : Led ks m) (hm : 1 ≤ m) (hbv : v.ownBlock ≠ some b) (hlo : lo ≤ w.heap.size)
    (cb : UInt8) (rb : List UInt8) (hcb : name.data.toList = cb :: rb) (hob : okFirst cb = true) (hval : 0 ≤ val ∧ val ≤ 4294967295) :
    Calls Tryz.prog 92 #[.pointer (some ⟨b, o, none⟩), .string name, .int .i64 val] w fun e w' => ∃ v', e = .returned (.tuple #[]) ∧ w'.cell? ⟨b, o, none⟩ = some v' ∧
      w'.ownsRow lo 60 4 v' (takeKy name val ks).length (keyCells (takeKy name val ks)) ∧ (v'.ownBlock = v.ownBlock ∨ ∀ k, v'.ownBlock = some k → w.heap.size ≤ k) ∧ Slots b (fun j => j = o) w w' ∧ Chg (fun k => k = b ∨ v.ownBlock = some k) w w' := by
  have hbl : b < w.heap.size := World.block_lt_of_cell? w _ hv
  by_cases hf : lowPos name ks < ks.length ∧ nameAt ks (lowPos name ks) = name
  · obtain ⟨k, hk⟩ : ∃ k, ks[lowPos name ks]? = some k := ⟨_, List.getElem?_eq_getElem hf.1⟩
    have hkn : k.name = name := by have := hf.2; simpa [nameAt, hk] using this
    obtain ⟨g, cap, rfl, hg, hcap, _⟩ := row_pos hr (by omega)
    have hbg : b ≠ g := fun e => hbv (by rw [e]; rfl)
    refine (take_found lo b o ks.length (lowPos name ks) g cap ks k name val w hv hr rfl (by omega) hL.sorted.rises hbg rfl hf.1 hk hkn (hL.ok (by omega) k (List.mem_of_getElem? hk)) hval).mono ?_
    rintro e w' ⟨rfl, h1, h2⟩
    have e1 := takeKy_found name val hL.sorted (i := lowPos name ks) (k := k) rfl hk hkn
    refine ⟨_, rfl, h2.cellAt hv hbg, ?_, .inl rfl, Slots.of_chg _ h2 hbl hbg, h2.mono (fun k hk => .inr (by rw [hk]; rfl))⟩
    rw [e1, List.length_set]; exact h1
  · refine (take_new lo b o ks.length (lowPos name ks) v ks name val w hv hz hr rfl hn hL.sorted.rises hbv hlo rfl hf cb rb hcb hob hval).mono ?_
    rintro e w' ⟨v', rfl, h1, h2, h3, h4, h5⟩
    have e1 := takeKy_new name val hL.sorted (i := lowPos name ks) rfl hf
    refine ⟨v', rfl, h1, ?_, h3, h4, h5⟩
    have e2 : (takeKy name val ks).length = ks.length + 1 := by
      rw [e1]; simp; have := lowPos_le name ks; omega
    rw [e2, e1]; exact h2

/-- What drain makes of a heap and a ledger. -/
def drainH : Nat → Int → List Wt → List Ky → Int × List Wt × List Ky
  | 0, b, qs, ks => (b, qs, ks)
  | f + 1, b, qs, ks => match qs with
    | [] => (b, [], ks)
    | q :: r => if q.num = b then
        (match (downFn r.length (swapL (q :: r) 0 r.length) 0 r.length)[r.length]? with
          | some x => drainH f (b + 1) ((downFn r.length (swapL (q :: r) 0 r.length) 0 r.length).take r.length) (takeKy x.key x.val ks)
          | none => (b, q :: r, ks))
      else (b, q :: r, ks)

theorem downFn_length : ∀ (f : Nat) (l : List Wt) (i n : Nat), (downFn f l i n).length = l.length
  | 0, l, i, n => rfl
  | f + 1, l, i, n => by
    unfold downFn
    split
    · rfl
    · split
      · split
        · rw [downFn_length, swapL_length]
        · rfl
      · split
        · rw [downFn_length, swapL_length]
        · rfl

theorem takeKy_length (name : ByteArray) (val : Int) : ∀ l : List Ky, (takeKy name val l).length ≤ l.length + 1
  | [] => by simp [takeKy]
  | y :: r => by
    have := takeKy_length name val r
    unfold takeKy
    split
    · simp
    · split
      · simp
      · simp; omega

/-- One that may be taken. -/
def Wt.ok (x : Wt) : Prop := (∃ c r, x.key.data.toList = c :: r ∧ okFirst c = true) ∧ 0 ≤ x.val ∧ x.val ≤ 4294967295

theorem mem_swapL {l : List Wt} {i j : Nat} {x : Wt} (h : x ∈ swapL l i j) : x ∈ l := by
  unfold swapL at h
  split at h
  · rename_i a b ha hb
    rcases List.mem_or_eq_of_mem_set h with h | rfl
    · rcases List.mem_or_eq_of_mem_set h with h | rfl
      · exact h
      · exact List.mem_of_getElem? hb
    · exact List.mem_of_getElem? ha
  · exact h

theorem mem_downFn {x : Wt} : ∀ (f : Nat) (l : List Wt) (i n : Nat), x ∈ downFn f l i n → x ∈ l
  | 0, l, i, n, h => h
  | f + 1, l, i, n, h => by
    unfold downFn at h
    split at h
    · exact h
    · split at h
      · split at h
        · exact mem_swapL (mem_downFn f _ _ _ h)
        · exact h
      · split at h
        · exact mem_swapL (mem_downFn f _ _ _ h)
        · exact h

set_option maxRecDepth 100000 in
set_option maxHeartbeats 2000000 in
theorem drain_any (lo b o s : Nat) (base : Int) (v vk : Value) (qs : List Wt) (ks : List Ky) (w : World) (hs : s < 4)
    (hba : w.cell? ⟨b, o + s * 3 + 1, none⟩ = some (.int .i64 base)) (hqu : w.cell? ⟨b, o + s * 3 + 2, none⟩ = some v) (hle : w.cell? ⟨b, o + 12, none⟩ = some vk) (hz : ∀ j, w.frozen? ⟨b, j, none⟩ = false)
    (hr : w.ownsRow lo 144 3 v qs.length (wtCells qs)) (hk : w.ownsRow lo 60 4 vk ks.length (keyCells ks)) (hlo : lo ≤ w.heap.size) (hvb : v.ownBlock ≠ some b) (hkb : vk.ownBlock ≠ some b) (hvk : ∀ g, v.ownBlock = some g → vk.ownBlock ≠ some g)
    (hqn : qs.length ≤ 4) (hkn : ks.length ≤ 100) (hb0 : 0 ≤ base ∧ base + qs.length ≤ 1000) (hL : Led ks qs.length) (hq : ∀ x ∈ qs, x.ok) :
    Calls Tryz.prog 60 #[.pointer (some ⟨b, o, none⟩), .int .i64 s] w fun e w' => ∃ v' vk', e = .returned (.tuple #[]) ∧
      w'.cell? ⟨b, o + s * 3 + 1, none⟩ = some (.int .i64 (drainH 5 base qs ks).1) ∧ w'.cell? ⟨b, o + s * 3 + 2, none⟩ = some v' ∧ w'.cell? ⟨b, o + 12, none⟩ = some vk' ∧
      w'.ownsRow lo 144 3 v' (drainH 5 base qs ks).2.1.length (wtCells (drainH 5 base qs ks).2.1) ∧ w'.ownsRow lo 60 4 vk' (drainH 5 base qs ks).2.2.length (keyCells (drainH 5 base qs ks).2.2) ∧
      v'.ownBlock = v.ownBlock ∧ (vk'.ownBlock = vk.ownBlock ∨ ∀ k, vk'.ownBlock = some k → w.heap.size ≤ k) ∧
      Slots b (fun j => j = o + s * 3 + 1 ∨ j = o + s * 3 + 2 ∨ j = o + 12) w w' ∧ Chg (fun k => k = b ∨ v.ownBlock = some k ∨ vk.ownBlock = some k) w w' := by
  have hbl : b < w.heap.size := World.block_lt_of_cell? w _ hba
  have hs' : (s : Int) < 4 := by omega
  have hvlt : ∀ g, v.ownBlock = some g → g < w.heap.size := fun g h => (hr.lt g h).2
  go_enter Tryz.func60, Tryz.ntmps60
  go_wp2
  go_loopg [4, 5] 5 (fun f _ _ wr => ∃ (base' : Int) (v' vk' : Value) (qs' : List Wt) (ks' : List Ky), Hid (drainH 5 base qs ks = drainH f base' qs' ks') ∧ qs'.length < f ∧
      wr.cell? ⟨b, o + s * 3 + 1, none⟩ = some (.int .i64 base') ∧ wr.cell? ⟨b, o + s * 3 + 2, none⟩ = some v' ∧ wr.cell? ⟨b, o + 12, none⟩ = some vk' ∧ wr.ownsRow lo 144 3 v' qs'.length (wtCells qs') ∧ wr.ownsRow lo 60 4 vk' ks'.length (keyCells ks') ∧
      v'.ownBlock = v.ownBlock ∧ (vk'.ownBlock = vk.ownBlock ∨ ∀ k, vk'.ownBlock = some k → w.heap.size ≤ k) ∧ qs'.length ≤ 4 ∧ ks'.length + qs'.length ≤ 104 ∧ 0 ≤ base' ∧ base' + qs'.length ≤ 1000 ∧ Led ks' qs'.length ∧ (∀ x ∈ qs', x.ok) ∧
      Slots b (fun j => j = o + s * 3 + 1 ∨ j = o + s * 3 + 2 ∨ j = o + 12) w wr ∧ Chg (fun k => k = b ∨ v.ownBlock = some k ∨ vk.ownBlock = some k) w wr)
  case atStart => exact ⟨base, v, vk, qs, ks, rfl, by omega, hba, hqu, hle, hr, hk, rfl, .inl rfl, hqn, by omega, hb0.1, hb0.2, hL, hq, Slots.refl _ _ _, Chg.refl _ _⟩
  case round =>
    obtain ⟨base', v', vk', qs', ks', HE, hlen, h1, h2, h3, hr', hk', hvv, hkk, hq4, hk104, hb0', hb1', hL', hq', hsl, hcg⟩ := hrel
    clear hba hqu hle hr hk hL hq hqn hkn hb0
    have hvb' : v'.ownBlock ≠ some b := by rw [hvv]; exact hvb
    have hblr : b < wr.heap.size := World.block_lt_of_cell? _ _ h1
    have hzr : ∀ j, wr.frozen? ⟨b, j, none⟩ = false := fun j => (hsl.frozen j).trans (hz j)
    cases qs' with
    | nil =>
      obtain ⟨pp, cc, rfl⟩ := row_any hr'
      go_wp2_with fail
      refine (next_empty b (o + s * 3) pp cc wr hblr h2).mono ?_
      rintro _ w1 ⟨rfl, c1⟩
      unfold Wt.agg Wt.zero
      go_wp2_with fail
      have e : drainH gk base' [] ks' = (base', [], ks') := by cases gk <;> rfl
      have cF : Chg (fun _ => False) wr (w1.alloc (.cells #[.int .i64 0, .string { data := #[] }, .int .i64 0] 144)) := c1.alloc _
      refine bodyPost_ret (results_none rfl _ _ _) rfl ⟨.slice pp ([] : List Wt).length cc, vk', rfl, ?_⟩
      rw [HE.out, e]
      exact ⟨cF.cellAt h1 id, cF.cellAt h2 id, cF.cellAt h3 id, cF.row' hr' (fun _ _ h => h.elim), cF.row' hk' (fun _ _ h => h.elim), hvv, hkk, hsl.trans (Slots.of_chg (fun _ => False) cF hblr id) (fun _ h => h.elim), hcg.trans cF (fun _ _ h => h.elim)⟩
    | cons q r =>
      obtain ⟨g, cap, rfl, hg, hcap, hcell⟩ := row_pos hr' (by simp)
      have hbg : b ≠ g := fun e => hvb' (by rw [e]; rfl)
      obtain ⟨n, hn⟩ : ∃ n, n = r.length := ⟨_, rfl⟩
      have hn1 : (q :: r).length = n + 1 := by simp [hn]
      rw [hn1] at h2 hr' hvv hvb'
      have hq0 : wr.cell? ⟨g, 0, none⟩ = some (.int .i64 q.num) := hcell 0 _ rfl
      have hgl : g < wr.heap.size := World.block_lt_of_cell? _ _ hq0
      by_cases hnum : q.num = base'
      · have hQ : QAt wr lo ⟨b, o + s * 3 + 2, none⟩ g cap (n + 1) (q :: r) := ⟨h2, hn1, hr', hbg⟩
        obtain ⟨D, hD⟩ : ∃ D, D = downFn n (swapL (q :: r) 0 n) 0 n := ⟨_, rfl⟩
        have hDl : D.length = n + 1 := by rw [hD, downFn_length, swapL_length]; exact hn1
        obtain ⟨x, hx⟩ : ∃ x, D[n]? = some x := ⟨_, List.getElem?_eq_getElem (by omega)⟩
        have hDm : ∀ y ∈ D, y ∈ q :: r := fun y hy => mem_swapL (mem_downFn _ _ _ _ (by rw [hD] at hy; exact hy))
        have hxo : x.ok := hq' x (hDm x (List.mem_of_getElem? hx))
        have hstep : drainH gk base' (q :: r) ks' = drainH (gk - 1) (base' + 1) (D.take n) (takeKy x.key x.val ks') := by
          obtain ⟨g', rfl⟩ : ∃ g', gk = g' + 1 := ⟨gk - 1, by omega⟩
          have hD' : D = downFn r.length (swapL (q :: r) 0 r.length) 0 r.length := by rw [hD, hn]
          simp only [drainH, hnum, if_true]
          rw [← hD', ← hn, hx]
          rfl
        have hnx := next_some lo b (o + s * 3) g cap n base' (q :: r) x wr hQ h1 (hzr _) (hzr _) (by simp [numAt, hnum]) (by omega) (by rw [← hD]; exact hx) (by omega)
        rw [← hD] at hnx
        have HST : Hid (drainH gk base' (q :: r) ks' = drainH (gk - 1) (base' + 1) (D.take n) (takeKy x.key x.val ks')) := hstep
        clear hstep hD hcell hq0
        go_wp2_with fail
        refine hnx.mono ?_
        rintro _ w1 ⟨rfl, hq1, hb1, hs1, hc1⟩
        clear hnx
        have hk1 : w1.cell? ⟨b, o + 12, none⟩ = some vk' := (hs1.cell (o + 12) (by omega)).trans h3
        have hbl1 : b < w1.heap.size := World.block_lt_of_cell? _ _ hb1
        have hkb' : vk'.ownBlock ≠ some b := by
          rcases hkk with h | h
          · rw [h]; exact hkb
          · intro h'; have := h b h'; omega
        have hkg' : vk'.ownBlock ≠ some g := by
          have hvg : v.ownBlock = some g := hvv.symm
          rcases hkk with h | h
          · rw [h]; exact hvk g hvg
          · intro h'
            have := h g h'
            have := hvlt g hvg
            omega
        have hr1 : w1.ownsRow lo 60 4 vk' ks'.length (keyCells ks') := hc1.row' hk' (fun k hk h => by
          rcases h with rfl | rfl
          · exact hkb' hk
          · exact hkg' hk)
        obtain ⟨⟨cb, rb, hcb, hob⟩, hval⟩ := hxo
        have hsz1 : wr.heap.size ≤ w1.heap.size := hc1.size
        have hszr : w.heap.size ≤ wr.heap.size := hcg.size
        have hcF : Chg (fun _ => False) w1 (w1.alloc (.cells #[.int .i64 x.num, .string x.key, .int .i64 x.val] 144)).drew := ((Chg.refl _ w1).alloc _).drew
        have hLn : Led ks' (n + 1 : Nat) := by rw [← hn1]; exact hL'
        have htk := take_any lo b (o + 12) vk' ks' x.key x.val (n + 1 : Nat) (w1.alloc (.cells #[.int .i64 x.num, .string x.key, .int .i64 x.val] 144)).drew (hcF.cellAt hk1 id)
          ((World.frozen?_of_block (w := w1) (hcF.block b hbl1 id)).trans ((hs1.frozen _).trans (hzr _))) (hcF.row' hr1 (fun _ _ h => h.elim)) (by omega) hLn (by omega) hkb' (by have := hcF.size; omega) cb rb hcb hob hval
        unfold Wt.agg
        go_wp2_with fail
        go_region_with (go_at_call 92; refine htk.mono ?_; rintro _ w2 ⟨vk2, rfl, t1, t2, t3, t4, t5⟩)
        all_goals
          have hszF : (w1.alloc (.cells #[.int .i64 x.num, .string x.key, .int .i64 x.val] 144)).drew.heap.size = w1.heap.size + 1 := World.size_alloc _ _
          have hvg : v.ownBlock = some g := hvv.symm
          have u1 : w2.cell? ⟨b, o + s * 3 + 1, none⟩ = some (.int .i64 (base' + 1)) := (t4.cell _ (by omega)).trans (hcF.cellAt hb1 id)
          have u2 : w2.cell? ⟨b, o + s * 3 + 2, none⟩ = some (.slice (some ⟨g, 0, none⟩) n cap) := (t4.cell _ (by omega)).trans (hcF.cellAt hq1.var id)
          have u3 : w2.ownsRow lo 144 3 (.slice (some ⟨g, 0, none⟩) n cap) (D.take n).length (wtCells (D.take n)) := by
            have := t5.row' (hcF.row' hq1.row (fun _ _ h => h.elim)) (fun k hk h => by
              simp [Value.ownBlock] at hk
              subst hk
              rcases h with h | h
              · exact hbg h.symm
              · exact hkg' h)
            rw [hq1.len]; exact this
          have u4' : vk2.ownBlock = vk.ownBlock ∨ ∀ k, vk2.ownBlock = some k → w.heap.size ≤ k := by
            rcases t3 with h | h
            · rw [h]; exact hkk
            · exact .inr fun k hk => by have := h k hk; omega
          have u5' : Led (takeKy x.key x.val ks') ((D.take n).length : Int) := by
            have := hLn.take (by omega) hcb hob hval
            rw [hq1.len]
            have e : ((n + 1 : Nat) : Int) - 1 = (n : Int) := by omega
            rw [e] at this
            exact this
          have u6' : Slots b (fun j => j = o + s * 3 + 1 ∨ j = o + s * 3 + 2 ∨ j = o + 12) w w2 :=
            ((hsl.trans hs1 (fun j h => by rcases h with h | h <;> simp [h])).trans (Slots.of_chg (fun _ => False) hcF hbl1 id) (fun _ h => h.elim)).trans t4 (fun j h => by simp [h])
          have u7' : Chg (fun k => k = b ∨ v.ownBlock = some k ∨ vk.ownBlock = some k) w w2 := by
            refine ((hcg.trans hc1 (fun k _ h => ?_)).trans hcF (fun _ _ h => h.elim)).trans t5 (fun k hk h => ?_)
            · rcases h with h | h
              · exact .inl h
              · subst h; exact .inr (.inl hvg)
            · rcases h with h | h
              · exact .inl h
              · rcases hkk with h' | h'
                · exact .inr (.inr (by rw [← h']; exact h))
                · have := h' k h; omega
          have u8' : (takeKy x.key x.val ks').length + (D.take n).length ≤ 104 := by
            have := takeKy_length x.key x.val ks'
            rw [hq1.len]; omega
          have u9' : ∀ y ∈ D.take n, y.ok := fun y hy => hq' y (hDm y (List.mem_of_mem_take hy))
          have HE2 : Hid (drainH 5 base qs ks = drainH (gk - 1) (base' + 1) (D.take n) (takeKy x.key x.val ks')) := HE.out.trans HST.out
          have l1 : (D.take n).length < gk - 1 := by rw [hq1.len]; omega
          have l2 : (D.take n).length ≤ 4 := by rw [hq1.len]; omega
          have l3 : base' + 1 + ((D.take n).length : Int) ≤ 1000 := by rw [hq1.len]; omega
          clear htk hc1 hs1 hcg hsl hQ hr' hk' h1 h2 h3 hb1 hk1 hr1 hcF t3 t4 t5 hq' hDm
          go_wp2_with fail
          go_roundg (gk - 1)
          case measure => omega
          case rel => exact ⟨base' + 1, .slice (some ⟨g, 0, none⟩) n cap, vk2, D.take n, takeKy x.key x.val ks', HE2, l1, u1, u2, t1, u3, t2, hvg.symm, u4', l2, u8', by omega, l3, u5', u9', u6', u7'⟩
      · have hnb : (q.num != base') = true := by simp [hnum]
        have hnx := next_not b (o + s * 3) g cap n base' q.num wr hblr hgl h2 h1 hq0 hnb (by omega)
        clear hcell hnb
        go_wp2_with fail
        refine hnx.mono ?_
        rintro _ w1 ⟨rfl, c1⟩
        unfold Wt.agg Wt.zero
        go_wp2_with fail
        have e : drainH gk base' (q :: r) ks' = (base', q :: r, ks') := by
          cases gk with
          | zero => rfl
          | succ gk => simp [drainH, hnum]
        have cF : Chg (fun _ => False) wr (w1.alloc (.cells #[.int .i64 0, .string { data := #[] }, .int .i64 0] 144)) := c1.alloc _
        refine bodyPost_ret (results_none rfl _ _ _) rfl ⟨.slice (some ⟨g, 0, none⟩) (n + 1) cap, vk', rfl, ?_⟩
        rw [HE.out, e]
        refine ⟨cF.cellAt h1 id, cF.cellAt h2 id, cF.cellAt h3 id, ?_, cF.row' hk' (fun _ _ h => h.elim), hvv, hkk, hsl.trans (Slots.of_chg (fun _ => False) cF hblr id) (fun _ h => h.elim), hcg.trans cF (fun _ _ h => h.elim)⟩
        rw [hn1]
        exact cF.row' hr' (fun _ _ h => h.elim)

end Go.Proofs.YtdoedjmdcmgddaaGreat
