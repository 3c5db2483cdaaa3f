/- The flow's Accept, WALKED: the record's own checks passed, its epoch not below. -/
import Derived.Test.YtdoedjmdcmgddaaGreatF2
import Derived.Deep.Cut
namespace Go.Proofs.YtdoedjmdcmgddaaGreat
set_option linter.unusedVariables false
set_option linter.unusedSimpArgs false
open Go.RowKit Go.Lib

/-- What Accept answers, and what becomes of the session and the ledger. -/
def accH (E B : Nat → Int) (Q : Nat → List Wt) (ks : List Ky) (s : Nat) (ep num : Int) (key : ByteArray) (val : Int) : (Int × Int) × Option (Int × Int × List Wt × List Ky) :=
  if ¬ (0 ≤ num ∧ num < tB E B s ep + 4) then ((0, 5), none)
  else if num < tB E B s ep ∨ (tQ E Q s ep).any (fun y => y.num == num) = true then ((tB E B s ep, 0), none)
  else if roomErr key ks (upd Q s (tQ E Q s ep)) ≠ 0 then ((0, roomErr key ks (upd Q s (tQ E Q s ep))), none)
  else
    let d := drainH 5 (tB E B s ep) (upFn ((tQ E Q s ep).length + 1) (tQ E Q s ep ++ [⟨num, key, val⟩]) (tQ E Q s ep).length) ks
    ((d.1, 0), some (tE E s ep, d.1, d.2.1, d.2.2))

theorem flow_alloc (w : World) (t : TypeId) (E B : Nat → Int) (V : Nat → Value) (vk : Value) :
    FlowCells (w.alloc (.cells #[.int .i64 (E 0), .int .i64 (B 0), V 0, .int .i64 (E 1), .int .i64 (B 1), V 1, .int .i64 (E 2), .int .i64 (B 2), V 2, .int .i64 (E 3), .int .i64 (B 3), V 3, vk] t)) w.heap.size 0 E B V vk := by
  refine ⟨fun i hi => ?_, fun i hi => ?_, fun i hi => ?_, ?_⟩
  · rw [World.cell?_alloc_new]
    rcases (by omega : i = 0 ∨ i = 1 ∨ i = 2 ∨ i = 3) with rfl | rfl | rfl | rfl <;> rfl
  · rw [World.cell?_alloc_new]
    rcases (by omega : i = 0 ∨ i = 1 ∨ i = 2 ∨ i = 3) with rfl | rfl | rfl | rfl <;> rfl
  · rw [World.cell?_alloc_new]
    rcases (by omega : i = 0 ∨ i = 1 ∨ i = 2 ∨ i = 3) with rfl | rfl | rfl | rfl <;> rfl
  · rw [World.cell?_alloc_new]; rfl

/-- The thirteen cells. -/
def cells13 (E B : Nat → Int) (V : Nat → Value) (vk : Value) : List Value := [.int .i64 (E 0), .int .i64 (B 0), V 0, .int .i64 (E 1), .int .i64 (B 1), V 1, .int .i64 (E 2), .int .i64 (B 2), V 2, .int .i64 (E 3), .int .i64 (B 3), V 3, vk]

theorem flow_put {w : World} {b o : Nat} (E B : Nat → Int) (V : Nat → Value) (vk : Value) (hsome : ∀ j, j < 13 → (w.cell? ⟨b, o + j, none⟩).isSome = true) :
    FlowCells (w.setCells b o (cells13 E B V vk)) b o E B V vk := by
  have hin := World.cell?_setCells_in b (cells13 E B V vk) o w (fun j hj => hsome j hj)
  refine ⟨fun i hi => ?_, fun i hi => ?_, fun i hi => ?_, ?_⟩
  · have := hin (i * 3) (by show i * 3 < 13; omega)
    rw [this]
    rcases (by omega : i = 0 ∨ i = 1 ∨ i = 2 ∨ i = 3) with rfl | rfl | rfl | rfl <;> rfl
  · have := hin (i * 3 + 1) (by show i * 3 + 1 < 13; omega)
    rw [← Nat.add_assoc] at this
    rw [this]
    rcases (by omega : i = 0 ∨ i = 1 ∨ i = 2 ∨ i = 3) with rfl | rfl | rfl | rfl <;> rfl
  · have := hin (i * 3 + 2) (by show i * 3 + 2 < 13; omega)
    rw [← Nat.add_assoc] at this
    rw [this]
    rcases (by omega : i = 0 ∨ i = 1 ∨ i = 2 ∨ i = 3) with rfl | rfl | rfl | rfl <;> rfl
  · have := hin 12 (by show 12 < 13; omega)
    rw [this]; rfl

theorem setCells_slots (b : Nat) : ∀ (vs : List Value) (o : Nat) (w : World), Slots b (fun j => o ≤ j ∧ j < o + vs.length) w (w.setCells b o vs) ∧ Chg (fun k => k = b) w (w.setCells b o vs)
  | [], o, w => ⟨by simpa [World.setCells] using Slots.refl b _ w, by simpa [World.setCells] using Chg.refl _ w⟩
  | v :: r, o, w => by
    obtain ⟨h1, h2⟩ := setCells_slots b r (o + 1) (w.setCell ⟨b, o, none⟩ v)
    have h0 : Slots b (fun j => o ≤ j ∧ j < o + (v :: r).length) w (w.setCell ⟨b, o, none⟩ v) := (Slots.refl b _ w).setCell (p := ⟨b, o, none⟩) v (fun _ => by simp)
    have c0 : Chg (fun k => k = b) w (w.setCell ⟨b, o, none⟩ v) := (Chg.refl (fun k => k = b) w).setCell (p := ⟨b, o, none⟩) (fun _ => rfl) v
    constructor
    · simpa [World.setCells] using h0.trans h1 (fun j hj => by simp; omega)
    · simpa [World.setCells] using c0.trans h2 (fun _ _ h => h)

theorem qNames_length (Q : Nat → List Wt) (m : Nat) (h : ∀ i, i < m → (Q i).length ≤ 4) : (qNames Q m).length ≤ 4 * m := by
  induction m with
  | zero => simp [qNames]
  | succ m ih =>
    have := ih (fun i hi => h i (by omega))
    have := h m (by omega)
    simp [qNames]; omega

theorem theNames_length (ks : List Ky) (Q : Nat → List Wt) (hk : ks.length ≤ 4) (h : ∀ i, i < 4 → (Q i).length ≤ 4) : (theNames ks Q).length ≤ 100 := by
  have h1 := qNames_length Q 4 h
  unfold theNames compact compactUpTo
  rw [List.length_map]
  refine Nat.le_trans (List.length_filter_le _ _) ?_
  rw [List.length_range, List.length_mergeSort]
  simp; omega

theorem upd_upd {α : Type} (f : Nat → α) (i : Nat) (x y : α) : upd (upd f i x) i y = upd f i y := funext fun j => by by_cases e : j = i <;> simp [upd, e]

theorem mem_upFn {x : Wt} : ∀ (f : Nat) (l : List Wt) (j : Nat), x ∈ upFn f l j → x ∈ l
  | 0, l, j, h => h
  | f + 1, l, j, h => by
    unfold upFn at h
    split at h
    · exact h
    · exact mem_swapL (mem_upFn f _ _ h)

theorem upFn_length : ∀ (f : Nat) (l : List Wt) (j : Nat), (upFn f l j).length = l.length
  | 0, l, j => rfl
  | f + 1, l, j => by
    unfold upFn
    split
    · rfl
    · rw [upFn_length, swapL_length]

theorem qLens_ge (Q : Nat → List Wt) (s : Nat) (hs : s < 4) : ((Q s).length : Int) ≤ qLens Q 4 := by
  simp only [qLens]
  rcases (by omega : s = 0 ∨ s = 1 ∨ s = 2 ∨ s = 3) with rfl | rfl | rfl | rfl <;> omega

/-- What becomes of the flow. -/
def AccPost (lo b o s : Nat) (E B : Nat → Int) (V : Nat → Value) (vk : Value) (Q : Nat → List Wt) (w w' : World) : Option (Int × Int × List Wt × List Ky) → Prop
  | none => Chg (fun _ => False) w w'
  | some (e', b', q', ks') => ∃ v' vk', FlowAt w' lo b o (upd E s e') (upd B s b') (upd V s v') vk' (upd Q s q') ks' ∧
      (∀ k, v'.ownBlock = some k → (V s).ownBlock = some k ∨ w.heap.size ≤ k) ∧ (∀ k, vk'.ownBlock = some k → vk.ownBlock = some k ∨ w.heap.size ≤ k) ∧
      Slots b (fun j => o ≤ j ∧ j < o + 13) w w' ∧ Chg (fun k => k = b ∨ (V s).ownBlock = some k ∨ vk.ownBlock = some k) w w'

set_option maxRecDepth 100000 in
set_option maxHeartbeats 4000000 in
theorem flowAccept_new (lo b o s : Nat) (E B : Nat → Int) (V : Nat → Value) (vk : Value) (Q : Nat → List Wt) (ks : List Ky) (ep num val : Int) (key : ByteArray) (w : World) (hs : s < 4) (hF : FlowAt w lo b o E B V vk Q ks) (hfit : FlowFit E B Q ks)
    (hx : (⟨s, ep, num, key, val⟩ : Rec).fits) (hgood : recErr ⟨s, ep, num, key, val⟩ = 0) (hep : ¬ ep < E s) :
    Calls Tryz.prog 28 #[.pointer (some ⟨b, o, none⟩), (⟨s, ep, num, key, val⟩ : Rec).value'] w fun e w' =>
      e = .returned (.tuple #[.int .i64 (accH E B Q ks s ep num key val).1.1, .int .i64 (accH E B Q ks s ep num key val).1.2]) ∧
      AccPost lo b o s E B V vk Q w w' (accH E B Q ks s ep num key val).2 := by
  have hcr := checkRecord_any ⟨s, ep, num, key, val⟩ (w.alloc (.cells #[.int .i64 s, .int .i64 ep, .int .i64 num, .string key, .int .i64 val] 37)) hx
  rw [hgood] at hcr
  have hes := hF.cells.ep s hs
  have hbl : b < w.heap.size := World.block_lt_of_cell? _ _ hes
  have hs' : (s : Int) < 4 := by omega
  obtain ⟨pk, kc, hvk⟩ := row_any hF.keys
  obtain ⟨p0, k0, hV0⟩ := row_any (hF.rows 0 (by omega))
  obtain ⟨p1, k1, hV1⟩ := row_any (hF.rows 1 (by omega))
  obtain ⟨p2, k2, hV2⟩ := row_any (hF.rows 2 (by omega))
  obtain ⟨p3, k3, hV3⟩ := row_any (hF.rows 3 (by omega))
  unfold Rec.value' at hcr ⊢
  go_enter Tryz.func28, Tryz.ntmps28
  go_wp2_with fail
  refine hcr.mono ?_
  rintro _ w1 ⟨rfl, c1⟩
  have c01 : Chg (fun _ => False) w w1 := ((Chg.refl _ w).alloc _).trans c1 (fun _ _ h => h)
  have x0 := c1.cellAt (World.cell?_alloc_at (w := w) #[.int .i64 s, .int .i64 ep, .int .i64 num, .string key, .int .i64 val] 37 w.heap.size 0 rfl) id
  have x1 := c1.cellAt (World.cell?_alloc_at (w := w) #[.int .i64 s, .int .i64 ep, .int .i64 num, .string key, .int .i64 val] 37 w.heap.size 1 rfl) id
  have x2 := c1.cellAt (World.cell?_alloc_at (w := w) #[.int .i64 s, .int .i64 ep, .int .i64 num, .string key, .int .i64 val] 37 w.heap.size 2 rfl) id
  have x3 := c1.cellAt (World.cell?_alloc_at (w := w) #[.int .i64 s, .int .i64 ep, .int .i64 num, .string key, .int .i64 val] 37 w.heap.size 3 rfl) id
  have x4 := c1.cellAt (World.cell?_alloc_at (w := w) #[.int .i64 s, .int .i64 ep, .int .i64 num, .string key, .int .i64 val] 37 w.heap.size 4 rfl) id
  simp only [List.getElem_toArray, List.getElem_cons_zero, List.getElem_cons_succ] at x0 x1 x2 x3 x4
  have hsz1 : w.heap.size + 1 ≤ w1.heap.size := by have := c1.size; rw [World.size_alloc] at this; exact this
  have hbl1 : b < w1.heap.size := by omega
  replace hes := c01.cellAt hes id
  clear hcr
  go_wp2_with fail
  go_quiet (fail)
  generalize hw2 : w1.drewN nq = w2
  have q12 : Quiet w1 w2 := by rw [← hw2]; exact (Quiet.refl _).drewN _
  have hsz2 : w2.heap.size = w1.heap.size := by rw [q12.heap]
  have c02 : Chg (fun _ => False) w w2 := c01.trans (q12.chg _) (fun _ _ h => h)
  rw [← q12.cell] at x0 x1 x2 x3 x4
  have hF2 := hF.cells.chg c02 id
  have e0 := hF2.ep 0 (by omega); have e1 := hF2.ep 1 (by omega); have e2 := hF2.ep 2 (by omega); have e3 := hF2.ep 3 (by omega)
  have b0 := hF2.ba 0 (by omega); have b1 := hF2.ba 1 (by omega); have b2 := hF2.ba 2 (by omega); have b3 := hF2.ba 3 (by omega)
  have v0 := hF2.qu 0 (by omega); have v1 := hF2.qu 1 (by omega); have v2 := hF2.qu 2 (by omega); have v3 := hF2.qu 3 (by omega)
  have kk := hF2.le
  simp only [Nat.zero_mul, Nat.one_mul, Nat.add_zero] at e0 e1 e2 e3 b0 b1 b2 b3 v0 v1 v2 v3
  have hbl2 : b < w2.heap.size := by omega
  have hxl2 : w.heap.size < w2.heap.size := by omega
  have hlow2 : lo ≤ w2.heap.size := Nat.le_trans hF.low c02.size
  clear hes hw2 c1 hsz2 hsz1 c01 q12 hbl1
  go_wp2_with fail
  clear e0 e1 e2 e3 b0 b1 b2 b3 v0 v1 v2 v3 kk
  -- the copy
  have hcF : Chg (fun _ => False) w2 (w2.alloc (.cells #[.int .i64 (E 0), .int .i64 (B 0), V 0, .int .i64 (E 1), .int .i64 (B 1), V 1, .int .i64 (E 2), .int .i64 (B 2), V 2, .int .i64 (E 3), .int .i64 (B 3), V 3, vk] 98)) := (Chg.refl _ w2).alloc _
  have hA : FlowAt (w2.alloc (.cells #[.int .i64 (E 0), .int .i64 (B 0), V 0, .int .i64 (E 1), .int .i64 (B 1), V 1, .int .i64 (E 2), .int .i64 (B 2), V 2, .int .i64 (E 3), .int .i64 (B 3), V 3, vk] 98)) lo w2.heap.size 0 E B V vk Q ks := by
    have h2 := hF.chg hbl c02 id (fun _ _ _ _ => id) (fun _ _ => id)
    refine ⟨flow_alloc w2 _ E B V vk, fun j => World.frozen?_alloc_at _ _ _ _ rfl, fun i hi => (h2.rows i hi).alloc _, h2.keys.alloc _, fun i hi h => ?_, fun h => ?_, h2.sep, h2.sepk, by rw [World.size_alloc]; omega⟩
    · have := ((h2.rows i hi).lt _ h).2; omega
    · have := (h2.keys.lt _ h).2; omega
  rw [hV0, hV1, hV2, hV3] at hcF hA
  have hsz3 : w2.heap.size < (w2.alloc (.cells #[.int .i64 (E 0), .int .i64 (B 0), .slice p0 (Q 0).length k0, .int .i64 (E 1), .int .i64 (B 1), .slice p1 (Q 1).length k1, .int .i64 (E 2), .int .i64 (B 2), .slice p2 (Q 2).length k2, .int .i64 (E 3), .int .i64 (B 3), .slice p3 (Q 3).length k3, vk] 98)).heap.size := by rw [World.size_alloc]; omega
  rw [← hvk]
  generalize hw3 : w2.alloc (.cells #[.int .i64 (E 0), .int .i64 (B 0), .slice p0 (Q 0).length k0, .int .i64 (E 1), .int .i64 (B 1), .slice p1 (Q 1).length k1, .int .i64 (E 2), .int .i64 (B 2), .slice p2 (Q 2).length k2, .int .i64 (E 3), .int .i64 (B 3), .slice p3 (Q 3).length k3, vk] 98) = w3 at hcF hA hsz3
  obtain ⟨nb, hnb⟩ : ∃ nb, nb = w2.heap.size := ⟨_, rfl⟩
  have ht := turn_any hA hs ep
  rw [Nat.zero_add] at ht
  have c03 : Chg (fun _ => False) w w3 := c02.trans hcF (fun _ _ h => h)
  have y0 := hcF.cellAt x0 id
  have y2 := hcF.cellAt x2 id
  have y3 := hcF.cellAt x3 id
  have y4 := hcF.cellAt x4 id
  clear x0 x1 x2 x3 x4 hw3 hA hcF hF2
  refine ht.mono ?_
  rintro _ w4 ⟨rfl, hT, c34⟩
  clear ht
  rw [← hnb] at hT c34 hxl2 hbl2 hsz3 ⊢
  have HNB : Hid (nb = w2.heap.size) := hnb
  clear hnb hlow2
  have c04 : Chg (fun _ => False) w w4 := c03.trans c34 (fun k hk h => by omega)
  have z0 := c34.cellAt y0 (by omega)
  have z2 := c34.cellAt y2 (by omega)
  have z3 := c34.cellAt y3 (by omega)
  have z4 := c34.cellAt y4 (by omega)
  have hsz4 : nb < w4.heap.size := Nat.lt_of_lt_of_le hsz3 c34.size
  clear y0 y2 y3 y4 c03 c02 c34 hsz3
  obtain ⟨TB, hTB⟩ : ∃ x, x = tB E B s ep := ⟨_, rfl⟩
  obtain ⟨TQ, hTQ⟩ : ∃ x, x = tQ E Q s ep := ⟨_, rfl⟩
  obtain ⟨TE, hTE⟩ : ∃ x, x = tE E s ep := ⟨_, rfl⟩
  obtain ⟨TV, hTV⟩ : ∃ x, x = tV E V s ep := ⟨_, rfl⟩
  rw [← hTB, ← hTQ, ← hTE, ← hTV] at hT
  have hcnt := counts_nonneg hfit.led.count
  have hqlt : 0 ≤ qLens Q 4 := by simp [qLens]; omega
  have hTB0 : 0 ≤ TB ∧ TB ≤ counts ks := by
    rw [hTB]; unfold tB
    split
    · exact ⟨Int.le_refl _, hcnt⟩
    · exact hfit.ba s hs
  have htot := hfit.led.total
  have hacc : Hid (accH E B Q ks s ep num key val = if ¬ (0 ≤ num ∧ num < TB + 4) then ((0, 5), none) else if num < TB ∨ TQ.any (fun y => y.num == num) = true then ((TB, 0), none) else if roomErr key ks (upd Q s TQ) ≠ 0 then ((0, roomErr key ks (upd Q s TQ)), none) else (((drainH 5 TB (upFn (TQ.length + 1) (TQ ++ [⟨num, key, val⟩]) TQ.length) ks).1, 0), some (TE, (drainH 5 TB (upFn (TQ.length + 1) (TQ ++ [⟨num, key, val⟩]) TQ.length) ks).1, (drainH 5 TB (upFn (TQ.length + 1) (TQ ++ [⟨num, key, val⟩]) TQ.length) ks).2.1, (drainH 5 TB (upFn (TQ.length + 1) (TQ ++ [⟨num, key, val⟩]) TQ.length) ks).2.2))) := by
    show _ = _
    rw [hTB, hTQ, hTE]; rfl
  have HTQ : Hid (TQ = tQ E Q s ep) := hTQ
  have HTV : Hid (TV = tV E V s ep) := hTV
  clear hTB hTQ hTE hTV hV0 hV1 hV2 hV3 hvk hep
  have hba := hT.cells.ba s hs
  rw [Nat.zero_add, upd_same] at hba
  have hre := reaches_any nb (s * 3) TB num w4 hba (by omega)
  go_wp2_with fail
  refine hre.mono ?_
  rintro _ w5 ⟨rfl, q45⟩
  have c05 : Chg (fun _ => False) w w5 := c04.trans (q45.chg _) (fun _ _ h => h)
  have hT5 := hT.chg hsz4 (q45.chg (fun _ => False)) id (fun _ _ _ _ => id) (fun _ _ => id)
  rw [← q45.cell] at z0 z2 z3 z4
  have hsz5 : nb < w5.heap.size := Nat.lt_of_lt_of_le hsz4 (q45.chg (fun _ => False)).size
  clear hre q45 hba hT c04 hsz4
  by_cases hrea : 0 ≤ num ∧ num < TB + 4
  · have hd : decide (0 ≤ num ∧ num < TB + 4) = true := by simpa using hrea
    rw [hd]
    clear hd
    have hba := hT5.cells.ba s hs
    have hqu := hT5.cells.qu s hs
    have hrow := hT5.rows s hs
    rw [Nat.zero_add, upd_same] at hba hqu
    rw [upd_same, upd_same] at hrow
    have hTQl : TQ.length ≤ 3 := by
      rw [HTQ.out]; unfold tQ
      split
      · simp
      · exact hfit.ql s hs
    by_cases hlow : num < TB
    · have hha := has_low nb (s * 3) TB num w5 hsz5 hba hlow
      go_wp2_with fail
      refine hha.mono ?_
      rintro _ w6 ⟨rfl, c56⟩
      have hba6 := c56.cellAt hba id
      clear hha hba hqu
      go_wp2_with fail
      go_ret2
      have e : accH E B Q ks s ep num key val = ((TB, 0), none) := by rw [hacc.out]; simp [hrea, hlow]
      rw [e]
      exact ⟨rfl, c05.trans c56 (fun _ _ h => h)⟩
    · have hha := has_high lo nb (s * 3) TQ.length TB num TV TQ w5 hsz5 hba hlow hqu hrow rfl (by omega)
      by_cases hany : TQ.any (fun y => y.num == num) = true
      · rw [hany] at hha
        go_wp2_with fail
        refine hha.mono ?_
        rintro _ w6 ⟨rfl, c56⟩
        have hba6 := c56.cellAt hba id
        clear hha hba hqu
        go_wp2_with fail
        go_ret2
        have e : accH E B Q ks s ep num key val = ((TB, 0), none) := by rw [hacc.out]; simp only [hrea, hany]; simp
        rw [e]
        exact ⟨rfl, c05.trans c56 (fun _ _ h => h)⟩
      · have hanyf : TQ.any (fun y => y.num == num) = false := by simpa using hany
        rw [hanyf] at hha
        go_wp2_with fail
        refine hha.mono ?_
        rintro _ w6 ⟨rfl, c56⟩
        have hT6 := hT5.chg hsz5 c56 id (fun _ _ _ _ => id) (fun _ _ => id)
        have c06 : Chg (fun _ => False) w w6 := c05.trans c56 (fun _ _ h => h)
        replace z0 := c56.cellAt z0 id
        replace z2 := c56.cellAt z2 id
        replace z3 := c56.cellAt z3 id
        replace z4 := c56.cellAt z4 id
        have hsz6 : nb < w6.heap.size := Nat.lt_of_lt_of_le hsz5 c56.size
        have hUQ : ∀ i, i < 4 → (upd Q s TQ i).length ≤ 3 := fun i hi => by
          by_cases e : i = s
          · subst e; rw [upd_same]; exact hTQl
          · rw [upd_ne _ _ e]; exact hfit.ql i hi
        have hro := checkRoom_any lo nb 0 (upd E s TE) (upd B s TB) (upd V s TV) vk (upd Q s TQ) ks key w6 hsz6 hT6.cells hT6.keys hfit.kl (fun k hk => ⟨hfit.led.count k hk, by have := (count_le hfit.led.count k hk).1; omega⟩) (by omega) hT6.rows (fun i hi => by have := hUQ i hi; omega) (theNames_length _ _ hfit.kl (fun i hi => by have := hUQ i hi; omega))
        obtain ⟨RM, hRM⟩ : ∃ x, x = roomErr key ks (upd Q s TQ) := ⟨_, rfl⟩
        rw [← hRM] at hro
        have HRM : Hid (RM = roomErr key ks (upd Q s TQ)) := hRM
        clear hha hba hqu hrow hRM hT5 c05 c56 hsz5
        go_wp2_with fail
        refine hro.mono ?_
        rintro _ w7 ⟨rfl, c67⟩
        by_cases hrm : RM = 0
        · subst hrm
          clear hro
          have hok : okKey key = true ∧ 0 ≤ val ∧ val ≤ 4294967295 := by
            unfold recErr at hgood
            simp only at hgood
            split at hgood
            · cases hgood
            · split at hgood
              · cases hgood
              · rename_i h1 h2
                refine ⟨?_, by omega, by omega⟩
                cases e : okKey key with
                | true => rfl
                | false => exact absurd (Or.inl e) h2
          have hkey6 : key.size ≤ 6 ∧ ∃ c r, key.data.toList = c :: r ∧ okFirst c = true := by
            have := hok.1
            unfold okKey at this
            split at this
            · cases this
            · rename_i c r hl
              simp at this
              exact ⟨this.2, c, r, hl, this.1⟩
          have hT7 := hT6.chg hsz6 c67 id (fun _ _ _ _ => id) (fun _ _ => id)
          have c07 : Chg (fun _ => False) w w7 := c06.trans c67 (fun _ _ h => h)
          have hsz7 : nb < w7.heap.size := Nat.lt_of_lt_of_le hsz6 c67.size
          replace z0 := c67.cellAt z0 id
          replace z2 := c67.cellAt z2 id
          replace z3 := c67.cellAt z3 id
          replace z4 := c67.cellAt z4 id
          have hcl := clone_any key w7.drew hkey6.1
          have hadd := fun (W : World) (cW : Chg (fun _ => False) w7 W) => addf_any (hT7.chg hsz7 cW id (fun _ _ _ _ => id) (fun _ _ => id)) hs ⟨num, key, val⟩ (by rw [upd_same]; omega)
          simp only [Nat.zero_add, upd_same, Wt.agg] at hadd
          have HADD : Hid (∀ (W : World), Chg (fun _ => False) w7 W → _) := hadd
          clear hadd hT6 c06 c67 hsz6
          go_wp2_with fail
          go_cut [] from 10 (fun wc => ∃ v9, FlowAt wc lo nb 0 (upd E s TE) (upd B s TB) (upd (upd V s TV) s v9) vk (upd (upd Q s TQ) s (upFn (TQ.length + 1) (TQ ++ [⟨num, key, val⟩]) TQ.length)) ks ∧ (v9.ownBlock = TV.ownBlock ∨ ∀ k, v9.ownBlock = some k → w7.heap.size ≤ k) ∧ Chg (fun k => k = nb ∨ TV.ownBlock = some k) w7 wc)
          case first =>
            go_region_with (first | (go_at_call 59; refine hcl.mono ?_; rintro _ w8 ⟨rfl, c78⟩; have t2 := c78.cellAt (show w7.drew.cell? _ = _ from z2) id; have t3 := c78.cellAt (show w7.drew.cell? _ = _ from z3) id; have t4 := c78.cellAt (show w7.drew.cell? _ = _ from z4) id) | (go_at_call 58; refine (HADD.out _ ((Chg.refl _ w7).drew.trans c78 (fun _ _ h => h))).mono ?_; rintro _ w9 ⟨v9, rfl, hT9, hw9, c89⟩))
            all_goals
              go_wp2_with fail
              go_meet
              case rel =>
                refine ⟨v9, hT9, hw9.imp id (fun h k hk => Nat.le_trans c78.size (h k hk)), ?_⟩
                exact ((Chg.refl _ w7).drew.trans (c78.mono (fun _ h => h.elim)) (fun _ _ h => h)).trans c89 (fun _ _ h => h)
          case rest =>
            obtain ⟨v9, hT9, hw9, c79⟩ := hcut
            clear HADD hcl hT7
            rw [upd_upd, upd_upd] at hT9
            obtain ⟨q2, hq2⟩ : ∃ q2, q2 = upFn (TQ.length + 1) (TQ ++ [⟨num, key, val⟩]) TQ.length := ⟨_, rfl⟩
            rw [← hq2] at hT9
            have hq2l : q2.length = TQ.length + 1 := by rw [hq2, upFn_length]; simp
            have hq2m : ∀ y ∈ q2, y.ok := fun y hy => by
              rw [hq2] at hy
              rcases List.mem_append.1 (mem_upFn _ _ _ hy) with h | h
              · rw [HTQ.out] at h
                unfold tQ at h
                split at h
                · simp at h
                · exact hfit.wok s hs y h
              · simp at h; subst h; exact ⟨hkey6.2, hok.2⟩
            have hTVlt : ∀ k, TV.ownBlock = some k → k < w.heap.size := fun k hk => by
              rw [HTV.out] at hk
              unfold tV at hk
              split at hk
              · simp [Value.ownBlock] at hk
              · exact ((hF.rows s hs).lt k hk).2
            have hTVs : ∀ k, TV.ownBlock = some k → (V s).ownBlock = some k := fun k hk => by
              rw [HTV.out] at hk
              unfold tV at hk
              split at hk
              · simp [Value.ownBlock] at hk
              · exact hk
            have hvlt : ∀ k, vk.ownBlock = some k → k < w.heap.size := fun k hk => (hF.keys.lt k hk).2
            have hroom : counts ks + qLens (upd Q s TQ) 4 < 1000 := by
              have h0 := HRM.out
              unfold roomErr at h0
              split at h0
              · cases h0
              · split at h0
                · cases h0
                · omega
            have hge := qLens_ge (upd Q s TQ) s hs
            rw [upd_same] at hge
            have hLd : Led ks ((q2.length : Int)) := ⟨hfit.led.sorted, hfit.led.first, hfit.led.fold, hfit.led.count, by rw [hq2l]; omega⟩
            have hsz9 : nb < wc.heap.size := Nat.lt_of_lt_of_le hsz7 c79.size
            have hdr := drainf_any hT9 hs (by rw [upd_same]; omega) (by have := hfit.kl; omega) (by rw [upd_same, upd_same]; omega) (by rw [upd_same]; exact hLd) (by rw [upd_same]; exact hq2m)
            simp only [upd_same, upd_upd] at hdr
            obtain ⟨D, hD⟩ : ∃ D, D = drainH 5 TB q2 ks := ⟨_, rfl⟩
            rw [← hD] at hdr
            have z0' := c79.cellAt z0 (by rintro (h | h); omega; have := hTVlt _ h; omega)
            have hacc2 : Hid (accH E B Q ks s ep num key val = ((D.1, 0), some (TE, D.1, D.2.1, D.2.2))) := by
              show _ = _
              have hlow' : ¬ num < TB := by omega
              rw [hacc.out, if_neg (fun h => h hrea), if_neg (fun h => by rcases h with h | h; exact hlow' h; rw [hanyf] at h; cases h), if_neg (fun h => h HRM.out.symm), ← hq2, ← hD]
            clear hq2 hD hacc HRM z0 z2 z3 z4 hge hrea hanyf hany hlow
            go_wp2_with fail
            refine hdr.mono ?_
            rintro _ w10 ⟨v10, vk10, rfl, hT10, hv10, hk10, c910⟩
            clear hdr
            have hsz10 : nb < w10.heap.size := Nat.lt_of_lt_of_le hsz9 c910.size
            have hw7 : w.heap.size ≤ w7.heap.size := c07.size
            have c010 : Chg (fun k => (V s).ownBlock = some k ∨ vk.ownBlock = some k) w w10 := by
              refine ((c07.mono (fun _ h => h.elim)).trans c79 (fun n hn h => ?_)).trans c910 (fun n hn h => ?_)
              · rcases h with h | h
                · omega
                · exact .inl (hTVs n h)
              · rcases h with h | h | h
                · omega
                · rcases hw9 with h9 | h9
                  · rw [h9] at h; exact .inl (hTVs n h)
                  · have := h9 n h; omega
                · exact .inr h
            have hnb' : ¬ ((V s).ownBlock = some b ∨ vk.ownBlock = some b) := by
              rintro (h | h)
              · exact hF.own s hs h
              · exact hF.ownk h
            have hFo := hF.cells.chg c010 hnb'
            have hfz : ∀ j, w10.frozen? ⟨b, j, none⟩ = false := fun j => (World.frozen?_of_block (w := w) (c010.block b hbl hnb')).trans (hF.froz j)
            obtain ⟨E', hE'⟩ : ∃ x, x = upd E s TE := ⟨_, rfl⟩
            obtain ⟨B', hB'⟩ : ∃ x, x = upd B s D.1 := ⟨_, rfl⟩
            obtain ⟨V', hV'⟩ : ∃ x, x = upd V s v10 := ⟨_, rfl⟩
            obtain ⟨Q', hQ'⟩ : ∃ x, x = upd Q s D.2.1 := ⟨_, rfl⟩
            have hbD := hT10.cells.ba s hs
            rw [upd_same, Nat.zero_add] at hbD
            have HE' : Hid (E' = upd E s TE) := hE'
            have HB' : Hid (B' = upd B s D.1) := hB'
            have HV' : Hid (V' = upd V s v10) := hV'
            have HQ' : Hid (Q' = upd Q s D.2.1) := hQ'
            rw [← hE', ← hB', ← hV', ← hQ'] at hT10
            clear hE' hB' hV' hQ'
            obtain ⟨p0', k0', hV0'⟩ := row_any (hT10.rows 0 (by omega))
            obtain ⟨p1', k1', hV1'⟩ := row_any (hT10.rows 1 (by omega))
            obtain ⟨p2', k2', hV2'⟩ := row_any (hT10.rows 2 (by omega))
            obtain ⟨p3', k3', hV3'⟩ := row_any (hT10.rows 3 (by omega))
            obtain ⟨pk', kc', hvk'⟩ := row_any hT10.keys
            have n0 := hT10.cells.ep 0 (by omega); have n1 := hT10.cells.ba 0 (by omega); have n2 := hT10.cells.qu 0 (by omega)
            have n3 := hT10.cells.ep 1 (by omega); have n4 := hT10.cells.ba 1 (by omega); have n5 := hT10.cells.qu 1 (by omega)
            have n6 := hT10.cells.ep 2 (by omega); have n7 := hT10.cells.ba 2 (by omega); have n8 := hT10.cells.qu 2 (by omega)
            have n9 := hT10.cells.ep 3 (by omega); have n10 := hT10.cells.ba 3 (by omega); have n11 := hT10.cells.qu 3 (by omega)
            have n12 := hT10.cells.le
            rw [hV0'] at n2; rw [hV1'] at n5; rw [hV2'] at n8; rw [hV3'] at n11; rw [hvk'] at n12
            simp only [Nat.zero_mul, Nat.one_mul, Nat.add_zero, Nat.zero_add, Nat.reduceMul, Nat.reduceAdd] at n0 n1 n2 n3 n4 n5 n6 n7 n8 n9 n10 n11 n12
            have o0 := hFo.ep 0 (by omega); have o1 := hFo.ba 0 (by omega); have o2 := hFo.qu 0 (by omega)
            have o3 := hFo.ep 1 (by omega); have o4 := hFo.ba 1 (by omega); have o5 := hFo.qu 1 (by omega)
            have o6 := hFo.ep 2 (by omega); have o7 := hFo.ba 2 (by omega); have o8 := hFo.qu 2 (by omega)
            have o9 := hFo.ep 3 (by omega); have o10 := hFo.ba 3 (by omega); have o11 := hFo.qu 3 (by omega)
            have o12 := hFo.le
            simp only [Nat.zero_mul, Nat.one_mul, Nat.add_zero, Nat.reduceMul, Nat.add_assoc, Nat.reduceAdd] at o0 o1 o2 o3 o4 o5 o6 o7 o8 o9 o10 o11 o12
            have f0 := hfz o; have f1 := hfz (o + 1); have f2 := hfz (o + 2); have f3 := hfz (o + 3); have f4 := hfz (o + 4); have f5 := hfz (o + 5); have f6 := hfz (o + 6); have f7 := hfz (o + 7); have f8 := hfz (o + 8); have f9 := hfz (o + 9); have f10 := hfz (o + 10); have f11 := hfz (o + 11); have f12 := hfz (o + 12)
            go_wp2_with fail
            go_ret2
            rw [hacc2.out]
            refine ⟨rfl, ?_⟩
            have hsome : ∀ j, j < 13 → (w10.cell? ⟨b, o + j, none⟩).isSome = true := fun j hj => by
              by_cases h12 : j = 12
              · subst h12; rw [hFo.le]; rfl
              · rcases (by omega : j % 3 = 0 ∨ j % 3 = 1 ∨ j % 3 = 2) with h3 | h3 | h3
                · rw [show o + j = o + j / 3 * 3 by omega, hFo.ep (j / 3) (by omega)]; rfl
                · rw [show o + j = o + j / 3 * 3 + 1 by omega, hFo.ba (j / 3) (by omega)]; rfl
                · rw [show o + j = o + j / 3 * 3 + 2 by omega, hFo.qu (j / 3) (by omega)]; rfl
            obtain ⟨sl, cg⟩ := setCells_slots b (cells13 E' B' V' vk10) o w10
            have hv10s : ∀ k, v10.ownBlock = some k → (V s).ownBlock = some k ∨ w.heap.size ≤ k := fun k hk => by
              rw [hv10] at hk
              rcases hw9 with h9 | h9
              · rw [h9] at hk; exact .inl (hTVs k hk)
              · have := h9 k hk; exact .inr (by omega)
            have hk10s : ∀ k, vk10.ownBlock = some k → vk.ownBlock = some k ∨ w.heap.size ≤ k := fun k hk => by
              rcases hk10 with h9 | h9
              · rw [h9] at hk; exact .inl hk
              · have := h9 k hk; have := c79.size; exact .inr (by omega)
            have hV'b : ∀ i, i < 4 → (V' i).ownBlock ≠ some b := fun i hi h => by
              rw [HV'.out] at h
              by_cases e : i = s
              · subst e
                rw [upd_same] at h
                rcases hv10s b h with h' | h'
                · exact hF.own i hi h'
                · omega
              · rw [upd_ne _ _ e] at h
                exact hF.own i hi h
            have hvkb : vk10.ownBlock ≠ some b := fun h => by
              rcases hk10s b h with h' | h'
              · exact hF.ownk h'
              · omega
            have hAt : FlowAt (w10.setCells b o (cells13 E' B' V' vk10)) lo b o E' B' V' vk10 Q' D.2.2 :=
              ⟨flow_put E' B' V' vk10 hsome, fun j => (sl.frozen j).trans (hfz j), fun i hi => cg.row' (hT10.rows i hi) (fun k hk e => hV'b i hi (by rw [← e]; exact hk)), cg.row' hT10.keys (fun k hk e => hvkb (by rw [← e]; exact hk)), hV'b, hvkb, hT10.sep, hT10.sepk, Nat.le_trans hT10.low cg.size⟩
            have P : AccPost lo b o s E B V vk Q w (w10.setCells b o (cells13 E' B' V' vk10)) (some (TE, D.1, D.2.1, D.2.2)) := by
              refine ⟨v10, vk10, ?_, hv10s, hk10s, (Slots.of_chg _ c010 hbl hnb').trans sl (fun j hj => hj), (c010.mono (fun k hk => .inr hk)).trans cg (fun k _ hk => .inl hk)⟩
              rw [← HE'.out, ← HB'.out, ← HV'.out, ← HQ'.out]
              exact hAt
            unfold cells13 at P
            rw [hV0', hV1', hV2', hV3', hvk'] at P
            exact P
        · have hrb : (RM != 0) = true := by simpa using hrm
          clear hro
          go_wp2_with fail
          go_ret2
          have e : accH E B Q ks s ep num key val = ((0, RM), none) := by
            rw [hacc.out, ← HRM.out]
            have hlow' : ¬ num < TB := by omega
            rw [if_neg (fun h => h hrea), if_neg (fun h => by rcases h with h | h; exact hlow' h; rw [hanyf] at h; cases h), if_pos hrm]
          rw [e]
          exact ⟨rfl, c06.trans c67 (fun _ _ h => h)⟩
  · have hd : decide (0 ≤ num ∧ num < TB + 4) = false := by simpa using hrea
    rw [hd]
    have hrea' : Hid (¬ (0 ≤ num ∧ num < TB + 4)) := hrea
    clear hd hrea
    go_wp2_with fail
    go_ret2
    have e : accH E B Q ks s ep num key val = ((0, 5), none) := by rw [hacc.out, if_pos hrea'.out]
    rw [e]
    exact ⟨rfl, c05⟩

end Go.Proofs.YtdoedjmdcmgddaaGreat
