import Derived.Deep.Cut
import Derived.RangeFuncNested
import Derived.RangeFuncBox
import Derived.RangeFuncLeaves
import Derived.Shelf.Abstract
import Derived.WalkKit
import Derived.OwnWalkIn
import Derived.TacticsInMore
import Derived.LoopNIn
import Derived.LoopIn
import Derived.Maps.AppendAt
import Derived.Shelf.SlSortCmp.SmallK
import Derived.OwnWalk
import Derived.Test.YthedkdbgfdjlkaaGreatPack1
import Derived.Test.YthedkdbgfdjlkaaGreatPack2
import Derived.Test.YthedkdbgfdjlkaaGreatPack3
import Derived.Test.YthedkdbgfdjlkaaGreatPack4
/- The flow's Accept, WALKED: the record's own checks passed, its epoch not below. -/
namespace Go.Proofs.YthedkdbgfdjlkaaGreat
set_option linter.unusedVariables false
set_option linter.unusedSimpArgs false
open Go.RowKit Go.Lib

/-- What Accept answers, and what becomes of the session and the ledger. -/
def accH (E B : Nat → Int) (Q : Nat → List Wt) (ks : List Ky) (s : Nat) (ep num : Int) (key : ByteArray) (val : Int) : (Int × Int) × Option (Int × Int × List Wt × List Ky) :=
  if ¬ (0 ≤ num ∧ num < tB E B s ep + 4) then ((0, 5), none)
  else if num < tB E B s ep ∨ (tQ E Q s ep).any (fun y => y.num == num) = true then ((tB E B s ep, 0), none)
  else if roomErr key ks (upd Q s (tQ E Q s ep)) ≠ 0 then ((0, roomErr key ks (upd Q s (tQ E Q s ep))), none)
  else
    let d := drainH 5 (tB E B s ep) (upFn ((tQ E Q s ep).length + 1) (tQ E Q s ep ++ [⟨num, key, val⟩]) (tQ E Q s ep).length) ks
    ((d.1, 0), some (tE E s ep, d.1, d.2.1, d.2.2))

theorem flow_alloc (w : World) (t : TypeId) (E B : Nat → Int) (V : Nat → Value) (vk : Value) :
    FlowCells (w.alloc (.cells #[.int .i64 (E 0), .int .i64 (B 0), V 0, .int .i64 (E 1), .int .i64 (B 1), V 1, .int .i64 (E 2), .int .i64 (B 2), V 2, .int .i64 (E 3), .int .i64 (B 3), V 3, vk] t)) w.heap.size 0 E B V vk := by
  refine ⟨fun i hi => ?_, fun i hi => ?_, fun i hi => ?_, ?_⟩
  · rw [World.cell?_alloc_new]
    rcases (by omega : i = 0 ∨ i = 1 ∨ i = 2 ∨ i = 3) with rfl | rfl | rfl | rfl <;> rfl
  · rw [World.cell?_alloc_new]
    rcases (by omega : i = 0 ∨ i = 1 ∨ i = 2 ∨ i = 3) with rfl | rfl | rfl | rfl <;> rfl
  · rw [World.cell?_alloc_new]
    rcases (by omega : i = 0 ∨ i = 1 ∨ i = 2 ∨ i = 3) with rfl | rfl | rfl | rfl <;> rfl
  · rw [World.cell?_alloc_new]; rfl

/-- The thirteen cells. -/
def cells13 (E B : Nat → Int) (V : Nat → Value) (vk : Value) : List Value := [.int .i64 (E 0), .int .i64 (B 0), V 0, .int .i64 (E 1), .int .i64 (B 1), V 1, .int .i64 (E 2), .int .i64 (B 2), V 2, .int .i64 (E 3), .int .i64 (B 3), V 3, vk]

theorem flow_put {w : World} {b o : Nat} (E B : Nat → Int) (V : Nat → Value) (vk : Value) (hsome : ∀ j, j < 13 → (w.cell? ⟨b, o + j, none⟩).isSome = true) :
    FlowCells (w.setCells b o (cells13 E B V vk)) b o E B V vk := by
  have hin := World.cell?_setCells_in b (cells13 E B V vk) o w (fun j hj => hsome j hj)
  refine ⟨fun i hi => ?_, fun i hi => ?_, fun i hi => ?_, ?_⟩
  · have := hin (i * 3) (by show i * 3 < 13; omega)
    rw [this]
    rcases (by omega : i = 0 ∨ i = 1 ∨ i = 2 ∨ i = 3) with rfl | rfl | rfl | rfl <;> rfl
  · have := hin (i * 3 + 1) (by show i * 3 + 1 < 13; omega)
    rw [← Nat.add_assoc] at this
    rw [this]
    rcases (by omega : i = 0 ∨ i = 1 ∨ i = 2 ∨ i = 3) with rfl | rfl | rfl | rfl <;> rfl
  · have := hin (i * 3 + 2) (by show i * 3 + 2 < 13; omega)
    rw [← Nat.add_assoc] at this
    rw [this]
    rcases (by omega : i = 0 ∨ i = 1 ∨ i = 2 ∨ i = 3) with rfl | rfl | rfl | rfl <;> rfl
  · have := hin 12 (by show 12 < 13; omega)
    rw [this]; rfl

theorem setCells_slots (b : Nat) : ∀ (vs : List Value) (o : Nat) (w : World), Slots b (fun j => o ≤ j ∧ j < o + vs.length) w (w.setCells b o vs) ∧ Chg (fun k => k = b) w (w.setCells b o vs)
  | [], o, w => ⟨by simpa [World.setCells] using Slots.refl b _ w, by simpa [World.setCells] using Chg.refl _ w⟩
  | v :: r, o, w => by
    obtain ⟨h1, h2⟩ := setCells_slots b r (o + 1) (w.setCell ⟨b, o, none⟩ v)
    have h0 : Slots b (fun j => o ≤ j ∧ j < o + (v :: r).length) w (w.setCell ⟨b, o, none⟩ v) := (Slots.refl b _ w).setCell (p := ⟨b, o, none⟩) v (fun _ => by simp)
    have c0 : Chg (fun k => k = b) w (w.setCell ⟨b, o, none⟩ v) := (Chg.refl (fun k => k = b) w).setCell (p := ⟨b, o, none⟩) (fun _ => rfl) v
    constructor
    · simpa [World.setCells] using h0.trans h1 (fun j hj => by simp; omega)
    · simpa [World.setCells] using c0.trans h2 (fun _ _ h => h)

theorem qNames_length (Q : Nat → List Wt) (m : Nat) (h : ∀ i, i < m → (Q i).length ≤ 4) : (qNames Q m).length ≤ 4 * m := by
  induction m with
  | zero => simp [qNames]
  | succ m ih =>
    have := ih (fun i hi => h i (by omega))
    have := h m (by omega)
    simp [qNames]; omega

theorem theNames_length (ks : List Ky) (Q : Nat → List Wt) (hk : ks.length ≤ 4) (h : ∀ i, i < 4 → (Q i).length ≤ 4) : (theNames ks Q).length ≤ 100 := by
  have h1 := qNames_length Q 4 h
  unfold theNames compact compactUpTo
  rw [List.length_map]
  refine Nat.le_trans (List.length_filter_le _ _) ?_
  rw [List.length_range, List.length_mergeSort]
  simp; omega

theorem upd_upd {α : Type} (f : Nat → α) (i : Nat) (x y : α) : upd (upd f i x) i y = upd f i y := funext fun j => by by_cases e : j = i <;> simp [upd, e]

theorem mem_upFn {x : Wt} : ∀ (f : Nat) (l : List Wt) (j : Nat), x ∈ upFn f l j → x ∈ l
  | 0, l, j, h => h
  | f + 1, l, j, h => by
    unfold upFn at h
    split at h
    · exact h
    · exact mem_swapL (mem_upFn f _ _ h)

theorem upFn_length : ∀ (f : Nat) (l : List Wt) (j : Nat), (upFn f l j).length = l.length
  | 0, l, j => rfl
  | f + 1, l, j => by
    unfold upFn
    split
    · rfl
    · rw [upFn_length, swapL_length]

theorem qLens_ge (Q : Nat → List Wt) (s : Nat) (hs : s < 4) : ((Q s).length : Int) ≤ qLens Q 4 := by
  simp only [qLens]
  rcases (by omega : s = 0 ∨ s = 1 ∨ s = 2 ∨ s = 3) with rfl | rfl | rfl | rfl <;> omega

/-- What becomes of the flow. -/
def AccPost (lo b o s : Nat) (E B : Nat → Int) (V : Nat → Value) (vk : Value) (Q : Nat → List Wt) (w w' : World) : Option (Int × Int × List Wt × List Ky) → Prop
  | none => Chg (fun _ => False) w w'
  | some (e', b', q', ks') => ∃ v' vk', FlowAt w' lo b o (upd E s e') (upd B s b') (upd V s v') vk' (upd Q s q') ks' ∧
      (∀ k, v'.ownBlock = some k → (V s).ownBlock = some k ∨ w.heap.size ≤ k) ∧ (∀ k, vk'.ownBlock = some k → vk.ownBlock = some k ∨ w.heap.size ≤ k) ∧
      Slots b (fun j => o ≤ j ∧ j < o + 13) w w' ∧ Chg (fun k => k = b ∨ (V s).ownBlock = some k ∨ vk.ownBlock = some k) w w'

set_option maxRecDepth 100000 in
set_option maxHeartbeats 4000000 in
theorem flowAccept_new (lo b o s : Nat) (E B : Nat → Int) (V : Nat → Value) (vk : Value) (Q : Nat → List Wt) (ks : List Ky) (ep num val : Int) (key : ByteArray) (w : World) (hs : s < 4) (hF : FlowAt w lo b o E B V vk Q ks) (hfit : FlowFit E B Q ks)
    (hx : (⟨s, ep, num, key, val⟩ : Rec).fits) (hgood : recErr ⟨s, ep, num, key, val⟩ = 0) (hep : ¬ ep < E s) :
    Calls Tryz.prog 28 #[.pointer (some ⟨b, o, none⟩), (⟨s, ep, num, key, val⟩ : Rec).value'] w fun e w' =>
      e = .returned (.tuple #[.int .i64 (accH E B Q ks s ep num key val).1.1, .bool (accH E B Q ks s ep num key val).2.isSome, .int .i64 (accH E B Q ks s ep num key val).1.2]) ∧
      AccPost lo b o s E B V vk Q w w' (accH E B Q ks s ep num key val).2 := by
  have hcr := checkRecord_any ⟨s, ep, num, key, val⟩ (w.alloc (.cells #[.int .i64 s, .int .i64 ep, .int .i64 num, .string key, .int .i64 val] 34)) hx
  rw [hgood] at hcr
  have hes := hF.cells.ep s hs
  have hbl : b < w.heap.size := World.block_lt_of_cell? _ _ hes
  have hs' : (s : Int) < 4 := by omega
  obtain ⟨pk, kc, hvk⟩ := row_any hF.keys
  obtain ⟨p0, k0, hV0⟩ := row_any (hF.rows 0 (by omega))
  obtain ⟨p1, k1, hV1⟩ := row_any (hF.rows 1 (by omega))
  obtain ⟨p2, k2, hV2⟩ := row_any (hF.rows 2 (by omega))
  obtain ⟨p3, k3, hV3⟩ := row_any (hF.rows 3 (by omega))
  unfold Rec.value' at hcr ⊢
  go_enter Tryz.func28, Tryz.ntmps28
  go_wp2_with fail
  refine hcr.mono ?_
  rintro _ w1 ⟨rfl, c1⟩
  have c01 : Chg (fun _ => False) w w1 := ((Chg.refl _ w).alloc _).trans c1 (fun _ _ h => h)
  have x0 := c1.cellAt (World.cell?_alloc_at (w := w) #[.int .i64 s, .int .i64 ep, .int .i64 num, .string key, .int .i64 val] 34 w.heap.size 0 rfl) id
  have x1 := c1.cellAt (World.cell?_alloc_at (w := w) #[.int .i64 s, .int .i64 ep, .int .i64 num, .string key, .int .i64 val] 34 w.heap.size 1 rfl) id
  have x2 := c1.cellAt (World.cell?_alloc_at (w := w) #[.int .i64 s, .int .i64 ep, .int .i64 num, .string key, .int .i64 val] 34 w.heap.size 2 rfl) id
  have x3 := c1.cellAt (World.cell?_alloc_at (w := w) #[.int .i64 s, .int .i64 ep, .int .i64 num, .string key, .int .i64 val] 34 w.heap.size 3 rfl) id
  have x4 := c1.cellAt (World.cell?_alloc_at (w := w) #[.int .i64 s, .int .i64 ep, .int .i64 num, .string key, .int .i64 val] 34 w.heap.size 4 rfl) id
  simp only [List.getElem_toArray, List.getElem_cons_zero, List.getElem_cons_succ] at x0 x1 x2 x3 x4
  have hsz1 : w.heap.size + 1 ≤ w1.heap.size := by have := c1.size; rw [World.size_alloc] at this; exact this
  have hbl1 : b < w1.heap.size := by omega
  replace hes := c01.cellAt hes id
  clear hcr
  go_wp2_with fail
  go_quiet (fail)
  generalize hw2 : w1.drewN nq = w2
  have q12 : Quiet w1 w2 := by rw [← hw2]; exact (Quiet.refl _).drewN _
  have hsz2 : w2.heap.size = w1.heap.size := by rw [q12.heap]
  have c02 : Chg (fun _ => False) w w2 := c01.trans (q12.chg _) (fun _ _ h => h)
  rw [← q12.cell] at x0 x1 x2 x3 x4
  have hF2 := hF.cells.chg c02 id
  have e0 := hF2.ep 0 (by omega); have e1 := hF2.ep 1 (by omega); have e2 := hF2.ep 2 (by omega); have e3 := hF2.ep 3 (by omega)
  have b0 := hF2.ba 0 (by omega); have b1 := hF2.ba 1 (by omega); have b2 := hF2.ba 2 (by omega); have b3 := hF2.ba 3 (by omega)
  have v0 := hF2.qu 0 (by omega); have v1 := hF2.qu 1 (by omega); have v2 := hF2.qu 2 (by omega); have v3 := hF2.qu 3 (by omega)
  have kk := hF2.le
  simp only [Nat.zero_mul, Nat.one_mul, Nat.add_zero] at e0 e1 e2 e3 b0 b1 b2 b3 v0 v1 v2 v3
  have hbl2 : b < w2.heap.size := by omega
  have hxl2 : w.heap.size < w2.heap.size := by omega
  have hlow2 : lo ≤ w2.heap.size := Nat.le_trans hF.low c02.size
  clear hes hw2 c1 hsz2 hsz1 c01 q12 hbl1
  go_wp2_with fail
  clear e0 e1 e2 e3 b0 b1 b2 b3 v0 v1 v2 v3 kk
  -- the copy
  have hcF : Chg (fun _ => False) w2 (w2.alloc (.cells #[.int .i64 (E 0), .int .i64 (B 0), V 0, .int .i64 (E 1), .int .i64 (B 1), V 1, .int .i64 (E 2), .int .i64 (B 2), V 2, .int .i64 (E 3), .int .i64 (B 3), V 3, vk] 82)) := (Chg.refl _ w2).alloc _
  have hA : FlowAt (w2.alloc (.cells #[.int .i64 (E 0), .int .i64 (B 0), V 0, .int .i64 (E 1), .int .i64 (B 1), V 1, .int .i64 (E 2), .int .i64 (B 2), V 2, .int .i64 (E 3), .int .i64 (B 3), V 3, vk] 82)) lo w2.heap.size 0 E B V vk Q ks := by
    have h2 := hF.chg hbl c02 id (fun _ _ _ _ => id) (fun _ _ => id)
    refine ⟨flow_alloc w2 _ E B V vk, fun j => World.frozen?_alloc_at _ _ _ _ rfl, fun i hi => (h2.rows i hi).alloc _, h2.keys.alloc _, fun i hi h => ?_, fun h => ?_, h2.sep, h2.sepk, by rw [World.size_alloc]; omega⟩
    · have := ((h2.rows i hi).lt _ h).2; omega
    · have := (h2.keys.lt _ h).2; omega
  rw [hV0, hV1, hV2, hV3] at hcF hA
  have hsz3 : w2.heap.size < (w2.alloc (.cells #[.int .i64 (E 0), .int .i64 (B 0), .slice p0 (Q 0).length k0, .int .i64 (E 1), .int .i64 (B 1), .slice p1 (Q 1).length k1, .int .i64 (E 2), .int .i64 (B 2), .slice p2 (Q 2).length k2, .int .i64 (E 3), .int .i64 (B 3), .slice p3 (Q 3).length k3, vk] 82)).heap.size := by rw [World.size_alloc]; omega
  rw [← hvk]
  generalize hw3 : w2.alloc (.cells #[.int .i64 (E 0), .int .i64 (B 0), .slice p0 (Q 0).length k0, .int .i64 (E 1), .int .i64 (B 1), .slice p1 (Q 1).length k1, .int .i64 (E 2), .int .i64 (B 2), .slice p2 (Q 2).length k2, .int .i64 (E 3), .int .i64 (B 3), .slice p3 (Q 3).length k3, vk] 82) = w3 at hcF hA hsz3
  obtain ⟨nb, hnb⟩ : ∃ nb, nb = w2.heap.size := ⟨_, rfl⟩
  have ht := turn_any hA hs ep
  rw [Nat.zero_add] at ht
  have c03 : Chg (fun _ => False) w w3 := c02.trans hcF (fun _ _ h => h)
  have y0 := hcF.cellAt x0 id
  have y2 := hcF.cellAt x2 id
  have y3 := hcF.cellAt x3 id
  have y4 := hcF.cellAt x4 id
  clear x0 x1 x2 x3 x4 hw3 hA hcF hF2
  refine ht.mono ?_
  rintro _ w4 ⟨rfl, hT, c34⟩
  clear ht
  rw [← hnb] at hT c34 hxl2 hbl2 hsz3 ⊢
  have HNB : Hid (nb = w2.heap.size) := hnb
  clear hnb hlow2
  have c04 : Chg (fun _ => False) w w4 := c03.trans c34 (fun k hk h => by omega)
  have z0 := c34.cellAt y0 (by omega)
  have z2 := c34.cellAt y2 (by omega)
  have z3 := c34.cellAt y3 (by omega)
  have z4 := c34.cellAt y4 (by omega)
  have hsz4 : nb < w4.heap.size := Nat.lt_of_lt_of_le hsz3 c34.size
  clear y0 y2 y3 y4 c03 c02 c34 hsz3
  obtain ⟨TB, hTB⟩ : ∃ x, x = tB E B s ep := ⟨_, rfl⟩
  obtain ⟨TQ, hTQ⟩ : ∃ x, x = tQ E Q s ep := ⟨_, rfl⟩
  obtain ⟨TE, hTE⟩ : ∃ x, x = tE E s ep := ⟨_, rfl⟩
  obtain ⟨TV, hTV⟩ : ∃ x, x = tV E V s ep := ⟨_, rfl⟩
  rw [← hTB, ← hTQ, ← hTE, ← hTV] at hT
  have hcnt := counts_nonneg hfit.led.count
  have hqlt : 0 ≤ qLens Q 4 := by simp [qLens]; omega
  have hTB0 : 0 ≤ TB ∧ TB ≤ counts ks := by
    rw [hTB]; unfold tB
    split
    · exact ⟨Int.le_refl _, hcnt⟩
    · exact hfit.ba s hs
  have htot := hfit.led.total
  have hacc : Hid (accH E B Q ks s ep num key val = if ¬ (0 ≤ num ∧ num < TB + 4) then ((0, 5), none) else if num < TB ∨ TQ.any (fun y => y.num == num) = true then ((TB, 0), none) else if roomErr key ks (upd Q s TQ) ≠ 0 then ((0, roomErr key ks (upd Q s TQ)), none) else (((drainH 5 TB (upFn (TQ.length + 1) (TQ ++ [⟨num, key, val⟩]) TQ.length) ks).1, 0), some (TE, (drainH 5 TB (upFn (TQ.length + 1) (TQ ++ [⟨num, key, val⟩]) TQ.length) ks).1, (drainH 5 TB (upFn (TQ.length + 1) (TQ ++ [⟨num, key, val⟩]) TQ.length) ks).2.1, (drainH 5 TB (upFn (TQ.length + 1) (TQ ++ [⟨num, key, val⟩]) TQ.length) ks).2.2))) := by
    show _ = _
    rw [hTB, hTQ, hTE]; rfl
  have HTQ : Hid (TQ = tQ E Q s ep) := hTQ
  have HTV : Hid (TV = tV E V s ep) := hTV
  clear hTB hTQ hTE hTV hV0 hV1 hV2 hV3 hvk hep
  have hba := hT.cells.ba s hs
  rw [Nat.zero_add, upd_same] at hba
  have hre := reaches_any nb (s * 3) TB num w4 hba (by omega)
  go_wp2_with fail
  refine hre.mono ?_
  rintro _ w5 ⟨rfl, q45⟩
  have c05 : Chg (fun _ => False) w w5 := c04.trans (q45.chg _) (fun _ _ h => h)
  have hT5 := hT.chg hsz4 (q45.chg (fun _ => False)) id (fun _ _ _ _ => id) (fun _ _ => id)
  rw [← q45.cell] at z0 z2 z3 z4
  have hsz5 : nb < w5.heap.size := Nat.lt_of_lt_of_le hsz4 (q45.chg (fun _ => False)).size
  clear hre q45 hba hT c04 hsz4
  by_cases hrea : 0 ≤ num ∧ num < TB + 4
  · have hd : decide (0 ≤ num ∧ num < TB + 4) = true := by simpa using hrea
    rw [hd]
    clear hd
    have hba := hT5.cells.ba s hs
    have hqu := hT5.cells.qu s hs
    have hrow := hT5.rows s hs
    rw [Nat.zero_add, upd_same] at hba hqu
    rw [upd_same, upd_same] at hrow
    have hTQl : TQ.length ≤ 3 := by
      rw [HTQ.out]; unfold tQ
      split
      · simp
      · exact hfit.ql s hs
    by_cases hlow : num < TB
    · have hha := has_low nb (s * 3) TB num w5 hsz5 hba hlow
      go_wp2_with fail
      refine hha.mono ?_
      rintro _ w6 ⟨rfl, c56⟩
      have hba6 := c56.cellAt hba id
      clear hha hba hqu
      go_wp2_with fail
      go_ret3
      have e : accH E B Q ks s ep num key val = ((TB, 0), none) := by rw [hacc.out]; simp [hrea, hlow]
      rw [e]
      exact ⟨rfl, c05.trans c56 (fun _ _ h => h)⟩
    · have hha := has_high lo nb (s * 3) TQ.length TB num TV TQ w5 hsz5 hba hlow hqu hrow rfl (by omega)
      by_cases hany : TQ.any (fun y => y.num == num) = true
      · rw [hany] at hha
        go_wp2_with fail
        refine hha.mono ?_
        rintro _ w6 ⟨rfl, c56⟩
        have hba6 := c56.cellAt hba id
        clear hha hba hqu
        go_wp2_with fail
        go_ret3
        have e : accH E B Q ks s ep num key val = ((TB, 0), none) := by rw [hacc.out]; simp only [hrea, hany]; simp
        rw [e]
        exact ⟨rfl, c05.trans c56 (fun _ _ h => h)⟩
      · have hanyf : TQ.any (fun y => y.num == num) = false := by simpa using hany
        rw [hanyf] at hha
        go_wp2_with fail
        refine hha.mono ?_
        rintro _ w6 ⟨rfl, c56⟩
        have hT6 := hT5.chg hsz5 c56 id (fun _ _ _ _ => id) (fun _ _ => id)
        have c06 : Chg (fun _ => False) w w6 := c05.trans c56 (fun _ _ h => h)
        replace z0 := c56.cellAt z0 id
        replace z2 := c56.cellAt z2 id
        replace z3 := c56.cellAt z3 id
        replace z4 := c56.cellAt z4 id
        have hsz6 : nb < w6.heap.size := Nat.lt_of_lt_of_le hsz5 c56.size
        have hUQ : ∀ i, i < 4 → (upd Q s TQ i).length ≤ 3 := fun i hi => by
          by_cases e : i = s
          · subst e; rw [upd_same]; exact hTQl
          · rw [upd_ne _ _ e]; exact hfit.ql i hi
        have hro := checkRoom_any lo nb 0 (upd E s TE) (upd B s TB) (upd V s TV) vk (upd Q s TQ) ks key w6 hsz6 hT6.cells hT6.keys hfit.kl (fun k hk => ⟨hfit.led.count k hk, by have := (count_le hfit.led.count k hk).1; omega⟩) (by omega) hT6.rows (fun i hi => by have := hUQ i hi; omega) (theNames_length _ _ hfit.kl (fun i hi => by have := hUQ i hi; omega))
        obtain ⟨RM, hRM⟩ : ∃ x, x = roomErr key ks (upd Q s TQ) := ⟨_, rfl⟩
        rw [← hRM] at hro
        have HRM : Hid (RM = roomErr key ks (upd Q s TQ)) := hRM
        clear hha hba hqu hrow hRM hT5 c05 c56 hsz5
        go_wp2_with fail
        refine hro.mono ?_
        rintro _ w7 ⟨rfl, c67⟩
        by_cases hrm : RM = 0
        · subst hrm
          clear hro
          have hok : okKey key = true ∧ 0 ≤ val ∧ val ≤ 4294967295 := by
            unfold recErr at hgood
            simp only at hgood
            split at hgood
            · cases hgood
            · split at hgood
              · cases hgood
              · rename_i h1 h2
                refine ⟨?_, by omega, by omega⟩
                cases e : okKey key with
                | true => rfl
                | false => exact absurd (Or.inl e) h2
          have hkey6 : key.size ≤ 6 ∧ ∃ c r, key.data.toList = c :: r ∧ okFirst c = true := by
            have := hok.1
            unfold okKey at this
            split at this
            · cases this
            · rename_i c r hl
              simp at this
              exact ⟨this.2, c, r, hl, this.1⟩
          have hT7 := hT6.chg hsz6 c67 id (fun _ _ _ _ => id) (fun _ _ => id)
          have c07 : Chg (fun _ => False) w w7 := c06.trans c67 (fun _ _ h => h)
          have hsz7 : nb < w7.heap.size := Nat.lt_of_lt_of_le hsz6 c67.size
          replace z0 := c67.cellAt z0 id
          replace z2 := c67.cellAt z2 id
          replace z3 := c67.cellAt z3 id
          replace z4 := c67.cellAt z4 id
          have hcl := clone_any key w7.drew hkey6.1
          have hadd := fun (W : World) (cW : Chg (fun _ => False) w7 W) => addf_any (hT7.chg hsz7 cW id (fun _ _ _ _ => id) (fun _ _ => id)) hs ⟨num, key, val⟩ (by rw [upd_same]; omega)
          simp only [Nat.zero_add, upd_same, Wt.agg] at hadd
          have HADD : Hid (∀ (W : World), Chg (fun _ => False) w7 W → _) := hadd
          clear hadd hT6 c06 c67 hsz6
          go_wp2_with fail
          go_cut [] from 10 (fun wc => ∃ v9, FlowAt wc lo nb 0 (upd E s TE) (upd B s TB) (upd (upd V s TV) s v9) vk (upd (upd Q s TQ) s (upFn (TQ.length + 1) (TQ ++ [⟨num, key, val⟩]) TQ.length)) ks ∧ (v9.ownBlock = TV.ownBlock ∨ ∀ k, v9.ownBlock = some k → w7.heap.size ≤ k) ∧ Chg (fun k => k = nb ∨ TV.ownBlock = some k) w7 wc)
          case first =>
            go_region_with (first | (go_at_call 49; refine hcl.mono ?_; rintro _ w8 ⟨rfl, c78⟩; have t2 := c78.cellAt (show w7.drew.cell? _ = _ from z2) id; have t3 := c78.cellAt (show w7.drew.cell? _ = _ from z3) id; have t4 := c78.cellAt (show w7.drew.cell? _ = _ from z4) id) | (go_at_call 48; refine (HADD.out _ ((Chg.refl _ w7).drew.trans c78 (fun _ _ h => h))).mono ?_; rintro _ w9 ⟨v9, rfl, hT9, hw9, c89⟩))
            all_goals
              go_wp2_with fail
              go_meet
              case rel =>
                refine ⟨v9, hT9, hw9.imp id (fun h k hk => Nat.le_trans c78.size (h k hk)), ?_⟩
                exact ((Chg.refl _ w7).drew.trans (c78.mono (fun _ h => h.elim)) (fun _ _ h => h)).trans c89 (fun _ _ h => h)
          case rest =>
            obtain ⟨v9, hT9, hw9, c79⟩ := hcut
            clear HADD hcl hT7
            rw [upd_upd, upd_upd] at hT9
            obtain ⟨q2, hq2⟩ : ∃ q2, q2 = upFn (TQ.length + 1) (TQ ++ [⟨num, key, val⟩]) TQ.length := ⟨_, rfl⟩
            rw [← hq2] at hT9
            have hq2l : q2.length = TQ.length + 1 := by rw [hq2, upFn_length]; simp
            have hq2m : ∀ y ∈ q2, y.ok := fun y hy => by
              rw [hq2] at hy
              rcases List.mem_append.1 (mem_upFn _ _ _ hy) with h | h
              · rw [HTQ.out] at h
                unfold tQ at h
                split at h
                · simp at h
                · exact hfit.wok s hs y h
              · simp at h; subst h; exact ⟨hkey6.2, hok.2⟩
            have hTVlt : ∀ k, TV.ownBlock = some k → k < w.heap.size := fun k hk => by
              rw [HTV.out] at hk
              unfold tV at hk
              split at hk
              · simp [Value.ownBlock] at hk
              · exact ((hF.rows s hs).lt k hk).2
            have hTVs : ∀ k, TV.ownBlock = some k → (V s).ownBlock = some k := fun k hk => by
              rw [HTV.out] at hk
              unfold tV at hk
              split at hk
              · simp [Value.ownBlock] at hk
              · exact hk
            have hvlt : ∀ k, vk.ownBlock = some k → k < w.heap.size := fun k hk => (hF.keys.lt k hk).2
            have hroom : counts ks + qLens (upd Q s TQ) 4 < 1000 := by
              have h0 := HRM.out
              unfold roomErr at h0
              split at h0
              · cases h0
              · split at h0
                · cases h0
                · omega
            have hge := qLens_ge (upd Q s TQ) s hs
            rw [upd_same] at hge
            have hLd : Led ks ((q2.length : Int)) := ⟨hfit.led.sorted, hfit.led.first, hfit.led.fold, hfit.led.count, by rw [hq2l]; omega⟩
            have hsz9 : nb < wc.heap.size := Nat.lt_of_lt_of_le hsz7 c79.size
            have hdr := drainf_any hT9 hs (by rw [upd_same]; omega) (by have := hfit.kl; omega) (by rw [upd_same, upd_same]; omega) (by rw [upd_same]; exact hLd) (by rw [upd_same]; exact hq2m)
            simp only [upd_same, upd_upd] at hdr
            obtain ⟨D, hD⟩ : ∃ D, D = drainH 5 TB q2 ks := ⟨_, rfl⟩
            rw [← hD] at hdr
            have z0' := c79.cellAt z0 (by rintro (h | h); omega; have := hTVlt _ h; omega)
            have hacc2 : Hid (accH E B Q ks s ep num key val = ((D.1, 0), some (TE, D.1, D.2.1, D.2.2))) := by
              show _ = _
              have hlow' : ¬ num < TB := by omega
              rw [hacc.out, if_neg (fun h => h hrea), if_neg (fun h => by rcases h with h | h; exact hlow' h; rw [hanyf] at h; cases h), if_neg (fun h => h HRM.out.symm), ← hq2, ← hD]
            clear hq2 hD hacc HRM z0 z2 z3 z4 hge hrea hanyf hany hlow
            go_wp2_with fail
            refine hdr.mono ?_
            rintro _ w10 ⟨v10, vk10, rfl, hT10, hv10, hk10, c910⟩
            clear hdr
            have hsz10 : nb < w10.heap.size := Nat.lt_of_lt_of_le hsz9 c910.size
            have hw7 : w.heap.size ≤ w7.heap.size := c07.size
            have c010 : Chg (fun k => (V s).ownBlock = some k ∨ vk.ownBlock = some k) w w10 := by
              refine ((c07.mono (fun _ h => h.elim)).trans c79 (fun n hn h => ?_)).trans c910 (fun n hn h => ?_)
              · rcases h with h | h
                · omega
                · exact .inl (hTVs n h)
              · rcases h with h | h | h
                · omega
                · rcases hw9 with h9 | h9
                  · rw [h9] at h; exact .inl (hTVs n h)
                  · have := h9 n h; omega
                · exact .inr h
            have hnb' : ¬ ((V s).ownBlock = some b ∨ vk.ownBlock = some b) := by
              rintro (h | h)
              · exact hF.own s hs h
              · exact hF.ownk h
            have hFo := hF.cells.chg c010 hnb'
            have hfz : ∀ j, w10.frozen? ⟨b, j, none⟩ = false := fun j => (World.frozen?_of_block (w := w) (c010.block b hbl hnb')).trans (hF.froz j)
            obtain ⟨E', hE'⟩ : ∃ x, x = upd E s TE := ⟨_, rfl⟩
            obtain ⟨B', hB'⟩ : ∃ x, x = upd B s D.1 := ⟨_, rfl⟩
            obtain ⟨V', hV'⟩ : ∃ x, x = upd V s v10 := ⟨_, rfl⟩
            obtain ⟨Q', hQ'⟩ : ∃ x, x = upd Q s D.2.1 := ⟨_, rfl⟩
            have hbD := hT10.cells.ba s hs
            rw [upd_same, Nat.zero_add] at hbD
            have HE' : Hid (E' = upd E s TE) := hE'
            have HB' : Hid (B' = upd B s D.1) := hB'
            have HV' : Hid (V' = upd V s v10) := hV'
            have HQ' : Hid (Q' = upd Q s D.2.1) := hQ'
            rw [← hE', ← hB', ← hV', ← hQ'] at hT10
            clear hE' hB' hV' hQ'
            obtain ⟨p0', k0', hV0'⟩ := row_any (hT10.rows 0 (by omega))
            obtain ⟨p1', k1', hV1'⟩ := row_any (hT10.rows 1 (by omega))
            obtain ⟨p2', k2', hV2'⟩ := row_any (hT10.rows 2 (by omega))
            obtain ⟨p3', k3', hV3'⟩ := row_any (hT10.rows 3 (by omega))
            obtain ⟨pk', kc', hvk'⟩ := row_any hT10.keys
            have n0 := hT10.cells.ep 0 (by omega); have n1 := hT10.cells.ba 0 (by omega); have n2 := hT10.cells.qu 0 (by omega)
            have n3 := hT10.cells.ep 1 (by omega); have n4 := hT10.cells.ba 1 (by omega); have n5 := hT10.cells.qu 1 (by omega)
            have n6 := hT10.cells.ep 2 (by omega); have n7 := hT10.cells.ba 2 (by omega); have n8 := hT10.cells.qu 2 (by omega)
            have n9 := hT10.cells.ep 3 (by omega); have n10 := hT10.cells.ba 3 (by omega); have n11 := hT10.cells.qu 3 (by omega)
            have n12 := hT10.cells.le
            rw [hV0'] at n2; rw [hV1'] at n5; rw [hV2'] at n8; rw [hV3'] at n11; rw [hvk'] at n12
            simp only [Nat.zero_mul, Nat.one_mul, Nat.add_zero, Nat.zero_add, Nat.reduceMul, Nat.reduceAdd] at n0 n1 n2 n3 n4 n5 n6 n7 n8 n9 n10 n11 n12
            have o0 := hFo.ep 0 (by omega); have o1 := hFo.ba 0 (by omega); have o2 := hFo.qu 0 (by omega)
            have o3 := hFo.ep 1 (by omega); have o4 := hFo.ba 1 (by omega); have o5 := hFo.qu 1 (by omega)
            have o6 := hFo.ep 2 (by omega); have o7 := hFo.ba 2 (by omega); have o8 := hFo.qu 2 (by omega)
            have o9 := hFo.ep 3 (by omega); have o10 := hFo.ba 3 (by omega); have o11 := hFo.qu 3 (by omega)
            have o12 := hFo.le
            simp only [Nat.zero_mul, Nat.one_mul, Nat.add_zero, Nat.reduceMul, Nat.add_assoc, Nat.reduceAdd] at o0 o1 o2 o3 o4 o5 o6 o7 o8 o9 o10 o11 o12
            have f0 := hfz o; have f1 := hfz (o + 1); have f2 := hfz (o + 2); have f3 := hfz (o + 3); have f4 := hfz (o + 4); have f5 := hfz (o + 5); have f6 := hfz (o + 6); have f7 := hfz (o + 7); have f8 := hfz (o + 8); have f9 := hfz (o + 9); have f10 := hfz (o + 10); have f11 := hfz (o + 11); have f12 := hfz (o + 12)
            go_wp2_with fail
            go_ret3
            rw [hacc2.out]
            refine ⟨rfl, ?_⟩
            have hsome : ∀ j, j < 13 → (w10.cell? ⟨b, o + j, none⟩).isSome = true := fun j hj => by
              by_cases h12 : j = 12
              · subst h12; rw [hFo.le]; rfl
              · rcases (by omega : j % 3 = 0 ∨ j % 3 = 1 ∨ j % 3 = 2) with h3 | h3 | h3
                · rw [show o + j = o + j / 3 * 3 by omega, hFo.ep (j / 3) (by omega)]; rfl
                · rw [show o + j = o + j / 3 * 3 + 1 by omega, hFo.ba (j / 3) (by omega)]; rfl
                · rw [show o + j = o + j / 3 * 3 + 2 by omega, hFo.qu (j / 3) (by omega)]; rfl
            obtain ⟨sl, cg⟩ := setCells_slots b (cells13 E' B' V' vk10) o w10
            have hv10s : ∀ k, v10.ownBlock = some k → (V s).ownBlock = some k ∨ w.heap.size ≤ k := fun k hk => by
              rw [hv10] at hk
              rcases hw9 with h9 | h9
              · rw [h9] at hk; exact .inl (hTVs k hk)
              · have := h9 k hk; exact .inr (by omega)
            have hk10s : ∀ k, vk10.ownBlock = some k → vk.ownBlock = some k ∨ w.heap.size ≤ k := fun k hk => by
              rcases hk10 with h9 | h9
              · rw [h9] at hk; exact .inl hk
              · have := h9 k hk; have := c79.size; exact .inr (by omega)
            have hV'b : ∀ i, i < 4 → (V' i).ownBlock ≠ some b := fun i hi h => by
              rw [HV'.out] at h
              by_cases e : i = s
              · subst e
                rw [upd_same] at h
                rcases hv10s b h with h' | h'
                · exact hF.own i hi h'
                · omega
              · rw [upd_ne _ _ e] at h
                exact hF.own i hi h
            have hvkb : vk10.ownBlock ≠ some b := fun h => by
              rcases hk10s b h with h' | h'
              · exact hF.ownk h'
              · omega
            have hAt : FlowAt (w10.setCells b o (cells13 E' B' V' vk10)) lo b o E' B' V' vk10 Q' D.2.2 :=
              ⟨flow_put E' B' V' vk10 hsome, fun j => (sl.frozen j).trans (hfz j), fun i hi => cg.row' (hT10.rows i hi) (fun k hk e => hV'b i hi (by rw [← e]; exact hk)), cg.row' hT10.keys (fun k hk e => hvkb (by rw [← e]; exact hk)), hV'b, hvkb, hT10.sep, hT10.sepk, Nat.le_trans hT10.low cg.size⟩
            have P : AccPost lo b o s E B V vk Q w (w10.setCells b o (cells13 E' B' V' vk10)) (some (TE, D.1, D.2.1, D.2.2)) := by
              refine ⟨v10, vk10, ?_, hv10s, hk10s, (Slots.of_chg _ c010 hbl hnb').trans sl (fun j hj => hj), (c010.mono (fun k hk => .inr hk)).trans cg (fun k _ hk => .inl hk)⟩
              rw [← HE'.out, ← HB'.out, ← HV'.out, ← HQ'.out]
              exact hAt
            unfold cells13 at P
            rw [hV0', hV1', hV2', hV3', hvk'] at P
            exact P
        · have hrb : (RM != 0) = true := by simpa using hrm
          clear hro
          go_wp2_with fail
          go_ret3
          have e : accH E B Q ks s ep num key val = ((0, RM), none) := by
            rw [hacc.out, ← HRM.out]
            have hlow' : ¬ num < TB := by omega
            rw [if_neg (fun h => h hrea), if_neg (fun h => by rcases h with h | h; exact hlow' h; rw [hanyf] at h; cases h), if_pos hrm]
          rw [e]
          exact ⟨rfl, c06.trans c67 (fun _ _ h => h)⟩
  · have hd : decide (0 ≤ num ∧ num < TB + 4) = false := by simpa using hrea
    rw [hd]
    have hrea' : Hid (¬ (0 ≤ num ∧ num < TB + 4)) := hrea
    clear hd hrea
    go_wp2_with fail
    go_ret3
    have e : accH E B Q ks s ep num key val = ((0, 5), none) := by rw [hacc.out, if_pos hrea'.out]
    rw [e]
    exact ⟨rfl, c05⟩

end Go.Proofs.YthedkdbgfdjlkaaGreat

/- slices.Values, slices.AppendSeq, slices.Collect over the queue, WALKED: a range over a function. -/
namespace Go.Proofs.YthedkdbgfdjlkaaGreat
set_option linter.unusedVariables false
set_option linter.unusedSimpArgs false
open Go.RowKit Go.Shelf

attribute [local go_sem] Oper.semAt_some

/-- The slice value sv holds qs, in a block below n0; or it is nil. -/
def WtsAt (n0 : Nat) (W : World) (sv : Value) (qs : List Wt) : Prop :=
  (sv = .slice none 0 0 ∧ qs = []) ∨ ∃ b cap, sv = .slice (some ⟨b, 0, none⟩) qs.length cap ∧ b < n0 ∧ ∀ (j : Nat) (x : Wt), qs[j]? = some x → W.cell? ⟨b, j * 3, none⟩ = some (.int .i64 x.num) ∧ W.cell? ⟨b, j * 3 + 1, none⟩ = some (.string x.key) ∧ W.cell? ⟨b, j * 3 + 2, none⟩ = some (.int .i64 x.val)

theorem WtsAt.below {n0 : Nat} {A B : World} (h : Below n0 A B) {sv : Value} {qs : List Wt} : WtsAt n0 A sv qs → WtsAt n0 B sv qs
  | .inl e => .inl e
  | .inr ⟨b, cap, e, hb, hc⟩ => .inr ⟨b, cap, e, hb, fun j x hj => ⟨(h.cell (p := ⟨b, j * 3, none⟩) hb).trans (hc j x hj).1, (h.cell (p := ⟨b, j * 3 + 1, none⟩) hb).trans (hc j x hj).2.1, (h.cell (p := ⟨b, j * 3 + 2, none⟩) hb).trans (hc j x hj).2.2⟩⟩

set_option maxRecDepth 100000 in
set_option maxHeartbeats 2000000 in
theorem values1_in (F : Fence) (n : Nat) (h7 : F.fn 107) (hro : F.round = none) (hn : 1 ≤ n) (l Bs n0 b cap : Nat) (qs : List Wt) (hreach : qs.length ≤ 1000) (hb : b < n0) (J Jx : List Wt → World → Prop)
    (hY : ∀ pre x W, J pre W → pre.length < qs.length → YieldAt F (n - 1) Tryz.prog l #[Wt.agg x] W fun e W' =>
      (e = .returned (.bool true) ∧ J (pre ++ [x]) W' ∧ Below n0 W W') ∨ (e = .returned (.bool false) ∧ Jx (pre ++ [x]) W'))
    (W : World) (hJ : AbidesFrom W.heap.size J) (hn0 : n0 ≤ W.heap.size) (hBs : Bs < W.heap.size) (hBs1 : W.cell? ⟨Bs, 0, none⟩ = some (.slice (some ⟨b, 0, none⟩) qs.length cap))
    (hc : ∀ (j : Nat) (x : Wt), qs[j]? = some x → W.cell? ⟨b, j * 3, none⟩ = some (.int .i64 x.num) ∧ W.cell? ⟨b, j * 3 + 1, none⟩ = some (.string x.key) ∧ W.cell? ⟨b, j * 3 + 2, none⟩ = some (.int .i64 x.val)) (h0 : J [] W) :
    CallsIn F n Tryz.prog 107 #[.func (.yield l) #[] #[], .pointer (some ⟨Bs, 0, none⟩)] W fun e W' => (∃ v, e = .returned v) ∧
      ((∃ ys, ys = qs ∧ J ys W') ∨ (∃ pre, pre <+: qs ∧ Jx pre W')) := by
  refine callsIn_of_wp Tryz.func107 rfl h7 ?_ hro
  simp only [Tryz.ntmps107, List.size_toArray, List.length_cons, List.length_nil, Nat.reduceAdd, Nat.reduceSub, Array.replicate_succ, Array.replicate_zero, List.push_toArray, List.append_toArray, List.nil_append, List.cons_append]
  gi_wp2
  gi_loopw [4, 7] (fun _ i wr => ∃ k : Nat, k ≤ qs.length ∧ i = .int .i64 k ∧ J (qs.take k) wr ∧ Below n0 W wr)
    (fun _ i _ => qs.length - (intOf i).toNat)
  case atStart => exact ⟨0, Nat.zero_le _, rfl, h0, Below.refl _ _⟩
  case round =>
    obtain ⟨k, hk, rfl, hJs, hnx⟩ := hrel
    by_cases hlt : k < qs.length
    · obtain ⟨x, hx⟩ : ∃ x, qs[k]? = some x := ⟨_, List.getElem?_eq_getElem hlt⟩
      obtain ⟨c0, c1, c2⟩ := hc k x hx
      have d0 := (hnx.cell (p := ⟨b, k * 3, none⟩) hb).trans c0
      have d1 := (hnx.cell (p := ⟨b, k * 3 + 1, none⟩) hb).trans c1
      have d2 := (hnx.cell (p := ⟨b, k * 3 + 2, none⟩) hb).trans c2
      have hkl' : (k : Int) < (qs.length : Int) := by omega
      have hsz := hnx.size
      obtain ⟨W1, hW1⟩ : ∃ W1, W1 = wr.alloc (.cells #[.int .i64 x.num, .string x.key, .int .i64 x.val] 122) := ⟨_, rfl⟩
      have hJ1 : J (qs.take k) W1 := by rw [hW1]; exact hJ _ _ _ _ hJs (World.grownBy_alloc wr _ none) (fun r e => by cases e)
      obtain ⟨fn, tmps, assign, body, hy, hR⟩ := hY _ x W1 hJ1 (by simp; omega)
      have hb1 : Below n0 wr W1 := by rw [hW1]; exact (Below.refl _ wr).alloc (by omega) _
      unfold Wt.agg at hy
      rw [hW1] at hy hR
      gi_wp2
      refine hR.mono ?_
      rintro e W3 (⟨rfl, hJ3, hk3⟩ | ⟨rfl, hJx3⟩)
      · gi_wp2
        go_roundw
        case rel =>
          refine ⟨k + 1, by omega, by simp, ?_, (hnx.trans hb1).trans (by rw [hW1]; exact hk3)⟩
          rw [List.take_add_one, hx]; exact hJ3
        case measure => simp [intOf]; omega
      · gi_wp2
        refine bodyPost_ret (results_none rfl _ _ _) rfl ?_
        refine ⟨⟨_, rfl⟩, .inr ⟨_, ?_, hJx3⟩⟩
        have e : qs.take k ++ [x] = qs.take (k + 1) := by rw [List.take_add_one, hx]; rfl
        rw [e]; exact List.take_prefix _ _
    · obtain rfl : k = qs.length := by omega
      have hkl' : ¬ (qs.length : Int) < (qs.length : Int) := by omega
      gi_wp2
      go_end0
      rw [List.take_length] at hJs
      exact ⟨⟨_, rfl⟩, .inl hJs⟩

set_option maxRecDepth 100000 in
set_option maxHeartbeats 1000000 in
theorem values1_nil_in (F : Fence) (n : Nat) (h7 : F.fn 107) (hro : F.round = none) (l Bs : Nat) (J : List Wt → World → Prop) (W : World) (hBs : W.cell? ⟨Bs, 0, none⟩ = some (.slice none 0 0)) (h0 : J [] W) :
    CallsIn F n Tryz.prog 107 #[.func (.yield l) #[] #[], .pointer (some ⟨Bs, 0, none⟩)] W fun e W' => (∃ v, e = .returned v) ∧ J [] W' := by
  refine callsIn_of_wp Tryz.func107 rfl h7 ?_ hro
  simp only [Tryz.ntmps107, List.size_toArray, List.length_cons, List.length_nil, Nat.reduceAdd, Nat.reduceSub, Array.replicate_succ, Array.replicate_zero, List.push_toArray, List.append_toArray, List.nil_append, List.cons_append]
  gi_wp2
  gi_loopw [7] (fun i wr => i = .int .i64 0 ∧ J [] wr) (fun _ _ => 0)
  case atStart => exact ⟨rfl, h0⟩
  case round =>
    obtain ⟨rfl, hJs⟩ := hrel
    gi_wp2
    go_end0
    exact ⟨⟨_, rfl⟩, hJs⟩

set_option maxHeartbeats 1000000 in
theorem values_in (F : Fence) (n : Nat) (h5 : F.fn 82) (hro : F.round = none) (a : Option Addr) (len cap : Nat) (w : World) :
    CallsIn F n Tryz.prog 82 #[.slice a len cap] w fun e w' => e = .returned (.func (.func 107) #[] #[.pointer (some ⟨w.heap.size, 0, none⟩)]) ∧ w' = w.alloc (.cells #[.slice a len cap] 76) := by
  refine callsIn_of_wp Tryz.func82 rfl h5 ?_ hro
  simp only [Tryz.ntmps82, List.size_toArray, List.length_cons, List.length_nil, Nat.reduceAdd, Nat.reduceSub, Array.replicate_succ, Array.replicate_zero, List.push_toArray, List.append_toArray, List.nil_append, List.cons_append]
  gi_wp2
  go_ret
  exact ⟨rfl, rfl⟩

theorem values_stops (F : Fence) (n : Nat) (h7 : F.fn 107) (hro : F.round = none) (hn : 1 ≤ n) (Bs n0 : Nat) (sv : Value) (qs : List Wt) (hreach : qs.length ≤ 1000) (w : World) (hBs : Bs < w.heap.size) (hn0 : n0 ≤ w.heap.size)
    (hc : w.cell? ⟨Bs, 0, none⟩ = some sv) (hI : WtsAt n0 w sv qs) :
    SeqStopsK F n Tryz.prog 107 #[.pointer (some ⟨Bs, 0, none⟩)] (fun x : Wt => #[Wt.agg x]) (Below n0) (fun ys => ys = qs) (fun pre => pre <+: qs) qs.length w := fun l J Jx W hW hJ _ hY h0 => by
  have hc' := (hW.cell (p := ⟨Bs, 0, none⟩) hBs).trans hc
  have hsz := hW.size
  rcases hI.below (hW.mono hn0) with ⟨rfl, rfl⟩ | ⟨b, cap, rfl, hb, hcs⟩
  · exact (values1_nil_in F n h7 hro l Bs J W hc' h0).mono fun e W' ⟨he, hj⟩ => ⟨he, .inl ⟨_, rfl, hj⟩⟩
  · exact values1_in F n h7 hro hn l Bs n0 b cap qs hreach hb J Jx hY W hJ (by omega) (by omega) hc' hcs h0

end Go.Proofs.YthedkdbgfdjlkaaGreat

/- slices.AppendSeq, slices.Collect over the queue, WALKED. -/
namespace Go.Proofs.YthedkdbgfdjlkaaGreat
set_option linter.unusedVariables false
set_option linter.unusedSimpArgs false
open Go.RowKit Go.Shelf

attribute [local go_sem] Oper.semAt_some

/-- A waiter in a block of its own. -/
def BoxW (W : World) (B : Nat) (x : Wt) : Prop := W.heap[B]? = some (.cells #[.int .i64 x.num, .string x.key, .int .i64 x.val] 122 (0, 0))

theorem BoxW.cells {W : World} {B : Nat} {x : Wt} (h : BoxW W B x) : W.cell? ⟨B, 0, none⟩ = some (.int .i64 x.num) ∧ W.cell? ⟨B, 1, none⟩ = some (.string x.key) ∧ W.cell? ⟨B, 2, none⟩ = some (.int .i64 x.val) := by
  refine ⟨?_, ?_, ?_⟩ <;> simp [World.cell?, show W.heap[B]? = _ from h]

theorem boxW_own (B : Nat) (x : Wt) : Own (fun (_ : Unit) W => BoxW W B x) := fun s X Y row hs hg hrow => by
  have hlt : B < X.heap.size := (Array.getElem?_eq_some_iff.1 (show X.heap[B]? = _ from hs)).1
  refine (hg.block B hlt (fun e' => ?_)).trans hs
  obtain ⟨o, ho, hc⟩ := hrow B e'.symm
  rw [show X.heap[B]? = _ from hs] at ho; cases ho; cases hc

theorem wtCells_snoc (l : List Wt) (x : Wt) : wtCells (l ++ [x]) = wtCells l ++ [.int .i64 x.num, .string x.key, .int .i64 x.val] := wtCells_append l x

set_option maxRecDepth 100000 in
set_option maxHeartbeats 4000000 in
theorem appendSeq_in (F : Fence) (n : Nat) (h3 : F.fn 116) (h7 : F.fn 107) (hro : F.round = none) (hn : 3 ≤ n) (Bs : Nat) (sv : Value) (qs : List Wt) (hq : qs.length ≤ 1000) (w : World)
    (hBs : Bs < w.heap.size) (hc : w.cell? ⟨Bs, 0, none⟩ = some sv) (hI : WtsAt w.heap.size w sv qs) :
    CallsIn F n Tryz.prog 116 #[.slice none 0 0, .func (.func 107) #[] #[.pointer (some ⟨Bs, 0, none⟩)]] w fun e W' => ∃ v, e = .returned v ∧ W'.ownsRow w.heap.size 122 3 v qs.length (wtCells qs) ∧ Below w.heap.size w W' := by
  have h1 : 1 ≤ n := by omega
  obtain ⟨i0, hi, hz0, hz1, hz2⟩ := info_parts Tryz.infoW
  refine callsIn_of_wp_marks Tryz.func116 rfl h3 ?_ hro
  simp only [Tryz.ntmps116, List.size_toArray, List.length_cons, List.length_nil, Nat.reduceAdd, Nat.reduceSub, Array.replicate_succ, Array.replicate_zero, List.push_toArray, List.append_toArray, List.nil_append, List.cons_append]
  gi_wp2
  have bO := Boxed.new w 75 (.slice none 0 0)
  have hB0 : Below w.heap.size w (w.alloc (.cells #[.slice none 0 0] 75)) := (Below.refl _ w).alloc (Nat.le_refl _) _
  have hc0 := (hB0.cell (p := ⟨Bs, 0, none⟩) hBs).trans hc
  have hsz : (w.alloc (.cells #[.slice none 0 0] 75)).heap.size = w.heap.size + 1 := by simp
  obtain ⟨W0, hW0⟩ : ∃ W0, w.alloc (.cells #[.slice none 0 0] 75) = W0 := ⟨_, rfl⟩
  rw [hW0] at bO hB0 hc0 hsz ⊢
  clear hW0
  refine wpIn_rangeFunc_ownH hro h1 (gf := 107) (lb := #[.pointer (some ⟨Bs, 0, none⟩)]) rfl h7 (enters_of Tryz.func107 (by kernel_rfl) rfl)
    (values_stops F (n - 1) h7 hro (by omega) Bs w.heap.size sv qs hq W0 (by omega) (by omega) hc0 (hI.below hB0)) belowK_t (belowK_b (by omega)) (Below.refl _ _) (fun _ => rfl)
    (fun pre W => (∃ v, Boxed W w.heap.size 75 v ∧ W.ownsRow w.heap.size 122 3 v pre.length (wtCells pre) ∧ True) ∧ Below w.heap.size w W)
    (fun _ _ _ => False)
    (OwnFrom.and (Own.from (holdsRow_own w.heap.size w.heap.size 75 122 3 (fun pre => pre.length) (fun pre => wtCells pre) (fun _ _ => True)) _) (ownFrom_below (Nat.le_refl _) (by omega)))
    (fun _ _ _ _ _ hs _ _ => hs)
    ⟨⟨_, bO, World.ownsRow_nil _ _ _ _, trivial⟩, hB0⟩
    (fun x a' W => ∃ Bx, w.heap.size < Bx ∧ BoxW W Bx x ∧ a' = { tmps := #[.slice none 0 0, .func (.func 107) #[] #[.pointer (some ⟨Bs, 0, none⟩)], .pointer (some ⟨w.heap.size, 0, none⟩), undef, .slice none 0 0, .pointer (some ⟨Bx, 0, none⟩), .func (.func 107) #[] #[.pointer (some ⟨Bs, 0, none⟩)], Wt.agg x, undef, undef, undef, undef, undef], defers := [] })
    (fun x a' _ X Y row hs hg hr => by obtain ⟨Bx, h1, h2, h3⟩ := hs; exact ⟨Bx, h1, boxW_own Bx x () X Y row h2 hg (fun r e => (hr r e).2), h3⟩)
    ?assign ?body ?done ?stop
  case assign =>
    rintro l pre x W K ⟨⟨v, bS1, hrow, _⟩, hB1⟩ hK
    unfold Wt.agg
    gi_wp2
    exact hK _ _ ((KeepsOthers.alloc _ _).from _) ((Below.refl _ W).alloc hB1.size _) ⟨⟨v, bS1.alloc _, hrow.alloc _, trivial⟩, hB1.alloc hB1.size _⟩ ⟨W.heap.size, bS1.lt, World.alloc_heap_new W _, rfl⟩
  case body =>
    rintro l pre x a' W hl ⟨r, hr⟩ ⟨⟨v, hv, hrow, _⟩, hB⟩ ⟨Bx, hBx, bX, rfl⟩ hlt
    have hcv := hv.cell
    obtain ⟨x0, x1, x2⟩ := bX.cells
    have hpl : pre.length ≤ 1000 := by omega
    obtain ⟨pv, cv, rfl⟩ := row_any hrow
    have hnew : ∀ (j : Nat) (y : Value), [Value.int .i64 x.num, .string x.key, .int .i64 x.val][j]? = some y → (W.alloc (.cells #[.int .i64 x.num, .string x.key, .int .i64 x.val] 122)).cell? ((⟨W.heap.size, 0, none⟩ : Addr).add j) = some y := by
      intro j y hj
      rw [add_lit', Nat.zero_add]
      rcases j with _ | _ | _ | j <;> simp at hj <;> subst hj <;> exact World.cell?_alloc_at _ _ _ _ rfl
    have hone : ∀ u ∈ [Value.int .i64 x.num, .string x.key, .int .i64 x.val], u.oneCell' = true := by
      intro u hu
      simp at hu
      rcases hu with rfl | rfl | rfl <;> rfl
    have hle1 : pre.length + 1 ≤ maxLen := by unfold maxLen; omega
    have hle2 : (pre.length + 1) * 32 ≤ 140737488355328 := by omega
    have hle3 : w.heap.size ≤ (W.alloc (.cells #[.int .i64 x.num, .string x.key, .int .i64 x.val] 122)).heap.size := by have := hB.size; simp; omega
    gi_wp2_with (gi_at_builtin; refine wpListIn_append_own _ rfl _ _ 75 rfl w.heap.size 122 i0 (.agg #[.int .i64 0, .string ⟨#[]⟩, .int .i64 0]) 3 32 Tryz.underlying75 hi hz0 hz1 hz2 rfl (by decide) _ _ _ rfl (hrow.alloc _) ⟨W.heap.size, 0, none⟩ 1 1 [.int .i64 x.num, .string x.key, .int .i64 x.val] rfl rfl hnew hone hle1 hle2 hle3 ?_; intro v' w1 hown' hgrow _; obtain ⟨g', cap', rfl⟩ := ownsRow_succ hown'; obtain ⟨hv1, hv2, hr2, hk2, hb2⟩ := hv.appended (by decide) hrow hB.size (Nat.le_refl _) hown' hgrow; have hc1 := hv1.cell; have hf1 := hv1.frozen)
    exact ⟨hk2.from _, hb2, ⟨_, hv2, by rw [wtCells_snoc]; simpa using hr2, trivial⟩, hB.trans hb2⟩
  case done =>
    rintro D ys W hD rfl ⟨⟨v, hv, hrow, _⟩, hB⟩ hK
    have hcv := hv.cell
    gi_wp2
    refine ⟨by simp, .inl ⟨_, _, rfl, run_takeDeferred hK, ?_⟩⟩
    exact ⟨_, results_tmp rfl _ _ _, v, rfl, ownsRow_putObj hrow _ hK rfl, hB.trans (belowK_b (w := w) (Nat.le_refl _) W D _ _ (by omega) hK rfl rfl)⟩
  case stop =>
    rintro D c pre W _ _ h _
    exact h.elim

set_option maxHeartbeats 1000000 in
theorem collect_any (Bs : Nat) (sv : Value) (qs : List Wt) (hq : qs.length ≤ 1000) (w : World) (hBs : Bs < w.heap.size) (hc : w.cell? ⟨Bs, 0, none⟩ = some sv) (hI : WtsAt w.heap.size w sv qs) :
    Calls Tryz.prog 105 #[.func (.func 107) #[] #[.pointer (some ⟨Bs, 0, none⟩)]] w fun e W' => ∃ v, e = .returned v ∧ W'.ownsRow w.heap.size 122 3 v qs.length (wtCells qs) ∧ Below w.heap.size w W' := by
  have hap := callsIn_wide.1 (appendSeq_in Fence.wide 3 trivial trivial rfl (by omega) Bs sv qs hq w hBs hc hI)
  go_enter Tryz.func105, Tryz.ntmps105
  go_wp2_with fail
  refine hap.mono ?_
  rintro _ w1 ⟨v, rfl, h1, h2⟩
  go_wp2_with fail
  go_ret
  exact ⟨_, rfl, h1, h2⟩

end Go.Proofs.YthedkdbgfdjlkaaGreat

/- slices.SortedFunc over the queue, and the lane's ordered, WALKED. -/
namespace Go.Proofs.YthedkdbgfdjlkaaGreat
set_option linter.unusedVariables false
set_option linter.unusedSimpArgs false
open Go.RowKit Go.Shelf Go.Lib Go.Sort

/-- By their numbers, rising. -/
def Up (l : List Wt) : Prop := l.Pairwise fun a b => a.num < b.num

def wEnc (x : Wt) : List Value := [.int .i64 x.num, .string x.key, .int .i64 x.val]

theorem wEnc_len (x : Wt) : (wEnc x).length = 3 := rfl
theorem wEnc_one (x : Wt) : ∀ v ∈ wEnc x, v.oneCell' = true := by
  intro v hv
  simp [wEnc] at hv
  rcases hv with rfl | rfl | rfl <;> rfl

theorem wtCells_len3 : ∀ q : List Wt, (wtCells q).length = q.length * 3
  | [] => rfl
  | x :: r => by
    have := wtCells_len3 r
    simp [wtCells, this]; omega

theorem flat_cells [Inhabited Wt] (q : List Wt) : flatK wEnc 3 q.toArray = (wtCells q).toArray := by
  refine ext_get! (by simp [wtCells_len3]) fun t ht => ?_
  have ht' : t < q.length * 3 := by simpa using ht
  rw [get_flatK _ _ _ t (by simpa using ht')]
  obtain ⟨x, hx⟩ : ∃ x, q[t / 3]? = some x := ⟨_, List.getElem?_eq_getElem (by omega)⟩
  have hq : q.toArray[t / 3]! = x := by
    rw [getElem!_pos _ _ (by simp; omega)]
    have := List.getElem?_eq_some_iff.1 hx
    simpa using this.2
  rw [hq]
  obtain ⟨c0, c1, c2⟩ := wtCells_at q (t / 3) x hx
  have key : ∀ (u : Value), (wtCells q)[t]? = some u → (wtCells q).toArray[t]! = u := fun u hu => by
    obtain ⟨h1, h2⟩ := List.getElem?_eq_some_iff.1 hu
    rw [getElem!_pos _ _ (by simpa using h1)]
    simpa using h2
  rcases (by omega : t % 3 = 0 ∨ t % 3 = 1 ∨ t % 3 = 2) with h | h | h
  · rw [h, key _ (by rw [show t = t / 3 * 3 by omega]; exact c0)]; rfl
  · rw [h, key _ (by rw [show t = t / 3 * 3 + 1 by omega]; exact c1)]; rfl
  · rw [h, key _ (by rw [show t = t / 3 * 3 + 2 by omega]; exact c2)]; rfl

theorem holdsK_row [Inhabited Wt] {w : World} {lo g cap : Nat} {q : List Wt} (hr : w.ownsRow lo 122 3 (.slice (some ⟨g, 0, none⟩) q.length cap) q.length (wtCells q)) : HoldsK wEnc 3 w g 0 q.toArray := by
  unfold HoldsK
  rw [flat_cells]
  intro j hj
  have hj' : j < (wtCells q).length := by simpa using hj
  refine ⟨?_, row_frozen hr _⟩
  rw [Nat.zero_add]
  refine row_cell hr ?_
  rw [List.getElem?_eq_getElem hj', getElem!_pos _ j hj]
  simp

theorem putK_row [Inhabited Wt] {w : World} {lo g cap : Nat} {q ys : List Wt} (hr : w.ownsRow lo 122 3 (.slice (some ⟨g, 0, none⟩) q.length cap) q.length (wtCells q)) (hl : ys.length = q.length) (m : Nat) (os : Array Obj) :
    (sortWorldK wEnc 3 w g 0 m ys.toArray os).ownsRow lo 122 3 (.slice (some ⟨g, 0, none⟩) q.length cap) q.length (wtCells ys) ∧ Chg (fun k => k = g) w (sortWorldK wEnc 3 w g 0 m ys.toArray os) := by
  have hH := holdsK_row hr
  unfold HoldsK at hH
  rw [flat_cells] at hH
  unfold sortWorldK putRowK
  rw [flat_cells, putRow_eq_setCells id w g 0 (wtCells q).toArray (wtCells ys) m hH (by simp [wtCells_len3, hl])]
  have hr' : (w.drewN m).ownsRow lo 122 3 (.slice (some ⟨g, 0, none⟩) q.length cap) q.length (wtCells q) := hr
  obtain ⟨r1, c1⟩ := row_setCells ((wtCells ys).map id) 0 (w.drewN m) (wtCells q) hr' (by simp [wtCells_len3, hl])
  have e1 : (wtCells q).take 0 ++ (wtCells ys).map id ++ (wtCells q).drop (0 + ((wtCells ys).map id).length) = wtCells ys := by
    simp [wtCells_len3, hl]
  rw [e1] at r1
  have c0 : Chg (fun k => k = g) w (w.drewN m) := ⟨rfl, rfl, rfl, Nat.le_refl _, fun _ _ _ => rfl⟩
  exact ⟨(grow_chg _ os).row' r1 (fun _ _ h => h.elim), (c0.trans c1 (fun _ _ h => h)).trans (grow_chg _ os) (fun _ _ h => h.elim)⟩

def wCmp (x y : Wt) : Int := compareInt x.num y.num

set_option maxHeartbeats 400000 in
theorem ordered1_any (x y : Wt) (w : World) : Calls Tryz.prog 83 #[.agg (wEnc x).toArray, .agg (wEnc y).toArray] w fun e w' => e = .returned (.int .i64 (wCmp x y)) ∧ ∃ q os', w' = grow (w.drewN q) os' := by
  unfold wEnc wCmp
  go_enter Tryz.func83, Tryz.ntmps83
  go_wp2_with fail
  refine (Tryz.cmp_Compare_int x.num y.num _).mono ?_
  rintro _ w1 ⟨rfl, ew⟩
  rw [ew]
  clear ew w1
  go_wp2_with fail
  go_ret
  refine ⟨rfl, 0, #[.cells #[.int .i64 x.num, .string x.key, .int .i64 x.val] 122, .cells #[.int .i64 y.num, .string y.key, .int .i64 y.val] 122], ?_⟩
  rfl

theorem wCmp_lt (x y : Wt) : ltOf wCmp x y = decide (x.num < y.num) := by
  unfold ltOf wCmp compareInt
  by_cases h : x.num < y.num
  · simp [h]
  · by_cases h2 : x.num > y.num
    · simp [h, h2]
    · simp [h, h2]

theorem wCmp_swo : SWO (ltOf wCmp) := by
  refine ⟨fun x => ?_, fun x y z h1 h2 => ?_, fun x y z h1 h2 => ?_⟩
  · rw [wCmp_lt]; simp
  · rw [wCmp_lt] at h1 h2 ⊢
    simp only [decide_eq_true_eq] at h1 h2 ⊢
    omega
  · rw [wCmp_lt] at h1 h2 ⊢
    simp only [decide_eq_false_iff_not] at h1 h2 ⊢
    omega

theorem sorted_ws {q' ws : List Wt} (hu : Up ws) (hp : q'.Perm ws) (hs : q'.Pairwise fun a b => a.num ≤ b.num) : q' = ws := by
  refine List.Perm.eq_of_pairwise (le := fun a b => a.num ≤ b.num) (fun a b ha hb h1 h2 => ?_) hs (hu.imp (fun h => by omega)) hp
  have ha' : a ∈ ws := hp.mem_iff.1 ha
  obtain ⟨i, hi, rfl⟩ := List.getElem_of_mem ha'
  obtain ⟨j, hj, rfl⟩ := List.getElem_of_mem hb
  rcases Nat.lt_trichotomy i j with h | h | h
  · have := List.pairwise_iff_getElem.1 hu i j hi hj h; omega
  · subst h; rfl
  · have := List.pairwise_iff_getElem.1 hu j i hj hi h; omega

theorem sortFunc_any {w : World} {lo g cap : Nat} {q ws : List Wt} (hr : w.ownsRow lo 122 3 (.slice (some ⟨g, 0, none⟩) q.length cap) q.length (wtCells q)) (hq : q.length ≤ 12) (hu : Up ws) (hp : q.Perm ws) :
    Calls Tryz.prog 106 #[.slice (some ⟨g, 0, none⟩) q.length cap, .func (.func 83) #[] #[]] w fun e w' => e = .returned (.tuple #[]) ∧ w'.ownsRow lo 122 3 (.slice (some ⟨g, 0, none⟩) q.length cap) q.length (wtCells ws) ∧ Chg (fun k => k = g) w w' := by
  letI : Inhabited Wt := ⟨⟨0, ⟨#[]⟩, 0⟩⟩
  have hg : g < w.heap.size := (hr.lt g rfl).2
  have hS := AnyQ.slices_SortFunc_small_sorted (P := Tryz.prog) (ρ := Tryz.sortW_ren) Tryz.sortW 3 Tryz.isAgg122 Tryz.sizeOf122 wEnc wEnc_len wEnc_one wCmp 83 #[] wCmp_swo g 0 cap q.toArray w
    (enters_of Tryz.func83 (by kernel_rfl) rfl) (fun m os dk _ x y => ordered1_any x y _) (holdsK_row hr) hg (by simpa using hq)
    (fun n W hn => (Tryz.bits_Len (n : Int) W (by omega) (by omega)).mono fun _ _ ⟨h1, h2⟩ => ⟨⟨_, h1⟩, h2⟩)
  rw [List.size_toArray] at hS
  refine hS.mono ?_
  rintro e w' ⟨rfl, d', m, os, ⟨hsz, _, hperm⟩, hsort, rfl⟩
  have hpl : d'.toList.Perm q := by
    have h1 : (d'.extract 0 q.length).toList = d'.toList := by
      have hz : d'.toList.length = q.length := by simpa using hsz
      simp only [Array.toList_extract, List.extract_eq_take_drop, Nat.sub_zero, List.drop_zero]
      rw [← hz, List.take_length]
    have h2 : (q.toArray.extract 0 q.length).toList = q := by simp
    rw [h1, h2] at hperm
    exact hperm
  have hd : d' = (d'.toList).toArray := by simp
  have hso : d'.toList.Pairwise fun a b => a.num ≤ b.num := by
    rw [List.pairwise_iff_getElem]
    intro i j hi hj hij
    have h1 : j < d'.size := by simpa using hj
    have h2 : i < d'.size := by simpa using hi
    have hij' := hsort i j (Nat.zero_le _) hij (by have hz := hsz; simp at hz; omega)
    rw [getElem!_pos d' j h1, getElem!_pos d' i h2, wCmp_lt, decide_eq_false_iff_not] at hij'
    simp only [Array.getElem_toList]
    omega
  have e := sorted_ws hu (hpl.trans hp) hso
  have := putK_row (ys := d'.toList) hr hpl.length_eq m os
  rw [← hd, e] at this
  exact ⟨rfl, this⟩

set_option maxRecDepth 100000 in
set_option maxHeartbeats 1000000 in
theorem insertion_none (p : Option Addr) (cap : Nat) (f : Value) (w : World) : Calls Tryz.prog 131 #[.slice p 0 cap, .int .i64 0, .int .i64 0, f] w fun e w' => e = .returned (.tuple #[]) ∧ w' = w := by
  go_enter Tryz.func131, Tryz.ntmps131
  go_wp2_with fail
  go_loopw [8] (fun si wr => si = .int .i64 1 ∧ wr = w) (fun _ _ => 0)
  case atStart => exact ⟨rfl, rfl⟩
  case round =>
    obtain ⟨rfl, rfl⟩ := hrel
    go_wp2_with fail
    go_end0
    exact ⟨rfl, rfl⟩

set_option maxRecDepth 100000 in
set_option maxHeartbeats 1000000 in
theorem pdq_none (p : Option Addr) (cap : Nat) (l : Int) (f : Value) (w : World) : Calls Tryz.prog 117 #[.slice p 0 cap, .int .i64 0, .int .i64 0, .int .i64 l, f] w fun e w' => e = .returned (.tuple #[]) ∧ w' = w := by
  go_enter Tryz.func117, Tryz.ntmps117
  go_wp2_with fail
  go_loopw [1, 2] (fun sa sb wr => sa = .int .i64 0 ∧ sb = .int .i64 0 ∧ wr = w) (fun _ _ _ => 0)
  case atStart => exact ⟨rfl, rfl, rfl⟩
  case round =>
    obtain ⟨rfl, rfl, rfl⟩ := hrel
    go_wp2_with fail
    refine (insertion_none p cap f _).mono ?_
    rintro _ w1 ⟨rfl, ew⟩
    rw [ew]
    go_wp2_with fail
    (try simp only [Exit.inBlock, Exit.then])
    refine bodyPost_ret (results_none rfl _ _ _) rfl ?_
    exact ⟨rfl, rfl⟩

set_option maxHeartbeats 1000000 in
theorem sortFunc_none (p : Option Addr) (cap : Nat) (f : Value) (w : World) : Calls Tryz.prog 106 #[.slice p 0 cap, f] w fun e w' => e = .returned (.tuple #[]) ∧ w' = w := by
  go_enter Tryz.func106, Tryz.ntmps106
  go_wp2_with fail
  refine (Tryz.bits_Len 0 _ (by omega) (by omega)).mono ?_
  rintro _ w1 ⟨rfl, ew⟩
  rw [ew]
  go_wp2_with fail
  refine (pdq_none p cap _ f _).mono ?_
  rintro _ w1 ⟨rfl, ew⟩
  rw [ew]
  go_wp2_with fail
  go_end0
  exact ⟨rfl, rfl⟩

/-- slices.SortedFunc of the queue's values. -/
theorem sortedFunc_any (Bs : Nat) (sv : Value) (q ws : List Wt) (w : World) (hq : q.length ≤ 12) (hu : Up ws) (hp : q.Perm ws) (hBs : Bs < w.heap.size) (hc : w.cell? ⟨Bs, 0, none⟩ = some sv) (hI : WtsAt w.heap.size w sv q) :
    Calls Tryz.prog 81 #[.func (.func 107) #[] #[.pointer (some ⟨Bs, 0, none⟩)], .func (.func 83) #[] #[]] w fun e w' => ∃ v, e = .returned v ∧ w'.ownsRow w.heap.size 122 3 v q.length (wtCells ws) ∧ Chg (fun _ => False) w w' := by
  have hco := collect_any Bs sv q (by omega) w hBs hc hI
  go_enter Tryz.func81, Tryz.ntmps81
  go_wp2_with fail
  refine hco.mono ?_
  rintro _ w1 ⟨v, rfl, r1, b1⟩
  have c1 : Chg (fun _ => False) w w1 := ⟨b1.os, b1.tape, b1.output, b1.size, fun k hk _ => b1.block k hk⟩
  by_cases h0 : q.length = 0
  · obtain rfl : q = [] := List.eq_nil_of_length_eq_zero h0
    obtain rfl : ws = [] := List.perm_nil.1 hp.symm
    obtain ⟨pv, cv, rfl⟩ := row_any r1
    go_wp2_with fail
    refine (sortFunc_none pv cv _ _).mono ?_
    rintro _ w2 ⟨rfl, ew⟩
    rw [ew]
    go_wp2_with fail
    go_ret
    exact ⟨_, rfl, r1, c1⟩
  · obtain ⟨g, cap, rfl, hg, hcap, _⟩ := row_pos r1 (by omega)
    go_wp2_with fail
    refine (sortFunc_any r1 hq hu hp).mono ?_
    rintro _ w2 ⟨rfl, r2, c2⟩
    go_wp2_with fail
    go_ret
    exact ⟨_, rfl, r2, c1.trans c2 (fun n hn h => by omega)⟩

set_option maxHeartbeats 1000000 in
theorem ordered_any (lo b o : Nat) (v : Value) (q ws : List Wt) (w : World) (h2 : w.cell? ⟨b, o + 2, none⟩ = some v) (hr : w.ownsRow lo 122 3 v q.length (wtCells q)) (hq : q.length ≤ 12) (hu : Up ws) (hp : q.Perm ws) :
    Calls Tryz.prog 57 #[.pointer (some ⟨b, o, none⟩)] w fun e w' => ∃ u, e = .returned u ∧ w'.ownsRow w.heap.size 122 3 u q.length (wtCells ws) ∧ Chg (fun _ => False) w w' := by
  obtain ⟨pv, cv, rfl⟩ := row_any hr
  have hv := callsIn_wide.1 (values_in Fence.wide 3 trivial rfl pv q.length cv w)
  have c1 : Chg (fun _ => False) w (w.alloc (.cells #[.slice pv q.length cv] 76)) := (Chg.refl _ w).alloc _
  have hI : WtsAt (w.alloc (.cells #[.slice pv q.length cv] 76)).heap.size (w.alloc (.cells #[.slice pv q.length cv] 76)) (.slice pv q.length cv) q := by
    have hr1 := hr.alloc (.cells #[.slice pv q.length cv] 76)
    obtain ⟨W1, hW1⟩ : ∃ W1, W1 = w.alloc (.cells #[.slice pv q.length cv] 76) := ⟨_, rfl⟩
    rw [← hW1] at hr1 ⊢
    clear hW1
    rcases hr1.2 with ⟨e, hz⟩ | ⟨g, cap, cur, hv, hlo, hg, _⟩
    · rw [e]; exact .inl ⟨rfl, List.eq_nil_of_length_eq_zero hz⟩
    · rw [hv] at hr1 ⊢
      refine .inr ⟨g, cap, rfl, (Array.getElem?_eq_some_iff.1 hg).1, fun j x hj => ?_⟩
      have cx := wtCells_at q j x hj
      exact ⟨row_cell hr1 cx.1, row_cell hr1 cx.2.1, row_cell hr1 cx.2.2⟩
  have hso := sortedFunc_any w.heap.size _ q ws (w.alloc (.cells #[.slice pv q.length cv] 76)) hq hu hp (by simp) (World.cell?_alloc_at _ _ _ _ rfl) hI
  go_enter Tryz.func57, Tryz.ntmps57
  go_wp2_with fail
  refine hv.mono ?_
  rintro _ w1 ⟨rfl, ew⟩
  rw [ew]
  clear ew w1
  go_wp2_with fail
  refine hso.mono ?_
  rintro _ w2 ⟨u, rfl, r2, c2⟩
  go_wp2_with fail
  go_ret
  exact ⟨_, rfl, row_lower r2 c1.size, c1.trans c2 (fun _ _ h => h)⟩

end Go.Proofs.YthedkdbgfdjlkaaGreat

/- A lane's state, WALKED. -/
namespace Go.Proofs.YthedkdbgfdjlkaaGreat
set_option linter.unusedVariables false
set_option linter.unusedSimpArgs false
open Go.RowKit Go.Lib

theorem Tryz.infoI : (Tryz.prog.info? 3).map (fun i => (i.zero, i.size, i.bytes)) = some (some (.int .i64 0), 1, 8) := by kernel_rfl

def ints' (L : List Int) : List Value := L.map (Value.int .i64)

/-- The numbers of those that wait, in order. -/
def theNums (q : List Wt) : List Int := (q.map (·.num)).mergeSort fun x y => decide (x ≤ y)

/-- Rows of different elements lie in different blocks. -/
theorem row_kinds0 {w : World} {lo lo' : Nat} {e e' : TypeId} {size size' : Nat} {v v' : Value} {n n' : Nat} {xs xs' : List Value} (h : w.ownsRow lo e size v n xs) (h' : w.ownsRow lo' e' size' v' n' xs') (hne : e ≠ e') : ∀ g, v.ownBlock = some g → v'.ownBlock ≠ some g := by
  intro g hg hg'
  rcases h.2 with ⟨rfl, _⟩ | ⟨k, cap, cur, rfl, _, hk, _⟩
  · simp [Value.ownBlock] at hg
  · rcases h'.2 with ⟨rfl, _⟩ | ⟨k', cap', cur', rfl, _, hk', _⟩
    · simp [Value.ownBlock] at hg'
    · obtain rfl : k = g := by simpa [Value.ownBlock] using hg
      obtain rfl : k' = k := by simpa [Value.ownBlock] using hg'
      rw [hk] at hk'
      cases hk'
      exact hne rfl

theorem nums_tie {q ws : List Wt} (hu : Up ws) (hp : q.Perm ws) : theNums q = ws.map (·.num) := by
  unfold theNums
  refine List.Perm.eq_of_pairwise (le := fun a b => a ≤ b) (fun a b _ _ h1 h2 => by omega) ?_ ?_ ((List.mergeSort_perm _ _).trans (hp.map _))
  · have := List.pairwise_mergeSort (le := fun x y : Int => decide (x ≤ y)) (by simp; omega) (by simp; omega) (q.map (·.num))
    simpa using this
  · rw [List.pairwise_map]
    exact hu.imp (fun h => by omega)

set_option maxRecDepth 100000 in
set_option maxHeartbeats 2000000 in
theorem laneState_any (lo b o : Nat) (ep ba : Int) (v : Value) (q ws : List Wt) (w : World) (h0 : w.cell? ⟨b, o, none⟩ = some (.int .i64 ep)) (h1 : w.cell? ⟨b, o + 1, none⟩ = some (.int .i64 ba)) (h2 : w.cell? ⟨b, o + 2, none⟩ = some v)
    (hr : w.ownsRow lo 122 3 v q.length (wtCells q)) (hq : q.length ≤ 4) (hu : Up ws) (hp : q.Perm ws) :
    Calls Tryz.prog 51 #[.pointer (some ⟨b, o, none⟩)] w fun e w' => ∃ u, e = .returned (.agg #[.int .i64 ep, .int .i64 ba, u]) ∧ w'.ownsRow w.heap.size 3 1 u q.length (ints' (theNums q)) ∧ Chg (fun _ => False) w w' := by
  obtain ⟨i0, hi, hz0, hz1, hz2⟩ := info_parts Tryz.infoI
  obtain ⟨pq, capq, rfl⟩ := row_any hr
  have hbl : b < w.heap.size := World.block_lt_of_cell? _ _ h0
  have hbl' : b ≠ w.heap.size := by omega
  have hwl : ws.length = q.length := hp.length_eq.symm
  rw [nums_tie hu hp]
  obtain ⟨W0, hW0⟩ : ∃ W0, W0 = w.alloc (Obj.cells #[.int .i64 0, .int .i64 0, .slice none 0 0] 53) := ⟨_, rfl⟩
  have hs0 : W0.heap.size = w.heap.size + 1 := by rw [hW0]; simp
  have c0 : Chg (fun _ => False) w W0 := by rw [hW0]; exact (Chg.refl _ w).alloc _
  have r0 : W0.cell? ⟨w.heap.size, 0, none⟩ = some (.int .i64 0) := by rw [hW0]; exact World.cell?_alloc_at _ _ _ _ rfl
  have r1 : W0.cell? ⟨w.heap.size, 1, none⟩ = some (.int .i64 0) := by rw [hW0]; exact World.cell?_alloc_at _ _ _ _ rfl
  have r2 : W0.cell? ⟨w.heap.size, 2, none⟩ = some (.slice none 0 0) := by rw [hW0]; exact World.cell?_alloc_at _ _ _ _ rfl
  have rf : ∀ j, W0.frozen? ⟨w.heap.size, j, none⟩ = false := fun j => by rw [hW0]; exact World.frozen?_alloc_at _ _ _ _ rfl
  have HW0 : Hid (W0 = w.alloc (Obj.cells #[.int .i64 0, .int .i64 0, .slice none 0 0] 53)) := hW0
  have HS0 : Hid (W0.heap.size = w.heap.size + 1) := hs0
  clear hW0 hs0
  go_enter Tryz.func51, Tryz.ntmps51
  go_wp2_with (refine wpList_make_own _ rfl _ _ 23 rfl (w.heap.size + 1) 3 i0 _ 1 Tryz.underlying23 hi hz0 hz1 .i64 .i64 _ q.length rfl rfl rfl (by rw [hz2]; omega) (by unfold maxLen; omega) (by simp) ?_; intro w1 hown1 hg1; have hc1 : Chg (fun _ => False) W0 w1 := by { rw [HW0.out]; exact (Chg.refl _ _).grown hg1 (by simp) }; have h2' := hc1.cellAt (c0.cellAt h2 id) id)
  refine (ordered_any lo b o _ q ws w1 h2' ((c0.trans hc1 (fun _ _ h => h)).row' hr (fun _ _ h => h)) (by omega) hu hp).mono ?_
  rintro _ w2 ⟨u, rfl, ru, c2⟩
  obtain ⟨pu, cu, rfl⟩ := row_any ru
  have hsz1 : w.heap.size + 1 ≤ w1.heap.size := by rw [← HS0.out]; exact hc1.size
  have hown2 := c2.row' hown1 (fun _ _ h => h)
  have hc2 : Chg (fun _ => False) W0 w2 := hc1.trans c2 (fun _ _ h => h)
  clear hown1 hg1 hc1 h2'
  go_wp2_with fail
  go_loopw [3, 5, 15] (fun sv _ si wr => ∃ (k : Nat), si = .int .i64 k ∧ k ≤ q.length ∧ wr.ownsRow (w.heap.size + 1) 3 1 sv k (ints' ((ws.take k).map (·.num))) ∧ wr.ownsRow w1.heap.size 122 3 (.slice pu q.length cu) q.length (wtCells ws) ∧ Chg (fun _ => False) W0 wr) (fun _ _ si _ => q.length - (intOf si).toNat)
  case atStart => exact ⟨0, rfl, by omega, by simpa [ints'] using hown2, ru, hc2⟩
  case round =>
    obtain ⟨k, rfl, hk1, hown, hru, hc⟩ := hrel
    clear hown2 hc2 ru c2
    by_cases hkl : k < q.length
    · obtain ⟨x, hx⟩ : ∃ x, ws[k]? = some x := ⟨_, List.getElem?_eq_getElem (by omega)⟩
      have cx := wtCells_at ws k x hx
      obtain ⟨g, cap', hv, hlg, _, hcell⟩ := row_pos hru (by omega)
      simp only [Value.slice.injEq] at hv
      obtain ⟨rfl, _, rfl⟩ := hv
      have a0 := hcell _ _ cx.1
      have a1 := hcell _ _ cx.2.1
      have a2 := hcell _ _ cx.2.2
      have hkl' : (k : Int) < (q.length : Int) := by omega
      have hsz : w.heap.size + 1 ≤ wr.heap.size := by rw [← HS0.out]; exact hc.size
      clear hcell cx
      go_wp2_with (at_builtin; refine wpList_app1 rfl _ _ 23 rfl (w.heap.size + 1) 3 i0 _ 8 Tryz.underlying23 hi hz0 hz1 hz2 rfl _ k _ rfl ((hown.alloc _).alloc _) (wr.heap.size + 1) (.int .i64 x.num) rfl (by simp) rfl (by omega) (by omega) (by simp; omega) ?_; intro v' w3 hown' hg)
      have hc3 : Chg (fun _ => False) W0 w3 := ((hc.alloc _).alloc _).grown hg (fun k hk => by rw [HS0.out]; exact (hown.lt k hk).1)
      have hru3 := ((hru.alloc (.cells #[.int .i64 x.num, .string x.key, .int .i64 x.val] 122)).alloc (.cells #[.int .i64 x.num] 3)).kept hg (.inr (fun e => row_kinds0 hown hru (by decide) g e.symm rfl))
      clear hown hg a0 a1 a2 hru
      go_wp2_with fail
      go_roundw
      case rel =>
        refine ⟨k + 1, by go_num, by omega, ?_, hru3, hc3⟩
        have e : ints' ((ws.take (k + 1)).map (·.num)) = ints' ((ws.take k).map (·.num)) ++ [.int .i64 x.num] := by
          rw [List.take_add_one, hx]; simp [ints']
        rw [e]; exact hown'
      case measure => simp [intOf]; omega
    · have hkl' : ¬ (k : Int) < (q.length : Int) := by omega
      obtain rfl : k = q.length := by omega
      rw [← hwl, List.take_length, hwl] at hown
      obtain ⟨pp, cc, rfl⟩ := row_any hown
      have d0 := hc.cellAt (c0.cellAt h0 id) id
      have d1 := hc.cellAt (c0.cellAt h1 id) id
      have s0 := hc.cellAt r0 id
      have s1 := hc.cellAt r1 id
      have s2 := hc.cellAt r2 id
      have hfz : ∀ j, wr.frozen? ⟨w.heap.size, j, none⟩ = false := fun j => (World.frozen?_of_block (w := W0) (hc.block w.heap.size (by rw [HS0.out]; omega) id)).trans (rf j)
      have f0 := hfz 0
      have f1 := hfz 1
      have f2 := hfz 2
      clear r0 r1 r2 rf h0 h1 h2 hru
      go_wp2_with fail
      go_region
      go_wp2_with fail
      have hcw : Chg (fun k => k = w.heap.size) wr (((wr.setCell ⟨w.heap.size, 0, none⟩ (.int .i64 ep)).setCell ⟨w.heap.size, 1, none⟩ (.int .i64 ba)).setCell ⟨w.heap.size, 2, none⟩ (.slice pp q.length cc)).drew :=
        ((((Chg.refl (fun k => k = w.heap.size) wr).setCell (p := ⟨w.heap.size, 0, none⟩) (fun _ => rfl) _).setCell (p := ⟨w.heap.size, 1, none⟩) (fun _ => rfl) _).setCell (p := ⟨w.heap.size, 2, none⟩) (fun _ => rfl) _).drew
      refine bodyPost_ret (v := .agg #[.int .i64 ep, .int .i64 ba, .slice pp q.length cc]) ?_ rfl ⟨_, rfl, ?_, ?_⟩
      · simp [results, Tryz.results51, go_sem, s0, s1, s2]
      · exact row_lower (hcw.row hown (fun k hk => .inl (by omega))) (by omega)
      · exact (c0.trans hc (fun _ _ h => h)).trans hcw (fun k hk h => by omega)

end Go.Proofs.YthedkdbgfdjlkaaGreat

/- A HEAP OF AT MOST FOUR AND A SORTED LIST: no program text. -/
namespace Go.Proofs.YthedkdbgfdjlkaaGreat
set_option linter.unusedVariables false
set_option linter.unusedSimpArgs false

/-- A heap of at most four. -/
def Hp : List Wt → Prop
  | [] => True
  | [_] => True
  | [a, b] => a.num ≤ b.num
  | [a, b, c] => a.num ≤ b.num ∧ a.num ≤ c.num
  | [a, b, c, d] => a.num ≤ b.num ∧ a.num ≤ c.num ∧ b.num ≤ d.num
  | _ => False

theorem up_heap (q : List Wt) (x : Wt) (hl : q.length ≤ 3) (hh : Hp q) : Hp (upFn (q.length + 1) (q ++ [x]) q.length) ∧ (upFn (q.length + 1) (q ++ [x]) q.length).Perm (x :: q) := by
  classical
  match q, hl, hh with
  | [], _, _ => exact ⟨by simp [upFn, Hp], by simp [upFn]⟩
  | [a], _, _ =>
    by_cases h : x.num < a.num
    · simp [upFn, swapL, numAt, h, Hp]; omega
    · simp [upFn, swapL, numAt, h, Hp]
      exact ⟨by omega, .swap _ _ _⟩
  | [a, b], _, hh =>
    simp only [Hp] at hh
    by_cases h : x.num < a.num
    · simp [upFn, swapL, numAt, h, Hp]
      exact ⟨by omega, .swap _ _ _⟩
    · simp [upFn, swapL, numAt, h, Hp]
      refine ⟨by omega, List.perm_iff_count.2 fun y => ?_⟩
      simp only [List.count_cons, List.count_nil]; omega
  | [a, b, c], _, hh =>
    simp only [Hp] at hh
    by_cases h : x.num < b.num
    · by_cases h' : x.num < a.num
      · simp [upFn, swapL, numAt, h, h', Hp]
        refine ⟨by omega, List.perm_iff_count.2 fun y => ?_⟩
        simp only [List.count_cons, List.count_nil]; omega
      · simp [upFn, swapL, numAt, h, h', Hp]
        refine ⟨by omega, List.perm_iff_count.2 fun y => ?_⟩
        simp only [List.count_cons, List.count_nil]; omega
    · simp [upFn, swapL, numAt, h, Hp]
      refine ⟨by omega, List.perm_iff_count.2 fun y => ?_⟩
      simp only [List.count_cons, List.count_nil]; omega
  | _ :: _ :: _ :: _ :: _, hl, _ => simp at hl

theorem pop_heap (x : Wt) (r : List Wt) (hl : r.length ≤ 3) (hh : Hp (x :: r)) :
    (downFn r.length (swapL (x :: r) 0 r.length) 0 r.length)[r.length]? = some x ∧ Hp ((downFn r.length (swapL (x :: r) 0 r.length) 0 r.length).take r.length) ∧ ((downFn r.length (swapL (x :: r) 0 r.length) 0 r.length).take r.length).Perm r := by
  classical
  match r, hl, hh with
  | [], _, _ => simp [downFn, swapL, Hp]
  | [a], _, _ => simp [downFn, swapL, Hp]
  | [a, b], _, hh =>
    simp only [Hp] at hh
    by_cases h : a.num < b.num
    · simp [downFn, swapL, numAt, h, Hp]; omega
    · simp [downFn, swapL, numAt, h, Hp]
      exact ⟨by omega, .swap _ _ _⟩
  | [a, b, c], _, hh =>
    simp only [Hp] at hh
    by_cases h : b.num < a.num
    · by_cases h' : b.num < c.num
      · simp [downFn, swapL, numAt, h, h', Hp]
        refine ⟨by omega, List.perm_iff_count.2 fun y => ?_⟩
        simp only [List.count_cons, List.count_nil]; omega
      · simp [downFn, swapL, numAt, h, h', Hp]
        refine ⟨by omega, List.perm_iff_count.2 fun y => ?_⟩
        simp only [List.count_cons, List.count_nil]; omega
    · by_cases h' : a.num < c.num
      · simp [downFn, swapL, numAt, h, h', Hp]
        refine ⟨by omega, List.perm_iff_count.2 fun y => ?_⟩
        simp only [List.count_cons, List.count_nil]; omega
      · simp [downFn, swapL, numAt, h, h', Hp]
        refine ⟨by omega, List.perm_iff_count.2 fun y => ?_⟩
        simp only [List.count_cons, List.count_nil]; omega
  | _ :: _ :: _ :: _ :: _, hl, _ => simp at hl

theorem Hp.least {x : Wt} {r : List Wt} (h : Hp (x :: r)) : ∀ y ∈ r, x.num ≤ y.num := by
  match r, h with
  | [], _ => simp
  | [a], h => simpa [Hp] using h
  | [a, b], h => simpa [Hp] using h
  | [a, b, c], h => simp only [Hp] at h; simp; omega
  | _ :: _ :: _ :: _ :: _, h => exact h.elim


theorem put_up (x : Wt) : ∀ {l : List Wt}, Up l → (∀ y ∈ l, y.num ≠ x.num) → Up (putW x l) ∧ (putW x l).Perm (x :: l)
  | [], _, _ => by simp [putW, Up]
  | y :: r, h, hn => by
    have h' := List.pairwise_cons.1 h
    obtain ⟨i1, i2⟩ := put_up x (l := r) h'.2 (fun z hz => hn z (by simp [hz]))
    by_cases hlt : x.num < y.num
    · simp only [putW, if_pos hlt]
      refine ⟨List.pairwise_cons.2 ⟨fun z hz => ?_, h⟩, .refl _⟩
      rcases List.mem_cons.1 hz with rfl | hz
      · exact hlt
      · have := h'.1 z hz; omega
    · simp only [putW, if_neg hlt]
      refine ⟨List.pairwise_cons.2 ⟨fun z hz => ?_, i1⟩, (List.Perm.cons y i2).trans (.swap _ _ _)⟩
      rcases List.mem_cons.1 (i2.mem_iff.1 hz) with rfl | hz
      · have := hn y (by simp); omega
      · exact h'.1 z hz

/-- What drains a heap drains the sorted list. -/
theorem drain_tie : ∀ (f : Nat) (b : Int) (q ws : List Wt) (ks : List Ky), q.length < f → q.length ≤ 4 → Hp q → Up ws → q.Perm ws →
    (drainH f b q ks).1 = (drainW b ws ks).1 ∧ (drainH f b q ks).2.2 = (drainW b ws ks).2.2 ∧ Hp (drainH f b q ks).2.1 ∧ Up (drainW b ws ks).2.1 ∧ (drainH f b q ks).2.1.Perm (drainW b ws ks).2.1
  | 0, _, q, _, _, hf, _, _, _, _ => by omega
  | f + 1, b, [], ws, ks, _, _, _, hu, hp => by
    obtain rfl : ws = [] := List.Perm.eq_nil hp.symm
    simp [drainH, drainW, Hp, Up]
  | f + 1, b, x :: r, ws, ks, hf, hl, hh, hu, hp => by
    match ws, hu, hp with
    | [], _, hp => exact absurd hp.length_eq (by simp)
    | y :: s, hu, hp =>
      have hu' := List.pairwise_cons.1 hu
      have hxy : x = y := by
        have hx : x ∈ y :: s := hp.mem_iff.1 (by simp)
        have hy : y ∈ x :: r := hp.mem_iff.2 (by simp)
        rcases List.mem_cons.1 hx with h | h
        · exact h
        · rcases List.mem_cons.1 hy with h2 | h2
          · exact h2.symm
          · have := hu'.1 x h
            have := hh.least y h2
            omega
      subst hxy
      have hp' : r.Perm s := List.Perm.cons_inv hp
      by_cases hb : x.num = b
      · obtain ⟨e, h1, h2⟩ := pop_heap x r (by simp at hl; omega) hh
        have ih := drain_tie f (b + 1) ((downFn r.length (swapL (x :: r) 0 r.length) 0 r.length).take r.length) s (takeKy x.key x.val ks) (by rw [h2.length_eq]; simp at hf; omega) (by rw [h2.length_eq]; simp at hl; omega) h1 hu'.2 (h2.trans hp')
        simp only [drainH, drainW, if_pos hb, e]
        exact ih
      · simp only [drainH, drainW, if_neg hb]
        exact ⟨trivial, trivial, hh, hu, hp⟩


/-- What is left lies above the base. -/
theorem drain_above : ∀ (b : Int) (ws : List Wt) (ks : List Ky) (hi : Int), Up ws → (∀ y ∈ ws, b ≤ y.num ∧ y.num < hi) →
    (∀ y ∈ (drainW b ws ks).2.1, (drainW b ws ks).1 < y.num ∧ y.num < hi) ∧ b ≤ (drainW b ws ks).1 ∧ (drainW b ws ks).1 + (drainW b ws ks).2.1.length = b + ws.length ∧ counts (drainW b ws ks).2.2 = counts ks + ((drainW b ws ks).1 - b) ∧ (∀ y ∈ (drainW b ws ks).2.1, y ∈ ws)
  | b, [], ks, hi, _, _ => by simp [drainW]
  | b, x :: r, ks, hi, hu, h => by
    have hu' := List.pairwise_cons.1 hu
    by_cases hb : x.num = b
    · obtain ⟨h1, h2, h3, h4, h5⟩ := drain_above (b + 1) r (takeKy x.key x.val ks) hi hu'.2 (fun y hy => by have := hu'.1 y hy; have := h y (by simp [hy]); omega)
      simp only [drainW, if_pos hb]
      rw [counts_takeKy] at h4
      exact ⟨h1, by omega, by simp; omega, by omega, fun y hy => by simp [h5 y hy]⟩
    · simp only [drainW, if_neg hb]
      refine ⟨fun y hy => ?_, by omega, trivial, by omega, fun y hy => hy⟩
      have h0 := h x (by simp)
      have := h y hy
      rcases List.mem_cons.1 hy with rfl | hy
      · omega
      · have := hu'.1 y hy; omega

/-- Few numbers, few places. -/
theorem up_short : ∀ (l : List Wt) (lo hi : Int), Up l → (∀ y ∈ l, lo ≤ y.num ∧ y.num < hi) → lo ≤ hi → (l.length : Int) ≤ hi - lo
  | [], lo, hi, _, _, h => by simp; omega
  | x :: r, lo, hi, hu, h, _ => by
    have hu' := List.pairwise_cons.1 hu
    have h0 := h x (by simp)
    have := up_short r (x.num + 1) hi hu'.2 (fun y hy => by have := hu'.1 y hy; have := h y (by simp [hy]); omega) (by omega)
    simp; omega

end Go.Proofs.YthedkdbgfdjlkaaGreat

/- The flow's State, WALKED. -/
namespace Go.Proofs.YthedkdbgfdjlkaaGreat
set_option linter.unusedVariables false
set_option linter.unusedSimpArgs false
open Go.RowKit Go.Lib

set_option maxRecDepth 100000 in
set_option maxHeartbeats 2000000 in
theorem cloneK_any (lo : Nat) (vk : Value) (ks : List Ky) (w : World) (hr : w.ownsRow lo 57 4 vk ks.length (keyCells ks)) (hn : ks.length ≤ 4) :
    Calls Tryz.prog 52 #[vk] w fun e w' => ∃ u, e = .returned u ∧ w'.ownsRow w.heap.size 57 4 u ks.length (keyCells ks) ∧ Chg (fun _ => False) w w' := by
  have heq : ∀ W, (binOp .eql 80 (.slice none 0 0) (.slice none 0 0)).run Tryz.prog W = .ok (.bool true) W := fun W => by kernel_rfl
  have hne : ∀ (p : Addr) (n c : Nat) W, (binOp .eql 80 (.slice (some p) n c) (.slice none 0 0)).run Tryz.prog W = .ok (.bool false) W := fun p n c W => by kernel_rfl
  rcases hr.2 with ⟨rfl, hz⟩ | ⟨g, cap, cur, rfl, hlo, hg, _⟩
  · go_enter Tryz.func52, Tryz.ntmps52
    go_wp2_with fail
    go_ret
    obtain rfl : ks = [] := List.eq_nil_of_length_eq_zero hz
    exact ⟨_, rfl, World.ownsRow_nil _ _ _ _, Chg.refl _ _⟩
  · obtain ⟨i0, hi, hz0, hz1, hz2⟩ := info_parts Tryz.infoK
    have hown : (w.alloc (Obj.cells #[] 57)).ownsRow w.heap.size 57 4 (.slice (some ⟨w.heap.size, 0, none⟩) 0 0) 0 [] :=
      ⟨rfl, .inr ⟨w.heap.size, 0, #[], rfl, Nat.le_refl _, show (w.heap.push _)[w.heap.size]? = _ by simp, Nat.le_refl _, by unfold maxLen; omega, rfl, rfl⟩⟩
    obtain ⟨v', w', hrun, r1, r2, _⟩ := run_append_where (P := Tryz.prog) (w.alloc (Obj.cells #[] 57)) w.heap.size 80 80 57 i0 _ 4 40 Tryz.underlying80 hi hz0 hz1 hz2 rfl (by decide) _ 0 [] hown ⟨g, 0, none⟩ ks.length cap (keyCells ks) (keyCells_len ks)
      (fun j u hj => ((Chg.refl (fun _ => False) w).alloc _).cell (World.ownsRow.cells hr (g := g) rfl j u hj) id) (fun u hu => keyCells_one' ks u hu) (by unfold maxLen; omega) (by omega) (by simp)
    have hc : Chg (fun _ => False) w w' := ((Chg.refl _ w).alloc _).grown r2 (fun k hk => by simp [Value.ownBlock] at hk; omega)
    go_enter Tryz.func52, Tryz.ntmps52
    go_wp2_with (at_builtin; refine Lib.wpList_append_run _ rfl _ _ 80 80 rfl _ _ rfl rfl v' w' hrun ?_)
    go_ret
    refine ⟨_, rfl, ?_, hc⟩
    simpa using r1

/-- The cells of k sessions. -/
def sessU (E B : Nat → Int) (U : Nat → Value) : Nat → List Value
  | 0 => []
  | k + 1 => sessU E B U k ++ [.int .i64 (E k), .int .i64 (B k), U k]

theorem sessU_congr (E B : Nat → Int) (U U' : Nat → Value) : ∀ k, (∀ i, i < k → U i = U' i) → sessU E B U k = sessU E B U' k
  | 0, _ => rfl
  | k + 1, h => by simp only [sessU]; rw [sessU_congr E B U U' k (fun i hi => h i (by omega)), h k (by omega)]

theorem Tryz.infoSe : (Tryz.prog.info? 53).map (fun i => (i.zero, i.size, i.bytes)) = some (some (.agg #[.int .i64 0, .int .i64 0, .slice none 0 0]), 3, 40) := by kernel_rfl

set_option maxRecDepth 100000 in
set_option maxHeartbeats 4000000 in
theorem flowState_any {w : World} {lo b o : Nat} {E B : Nat → Int} {V : Nat → Value} {vk : Value} {Q S : Nat → List Wt} {ks : List Ky} (h : FlowAt w lo b o E B V vk Q ks) (hq : ∀ i, i < 4 → (Q i).length ≤ 4) (hk : ks.length ≤ 4) (hS : ∀ i, i < 4 → Up (S i) ∧ (Q i).Perm (S i)) :
    Calls Tryz.prog 31 #[.pointer (some ⟨b, o, none⟩)] w fun e w' => ∃ (vs vk' : Value) (U : Nat → Value), e = .returned (.agg #[vs, vk']) ∧ w'.ownsRow w.heap.size 53 3 vs 4 (sessU E B U 4) ∧
      (∀ i, i < 4 → w'.ownsRow w.heap.size 3 1 (U i) (Q i).length (ints' (theNums (Q i)))) ∧ w'.ownsRow w.heap.size 57 4 vk' ks.length (keyCells ks) ∧ (∀ i j, i < 4 → j < 4 → i ≠ j → ∀ g, (U i).ownBlock = some g → (U j).ownBlock ≠ some g) ∧ Chg (fun _ => False) w w' := by
  obtain ⟨i0, hi, hz0, hz1, hz2⟩ := info_parts Tryz.infoSe
  have hbl : b < w.heap.size := World.block_lt_of_cell? _ _ h.cells.le
  obtain ⟨W0, hW0⟩ : ∃ W0, W0 = w.alloc (Obj.cells #[.slice none 0 0, .slice none 0 0] 49) := ⟨_, rfl⟩
  have hs0 : W0.heap.size = w.heap.size + 1 := by rw [hW0]; simp
  have c0 : Chg (fun _ => False) w W0 := by rw [hW0]; exact (Chg.refl _ w).alloc _
  have r0 : W0.cell? ⟨w.heap.size, 0, none⟩ = some (.slice none 0 0) := by rw [hW0]; exact World.cell?_alloc_at _ _ _ _ rfl
  have r1 : W0.cell? ⟨w.heap.size, 1, none⟩ = some (.slice none 0 0) := by rw [hW0]; exact World.cell?_alloc_at _ _ _ _ rfl
  have rf : ∀ j, W0.frozen? ⟨w.heap.size, j, none⟩ = false := fun j => by rw [hW0]; exact World.frozen?_alloc_at _ _ _ _ rfl
  have HW0 : Hid (W0 = w.alloc (Obj.cells #[.slice none 0 0, .slice none 0 0] 49)) := hW0
  have HS0 : Hid (W0.heap.size = w.heap.size + 1) := hs0
  clear hW0 hs0
  go_enter Tryz.func31, Tryz.ntmps31
  go_wp2_with (refine wpList_make_own _ rfl _ _ 46 rfl (w.heap.size + 1) 53 i0 _ 3 Tryz.underlying46 hi hz0 hz1 .i64 .i64 _ 4 rfl rfl rfl (by rw [hz2]; omega) (by unfold maxLen; omega) (by simp) ?_; intro w1 hown1 hg1; have hc1 : Chg (fun _ => False) W0 w1 := by { rw [HW0.out]; exact (Chg.refl _ _).grown hg1 (by simp) }; have hF1 := h.cells.chg (c0.trans hc1 (fun _ _ h => h)) id; have e0 := hF1.ep 0 (by omega); have e1 := hF1.ep 1 (by omega); have e2 := hF1.ep 2 (by omega); have e3 := hF1.ep 3 (by omega); have b0 := hF1.ba 0 (by omega); have b1 := hF1.ba 1 (by omega); have b2 := hF1.ba 2 (by omega); have b3 := hF1.ba 3 (by omega); have v0 := hF1.qu 0 (by omega); have v1 := hF1.qu 1 (by omega); have v2 := hF1.qu 2 (by omega); have v3 := hF1.qu 3 (by omega); simp only [Nat.zero_mul, Nat.one_mul, Nat.add_zero] at e0 e1 e2 e3 b0 b1 b2 b3 v0 v1 v2 v3)
  go_loopw [3, 5, 11] (fun sv _ si wr => ∃ (k : Nat) (U : Nat → Value), si = .int .i64 k ∧ k ≤ 4 ∧ wr.ownsRow (w.heap.size + 1) 53 3 sv k (sessU E B U k) ∧ (∀ i, i < k → wr.ownsRow (w.heap.size + 1) 3 1 (U i) (Q i).length (ints' (theNums (Q i)))) ∧ (∀ i, i < k → ∀ g, (U i).ownBlock = some g → sv.ownBlock ≠ some g) ∧ (∀ i j, i < k → j < k → i ≠ j → ∀ g, (U i).ownBlock = some g → (U j).ownBlock ≠ some g) ∧ Chg (fun _ => False) W0 wr) (fun _ _ si _ => 4 - (intOf si).toNat)
  case atStart => exact ⟨0, fun _ => .slice none 0 0, rfl, by omega, by simpa [sessU] using hown1, fun i hi => by omega, fun i hi => by omega, fun i j hi => by omega, hc1⟩
  case round =>
    obtain ⟨k, U, rfl, hk4, hown, hU, hsep, hap, hc⟩ := hrel
    clear hown1 hg1 hc1 hF1 e0 e1 e2 e3 b0 b1 b2 b3 v0 v1 v2 v3
    have hc' : Chg (fun _ => False) w wr := c0.trans hc (fun _ _ h => h)
    have hsz : w.heap.size + 1 ≤ wr.heap.size := by rw [← HS0.out]; exact hc.size
    by_cases hk4' : k < 4
    · have hk4i : (k : Int) < 4 := by omega
      have hix := fun W => index_lane E B V k hk4' W
      obtain ⟨pq, capq, hVk⟩ := row_any (h.rows k hk4')
      have hrk := h.rows k hk4'
      rw [hVk] at hrk hix
      have hql := hq k hk4'
      have hls := laneState_any lo wr.heap.size 0 (E k) (B k) _ (Q k) (S k) (wr.alloc (Obj.cells #[.int .i64 (E k), .int .i64 (B k), .slice pq (Q k).length capq] 78)) (World.cell?_alloc_at _ _ _ _ rfl) (World.cell?_alloc_at _ _ _ _ rfl) (World.cell?_alloc_at _ _ _ _ rfl) ((hc'.row' hrk (fun _ _ h => h.elim)).alloc _) hql (hS k hk4').1 (hS k hk4').2
      go_wp2_with (first | (go_at_call 51; refine hls.mono ?_; rintro _ w2 ⟨u, rfl, hru, c2⟩; obtain ⟨pu, cu, rfl⟩ := row_any hru) | (at_builtin; have hown2 := (((Chg.refl (fun _ => False) wr).alloc _).trans c2 (fun _ _ h => h)).row' hown (fun _ _ h => h.elim); obtain ⟨v', w3, hrun, a1, a2, a3⟩ := run_append_where (P := Tryz.prog) (w2.alloc (Obj.cells #[.int .i64 (E k), .int .i64 (B k), .slice pu (Q k).length cu] 53)) (w.heap.size + 1) 46 46 53 i0 _ 3 40 Tryz.underlying46 hi hz0 hz1 hz2 rfl (by decide) _ k _ (hown2.alloc _) ⟨w2.heap.size, 0, none⟩ 1 1 [.int .i64 (E k), .int .i64 (B k), .slice pu (Q k).length cu] rfl (fun j y hj => by rw [add_lit', Nat.zero_add]; rcases j with _ | _ | _ | j <;> simp at hj <;> subst hj <;> exact World.cell?_alloc_at _ _ _ _ rfl) (fun y hy => by simp at hy; rcases hy with rfl | rfl | rfl <;> rfl) (by unfold maxLen; omega) (by omega) (by have := c2.size; simp at this ⊢; omega); refine Lib.wpList_append_run _ rfl _ _ 46 46 rfl _ _ rfl rfl v' w3 hrun ?_))
      go_roundw
      case rel =>
        have hs2 : wr.heap.size + 1 ≤ w2.heap.size := by have := c2.size; rw [World.size_alloc] at this; exact this
        have c02 : Chg (fun _ => False) wr w2 := ((Chg.refl _ wr).alloc _).trans c2 (fun _ _ h => h)
        have c23 : Chg (fun g => u3.ownBlock = some g) w2 w3 := ((Chg.refl (fun g => u3.ownBlock = some g) w2).alloc _).trans (G := fun g => u3.ownBlock = some g) ⟨a2.os, a2.tape, a2.output, a2.size, fun k hk hne => a2.block k hk (fun e => hne e.symm)⟩ (fun _ _ h => h)
        rw [World.size_alloc] at a3 hru
        refine ⟨k + 1, upd U k (.slice pu (Q k).length cu), by go_num, by omega, ?_, fun i hi => ?_, fun i hi g hg => ?_, fun i j hi hj hij g hg => ?_, ?_⟩
        · have e := sessU_congr E B (upd U k (.slice pu (Q k).length cu)) U k (fun i hi => upd_ne _ _ (by omega))
          simp only [sessU]
          rw [e, upd_same]
          exact a1
        · by_cases e : i = k
          · subst e
            rw [upd_same]
            refine c23.row' (row_lower hru (by omega)) (fun g hg hf => ?_)
            have := (hown.lt g hf).2
            have := (hru.lt g hg).1
            omega
          · rw [upd_ne _ _ e]
            exact c23.row' (c02.row' (hU i (by omega)) (fun _ _ h => h)) (fun g hg hf => hsep i (by omega) g hg hf)
        · by_cases e : i = k
          · subst e
            rw [upd_same] at hg
            have h1 := hru.lt g hg
            intro hv
            rcases a3 with a3 | a3
            · rw [a3] at hv
              have := (hown.lt g hv).2
              omega
            · have := a3 g hv
              omega
          · rw [upd_ne _ _ e] at hg
            intro hv
            rcases a3 with a3 | a3
            · rw [a3] at hv
              exact hsep i (by omega) g hg hv
            · have := a3 g hv
              have := ((hU i (by omega)).lt g hg).2
              omega
        · have hlo : ∀ i, i < k → ∀ g, (U i).ownBlock = some g → g < wr.heap.size := fun i hi g hg => ((hU i hi).lt g hg).2
          by_cases e : i = k
          · subst e
            rw [upd_same] at hg
            rw [upd_ne _ _ (Ne.symm hij)]
            intro hg'
            have := (hru.lt g hg).1
            have := hlo j (by omega) g hg'
            omega
          · rw [upd_ne _ _ e] at hg
            by_cases e' : j = k
            · subst e'
              rw [upd_same]
              intro hg'
              have := (hru.lt g hg').1
              have := hlo i (by omega) g hg
              omega
            · rw [upd_ne _ _ e']
              exact hap i j (by omega) (by omega) hij g hg
        · exact (hc.trans c02 (fun _ _ h => h)).trans c23 (fun n hn h => by have := (hown.lt n h).1; rw [HS0.out] at hn; omega)
      case measure => simp [intOf]; omega
    · have hk4i : ¬ (k : Int) < 4 := by omega
      obtain rfl : k = 4 := by omega
      obtain ⟨pk, kc, hvk⟩ := row_any h.keys
      have kk := (h.cells.chg hc' id).le
      have hrk := hc'.row' h.keys (fun _ _ h => h)
      rw [hvk] at kk hrk
      have hcl := cloneK_any lo _ ks wr hrk hk
      go_wp2_with (go_at_call 52; refine hcl.mono ?_; rintro _ w5 ⟨u, rfl, hru, c5⟩; obtain ⟨pu, cu, rfl⟩ := row_any hru; have hc5 : Chg (fun _ => False) W0 w5 := hc.trans c5 (fun _ _ h => h); obtain ⟨ps, cs, rfl⟩ := row_any hown; have s0 := hc5.cellAt r0 id; have s1 := hc5.cellAt r1 id; have hfz : ∀ j, w5.frozen? ⟨w.heap.size, j, none⟩ = false := fun j => (World.frozen?_of_block (w := W0) (hc5.block w.heap.size (by rw [HS0.out]; omega) id)).trans (rf j); have f0 := hfz 0; have f1 := hfz 1)
      have hcw : Chg (fun k => k = w.heap.size) w5 ((w5.setCell ⟨w.heap.size, 0, none⟩ (.slice ps 4 cs)).setCell ⟨w.heap.size, 1, none⟩ (.slice pu ks.length cu)) :=
        ((Chg.refl (fun k => k = w.heap.size) w5).setCell (p := ⟨w.heap.size, 0, none⟩) (fun _ => rfl) _).setCell (p := ⟨w.heap.size, 1, none⟩) (fun _ => rfl) _
      refine bodyPost_ret (v := .agg #[.slice ps 4 cs, .slice pu ks.length cu]) ?_ rfl ⟨_, _, U, rfl, ?_, fun i hi => ?_, ?_, hap, ?_⟩
      · simp [results, Tryz.results31, go_sem, s0, s1]
      · exact row_lower (hcw.row (c5.row' hown (fun _ _ h => h)) (fun k hk => .inl (by omega))) (by omega)
      · exact row_lower (hcw.row (c5.row' (hU i hi) (fun _ _ h => h)) (fun k hk => .inl (by omega))) (by omega)
      · exact row_lower (hcw.row hru (fun k hk => .inl (by omega))) (by omega)
      · exact (c0.trans hc5 (fun _ _ h => h)).trans hcw (fun k hk h => by omega)

end Go.Proofs.YthedkdbgfdjlkaaGreat

/- THE SINK: what Puts and Answer are, as plain data; what the walks take of these calls. -/
namespace Go.Proofs.YthedkdbgfdjlkaaGreat
set_option linter.unusedVariables false
set_option linter.unusedSimpArgs false
open Go.RowKit

/-- A put. -/
structure Pt where
  key : ByteArray
  token : Int
  value : Int

def putsOf : List Ky → List Pt
  | [] => []
  | k :: r => if k.held < k.count then ⟨k.name, k.count, k.fold⟩ :: putsOf r else putsOf r

def findKy (name : ByteArray) : List Ky → Option Ky
  | [] => none
  | k :: r => if k.name = name then some k else findKy name r

def holdKy (name : ByteArray) (n : Int) : List Ky → List Ky
  | [] => []
  | k :: r => if k.name = name then ⟨k.name, k.count, k.fold, max k.held n⟩ :: r else k :: holdKy name n r

def answer (s : St) (key : ByteArray) (n : Int) : Int × St :=
  if okKey key = false then (3, s) else
  match findKy key s.keys with
  | none => (8, s)
  | some k => if n < 0 ∨ k.count < n then (9, s) else (0, ⟨s.lanes, holdKy key n s.keys⟩)

def answer? : Option St → ByteArray → Int → Int × Option St
  | none, _, _ => (1, none)
  | some s, k, n => ((answer s k n).1, some (answer s k n).2)

def puts? : Option St → List Pt
  | none => []
  | some s => putsOf s.keys

def Pt.cells (p : Pt) : List Value := [.string p.key, .int .i64 p.token, .int .i64 p.value]

def putCells : List Pt → List Value
  | [] => []
  | p :: r => p.cells ++ putCells r

theorem putCells_len : ∀ l : List Pt, (putCells l).length = l.length * 3
  | [] => rfl
  | x :: r => by
    have := putCells_len r
    simp [putCells, Pt.cells, this]
    omega

theorem putCells_append : ∀ a b : List Pt, putCells (a ++ b) = putCells a ++ putCells b
  | [], b => rfl
  | x :: r, b => by simp [putCells, putCells_append r b]

theorem putCells_at : ∀ (l : List Pt) (i : Nat) (x : Pt), l[i]? = some x → (putCells l)[i * 3]? = some (.string x.key) ∧ (putCells l)[i * 3 + 1]? = some (.int .i64 x.token) ∧ (putCells l)[i * 3 + 2]? = some (.int .i64 x.value)
  | [], i, x, h => by simp at h
  | y :: r, 0, x, h => by simp at h; subst h; simp [putCells, Pt.cells]
  | y :: r, i + 1, x, h => by
    have := putCells_at r i x (by simpa using h)
    rw [show (i + 1) * 3 = i * 3 + 3 by omega, show i * 3 + 3 + 1 = i * 3 + 1 + 3 by omega, show i * 3 + 3 + 2 = i * 3 + 2 + 3 by omega]
    simpa [putCells, Pt.cells] using this

theorem putCells_set : ∀ (l : List Pt) (i : Nat) (x : Pt), putCells (l.set i x) = (((putCells l).set (i * 3) (.string x.key)).set (i * 3 + 1) (.int .i64 x.token)).set (i * 3 + 2) (.int .i64 x.value)
  | [], i, x => by simp [putCells]
  | y :: r, 0, x => by simp [putCells, Pt.cells]
  | y :: r, i + 1, x => by
    have := putCells_set r i x
    rw [show (i + 1) * 3 = i * 3 + 3 by omega, show i * 3 + 3 + 1 = i * 3 + 1 + 3 by omega, show i * 3 + 3 + 2 = i * 3 + 2 + 3 by omega]
    simp [putCells, Pt.cells, this]

/-- THE CALLS OF THE SINK. -/
structure ApiS (R : World → Addr → Option St → (Nat → Prop) → Prop) : Prop where
  puts : ∀ {w a o F}, R w a o F → Calls Tryz.prog 19 #[.pointer (some a)] w fun e w' =>
    ∃ vp, e = .returned (.tuple #[vp, .int .i64 (errno? o)]) ∧ w'.ownsRow w.heap.size 68 3 vp (puts? o).length (putCells (puts? o)) ∧ R w' a o F ∧ Chg F w w'
  answer : ∀ {w a o F} (key : ByteArray) (n : Int), R w a o F → key.size ≤ maxLen → inInt n → Calls Tryz.prog 21 #[.pointer (some a), .string key, .int .i64 n] w fun e w' =>
    ∃ F', e = .returned (.int .i64 (answer? o key n).1) ∧ R w' a (answer? o key n).2 F' ∧ (∀ k, F' k → F k ∨ w.heap.size ≤ k) ∧ Chg F w w'

/-- The same, whatever epochs there are. -/
structure ApiSN (R : Nat → World → Addr → Option St → (Nat → Prop) → Prop) : Prop where
  puts : ∀ {n w a o F}, R n w a o F → Calls Tryz.prog 19 #[.pointer (some a)] w fun e w' =>
    ∃ vp, e = .returned (.tuple #[vp, .int .i64 (errno? o)]) ∧ w'.ownsRow w.heap.size 68 3 vp (puts? o).length (putCells (puts? o)) ∧ R n w' a o F ∧ Chg F w w'
  answer : ∀ {m w a o F} (key : ByteArray) (n : Int), R m w a o F → m ≤ roomy → key.size ≤ maxLen → inInt n → Calls Tryz.prog 21 #[.pointer (some a), .string key, .int .i64 n] w fun e w' =>
    ∃ F' m', e = .returned (.int .i64 (answer? o key n).1) ∧ R m' w' a (answer? o key n).2 F' ∧ (∀ k, F' k → F k ∨ w.heap.size ≤ k) ∧ Chg F w w' ∧ m' ≤ m + 32 ∧ ((answer? o key n).2 = o → m' = m)

theorem counts_hold (name : ByteArray) (n : Int) : ∀ ks : List Ky, counts (holdKy name n ks) = counts ks
  | [] => rfl
  | k :: r => by
    unfold holdKy
    split
    · rfl
    · simp [counts, counts_hold name n r]

theorem answer_but (s : St) (key : ByteArray) (n : Int) : s.butHeld (answer s key n).2 ∧ ((answer s key n).1 ≠ 0 → (answer s key n).2 = s) := by
  unfold answer
  split
  · exact ⟨⟨rfl, rfl⟩, fun _ => rfl⟩
  · split
    · exact ⟨⟨rfl, rfl⟩, fun _ => rfl⟩
    · split
      · exact ⟨⟨rfl, rfl⟩, fun _ => rfl⟩
      · exact ⟨⟨rfl, counts_hold _ _ _⟩, fun h => absurd rfl h⟩

end Go.Proofs.YthedkdbgfdjlkaaGreat

/- What holds of every state that a relay can be in, besides: pure. -/
namespace Go.Proofs.YthedkdbgfdjlkaaGreat
set_option linter.unusedVariables false
set_option linter.unusedSimpArgs false

def baseSum : List Ln → Int
  | [] => 0
  | l :: r => l.base + baseSum r

def Wt.sound (y : Wt) : Prop := okKey y.key = true ∧ 0 ≤ y.val ∧ y.val ≤ 4294967295

structure St.sound (s : St) : Prop where
  kname : ∀ k ∈ s.keys, okKey k.name = true
  wt : ∀ l ∈ s.lanes, ∀ y ∈ l.ws, y.sound
  based : baseSum s.lanes ≤ counts s.keys

theorem sound_init : St.init.sound := ⟨by simp [St.init], by simp [St.init, Ln.init], by simp [St.init, Ln.init, baseSum, counts]⟩

theorem baseSum_set : ∀ (ls : List Ln) (i : Nat) (l l' : Ln), ls[i]? = some l → baseSum (ls.set i l') = baseSum ls - l.base + l'.base
  | [], i, l, l', h => by simp at h
  | x :: r, 0, l, l', h => by
    simp at h; subst h
    simp [baseSum]; omega
  | x :: r, i + 1, l, l', h => by
    have := baseSum_set r i l l' (by simpa using h)
    simp [baseSum, this]; omega

theorem takeKy_nam {p : ByteArray → Prop} (name : ByteArray) (val : Int) (hn : p name) : ∀ {ks : List Ky}, (∀ k ∈ ks, p k.name) → ∀ k ∈ takeKy name val ks, p k.name
  | [], _, k, hk => by
    simp [takeKy, Ky.more] at hk
    subst hk; exact hn
  | y :: r, h, k, hk => by
    unfold takeKy at hk
    split at hk
    · rcases List.mem_cons.1 hk with rfl | hk
      · exact h y (by simp)
      · exact h k (by simp [hk])
    · split at hk
      · rcases List.mem_cons.1 hk with rfl | hk
        · exact hn
        · exact h k hk
      · rcases List.mem_cons.1 hk with rfl | hk
        · exact h k (by simp)
        · exact takeKy_nam name val hn (fun k hk => h k (by simp [hk])) k hk

theorem putW_in {x y : Wt} : ∀ {l : List Wt}, y ∈ putW x l → y = x ∨ y ∈ l
  | [], h => by simp [putW] at h; exact .inl h
  | z :: r, h => by
    unfold putW at h
    split at h
    · rcases List.mem_cons.1 h with h | h
      · exact .inl h
      · exact .inr h
    · rcases List.mem_cons.1 h with h | h
      · exact .inr (by simp [h])
      · exact (putW_in h).imp id (fun h => by simp [h])

theorem drain_sound : ∀ (b : Int) (ws : List Wt) (ks : List Ky), (∀ k ∈ ks, okKey k.name = true) → (∀ y ∈ ws, y.sound) →
    (∀ k ∈ (drainW b ws ks).2.2, okKey k.name = true) ∧ (∀ y ∈ (drainW b ws ks).2.1, y.sound) ∧ (drainW b ws ks).1 - b = counts (drainW b ws ks).2.2 - counts ks
  | b, [], ks, h1, h2 => by simp [drainW]; exact h1
  | b, x :: r, ks, h1, h2 => by
    by_cases hb : x.num = b
    · simp only [drainW, if_pos hb]
      obtain ⟨g1, g2, g3⟩ := drain_sound (b + 1) r (takeKy x.key x.val ks) (takeKy_nam (p := fun n => okKey n = true) _ _ (h2 x (by simp)).1 h1) (fun y hy => h2 y (by simp [hy]))
      rw [counts_takeKy] at g3
      exact ⟨g1, g2, by omega⟩
    · simp only [drainW, if_neg hb]
      exact ⟨h1, h2, by omega⟩

theorem sound_accept {s : St} (h : s.sound) (hf : s.fine) (x : Rec) : (accept s x).2.sound := by
  unfold accept
  split
  · exact h
  · split
    · exact h
    · rename_i hk
      split
      · exact h
      · rename_i l hl
        have hlm := List.mem_of_getElem? hl
        have hxs : (⟨x.number, x.key, x.value⟩ : Wt).sound := by
          refine ⟨?_, ?_, ?_⟩
          · cases e : okKey x.key
            · exact absurd (.inl e) hk
            · rfl
          · simp only; omega
          · simp only; omega
        have ht : ∀ y ∈ (l.turned x.epoch).ws, y.sound := by
          unfold Ln.turned
          split
          · intro y hy; simp at hy
          · exact h.wt l hlm
        have hb : (l.turned x.epoch).base ≤ l.base := by
          have := (hf.lane l hlm).2.2.1
          unfold Ln.turned
          split
          · exact this
          · omega
        unfold acceptIn
        simp only
        split
        · exact h
        · split
          · exact h
          · split
            · exact h
            · split
              · exact h
              · split
                · exact h
                · simp only
                  obtain ⟨g1, g2, g3⟩ := drain_sound (l.turned x.epoch).base (putW ⟨x.number, x.key, x.value⟩ (l.turned x.epoch).ws) s.keys h.kname (fun y hy => (putW_in hy).elim (fun e => by rw [e]; exact hxs) (ht y))
                  refine ⟨g1, fun l' hl' => ?_, ?_⟩
                  · rcases List.mem_or_eq_of_mem_set hl' with h' | h'
                    · exact h.wt l' h'
                    · rw [h']; exact g2
                  · have := h.based
                    simp only
                    rw [baseSum_set _ _ _ _ hl]
                    simp only
                    omega

theorem holdKy_names {p : ByteArray → Prop} (name : ByteArray) (n : Int) : ∀ {ks : List Ky}, (∀ k ∈ ks, p k.name) → ∀ k ∈ holdKy name n ks, p k.name
  | [], _, k, hk => by simp [holdKy] at hk
  | y :: r, h, k, hk => by
    unfold holdKy at hk
    split at hk
    · rcases List.mem_cons.1 hk with rfl | hk
      · exact h y (by simp)
      · exact h k (by simp [hk])
    · rcases List.mem_cons.1 hk with rfl | hk
      · exact h k (by simp)
      · exact holdKy_names name n (fun k hk => h k (by simp [hk])) k hk

theorem sound_answer {s : St} (h : s.sound) (key : ByteArray) (n : Int) : (answer s key n).2.sound := by
  unfold answer
  split
  · exact h
  · split
    · exact h
    · split
      · exact h
      · exact ⟨holdKy_names (p := fun n => okKey n = true) key n h.kname, h.wt, by simp only; rw [counts_hold]; exact h.based⟩

end Go.Proofs.YthedkdbgfdjlkaaGreat

/- What is kept, as a row of bytes: the form of this commit. Pure. -/
namespace Go.Proofs.YthedkdbgfdjlkaaGreat
set_option linter.unusedVariables false
set_option linter.unusedSimpArgs false

/-- A number: digits of seven bits, the lowest first. -/
def encNum (n : Nat) : List UInt8 := if h : n < 128 then [n.toUInt8] else (n % 128 + 128).toUInt8 :: encNum (n / 128)

def encInt (z : Int) : List UInt8 := encNum z.toNat
def encKey (k : ByteArray) : List UInt8 := encNum k.size ++ k.data.toList
def encInts (l : List Int) : List UInt8 := l.flatMap encInt
def encRec (x : Rec) : List UInt8 := encInts [x.session, x.epoch, x.number] ++ encKey x.key ++ encInt x.value
def encSess (l : Ln) : List UInt8 := encInts [l.epoch, l.base]
def encKy (k : Ky) : List UInt8 := encKey k.name ++ encInts [k.count, k.fold, k.held]
def markB : List UInt8 := [99, 117, 108, 118, 101, 114, 116, 49]

/-- Those that wait, as they were sent: from session i on. -/
def recsFrom : Nat → List Ln → List Rec
  | _, [] => []
  | i, l :: r => l.ws.map (fun y => (⟨i, l.epoch, y.num, y.key, y.val⟩ : Rec)) ++ recsFrom (i + 1) r
def St.recs (s : St) : List Rec := recsFrom 0 s.lanes

def encHead (s : St) : List UInt8 := markB ++ s.lanes.flatMap encSess ++ encInt s.keys.length ++ s.keys.flatMap encKy ++ encInt s.recs.length ++ s.recs.flatMap encRec
def encAcc (x : Rec) : List UInt8 := 114 :: encRec x
def encAns (key : ByteArray) (n : Int) : List UInt8 := 97 :: (encKey key ++ encInt n)

/-- Bytes as cells. -/
def bCells (T : List UInt8) : List Value := T.map fun b => Value.int .u8 b.toNat

theorem bCells_len (T : List UInt8) : (bCells T).length = T.length := by simp [bCells]
theorem bCells_append (a b : List UInt8) : bCells (a ++ b) = bCells a ++ bCells b := by simp [bCells]
theorem bCells_one (T : List UInt8) : ∀ u ∈ bCells T, u.oneCell' = true := by
  intro u hu
  simp only [bCells, List.mem_map] at hu
  obtain ⟨b, _, rfl⟩ := hu
  rfl

theorem encNum_small {n : Nat} (h : n < 128) : encNum n = [n.toUInt8] := by rw [encNum]; simp [h]
theorem encNum_big {n : Nat} (h : ¬ n < 128) : encNum n = (n % 128 + 128).toUInt8 :: encNum (n / 128) := by rw [encNum]; simp [h]

theorem encNum_len : ∀ (k n : Nat), n < 128 ^ (k + 1) → (encNum n).length ≤ k + 1
  | 0, n, h => by rw [encNum_small (by simpa using h)]; simp
  | k + 1, n, h => by
    by_cases hn : n < 128
    · rw [encNum_small hn]; simp
    · rw [encNum_big hn]
      have := encNum_len k (n / 128) (by rw [Nat.pow_succ] at h; omega)
      simp; omega

theorem encInt_len9 {z : Int} (h : z ≤ 9223372036854775807) : (encInt z).length ≤ 9 := encNum_len 8 z.toNat (by rw [show 128 ^ (8 + 1) = 9223372036854775808 from rfl]; omega)
theorem encInt_len5 {z : Int} (h : z ≤ 4294967295) : (encInt z).length ≤ 5 := encNum_len 4 z.toNat (by rw [show 128 ^ (4 + 1) = 34359738368 from rfl]; omega)
theorem encInt_len2 {z : Int} (h : z ≤ 16000) : (encInt z).length ≤ 2 := encNum_len 1 z.toNat (by rw [show 128 ^ (1 + 1) = 16384 from rfl]; omega)
theorem encInt_len1 {z : Int} (h : z ≤ 127) : (encInt z).length ≤ 1 := encNum_len 0 z.toNat (by rw [show 128 ^ (0 + 1) = 128 from rfl]; omega)

theorem okKey_size {k : ByteArray} (h : okKey k = true) : 1 ≤ k.size ∧ k.size ≤ 6 := by
  unfold okKey at h
  split at h
  · cases h
  · rename_i c r e
    have hs : k.size = r.length + 1 := by
      have : k.size = k.data.toList.length := Array.length_toList.symm
      rw [this, e]; simp
    simp at h
    omega

theorem encKey_len {k : ByteArray} (h : okKey k = true) : (encKey k).length ≤ 7 := by
  obtain ⟨_, h2⟩ := okKey_size h
  have h1 := encNum_len 0 k.size (by rw [show 128 ^ (0 + 1) = 128 from rfl]; omega)
  have h3 : k.data.toList.length = k.size := Array.length_toList
  unfold encKey
  rw [List.length_append, h3]
  omega

theorem encRec_len {x : Rec} (h1 : x.session ≤ 127) (h2 : x.epoch ≤ 9223372036854775807) (h3 : x.number ≤ 16000) (h4 : okKey x.key = true) (h5 : x.value ≤ 4294967295) : (encRec x).length ≤ 24 := by
  have a1 := encInt_len1 h1
  have a2 := encInt_len9 h2
  have a3 := encInt_len2 h3
  have a4 := encKey_len h4
  have a5 := encInt_len5 h5
  unfold encRec encInts
  simp only [List.flatMap_cons, List.flatMap_nil, List.append_nil, List.length_append]
  omega

theorem flat_len {α : Type} (f : α → List UInt8) (c : Nat) : ∀ {l : List α}, (∀ x ∈ l, (f x).length ≤ c) → (l.flatMap f).length ≤ l.length * c
  | [], _ => by simp
  | x :: r, h => by
    have h1 := flat_len f c (l := r) (fun y hy => h y (by simp [hy]))
    have h2 := h x (by simp)
    simp only [List.flatMap_cons, List.length_append, List.length_cons, Nat.add_mul]
    omega

theorem mem_recsFrom : ∀ {i : Nat} {ls : List Ln} {x : Rec}, x ∈ recsFrom i ls → ∃ (j : Nat) (l : Ln) (y : Wt), ls[j]? = some l ∧ y ∈ l.ws ∧ x = ⟨((i + j : Nat) : Int), l.epoch, y.num, y.key, y.val⟩
  | i, [], x, h => by simp [recsFrom] at h
  | i, l :: r, x, h => by
    simp only [recsFrom, List.mem_append, List.mem_map] at h
    rcases h with ⟨y, hy, rfl⟩ | h
    · exact ⟨0, l, y, rfl, hy, by simp⟩
    · obtain ⟨j, l', y, h1, h2, h3⟩ := mem_recsFrom h
      exact ⟨j + 1, l', y, by simpa using h1, h2, by rw [h3, show i + 1 + j = i + (j + 1) by omega]⟩

theorem recsFrom_len : ∀ (i : Nat) (ls : List Ln), ((recsFrom i ls).length : Int) = waits ls
  | i, [] => by simp [recsFrom, waits]
  | i, l :: r => by
    have := recsFrom_len (i + 1) r
    simp [recsFrom, waits]; omega

end Go.Proofs.YthedkdbgfdjlkaaGreat
