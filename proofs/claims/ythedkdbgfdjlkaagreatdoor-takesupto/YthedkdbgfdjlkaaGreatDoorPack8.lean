import Derived.Deep.CutRange
import Derived.Test.YthedkdbgfdjlkaaGreatDoorPack1
import Derived.Test.YthedkdbgfdjlkaaGreatDoorPack2
import Derived.Test.YthedkdbgfdjlkaaGreatDoorPack3
import Derived.Test.YthedkdbgfdjlkaaGreatDoorPack4
import Derived.Test.YthedkdbgfdjlkaaGreatDoorPack5
import Derived.Test.YthedkdbgfdjlkaaGreatDoorPack6
import Derived.Test.YthedkdbgfdjlkaaGreatDoorPack7
/- culvertref: Copy, WALKED. -/
namespace Go.Proofs.YthedkdbgfdjlkaaGreatDoor
set_option linter.unusedVariables false
set_option linter.unusedSimpArgs false
open Go.RowKit Go.Lib

/-- An append of a source as one step of a region that draws. -/
theorem step_append_src {P : Program} {ops : Array Oper} {o : Oper} {a : Act} {w : World} {K : Act → World → Prop} {Q : Exit → Act → World → Prop} {E : Prop}
    (hg : o.guard = none) (s x : Operand) (t : TypeId) (hop : o.op = Op.call { callee := Callee.builtin Builtin.append, args := #[s, x], argTypes := #[t, t] })
    (base : Nat) (e : TypeId) (i : TypeInfo) (z : Value) (size bytes : Nat) (h1 : P.underlying t = some (.slice e)) (h2 : P.info? e = some i) (h3 : i.zero = some z) (h4 : i.size = size) (h5 : i.bytes = bytes) (h6 : z.cells.size = size) (h7 : 0 < size)
    (v : Value) (n : Nat) (xs : List Value) (hs : a.eval s = v) (hown : w.ownsRow base e size v n xs)
    (y : Value) (m : Nat) (news : List Value) (hx : a.eval x = y) (hsr : SrcAt w y m news) (hn : news.length = m * size) (h1c : ∀ u ∈ news, u.oneCell' = true)
    (b1 : n + m ≤ maxLen) (b2 : (n + m) * bytes ≤ 140737488355328) (hb : base ≤ w.heap.size)
    (hK : ∀ v' w', w'.ownsRow base e size v' (n + m) (xs ++ news) → w.grownBy w' v.ownBlock → (v'.ownBlock = v.ownBlock ∨ ∀ k, v'.ownBlock = some k → w.heap.size ≤ k) → K (a.put o.dst v') w') :
    if Region.wanted o (yielded ops a.tmps) = true then Oper.wp P o a w K Q else E := by
  have hw : Region.wanted o (yielded ops a.tmps) = true := by simp [Region.wanted, hg]
  rw [if_pos hw]
  obtain ⟨v', w', hrun, r1, r2, r3⟩ := run_append_src (P := P) w base t o.type e i z size bytes h1 h2 h3 h4 h5 h6 h7 v n xs hown y m news hsr hn h1c b1 b2 hb
  unfold Oper.wp
  simp [execOp, hop, resolve, invoke, builtin, hs, hx, hrun, Result.andThen]
  exact hK v' w' r1 r2 r3

/-- Onto nothing: a row of its own. -/
theorem run_fill {P : Program} (w : World) (t ty e : TypeId) (i : TypeInfo) (z : Value) (size bytes : Nat) (h1 : P.underlying t = some (.slice e)) (h2 : P.info? e = some i) (h3 : i.zero = some z) (h4 : i.size = size) (h5 : i.bytes = bytes) (h6 : z.cells.size = size) (h7 : 0 < size)
    (x : Value) (m : Nat) (news : List Value) (hs : SrcAt w x m news) (hn : news.length = m * size) (h1c : ∀ u ∈ news, u.oneCell' = true) (b1 : m ≤ maxLen) (b2 : m * bytes ≤ 140737488355328) :
    ∃ v' w', (Builtin.append_ #[t, t] ty #[.slice none 0 0, x]).run P w = .ok v' w' ∧ w'.ownsRow w.heap.size e size v' m news ∧ Chg (fun _ => False) w w' := by
  obtain ⟨v', w', r1, r2, r3, _⟩ := run_append_src (P := P) w w.heap.size t ty e i z size bytes h1 h2 h3 h4 h5 h6 h7 (.slice none 0 0) 0 [] (World.ownsRow_nil _ _ _ _) x m news hs hn h1c (by omega) (by rw [Nat.zero_add]; exact b2) (Nat.le_refl _)
  rw [Nat.zero_add, List.nil_append] at r2
  exact ⟨v', w', r1, r2, ⟨r3.os, r3.tape, r3.output, r3.size, fun k hk _ => r3.block k hk (by simp [Value.ownBlock])⟩⟩

theorem step_fill {P : Program} {ops : Array Oper} {o : Oper} {a : Act} {w : World} {K : Act → World → Prop} {Q : Exit → Act → World → Prop} {E : Prop}
    (hg : o.guard = none) (s x : Operand) (t : TypeId) (hop : o.op = Op.call { callee := Callee.builtin Builtin.append, args := #[s, x], argTypes := #[t, t] })
    (e : TypeId) (i : TypeInfo) (z : Value) (size bytes : Nat) (h1 : P.underlying t = some (.slice e)) (h2 : P.info? e = some i) (h3 : i.zero = some z) (h4 : i.size = size) (h5 : i.bytes = bytes) (h6 : z.cells.size = size) (h7 : 0 < size)
    (hs : a.eval s = .slice none 0 0) (y : Value) (m : Nat) (news : List Value) (hx : a.eval x = y) (hsr : SrcAt w y m news) (hn : news.length = m * size) (h1c : ∀ u ∈ news, u.oneCell' = true)
    (b1 : m ≤ maxLen) (b2 : m * bytes ≤ 140737488355328)
    (hK : ∀ v' w', w'.ownsRow w.heap.size e size v' m news → Chg (fun _ => False) w w' → K (a.put o.dst v') w') :
    if Region.wanted o (yielded ops a.tmps) = true then Oper.wp P o a w K Q else E := by
  have hw : Region.wanted o (yielded ops a.tmps) = true := by simp [Region.wanted, hg]
  rw [if_pos hw]
  obtain ⟨v', w', hrun, r1, r2⟩ := run_fill (P := P) w t o.type e i z size bytes h1 h2 h3 h4 h5 h6 h7 y m news hsr hn h1c b1 b2
  unfold Oper.wp
  simp [execOp, hop, resolve, invoke, builtin, hs, hx, hrun, Result.andThen]
  exact hK v' w' r1 r2

/-- A row as a source. -/
theorem SrcAt.all {w : World} {lo : Nat} {e : TypeId} {size n : Nat} {v : Value} {xs : List Value} (h : w.ownsRow lo e size v n xs) : SrcAt w v n xs := by
  have h0 := h
  rcases h.2 with ⟨hv, hz⟩ | ⟨g, cap, cur, hv, _⟩
  · refine .inl ⟨hv, hz, List.eq_nil_of_length_eq_zero ?_⟩
    rw [h.1, hz]; simp
  · subst hv
    exact .inr ⟨_, _, rfl, fun j u hj => by rw [add_lit', Nat.zero_add]; exact row_cell h0 hj⟩

/-- What the sink said. -/
structure Hd where
  key : ByteArray
  token : Int

def hdCells : List Hd → List Value
  | [] => []
  | h :: r => .string h.key :: .int .i64 h.token :: hdCells r

theorem hdCells_len : ∀ l : List Hd, (hdCells l).length = l.length * 2
  | [] => rfl
  | x :: r => by
    have := hdCells_len r
    simp [hdCells, this]
    omega

theorem hdCells_one : ∀ (l : List Hd) (u : Value), u ∈ hdCells l → u.oneCell' = true
  | [], u, h => by simp [hdCells] at h
  | x :: r, u, h => by
    simp only [hdCells, List.mem_cons] at h
    rcases h with rfl | rfl | h
    · rfl
    · rfl
    · exact hdCells_one r u h

theorem recCells_one : ∀ (l : List Rec) (u : Value), u ∈ recCells l → u.oneCell' = true
  | [], u, h => by simp [recCells] at h
  | x :: r, u, h => by
    simp only [recCells, Rec.cells, List.mem_append, List.mem_cons, List.not_mem_nil, or_false] at h
    rcases h with (rfl | rfl | rfl | rfl | rfl) | h
    · rfl
    · rfl
    · rfl
    · rfl
    · rfl
    · exact recCells_one r u h

/-- A block's first cells. -/
structure Blk (w : World) (b n : Nat) (C : Nat → Value) : Prop where
  cell : ∀ j, j < n → w.cell? ⟨b, j, none⟩ = some (C j)
  fz : ∀ j, w.frozen? ⟨b, j, none⟩ = false

def updV (C : Nat → Value) (j : Nat) (u : Value) : Nat → Value := fun k => if k = j then u else C k

theorem updV_same (C : Nat → Value) (j : Nat) (u : Value) : updV C j u j = u := by simp [updV]
theorem updV_ne (C : Nat → Value) {j k : Nat} (u : Value) (h : k ≠ j) : updV C j u k = C k := by simp [updV, h]

theorem Blk.set {w : World} {b n : Nat} {C : Nat → Value} (h : Blk w b n C) (j : Nat) (u : Value) : Blk (w.setCell ⟨b, j, none⟩ u) b n (updV C j u) := by
  refine ⟨fun k hk => ?_, fun k => by rw [World.frozen?_setCell]; exact h.fz k⟩
  by_cases e : k = j
  · subst e
    rw [updV_same]
    exact World.cell?_setCell_same _ _ _ (h.cell k hk)
  · rw [updV_ne _ _ e, World.cell?_setCell_other _ _ _ _ (by simp [e])]
    exact h.cell k hk

theorem Blk.chg {F : Nat → Prop} {w w' : World} {b n : Nat} {C : Nat → Value} (h : Blk w b n C) (hc : Chg F w w') (hn : 0 < n) (hb : ¬ F b) : Blk w' b n C :=
  ⟨fun j hj => hc.cellAt (h.cell j hj) hb, fun j => (World.frozen?_of_block (w := w) (hc.block b (World.block_lt_of_cell? _ _ (h.cell 0 hn)) hb)).trans (h.fz j)⟩

/-- A relay of the document in memory. -/
structure RefAt (w : World) (lo b : Nat) (E B : Nat → Int) (V : Nat → Value) (vt vh : Value) (Q : Nat → List Rec) (T : List Rec) (Hs : List Hd) (c : Bool) : Prop where
  ep : ∀ i, i < 4 → w.cell? ⟨b, i * 3, none⟩ = some (.int .i64 (E i))
  ba : ∀ i, i < 4 → w.cell? ⟨b, i * 3 + 1, none⟩ = some (.int .i64 (B i))
  qu : ∀ i, i < 4 → w.cell? ⟨b, i * 3 + 2, none⟩ = some (V i)
  tk : w.cell? ⟨b, 12, none⟩ = some vt
  hd : w.cell? ⟨b, 13, none⟩ = some vh
  cl : w.cell? ⟨b, 14, none⟩ = some (.bool c)
  fz : ∀ j, w.frozen? ⟨b, j, none⟩ = false
  rows : ∀ i, i < 4 → w.ownsRow lo 53 5 (V i) (Q i).length (recCells (Q i))
  taken : w.ownsRow lo 53 5 vt T.length (recCells T)
  held : w.ownsRow lo 181 2 vh Hs.length (hdCells Hs)
  own : ∀ i, i < 4 → (V i).ownBlock ≠ some b
  ownt : vt.ownBlock ≠ some b
  ownh : vh.ownBlock ≠ some b
  sep : ∀ i j, i < 4 → j < 4 → i ≠ j → ∀ g, (V i).ownBlock = some g → (V j).ownBlock ≠ some g
  sept : ∀ i, i < 4 → ∀ g, (V i).ownBlock = some g → vt.ownBlock ≠ some g
  seph : ∀ i, i < 4 → ∀ g, (V i).ownBlock = some g → vh.ownBlock ≠ some g
  septh : ∀ g, vt.ownBlock = some g → vh.ownBlock ≠ some g
  low : lo ≤ w.heap.size

theorem Tryz.infoHd : (Tryz.prog.info? 181).map (fun i => (i.zero, i.size, i.bytes)) = some (some (.agg #[.string { data := #[] }, .int .i64 0]), 2, 24) := by kernel_rfl

/-- A relay with nothing in it but whether it is closed. -/
def blank (c : Bool) : Nat → Value := fun j => if j < 12 then (if j % 3 = 2 then .slice none 0 0 else .int .i64 0) else if j < 14 then .slice none 0 0 else .bool c

set_option maxRecDepth 100000 in
set_option maxHeartbeats 4000000 in
theorem copy_any {w : World} {lo b : Nat} {E B : Nat → Int} {V : Nat → Value} {vt vh : Value} {Q : Nat → List Rec} {T : List Rec} {Hs : List Hd} {c : Bool} (h : RefAt w lo b E B V vt vh Q T Hs c) (hT : T.length ≤ 1000) (hH : Hs.length ≤ 1000000000) (hq : ∀ i, i < 4 → (Q i).length ≤ 4) :
    Calls Tryz.prog 57 #[.pointer (some ⟨b, 0, none⟩)] w fun e w' => ∃ V' vt' vh', e = .returned (.pointer (some ⟨w.heap.size, 0, none⟩)) ∧ RefAt w' w.heap.size w.heap.size E B V' vt' vh' Q T Hs c ∧ Chg (fun _ => False) w w' := by
  obtain ⟨i0, hi0, hz0, hz1, hz2⟩ := info_parts Tryz.infoR
  obtain ⟨i1, hi1, hy0, hy1, hy2⟩ := info_parts Tryz.infoHd
  obtain ⟨W0, hW0⟩ : ∃ W0, W0 = w.alloc (Obj.cells #[.int .i64 0, .int .i64 0, .slice none 0 0, .int .i64 0, .int .i64 0, .slice none 0 0, .int .i64 0, .int .i64 0, .slice none 0 0, .int .i64 0, .int .i64 0, .slice none 0 0, .slice none 0 0, .slice none 0 0, .bool c] 137) := ⟨_, rfl⟩
  have c0 : Chg (fun _ => False) w W0 := by rw [hW0]; exact (Chg.refl _ w).alloc _
  have hs0 : W0.heap.size = w.heap.size + 1 := by rw [hW0]; simp
  have B0 : Blk W0 w.heap.size 15 (blank c) := by
    rw [hW0]
    refine ⟨fun j hj => ?_, fun j => World.frozen?_alloc_at _ _ _ _ rfl⟩
    rcases (by omega : j = 0 ∨ j = 1 ∨ j = 2 ∨ j = 3 ∨ j = 4 ∨ j = 5 ∨ j = 6 ∨ j = 7 ∨ j = 8 ∨ j = 9 ∨ j = 10 ∨ j = 11 ∨ j = 12 ∨ j = 13 ∨ j = 14) with rfl | rfl | rfl | rfl | rfl | rfl | rfl | rfl | rfl | rfl | rfl | rfl | rfl | rfl | rfl <;> exact World.cell?_alloc_at _ _ _ _ rfl
  have hbl : b < w.heap.size := World.block_lt_of_cell? _ _ h.tk
  have hcl := h.cl
  have ht0 := c0.cellAt h.tk id
  have hd0 := c0.cellAt h.hd id
  obtain ⟨pt, ct, rfl⟩ := row_any h.taken
  obtain ⟨ph, ch, rfl⟩ := row_any h.held
  have b12 : W0.cell? ⟨w.heap.size, 12, none⟩ = some (.slice none 0 0) := B0.cell 12 (by omega)
  have f12 := B0.fz 12
  have hbn : ¬ b = w.heap.size := by omega
  have hnb : ¬ w.heap.size = b := by omega
  have HS0 : Hid (W0.heap.size = w.heap.size + 1) := hs0
  go_enter Tryz.func57, Tryz.ntmps57
  go_wp2_with fail
  rw [← hW0]
  clear hW0 hs0
  go_cut [] from 12 to 23 (fun wc => ∃ vt', Blk wc w.heap.size 15 (updV (blank c) 12 vt') ∧ wc.ownsRow (w.heap.size + 1) 53 5 vt' T.length (recCells T) ∧ Chg (fun _ => False) w wc ∧ w.heap.size + 1 ≤ wc.heap.size)
  case first =>
    have s1 : Hid (SrcAt W0.drew (.slice pt T.length ct) T.length (recCells T)) := SrcAt.all (c0.row' h.taken (fun _ _ h => h))
    have s2 : Hid ((recCells T).length = T.length * 5) := recCells_len T
    have s3 : Hid (∀ u ∈ recCells T, u.oneCell' = true) := recCells_one T
    have s4 : Hid (T.length ≤ maxLen) := by show _ ≤ maxLen; unfold maxLen; omega
    have s5 : Hid (T.length * 48 ≤ 140737488355328) := by show _ ≤ _; omega
    have s6 : Hid (∀ w1, Chg (fun _ => False) W0.drew w1 → w1.cell? ⟨w.heap.size, 12, none⟩ = some (.slice none 0 0) ∧ w1.frozen? ⟨w.heap.size, 12, none⟩ = false ∧ Hid (Blk w1 w.heap.size 15 (blank c) ∧ Chg (fun _ => False) w w1 ∧ w.heap.size + 1 ≤ w1.heap.size)) := by
      intro w1 hc
      have hc' : Chg (fun _ => False) W0 w1 := (((Quiet.refl W0).drew).chg _).trans hc (fun _ _ h => h)
      have hB := B0.chg hc' (by omega) id
      refine ⟨hB.cell 12 (by omega), hB.fz 12, hB, c0.trans hc' (fun _ _ h => h), ?_⟩
      have := hc'.size
      have := HS0.out
      omega
    go_region_law (refine step_fill rfl (.tmp 16) (.tmp 20) 131 rfl 53 i0 _ 5 48 Tryz.underlying131 hi0 hz0 hz1 hz2 rfl (by decide) (by simp [Act.eval, Act.put]) (.slice pt T.length ct) T.length (recCells T) (by simp [Act.eval, Act.put]) s1.out s2.out s3.out s4.out s5.out ?_; intro v' w1 hown hc1; obtain ⟨q', cap', rfl⟩ := row_any hown; obtain ⟨hp1, hz1', hh⟩ := s6.out w1 hc1)
    all_goals
      go_wp2_with fail
      go_meet
      case rel =>
        obtain ⟨hB, hcw, hsz⟩ := hh.out
        have hown' : w1.ownsRow (w.heap.size + 1) 53 5 (.slice q' T.length cap') T.length (recCells T) := row_lower hown (by show w.heap.size + 1 ≤ W0.heap.size; rw [HS0.out]; omega)
        refine ⟨.slice q' T.length cap', hB.set 12 _, ownsRow_setCell_other hown' (fun e => ?_) _, hcw.setCell (p := ⟨w.heap.size, 12, none⟩) (fun h => absurd h (Nat.lt_irrefl _)) _, by simpa [World.setCell] using hsz⟩
        have := (hown'.lt _ e).1
        simp only at this
        omega
  case rest =>
    obtain ⟨vt', hB1, o1, c1, z1⟩ := hcut
    clear B0 ht0 hd0 c0 b12 f12 HS0
    have b13 : wc.cell? ⟨w.heap.size, 13, none⟩ = some (.slice none 0 0) := hB1.cell 13 (by omega)
    have f13 := hB1.fz 13
    have hd1 := c1.cellAt h.hd id
    go_wp2_with fail
    go_cut [] from 24 to 35 (fun wd => ∃ vh', Blk wd w.heap.size 15 (updV (updV (blank c) 12 vt') 13 vh') ∧ wd.ownsRow (w.heap.size + 1) 53 5 vt' T.length (recCells T) ∧ wd.ownsRow (w.heap.size + 1) 181 2 vh' Hs.length (hdCells Hs) ∧ (∀ g, vt'.ownBlock = some g → vh'.ownBlock ≠ some g) ∧ Chg (fun _ => False) w wd ∧ w.heap.size + 1 ≤ wd.heap.size)
    case first =>
      have s1 : Hid (SrcAt wc.drew (.slice ph Hs.length ch) Hs.length (hdCells Hs)) := SrcAt.all (c1.row' h.held (fun _ _ h => h))
      have s2 : Hid ((hdCells Hs).length = Hs.length * 2) := hdCells_len Hs
      have s3 : Hid (∀ u ∈ hdCells Hs, u.oneCell' = true) := hdCells_one Hs
      have s4 : Hid (Hs.length ≤ maxLen) := by show _ ≤ maxLen; unfold maxLen; omega
      have s5 : Hid (Hs.length * 24 ≤ 140737488355328) := by show _ ≤ _; omega
      have s6 : Hid (∀ w1, Chg (fun _ => False) wc.drew w1 → w1.cell? ⟨w.heap.size, 13, none⟩ = some (.slice none 0 0) ∧ w1.frozen? ⟨w.heap.size, 13, none⟩ = false ∧ Hid (Blk w1 w.heap.size 15 (updV (blank c) 12 vt') ∧ w1.ownsRow (w.heap.size + 1) 53 5 vt' T.length (recCells T) ∧ Chg (fun _ => False) w w1 ∧ w.heap.size + 1 ≤ w1.heap.size)) := by
        intro w1 hc
        have hc' : Chg (fun _ => False) wc w1 := (((Quiet.refl wc).drew).chg _).trans hc (fun _ _ h => h)
        have hB := hB1.chg hc' (by omega) id
        exact ⟨hB.cell 13 (by omega), hB.fz 13, hB, hc'.row' o1 (fun _ _ h => h), c1.trans hc' (fun _ _ h => h), by have := hc'.size; omega⟩
      go_region_law (refine step_fill rfl (.tmp 28) (.tmp 32) 135 rfl 181 i1 _ 2 24 Tryz.underlying135 hi1 hy0 hy1 hy2 rfl (by decide) (by simp [Act.eval, Act.put]) (.slice ph Hs.length ch) Hs.length (hdCells Hs) (by simp [Act.eval, Act.put]) s1.out s2.out s3.out s4.out s5.out ?_; intro v' w1 hown hc1; obtain ⟨q', cap', rfl⟩ := row_any hown; obtain ⟨hp1, hz1', hh⟩ := s6.out w1 hc1)
      all_goals
        go_wp2_with fail
        go_meet
        case rel =>
          obtain ⟨hB, ot, hcw, hsz⟩ := hh.out
          have hown' : w1.ownsRow (w.heap.size + 1) 181 2 (.slice q' Hs.length cap') Hs.length (hdCells Hs) := row_lower hown z1
          refine ⟨.slice q' Hs.length cap', hB.set 13 _, ownsRow_setCell_other ot (fun e => ?_) _, ownsRow_setCell_other hown' (fun e => ?_) _, fun g hg hg' => ?_, hcw.setCell (p := ⟨w.heap.size, 13, none⟩) (fun h => absurd h (Nat.lt_irrefl _)) _, by simpa [World.setCell] using hsz⟩
          · have := (ot.lt _ e).1
            simp only at this
            omega
          · have := (hown'.lt _ e).1
            simp only at this
            omega
          · have h1 : g < wc.heap.size := (o1.lt g hg).2
            have h2 : wc.heap.size ≤ g := (hown.lt g hg').1
            omega
    case rest =>
      clear hB1 o1 c1 z1 b13 f13 hd1
      obtain ⟨vh', hB2, o2, p2, sth, c2, z2⟩ := hcut
      go_wp2_with fail
      go_loopw [4, 5] (fun si _ wr => ∃ (i : Nat) (V' C : Nat → Value), si = .int .i64 i ∧ i ≤ 4 ∧ Blk wr w.heap.size 15 C ∧ C 12 = vt' ∧ C 13 = vh' ∧ C 14 = .bool c ∧ (∀ k, k < i → C (k * 3) = .int .i64 (E k) ∧ C (k * 3 + 1) = .int .i64 (B k) ∧ C (k * 3 + 2) = V' k ∧ wr.ownsRow (w.heap.size + 1) 53 5 (V' k) (Q k).length (recCells (Q k))) ∧ (∀ k, k < i → ∀ g, (V' k).ownBlock = some g → vt'.ownBlock ≠ some g ∧ vh'.ownBlock ≠ some g ∧ ∀ j, j < i → j ≠ k → (V' j).ownBlock ≠ some g) ∧ wr.ownsRow (w.heap.size + 1) 53 5 vt' T.length (recCells T) ∧ wr.ownsRow (w.heap.size + 1) 181 2 vh' Hs.length (hdCells Hs) ∧ Chg (fun _ => False) w wr ∧ w.heap.size + 1 ≤ wr.heap.size) (fun si _ _ => 4 - (intOf si).toNat)
      case atStart => exact ⟨0, fun _ => .slice none 0 0, _, rfl, by omega, hB2, rfl, rfl, rfl, fun k hk => by omega, fun k hk => by omega, o2, p2, c2, z2⟩
      case round =>
        clear hB2 o2 p2 c2 z2
        obtain ⟨i, V', C, rfl, hi, hB, e12, e13, e14, hk, hsep, ot, oh, hc, hz⟩ := hrel
        by_cases hi4 : i < 4
        · have hi4' : (i : Int) < 4 := by omega
          have x0 := hc.cellAt (h.ep i hi4) id
          have x1 := hc.cellAt (h.ba i hi4) id
          have x2 := hc.cellAt (h.qu i hi4) id
          obtain ⟨pq, cq, hpq⟩ := row_any (h.rows i hi4)
          rw [hpq] at x2
          have hql := hq i hi4
          have HPQ : Hid (V i = .slice pq (Q i).length cq) := hpq
          have xa0 : ∀ ob, (wr.alloc ob).cell? ⟨b, i * 3, none⟩ = some (.int .i64 (E i)) := fun ob => (World.cell?_alloc_lt wr ob _ (World.block_lt_of_cell? _ _ x0)).trans x0
          have xa1 : ∀ ob, (wr.alloc ob).cell? ⟨b, i * 3 + 1, none⟩ = some (.int .i64 (B i)) := fun ob => (World.cell?_alloc_lt wr ob _ (World.block_lt_of_cell? _ _ x1)).trans x1
          clear hpq
          go_wp2_with fail
          go_region
          go_wp2_with fail
          obtain ⟨W8, hW8⟩ : ∃ W8, W8 = (wr.alloc (Obj.cells #[.int .i64 (E i), .int .i64 (B i), .slice none 0 0] 133)).drew := ⟨_, rfl⟩
          have c8 : Chg (fun _ => False) wr W8 := by rw [hW8]; exact ((Chg.refl _ wr).alloc _).drew
          have hs8 : W8.heap.size = wr.heap.size + 1 := by rw [hW8]; exact World.size_alloc _ _
          have t0 : W8.cell? ⟨wr.heap.size, 0, none⟩ = some (.int .i64 (E i)) := by rw [hW8, World.cell?_drew]; exact World.cell?_alloc_at _ _ _ _ rfl
          have t1 : W8.cell? ⟨wr.heap.size, 1, none⟩ = some (.int .i64 (B i)) := by rw [hW8, World.cell?_drew]; exact World.cell?_alloc_at _ _ _ _ rfl
          have t2 : W8.cell? ⟨wr.heap.size, 2, none⟩ = some (.slice none 0 0) := by rw [hW8, World.cell?_drew]; exact World.cell?_alloc_at _ _ _ _ rfl
          have tf : W8.frozen? ⟨wr.heap.size, 2, none⟩ = false := by rw [hW8]; exact World.frozen?_alloc_at _ _ _ _ rfl
          rw [← hW8]
          have HS8 : Hid (W8.heap.size = wr.heap.size + 1) := hs8
          have x28 := c8.cellAt x2 id
          clear hW8 hs8 xa0 xa1 x0 x1 x2
          go_cut [] from 55 to 65 (fun wd => ∃ vq, wd.cell? ⟨wr.heap.size, 0, none⟩ = some (.int .i64 (E i)) ∧ wd.cell? ⟨wr.heap.size, 1, none⟩ = some (.int .i64 (B i)) ∧ wd.cell? ⟨wr.heap.size, 2, none⟩ = some vq ∧ wd.ownsRow (wr.heap.size + 1) 53 5 vq (Q i).length (recCells (Q i)) ∧ Chg (fun _ => False) wr wd)
          case first =>
            have s1 : Hid (SrcAt W8.drew (.slice pq (Q i).length cq) (Q i).length (recCells (Q i))) := by
              have := SrcAt.all (c8.row' (hc.row' (h.rows i hi4) (fun _ _ h => h)) (fun _ _ h => h))
              rw [HPQ.out] at this
              exact this
            have s2 : Hid ((recCells (Q i)).length = (Q i).length * 5) := recCells_len _
            have s3 : Hid (∀ u ∈ recCells (Q i), u.oneCell' = true) := recCells_one _
            have s4 : Hid ((Q i).length ≤ maxLen) := by show _ ≤ maxLen; unfold maxLen; omega
            have s5 : Hid ((Q i).length * 48 ≤ 140737488355328) := by show _ ≤ _; omega
            have s6 : Hid (∀ w1, Chg (fun _ => False) W8.drew w1 → w1.cell? ⟨wr.heap.size, 2, none⟩ = some (.slice none 0 0) ∧ w1.frozen? ⟨wr.heap.size, 2, none⟩ = false ∧ Hid (w1.cell? ⟨wr.heap.size, 0, none⟩ = some (.int .i64 (E i)) ∧ w1.cell? ⟨wr.heap.size, 1, none⟩ = some (.int .i64 (B i)) ∧ Chg (fun _ => False) wr w1)) := by
              intro w1 hc1
              have hc' : Chg (fun _ => False) W8 w1 := (((Quiet.refl W8).drew).chg _).trans hc1 (fun _ _ h => h)
              exact ⟨hc'.cellAt t2 id, (World.frozen?_of_block (w := W8) (hc'.block wr.heap.size (World.block_lt_of_cell? _ _ t2) id)).trans tf, hc'.cellAt t0 id, hc'.cellAt t1 id, c8.trans hc' (fun _ _ h => h)⟩
            go_region_law (refine step_fill rfl (.tmp 56) (.tmp 63) 131 rfl 53 i0 _ 5 48 Tryz.underlying131 hi0 hz0 hz1 hz2 rfl (by decide) (by simp [Act.eval, Act.put]) (.slice pq (Q i).length cq) (Q i).length (recCells (Q i)) (by simp [Act.eval, Act.put]) s1.out s2.out s3.out s4.out s5.out ?_; intro v' w1 hown hc1; obtain ⟨q', cap', rfl⟩ := row_any hown; obtain ⟨hp1, hz1', hh⟩ := s6.out w1 hc1)
            all_goals
              go_wp2_with fail
              go_meet
              case rel =>
                obtain ⟨y0, y1, cw1⟩ := hh.out
                have hown' : w1.ownsRow (wr.heap.size + 1) 53 5 (.slice q' (Q i).length cap') (Q i).length (recCells (Q i)) := row_lower hown (by show wr.heap.size + 1 ≤ W8.heap.size; rw [HS8.out]; omega)
                refine ⟨.slice q' (Q i).length cap', (World.cell?_setCell_other _ _ _ _ (by simp)).trans y0, (World.cell?_setCell_other _ _ _ _ (by simp)).trans y1, World.cell?_setCell_same _ _ _ hp1, ownsRow_setCell_other hown' (fun e => ?_) _, cw1.setCell (p := ⟨wr.heap.size, 2, none⟩) (fun h => absurd h (Nat.lt_irrefl _)) _⟩
                have := (hown'.lt _ e).1
                simp only at this
                omega
          case rest =>
            clear t0 t1 t2 tf c8 x28 HS8
            obtain ⟨vq, y0, y1, y2, oq, cd⟩ := hcut
            obtain ⟨pv, cv, hpv⟩ := row_any oq
            have hBd := hB.chg cd (by omega) id
            have d0 := hBd.cell (i * 3) (by omega)
            have d1 := hBd.cell (i * 3 + 1) (by omega)
            have d2 := hBd.cell (i * 3 + 2) (by omega)
            have f0 := hBd.fz (i * 3)
            have f1 := hBd.fz (i * 3 + 1)
            have f2 := hBd.fz (i * 3 + 2)
            rw [hpv] at y2
            have HPV : Hid (vq = .slice pv (Q i).length cv) := hpv
            clear hpv
            go_wp2_with fail
            go_region
            go_wp2_with fail
            go_roundw
            case rel =>
              have hB3 := ((hBd.set (i * 3) (.int .i64 (E i))).set (i * 3 + 1) (.int .i64 (B i))).set (i * 3 + 2) (.slice pv (Q i).length cv)
              have cF : Chg (fun k => k = w.heap.size) wc (((wc.setCell ⟨w.heap.size, i * 3, none⟩ (.int .i64 (E i))).setCell ⟨w.heap.size, i * 3 + 1, none⟩ (.int .i64 (B i))).setCell ⟨w.heap.size, i * 3 + 2, none⟩ (.slice pv (Q i).length cv)).drew := ((((Chg.refl (fun k => k = w.heap.size) wc).setCell (p := ⟨w.heap.size, i * 3, none⟩) (fun _ => rfl) _).setCell (p := ⟨w.heap.size, i * 3 + 1, none⟩) (fun _ => rfl) _).setCell (p := ⟨w.heap.size, i * 3 + 2, none⟩) (fun _ => rfl) _).drew
              have hzd := cd.size
              have hqb : ∀ g, (Value.slice pv (Q i).length cv).ownBlock = some g → wr.heap.size + 1 ≤ g := fun g hg => (oq.lt g (by rw [HPV.out]; exact hg)).1
              have oq' : wc.ownsRow (w.heap.size + 1) 53 5 (.slice pv (Q i).length cv) (Q i).length (recCells (Q i)) := by
                have := row_lower oq (show w.heap.size + 1 ≤ wr.heap.size + 1 by omega)
                rw [HPV.out] at this
                exact this
              have low : ∀ {e : TypeId} {size n : Nat} {v : Value} {xs : List Value}, wc.ownsRow (w.heap.size + 1) e size v n xs → ∀ k, v.ownBlock = some k → ¬ k = w.heap.size := fun hr k hk e => by have := (hr.lt k hk).1; omega
              have oldb : ∀ k, k < i → ∀ g, (V' k).ownBlock = some g → g < wr.heap.size := fun k hk' g hg => ((hk k hk').2.2.2.lt g hg).2
              refine ⟨i + 1, updV V' i (.slice pv (Q i).length cv), _, by go_num, by omega, hB3.chg (((Quiet.refl _).drew).chg (fun _ => False)) (by omega) id, ?_, ?_, ?_, fun k hk' => ?_, fun k hk' g hg => ?_, cF.row' (cd.row' ot (fun _ _ h => h)) (low (cd.row' ot (fun _ _ h => h))), cF.row' (cd.row' oh (fun _ _ h => h)) (low (cd.row' oh (fun _ _ h => h))), (hc.trans cd (fun _ _ h => h)).step cF (fun k hk => by omega), ?_⟩
              · rw [updV_ne _ _ (by omega), updV_ne _ _ (by omega), updV_ne _ _ (by omega)]; exact e12
              · rw [updV_ne _ _ (by omega), updV_ne _ _ (by omega), updV_ne _ _ (by omega)]; exact e13
              · rw [updV_ne _ _ (by omega), updV_ne _ _ (by omega), updV_ne _ _ (by omega)]; exact e14
              · by_cases e : k = i
                · subst e
                  refine ⟨?_, ?_, ?_, ?_⟩
                  · rw [updV_ne _ _ (by omega), updV_ne _ _ (by omega), updV_same]
                  · rw [updV_ne _ _ (by omega), updV_same]
                  · rw [updV_same, updV_same]
                  · rw [updV_same]
                    exact cF.row' oq' (low oq')
                · obtain ⟨k1, k2, k3, k4⟩ := hk k (by omega)
                  refine ⟨?_, ?_, ?_, ?_⟩
                  · rw [updV_ne _ _ (by omega), updV_ne _ _ (by omega), updV_ne _ _ (by omega)]; exact k1
                  · rw [updV_ne _ _ (by omega), updV_ne _ _ (by omega), updV_ne _ _ (by omega)]; exact k2
                  · rw [updV_ne _ _ (by omega), updV_ne _ _ (by omega), updV_ne _ _ (by omega), updV_ne _ _ e]; exact k3
                  · rw [updV_ne _ _ e]
                    exact cF.row' (cd.row' k4 (fun _ _ h => h)) (low (cd.row' k4 (fun _ _ h => h)))
              · by_cases e : k = i
                · subst e
                  rw [updV_same] at hg
                  have hg1 := hqb g hg
                  refine ⟨fun h1 => ?_, fun h1 => ?_, fun j hj hne h1 => ?_⟩
                  · have := (ot.lt g h1).2; omega
                  · have := (oh.lt g h1).2; omega
                  · rw [updV_ne _ _ hne] at h1
                    have := oldb j (by omega) g h1
                    omega
                · rw [updV_ne _ _ e] at hg
                  obtain ⟨q1, q2, q3⟩ := hsep k (by omega) g hg
                  refine ⟨q1, q2, fun j hj hne h1 => ?_⟩
                  by_cases ej : j = i
                  · rw [ej, updV_same] at h1
                    have := hqb g h1
                    have := oldb k (by omega) g hg
                    omega
                  · rw [updV_ne _ _ ej] at h1
                    exact q3 j (by omega) hne h1
              · have := cF.size
                omega
            case measure => simp [intOf]; omega
        · have hi4' : ¬ (i : Int) < 4 := by omega
          obtain rfl : i = 4 := by omega
          go_wp2_with fail
          go_ret
          refine ⟨rfl, ⟨V', vt', vh', ⟨fun k hk4 => ?_, fun k hk4 => ?_, fun k hk4 => ?_, ?_, ?_, ?_, hB.fz, fun k hk4 => row_lower (hk k hk4).2.2.2 (by omega), row_lower ot (by omega), row_lower oh (by omega), fun k hk4 e => ?_, fun e => ?_, fun e => ?_, fun a d ha hd hne g hg => (hsep a ha g hg).2.2 d hd (fun e => hne e.symm), fun k hk4 g hg => (hsep k hk4 g hg).1, fun k hk4 g hg => (hsep k hk4 g hg).2.1, sth, by omega⟩⟩, hc⟩
          · rw [hB.cell _ (by omega), (hk k hk4).1]
          · rw [hB.cell _ (by omega), (hk k hk4).2.1]
          · rw [hB.cell _ (by omega), (hk k hk4).2.2.1]
          · rw [hB.cell _ (by omega), e12]
          · rw [hB.cell _ (by omega), e13]
          · rw [hB.cell _ (by omega), e14]
          · have := ((hk k hk4).2.2.2.lt _ e).1; omega
          · have := (ot.lt _ e).1; omega
          · have := (oh.lt _ e).1; omega

end Go.Proofs.YthedkdbgfdjlkaaGreatDoor

/- culvertlaw: pick, num, WALKED; what an append of marks does. -/
namespace Go.Proofs.YthedkdbgfdjlkaaGreatDoor
set_option linter.unusedVariables false
set_option linter.unusedSimpArgs false
open Go.RowKit Go.Lib

set_option maxHeartbeats 400000 in
theorem lpick_any (c n : Int) (w : World) (hc : inInt c) (hn : 0 < n) (hn2 : n ≤ 9223372036854775807) :
    Calls Tryz.prog 26 #[.int .i64 c, .int .i64 n] w fun e w' => e = .returned (.int .i64 (pickI c n)) ∧ w' = w := by
  obtain ⟨h1, h2⟩ := hc
  by_cases hneg : c < 0
  · go_enter Tryz.func26, Tryz.ntmps26
    go_wp2
    go_ret
    refine ⟨?_, rfl⟩
    have e : -((c + 1).tmod n) = (-(c + 1)) % n := by rw [← Int.neg_tmod]; exact Int.tmod_eq_emod_of_nonneg (by omega)
    simp [pickI, hneg, e]
  · go_enter Tryz.func26, Tryz.ntmps26
    go_wp2
    go_ret
    exact ⟨by simp [pickI, show ¬ c < 0 by omega], rfl⟩

set_option maxHeartbeats 400000 in
theorem num_any (e : Int) (w : World) : Calls Tryz.prog 47 #[.int .i64 e] w fun r w' => r = .returned (.int .i64 e) ∧ w' = w := by
  go_enter Tryz.func47, Tryz.ntmps47
  go_wp2
  go_ret
  exact ⟨rfl, rfl⟩

/-- A list of which each element has the mark. -/
def Mk (w : World) (sz off : Nat) (x : Int) (v : Value) : Prop := (∃ c, v = .slice none 0 c) ∨ ∃ g n cap, v = .slice (some ⟨g, 0, none⟩) n cap ∧ ∀ j, j < n → w.cell? ⟨g, j * sz + off, none⟩ = some (.int .i64 x)

/-- Of a block: each cell with a mark is as it was, or has this one. -/
def Ink (sz off : Nat) (x : Int) (g : Nat) (w w' : World) : Prop := ∀ j u, w.cell? ⟨g, j * sz + off, none⟩ = some u → w'.cell? ⟨g, j * sz + off, none⟩ = some u ∨ w'.cell? ⟨g, j * sz + off, none⟩ = some (.int .i64 x)

theorem Mk.ink {w w' : World} {sz off : Nat} {x : Int} {v : Value} (h : Mk w sz off x v) (hi : ∀ g, v.ownBlock = some g → Ink sz off x g w w') : Mk w' sz off x v := by
  rcases h with h | ⟨g, n, cap, rfl, hc⟩
  · exact .inl h
  · refine .inr ⟨g, n, cap, rfl, fun j hj => ?_⟩
    rcases hi g rfl j _ (hc j hj) with e | e <;> exact e

theorem Mk.chg {F : Nat → Prop} {w w' : World} {sz off : Nat} {x : Int} {v : Value} (h : Mk w sz off x v) (hc : Chg F w w') (hF : ∀ g, v.ownBlock = some g → ¬ F g) : Mk w' sz off x v := h.ink (fun g hg j u hu => .inl (hc.cellAt hu (hF g hg)))

theorem row_cut' {w : World} {lo : Nat} {e : TypeId} {size n m cap : Nat} {p : Option Addr} {xs : List Value} (h : w.ownsRow lo e size (.slice p n cap) n xs) (hm : m ≤ n) : w.ownsRow lo e size (.slice p m cap) m (xs.take (m * size)) := by
  refine ⟨?_, ?_⟩
  · rw [List.length_take, h.1]
    exact Nat.min_eq_left (Nat.mul_le_mul_right _ hm)
  · rcases h.2 with ⟨hv, hz⟩ | ⟨g, cap', cur, hv, hbg, hg, hcap, hmax, hcur, htake⟩
    · simp only [Value.slice.injEq] at hv
      obtain ⟨rfl, _, rfl⟩ := hv
      have : m = 0 := by omega
      subst this
      exact .inl ⟨rfl, rfl⟩
    · simp only [Value.slice.injEq] at hv
      obtain ⟨rfl, _, rfl⟩ := hv
      refine .inr ⟨g, cap, cur, rfl, hbg, hg, by omega, hmax, hcur, ?_⟩
      rw [← htake, List.take_take]
      congr 1
      exact (Nat.min_eq_left (Nat.mul_le_mul_right _ hm)).symm

/-- An append of marks onto a row that is marked whole: what it was stays marked, and what comes out is. -/
theorem run_mark {P : Program} (w : World) (base : Nat) (t ty e : TypeId) (i : TypeInfo) (z : Value) (size bytes : Nat) (h1 : P.underlying t = some (.slice e)) (h2 : P.info? e = some i) (h3 : i.zero = some z) (h4 : i.size = size) (h5 : i.bytes = bytes) (h6 : z.cells.size = size) (h7 : 0 < size)
    (v : Value) (n : Nat) (xs : List Value) (hown : w.ownsRow base e size v n xs)
    (ad : Addr) (m c : Nat) (news : List Value) (hn : news.length = m * size) (hc : ∀ j u, news[j]? = some u → w.cell? (ad.add j) = some u) (h1c : ∀ u ∈ news, u.oneCell' = true)
    (b1 : n + m ≤ maxLen) (b2 : (n + m) * bytes ≤ 140737488355328) (hb : base ≤ w.heap.size)
    (off : Nat) (ho : off < size) (x : Int) (hx : ∀ j, j < n → xs[j * size + off]? = some (.int .i64 x)) (hm : ∀ j, j < m → news[j * size + off]? = some (.int .i64 x)) :
    ∃ v' w', (Builtin.append_ #[t, t] ty #[v, .slice (some ad) m c]).run P w = .ok v' w' ∧ w'.ownsRow base e size v n xs ∧ Mk w' size off x v' ∧ Chg (fun k => v.ownBlock = some k) w w' ∧ (∀ g, v.ownBlock = some g → Ink size off x g w w') ∧
      (v'.ownBlock = v.ownBlock ∨ ∀ k, v'.ownBlock = some k → w.heap.size ≤ k) ∧ ∃ p k, v' = .slice p (n + m) k := by
  obtain ⟨v', w', hrun, r1, r2, r3⟩ := run_append_where (P := P) w base t ty e i z size bytes h1 h2 h3 h4 h5 h6 h7 v n xs hown ad m c news hn hc h1c b1 b2 hb
  have hxs := hown.1
  have hmk : Mk w' size off x v' := by
    rcases r1.2 with ⟨hv, _⟩ | ⟨g, cap, cur, hv, _⟩
    · exact .inl ⟨0, hv⟩
    · refine .inr ⟨g, n + m, cap, hv, fun j hj => ?_⟩
      subst hv
      refine row_cell r1 ?_
      by_cases hjn : j < n
      · have : j * size + off < xs.length := by
          rw [hxs]
          have : (j + 1) * size ≤ n * size := Nat.mul_le_mul_right _ hjn
          rw [Nat.add_mul] at this
          omega
        rw [List.getElem?_append_left this]
        exact hx j hjn
      · obtain ⟨d, rfl⟩ : ∃ d, j = n + d := ⟨j - n, by omega⟩
        have e1 : (n + d) * size + off = xs.length + (d * size + off) := by rw [hxs, Nat.add_mul]; omega
        rw [e1, List.getElem?_append_right (by omega), Nat.add_sub_cancel_left]
        exact hm d (by omega)
  refine ⟨v', w', hrun, ?_, hmk, ⟨r2.os, r2.tape, r2.output, r2.size, fun k hk hne => r2.block k hk (fun e => hne e.symm)⟩, ?_, r3, row_any r1⟩
  · rcases hown.2 with ⟨rfl, rfl⟩ | ⟨g, cap, cur, rfl, hbg, hg, hcap, hmax, hcur, htake⟩
    · obtain rfl : xs = [] := List.eq_nil_of_length_eq_zero (by simpa using hown.1)
      exact World.ownsRow_nil _ _ _ _
    · have hcells : ∀ j u, xs[j]? = some u → w.cell? ((⟨g, 0, none⟩ : Addr).add j) = some u := World.ownsRow.cells hown (g := g) rfl
      by_cases hroom : n + m ≤ cap
      · subst h4
        have hsp : ∀ j, j < news.length → (w.cell? ⟨g, 0 + n * i.size + j, none⟩).isSome = true ∧ w.frozen? ⟨g, 0 + n * i.size + j, none⟩ = false := by
          intro j hj
          have hlt : 0 + n * i.size + j < cur.size := by
            rw [hcur]
            have : (n + m) * i.size ≤ cap * i.size := Nat.mul_le_mul_right _ hroom
            rw [Nat.add_mul] at this
            omega
          constructor
          · simp [World.cell?, hg]; omega
          · simp [World.frozen?, hg]
        have hrun2 := run_append_room_cells (P := P) w t ty e i h1 h2 g 0 n cap ad m c news hn hc h1c hroom (fun j hj => (hsp j hj).1) (fun j hj => (hsp j hj).2)
        rw [hrun2] at hrun
        injection hrun with e1 e2
        subst e1
        have := row_cut' r1 (m := n) (by omega)
        rw [List.take_left' (by rw [hxs])] at this
        exact this
      · obtain ⟨v2, w2, hrun2, q1, q2⟩ := run_append_arg_grows (P := P) w t ty e i z size bytes h1 h2 h3 h4 h5 h6 h7 ⟨g, 0, none⟩ n cap xs hown.1 hcells ad m c news hn hc (by omega) b1 b2
        rw [hrun2] at hrun
        injection hrun with e1 e2
        subst e1 e2
        have cc : Chg (fun _ => False) w w2 := ⟨q2.os, q2.tape, q2.output, q2.size, fun k hk _ => q2.block k hk (by simp)⟩
        exact cc.row' hown (fun _ _ h => h)
  · intro g0 hg0 j u hu
    rcases hown.2 with ⟨rfl, rfl⟩ | ⟨g, cap, cur, rfl, hbg, hg, hcap, hmax, hcur, htake⟩
    · simp [Value.ownBlock] at hg0
    · simp only [Value.ownBlock, Option.map_some, Option.some.injEq] at hg0
      subst hg0
      have hcells : ∀ j u, xs[j]? = some u → w.cell? ((⟨g, 0, none⟩ : Addr).add j) = some u := World.ownsRow.cells hown (g := g) rfl
      by_cases hroom : n + m ≤ cap
      · subst h4
        have hsp : ∀ j, j < news.length → (w.cell? ⟨g, 0 + n * i.size + j, none⟩).isSome = true ∧ w.frozen? ⟨g, 0 + n * i.size + j, none⟩ = false := by
          intro j hj
          have hlt : 0 + n * i.size + j < cur.size := by
            rw [hcur]
            have : (n + m) * i.size ≤ cap * i.size := Nat.mul_le_mul_right _ hroom
            rw [Nat.add_mul] at this
            omega
          constructor
          · simp [World.cell?, hg]; omega
          · simp [World.frozen?, hg]
        have hrun2 := run_append_room_cells (P := P) w t ty e i h1 h2 g 0 n cap ad m c news hn hc h1c hroom (fun j hj => (hsp j hj).1) (fun j hj => (hsp j hj).2)
        rw [hrun2] at hrun
        injection hrun with e1 e2
        subst e2
        by_cases hin : n ≤ j ∧ j < n + m
        · right
          obtain ⟨d, rfl⟩ : ∃ d, j = n + d := ⟨j - n, by omega⟩
          have hd := hm d (by omega)
          obtain ⟨hdl, ed⟩ := List.getElem?_eq_some_iff.1 hd
          have := World.cell?_setCells_in g news (0 + n * i.size) w (fun j hj => (hsp j hj).1) (d * i.size + off) hdl
          rw [ed] at this
          rw [show (n + d) * i.size + off = 0 + n * i.size + (d * i.size + off) by rw [Nat.add_mul]; omega]
          exact this
        · left
          rw [World.cell?_setCells_out g news (0 + n * i.size) w _ (fun _ _ => ?_)]
          · exact hu
          · simp only
            rw [hn]
            by_cases hj : j < n
            · left
              have : (j + 1) * i.size ≤ n * i.size := Nat.mul_le_mul_right _ hj
              rw [Nat.add_mul] at this
              omega
            · right
              have : (n + m) * i.size ≤ j * i.size := Nat.mul_le_mul_right _ (by omega)
              rw [Nat.add_mul] at this
              omega
      · obtain ⟨v2, w2, hrun2, q1, q2⟩ := run_append_arg_grows (P := P) w t ty e i z size bytes h1 h2 h3 h4 h5 h6 h7 ⟨g, 0, none⟩ n cap xs hown.1 hcells ad m c news hn hc (by omega) b1 b2
        rw [hrun2] at hrun
        injection hrun with e1 e2
        subst e1 e2
        have cc : Chg (fun _ => False) w w2 := ⟨q2.os, q2.tape, q2.output, q2.size, fun k hk _ => q2.block k hk (by simp)⟩
        exact .inl (cc.cellAt hu id)

end Go.Proofs.YthedkdbgfdjlkaaGreatDoor

/- culvertref: key, WALKED. -/
namespace Go.Proofs.YthedkdbgfdjlkaaGreatDoor
set_option linter.unusedVariables false
set_option linter.unusedSimpArgs false
open Go.RowKit Go.Lib

def heldOne (name : ByteArray) (m : Int) (p : Hd) : Int := if p.key = name then max m p.token else m
def heldOf (name : ByteArray) (l : List Hd) : Int := l.foldl (heldOne name) 0

theorem heldOf_next (name : ByteArray) {l : List Hd} {i : Nat} {p : Hd} (h : l[i]? = some p) : heldOf name (l.take (i + 1)) = heldOne name (heldOf name (l.take i)) p := by
  obtain ⟨hl, e⟩ := List.getElem?_eq_some_iff.1 h
  unfold heldOf
  rw [List.take_succ_eq_append_getElem hl, e, List.foldl_append]
  rfl

theorem hdCells_at : ∀ (l : List Hd) (i : Nat) (x : Hd), l[i]? = some x → (hdCells l)[i * 2]? = some (.string x.key) ∧ (hdCells l)[i * 2 + 1]? = some (.int .i64 x.token)
  | [], i, x, h => by simp at h
  | y :: r, 0, x, h => by simp at h; subst h; simp [hdCells]
  | y :: r, i + 1, x, h => by
    have := hdCells_at r i x (by simpa using h)
    rw [show (i + 1) * 2 = i * 2 + 2 by omega, show i * 2 + 2 + 1 = i * 2 + 1 + 2 by omega]
    simpa [hdCells] using this

/-- A key's cells. -/
def kyC (name : ByteArray) (c f h : Int) : Nat → Value := fun j => if j = 0 then .string name else if j = 1 then .int .i64 c else if j = 2 then .int .i64 f else .int .i64 h

theorem kyC_1 (name : ByteArray) (c f h c' : Int) : updV (kyC name c f h) 1 (.int .i64 c') = kyC name c' f h := by
  funext j
  unfold updV kyC
  by_cases h1 : j = 1
  · subst h1; simp
  · simp [h1]

theorem kyC_2 (name : ByteArray) (c f h f' : Int) : updV (kyC name c f h) 2 (.int .i64 f') = kyC name c f' h := by
  funext j
  unfold updV kyC
  by_cases h1 : j = 2
  · subst h1; simp
  · simp [h1]

theorem kyC_3 {w : World} {b : Nat} {name : ByteArray} {c f h h' : Int} (hB : Blk w b 4 (updV (kyC name c f h) 3 (.int .i64 h'))) : Blk w b 4 (kyC name c f h') := by
  refine ⟨fun j hj => ?_, hB.fz⟩
  have := hB.cell j hj
  rw [this]
  rcases (by omega : j = 0 ∨ j = 1 ∨ j = 2 ∨ j = 3) with rfl | rfl | rfl | rfl <;> rfl

theorem tally_rng {name : ByteArray} {c : UInt8} {r : List UInt8} (hn : name.data.toList = c :: r) : ∀ (l : List Rec) (p : Int × Int), (∀ x ∈ l, 0 ≤ x.value ∧ x.value ≤ 4294967295) → 0 ≤ p.1 → p.1 + l.length ≤ 1000000 → 0 ≤ p.2 ∧ p.2 ≤ 4294967295 → 0 ≤ (l.foldl (tallyOne name) p).2 ∧ (l.foldl (tallyOne name) p).2 ≤ 4294967295
  | [], p, _, _, _, h => h
  | x :: l, p, hv, h0, h1, h2 => by
    rw [List.foldl_cons]
    have hx := hv x (by simp)
    simp only [List.length_cons] at h1
    have h3 : 0 ≤ (tallyOne name p x).1 ∧ (tallyOne name p x).1 ≤ p.1 + 1 ∧ 0 ≤ (tallyOne name p x).2 ∧ (tallyOne name p x).2 ≤ 4294967295 := by
      unfold tallyOne
      split
      · simp only
        have := foldOne_range (n := p.1 + 1) (f := p.2) (v := x.value) hn (by omega) h2 hx
        omega
      · omega
    exact tally_rng hn l _ (fun y hy => hv y (by simp [hy])) h3.1 (by omega) h3.2.2

theorem heldOf_rng (name : ByteArray) : ∀ (l : List Hd) (m : Int), (∀ p ∈ l, 0 ≤ p.token ∧ p.token ≤ 1000) → 0 ≤ m → m ≤ 1000 → 0 ≤ l.foldl (heldOne name) m ∧ l.foldl (heldOne name) m ≤ 1000
  | [], m, _, h0, h1 => ⟨h0, h1⟩
  | p :: l, m, h, h0, h1 => by
    rw [List.foldl_cons]
    have hp := h p (by simp)
    have : 0 ≤ heldOne name m p ∧ heldOne name m p ≤ 1000 := by unfold heldOne; split <;> omega
    exact heldOf_rng name l _ (fun q hq => h q (by simp [hq])) this.1 this.2

set_option maxRecDepth 100000 in
set_option maxHeartbeats 4000000 in
theorem rkey_any {w : World} {lo b : Nat} {vt vh : Value} {T : List Rec} {Hs : List Hd} {name : ByteArray} {c : UInt8} {r : List UInt8} (hn : name.data.toList = c :: r) (htk : w.cell? ⟨b, 12, none⟩ = some vt) (hrt : w.ownsRow lo 53 5 vt T.length (recCells T)) (hhd : w.cell? ⟨b, 13, none⟩ = some vh) (hrh : w.ownsRow lo 181 2 vh Hs.length (hdCells Hs))
    (hT : T.length ≤ 2000) (hH : Hs.length ≤ 1000000000) (hv : ∀ x ∈ T, 0 ≤ x.value ∧ x.value ≤ 4294967295) (ht : ∀ p ∈ Hs, 0 ≤ p.token ∧ p.token ≤ 1000) :
    Calls Tryz.prog 86 #[.pointer (some ⟨b, 0, none⟩), .string name] w fun e w' => e = .returned (.agg #[.string name, .int .i64 (tally name T).1, .int .i64 (tally name T).2, .int .i64 (heldOf name Hs)]) ∧ Chg (fun _ => False) w w' := by
  obtain ⟨W0, hW0⟩ : ∃ W0, W0 = (w.alloc (Obj.cells #[.string { data := #[] }, .int .i64 0, .int .i64 0, .int .i64 0] 87)).alloc (Obj.cells #[.string name, .int .i64 0, .int .i64 0, .int .i64 0] 87) := ⟨_, rfl⟩
  have c0 : Chg (fun _ => False) w W0 := by rw [hW0]; exact ((Chg.refl _ w).alloc _).alloc _
  have hs0 : W0.heap.size = w.heap.size + 2 := by rw [hW0]; simp
  have R0 : Blk W0 w.heap.size 4 (kyC { data := #[] } 0 0 0) := by
    rw [hW0]
    have hh : w.heap.size < (w.alloc (Obj.cells #[.string { data := #[] }, .int .i64 0, .int .i64 0, .int .i64 0] 87)).heap.size := by simp
    refine ⟨fun j hj => ?_, fun j => ?_⟩
    · rw [World.cell?_alloc_lt _ _ _ hh]
      rcases (by omega : j = 0 ∨ j = 1 ∨ j = 2 ∨ j = 3) with rfl | rfl | rfl | rfl <;> exact World.cell?_alloc_at _ _ _ _ rfl
    · exact (World.frozen?_of_block (w := w.alloc _) (Below.heap_alloc _ _ _ hh)).trans (World.frozen?_alloc_at _ _ _ _ rfl)
  have K0 : Blk W0 (w.heap.size + 1) 4 (kyC name 0 0 0) := by
    have e : w.heap.size + 1 = (w.alloc (Obj.cells #[.string { data := #[] }, .int .i64 0, .int .i64 0, .int .i64 0] 87)).heap.size := by simp
    rw [hW0, e]
    refine ⟨fun j hj => ?_, fun j => World.frozen?_alloc_at _ _ _ _ rfl⟩
    rcases (by omega : j = 0 ∨ j = 1 ∨ j = 2 ∨ j = 3) with rfl | rfl | rfl | rfl <;> exact World.cell?_alloc_at _ _ _ _ rfl
  have HS0 : Hid (W0.heap.size = w.heap.size + 2) := hs0
  have h1 : 1 ≤ name.size := by show 1 ≤ name.data.size; rw [← Array.length_toList, hn]; simp
  have hcc : name[0] = c := by
    have : name.data.toList[0]'(by rw [hn]; simp) = c := by simp [hn]
    exact this
  have hbl : b < w.heap.size := World.block_lt_of_cell? _ _ htk
  obtain ⟨pt, ct, rfl⟩ := row_any hrt
  obtain ⟨ph, ch, rfl⟩ := row_any hrh
  obtain ⟨kb, hkb⟩ : ∃ kb, kb = w.heap.size + 1 := ⟨_, rfl⟩
  have nkw : ¬ kb = w.heap.size := by omega
  have HKB : Hid (kb = w.heap.size + 1) := hkb
  go_enter Tryz.func86, Tryz.ntmps86
  go_wp2_with fail
  rw [← hW0, ← hkb]
  rw [← hkb] at K0
  clear hW0 hkb hs0
  go_loopw [6, 7] (fun si _ wr => ∃ (i : Nat) (cn f : Int), si = .int .i64 i ∧ i ≤ T.length ∧ Hid (tally name (T.take i) = (cn, f)) ∧ Blk wr kb 4 (kyC name cn f 0) ∧ Blk wr w.heap.size 4 (kyC { data := #[] } 0 0 0) ∧ Chg (fun _ => False) w wr ∧ w.heap.size + 2 ≤ wr.heap.size) (fun si _ _ => T.length - (intOf si).toNat)
  case atStart => exact ⟨0, 0, 0, rfl, by omega, (show _ = _ from rfl), K0, R0, c0, by rw [HS0.out]; omega⟩
  case round =>
    clear K0 R0 c0 HS0
    obtain ⟨i, cn, f, rfl, hi, HT, hK, hR, hc, hz⟩ := hrel
    have htk1 := hc.cellAt htk id
    by_cases hil : i < T.length
    · have hil' : (i : Int) < (T.length : Int) := by omega
      obtain ⟨x, hx⟩ : ∃ x, T[i]? = some x := ⟨_, List.getElem?_eq_getElem hil⟩
      obtain ⟨g, cap', hvs, _, _, hcell⟩ := row_pos hrt (by omega)
      simp only [Value.slice.injEq] at hvs
      obtain ⟨rfl, _, rfl⟩ := hvs
      have cx := recCells_at T i x hx
      have m0 := hc.cellAt (hcell _ _ cx.1) id
      have m1 := hc.cellAt (hcell _ _ cx.2.1) id
      have m2 := hc.cellAt (hcell _ _ cx.2.2.1) id
      have m3 := hc.cellAt (hcell _ _ cx.2.2.2.1) id
      have m4 := hc.cellAt (hcell _ _ cx.2.2.2.2) id
      have hxv := hv x (List.mem_of_getElem? hx)
      have hnx := tally_take_next name T i x hx
      rw [HT.out] at hnx
      have hle := tally_take_le name T i
      rw [HT.out] at hle
      simp only at hle
      have hrg := tally_rng hn (T.take i) (0, 0) (fun x hx => hv x (List.mem_of_mem_take hx)) (by simp) (by simp only [List.length_take]; omega) (by simp)
      have hrg' : 0 ≤ f ∧ f ≤ 4294967295 := by
        have : ((T.take i).foldl (tallyOne name) (0, 0)) = (cn, f) := HT.out
        rw [this] at hrg
        exact hrg
      have HNX : Hid (tally name (T.take (i + 1)) = tallyOne name (cn, f) x) := hnx
      clear hcell cx hnx hrg
      obtain ⟨W1, hW1⟩ : ∃ W1, W1 = wr.alloc (Obj.cells #[.int .i64 x.session, .int .i64 x.epoch, .int .i64 x.number, .string x.key, .int .i64 x.value] 53) := ⟨_, rfl⟩
      have c1 : Chg (fun _ => False) wr W1 := by rw [hW1]; exact (Chg.refl _ wr).alloc _
      have z3 : W1.cell? ⟨wr.heap.size, 3, none⟩ = some (.string x.key) := by rw [hW1]; exact World.cell?_alloc_at _ _ _ _ rfl
      have z4 : W1.cell? ⟨wr.heap.size, 4, none⟩ = some (.int .i64 x.value) := by rw [hW1]; exact World.cell?_alloc_at _ _ _ _ rfl
      have hK1 := hK.chg c1 (by omega) id
      have hR1 := hR.chg c1 (by omega) id
      have hcw := hc.trans c1 (fun _ _ h => h)
      have hz1 : w.heap.size + 2 ≤ W1.heap.size := Nat.le_trans hz c1.size
      by_cases hke : x.key = name
      · rw [hke] at z3 m3 hW1
        have HNX' : Hid (tally name (T.take (i + 1)) = (cn + 1, foldOne name (cn + 1) f x.value)) := by
          show _ = _
          rw [HNX.out]; unfold tallyOne; rw [if_pos hke]
        have k0 := hK1.cell 0 (by omega)
        have k1 : W1.cell? ⟨kb, 1, none⟩ = some (.int .i64 cn) := hK1.cell 1 (by omega)
        have k2 : W1.cell? ⟨kb, 2, none⟩ = some (.int .i64 f) := hK1.cell 2 (by omega)
        have f1 := hK1.fz 1
        have f2 := hK1.fz 2
        have nkx : ¬ kb = wr.heap.size := by have := HKB.out; omega
        have nxk : ¬ wr.heap.size = kb := by have := HKB.out; omega
        have hfo := foldOne_c (n := cn + 1) (f := f) (v := x.value) hn
        have d99 := c99 c
        have d115 := c115 c
        have d108 := c108 c
        obtain ⟨q1, hq1⟩ : ∃ q1, (c == 99) = q1 := ⟨_, rfl⟩
        obtain ⟨q2, hq2⟩ : ∃ q2, (c == 115) = q2 := ⟨_, rfl⟩
        obtain ⟨q3, hq3⟩ : ∃ q3, (c == 108) = q3 := ⟨_, rfl⟩
        have hfo' : foldOne name (cn + 1) f x.value = if q1 then cn + 1 else if q2 then (f + x.value) % 4294967296 else if q3 then x.value else max f x.value := by
          rw [hfo, hq1, hq2, hq3]
        rw [hq1] at d99
        rw [hq2] at d115
        rw [hq3] at d108
        have HFO : Hid (foldOne name (cn + 1) f x.value = if q1 then cn + 1 else if q2 then (f + x.value) % 4294967296 else if q3 then x.value else max f x.value) := hfo'
        have cS : ∀ v2, Chg (fun k => k = kb) W1 ((W1.setCell ⟨kb, 1, none⟩ (.int .i64 (cn + 1))).setCell ⟨kb, 2, none⟩ v2) := fun v2 => ((Chg.refl (fun k => k = kb) W1).setCell (p := ⟨kb, 1, none⟩) (fun _ => rfl) _).setCell (p := ⟨kb, 2, none⟩) (fun _ => rfl) _
        have fin : ∀ f', foldOne name (cn + 1) f x.value = f' → Hid (∃ (i_1 : Nat) (cn_1 f_1 : Int), Value.int .i64 ((i : Int) + 1) = Value.int .i64 i_1 ∧ i_1 ≤ T.length ∧ Hid (tally name (T.take i_1) = (cn_1, f_1)) ∧ Blk ((W1.setCell ⟨kb, 1, none⟩ (.int .i64 (cn + 1))).setCell ⟨kb, 2, none⟩ (.int .i64 f')) kb 4 (kyC name cn_1 f_1 0) ∧ Blk ((W1.setCell ⟨kb, 1, none⟩ (.int .i64 (cn + 1))).setCell ⟨kb, 2, none⟩ (.int .i64 f')) w.heap.size 4 (kyC { data := #[] } 0 0 0) ∧ Chg (fun _ => False) w ((W1.setCell ⟨kb, 1, none⟩ (.int .i64 (cn + 1))).setCell ⟨kb, 2, none⟩ (.int .i64 f')) ∧ w.heap.size + 2 ≤ ((W1.setCell ⟨kb, 1, none⟩ (.int .i64 (cn + 1))).setCell ⟨kb, 2, none⟩ (.int .i64 f')).heap.size) := fun f' hf' => by
          refine ⟨i + 1, cn + 1, f', by go_num, by omega, (show _ = _ by rw [HNX'.out, hf']), ?_, hR1.chg (cS _) (by omega) (fun e => nkw e.symm), hcw.step (cS _) (fun k hk => by have := HKB.out; omega), by have := (cS (.int .i64 f')).size; omega⟩
          have := (hK1.set 1 (.int .i64 (cn + 1))).set 2 (.int .i64 f')
          rw [kyC_1, kyC_2] at this
          exact this
        have FIN : Hid (∀ f', foldOne name (cn + 1) f x.value = f' → Hid (∃ (i_1 : Nat) (cn_1 f_1 : Int), Value.int .i64 ((i : Int) + 1) = Value.int .i64 i_1 ∧ i_1 ≤ T.length ∧ Hid (tally name (T.take i_1) = (cn_1, f_1)) ∧ Blk ((W1.setCell ⟨kb, 1, none⟩ (.int .i64 (cn + 1))).setCell ⟨kb, 2, none⟩ (.int .i64 f')) kb 4 (kyC name cn_1 f_1 0) ∧ Blk ((W1.setCell ⟨kb, 1, none⟩ (.int .i64 (cn + 1))).setCell ⟨kb, 2, none⟩ (.int .i64 f')) w.heap.size 4 (kyC { data := #[] } 0 0 0) ∧ Chg (fun _ => False) w ((W1.setCell ⟨kb, 1, none⟩ (.int .i64 (cn + 1))).setCell ⟨kb, 2, none⟩ (.int .i64 f')) ∧ w.heap.size + 2 ≤ ((W1.setCell ⟨kb, 1, none⟩ (.int .i64 (cn + 1))).setCell ⟨kb, 2, none⟩ (.int .i64 f')).heap.size)) := fin
        have FIN1 : Hid (max f x.value = f → q1 = false → q2 = false → q3 = false → Hid (∃ (i_1 : Nat) (cn_1 f_1 : Int), Value.int .i64 ((i : Int) + 1) = Value.int .i64 i_1 ∧ i_1 ≤ T.length ∧ Hid (tally name (T.take i_1) = (cn_1, f_1)) ∧ Blk (W1.setCell ⟨kb, 1, none⟩ (.int .i64 (cn + 1))) kb 4 (kyC name cn_1 f_1 0) ∧ Blk (W1.setCell ⟨kb, 1, none⟩ (.int .i64 (cn + 1))) w.heap.size 4 (kyC { data := #[] } 0 0 0) ∧ Chg (fun _ => False) w (W1.setCell ⟨kb, 1, none⟩ (.int .i64 (cn + 1))) ∧ w.heap.size + 2 ≤ (W1.setCell ⟨kb, 1, none⟩ (.int .i64 (cn + 1))).heap.size)) := fun hm e1 e2 e3 => by
          have cS1 : Chg (fun k => k = kb) W1 (W1.setCell ⟨kb, 1, none⟩ (.int .i64 (cn + 1))) := (Chg.refl (fun k => k = kb) W1).setCell (p := ⟨kb, 1, none⟩) (fun _ => rfl) _
          refine ⟨i + 1, cn + 1, f, by go_num, by omega, (show _ = _ by rw [HNX'.out, hfo', e1, e2, e3]; simp only [Bool.false_eq_true, if_false]; rw [hm]), ?_, hR1.chg cS1 (by omega) (fun e => nkw e.symm), hcw.step cS1 (fun k hk => by have := HKB.out; omega), by have := cS1.size; omega⟩
          have := hK1.set 1 (.int .i64 (cn + 1))
          rw [kyC_1] at this
          exact this
        clear HNX HNX' HT hfo hfo' hq1 hq2 hq3 cS fin hK1 hK hR1 hR k0 hke hx
        go_upto_if 30 with fail
        rw [← hW1]
        clear hW1
        cases q1 with
        | true =>
          go_wp2_with fail
          exact ⟨(FIN.out _ (by rw [HFO.out]; rfl)).out, by simp [intOf]; omega⟩
        | false =>
          cases q2 with
          | true =>
            go_wp2_with fail
            exact ⟨(FIN.out _ (by rw [HFO.out]; rfl)).out, by simp [intOf]; omega⟩
          | false =>
            cases q3 with
            | true =>
              go_wp2_with fail
              exact ⟨(FIN.out _ (by rw [HFO.out]; rfl)).out, by simp [intOf]; omega⟩
            | false =>
              by_cases hgt : f < x.value
              · have hmx : max f x.value = x.value := by omega
                have HM : Hid (max f x.value = x.value) := hmx
                clear hmx
                go_wp2_with fail
                exact ⟨(FIN.out _ (by rw [HFO.out]; exact HM.out)).out, by simp [intOf]; omega⟩
              · have hmx : max f x.value = f := by omega
                have HM : Hid (max f x.value = f) := hmx
                clear hmx
                go_wp2_with fail
                exact ⟨(FIN1.out HM.out rfl rfl rfl).out, by simp [intOf]; omega⟩
      · have hkn : (x.key.toList == name.toList) = false := by
          rw [beq_eq_false_iff_ne]
          intro e
          rw [ByteArray.toList_eq, ByteArray.toList_eq] at e
          exact hke (ByteArray.ext (Array.toList_inj.1 e))
        have HNX' : Hid (tally name (T.take (i + 1)) = (cn, f)) := by
          show _ = _
          rw [HNX.out]; unfold tallyOne; rw [if_neg hke]
        clear HNX hke HT
        go_wp2_with fail
        rw [← hW1]
        go_wp2_with fail
        exact ⟨⟨i + 1, cn, f, by go_num, by omega, HNX', hK1, hR1, hcw, hz1⟩, by simp [intOf]; omega⟩
    · have hil' : ¬ (i : Int) < (T.length : Int) := by omega
      have HTT : Hid (tally name T = (cn, f)) := by
        show _ = _
        have := HT.out
        rw [List.take_of_length_le (by omega)] at this
        exact this
      clear HT
      go_wp2_with fail
      go_loopw [8] (fun si wq => ∃ (j : Nat) (m : Int), si = .int .i64 j ∧ j ≤ Hs.length ∧ Hid (heldOf name (Hs.take j) = m) ∧ Blk wq kb 4 (kyC name cn f m) ∧ Blk wq w.heap.size 4 (kyC { data := #[] } 0 0 0) ∧ Chg (fun _ => False) w wq) (fun si _ => Hs.length - (intOf si).toNat)
      case atStart => exact ⟨0, 0, rfl, by omega, (show _ = _ from rfl), hK, hR, hc⟩
      case round =>
        clear hK hR hc hz
        obtain ⟨j, m, rfl, hj, HM, hK, hR, hc⟩ := hrel
        have hhd1 := hc.cellAt hhd id
        have hmr := heldOf_rng name (Hs.take j) 0 (fun p hp => ht p (List.mem_of_mem_take hp)) (by omega) (by omega)
        have hmr' : 0 ≤ m ∧ m ≤ 1000 := by rw [← HM.out]; exact hmr
        clear hmr
        by_cases hjl : j < Hs.length
        · have hjl' : (j : Int) < (Hs.length : Int) := by omega
          obtain ⟨p, hp⟩ : ∃ p, Hs[j]? = some p := ⟨_, List.getElem?_eq_getElem hjl⟩
          obtain ⟨g, cap', hvs, _, _, hcell⟩ := row_pos hrh (by omega)
          simp only [Value.slice.injEq] at hvs
          obtain ⟨rfl, _, rfl⟩ := hvs
          have cx := hdCells_at Hs j p hp
          have m0 := hc.cellAt (hcell _ _ cx.1) id
          have m1 := hc.cellAt (hcell _ _ cx.2) id
          have hpt := ht p (List.mem_of_getElem? hp)
          have hnx := heldOf_next name hp
          rw [HM.out] at hnx
          have HNX : Hid (heldOf name (Hs.take (j + 1)) = heldOne name m p) := hnx
          clear hcell cx hnx HM
          by_cases hke : p.key = name
          · rw [hke] at m0
            have HNX' : Hid (heldOf name (Hs.take (j + 1)) = max m p.token) := by show _ = _; rw [HNX.out]; unfold heldOne; rw [if_pos hke]
            have k3 : wr.cell? ⟨kb, 3, none⟩ = some (.int .i64 m) := hK.cell 3 (by omega)
            have f3 := hK.fz 3
            clear HNX hke hp
            go_wp2_with fail
            go_region
            go_wp2_with fail
            have cS : Chg (fun k => k = kb) wr ((wr.setCell ⟨kb, 3, none⟩ (.int .i64 (max m p.token))).drew) := ((Chg.refl (fun k => k = kb) wr).setCell (p := ⟨kb, 3, none⟩) (fun _ => rfl) _).drew
            refine ⟨⟨j + 1, max m p.token, by go_num, by omega, HNX', ?_, hR.chg cS (by omega) (fun e => nkw e.symm), hc.step cS (fun k hk => by have := HKB.out; omega)⟩, by simp [intOf]; omega⟩
            exact (kyC_3 (hK.set 3 (.int .i64 (max m p.token)))).chg (((Quiet.refl _).drew).chg (fun _ => False)) (by omega) id
          · have hkn : (p.key.toList == name.toList) = false := by
              rw [beq_eq_false_iff_ne]
              intro e
              rw [ByteArray.toList_eq, ByteArray.toList_eq] at e
              exact hke (ByteArray.ext (Array.toList_inj.1 e))
            have HNX' : Hid (heldOf name (Hs.take (j + 1)) = m) := by show _ = _; rw [HNX.out]; unfold heldOne; rw [if_neg hke]
            clear HNX hke
            go_wp2_with fail
            exact ⟨⟨j + 1, m, by go_num, by omega, HNX', hK, hR, hc⟩, by simp [intOf]; omega⟩
        · have hjl' : ¬ (j : Int) < (Hs.length : Int) := by omega
          have HMM : Hid (heldOf name Hs = m) := by
            show _ = _
            have := HM.out
            rw [List.take_of_length_le (by omega)] at this
            exact this
          have k0 : wr.cell? ⟨kb, 0, none⟩ = some (.string name) := hK.cell 0 (by omega)
          have k1 : wr.cell? ⟨kb, 1, none⟩ = some (.int .i64 cn) := hK.cell 1 (by omega)
          have k2 : wr.cell? ⟨kb, 2, none⟩ = some (.int .i64 f) := hK.cell 2 (by omega)
          have k3 : wr.cell? ⟨kb, 3, none⟩ = some (.int .i64 m) := hK.cell 3 (by omega)
          have r0 : wr.cell? ⟨w.heap.size, 0, none⟩ = some (.string { data := #[] }) := hR.cell 0 (by omega)
          have r1 : wr.cell? ⟨w.heap.size, 1, none⟩ = some (.int .i64 0) := hR.cell 1 (by omega)
          have r2 : wr.cell? ⟨w.heap.size, 2, none⟩ = some (.int .i64 0) := hR.cell 2 (by omega)
          have r3 : wr.cell? ⟨w.heap.size, 3, none⟩ = some (.int .i64 0) := hR.cell 3 (by omega)
          have g0 := hR.fz 0
          have g1 := hR.fz 1
          have g2 := hR.fz 2
          have g3 := hR.fz 3
          have nwk : ¬ w.heap.size = kb := fun e => nkw e.symm
          clear HM
          go_wp2_with fail
          have cS : Chg (fun k => k = w.heap.size) wr ((((wr.setCell ⟨w.heap.size, 0, none⟩ (.string name)).setCell ⟨w.heap.size, 1, none⟩ (.int .i64 cn)).setCell ⟨w.heap.size, 2, none⟩ (.int .i64 f)).setCell ⟨w.heap.size, 3, none⟩ (.int .i64 m)) := ((((Chg.refl (fun k => k = w.heap.size) wr).setCell (p := ⟨w.heap.size, 0, none⟩) (fun _ => rfl) _).setCell (p := ⟨w.heap.size, 1, none⟩) (fun _ => rfl) _).setCell (p := ⟨w.heap.size, 2, none⟩) (fun _ => rfl) _).setCell (p := ⟨w.heap.size, 3, none⟩) (fun _ => rfl) _
          refine bodyPost_ret (v := .agg #[.string name, .int .i64 cn, .int .i64 f, .int .i64 m]) ?_ rfl ⟨?_, hc.step cS (fun k hk => by omega)⟩
          · simp [results, Tryz.results86, go_sem, r0, r1, r2, r3]
          · rw [HTT.out, HMM.out]

end Go.Proofs.YthedkdbgfdjlkaaGreatDoor

/- culvertref: isKey, WALKED; what Accept makes, as data; what holds on its way. -/
namespace Go.Proofs.YthedkdbgfdjlkaaGreatDoor
set_option linter.unusedVariables false
set_option linter.unusedSimpArgs false
open Go.RowKit Go.Lib

set_option maxRecDepth 100000 in
set_option maxHeartbeats 1000000 in
theorem risKey_any (k : ByteArray) (w : World) (hk : k.size ≤ maxLen) :
    Calls Tryz.prog 82 #[.string k] w fun e w' => e = .returned (.bool (okKey k)) ∧ w' = w := by
  unfold maxLen at hk
  cases hl : k.data.toList with
  | nil =>
    have h0 : k.size = 0 := by show k.data.size = 0; rw [← Array.length_toList, hl]; rfl
    have hok : okKey k = false := by simp [okKey, hl]
    rw [hok]
    go_enter Tryz.func82, Tryz.ntmps82
    go_wp2
    go_ret
    exact ⟨rfl, rfl⟩
  | cons c r =>
    have h0 : 1 ≤ k.size := by show 1 ≤ k.data.size; rw [← Array.length_toList, hl]; simp
    have h0' : ¬ (k.size : Int) < 1 := by omega
    have hc : k[0] = c := by
      have : k.data.toList[0]'(by rw [hl]; simp) = c := by simp [hl]
      exact this
    by_cases h6 : k.size ≤ 6
    · have h6' : ¬ (6 : Int) < (k.size : Int) := by omega
      have hok : okKey k = okFirst c := by simp [okKey, hl, h6]
      rw [hok]
      have e1 : (((c.toNat : Int)) == 99) = (c == 99) := by simpa using toNat_beq c 99 (by omega)
      have e2 : (((c.toNat : Int)) == 115) = (c == 115) := by simpa using toNat_beq c 115 (by omega)
      have e3 : (((c.toNat : Int)) == 108) = (c == 108) := by simpa using toNat_beq c 108 (by omega)
      have e4 : (((c.toNat : Int)) == 109) = (c == 109) := by simpa using toNat_beq c 109 (by omega)
      obtain ⟨b1, hb1⟩ : ∃ b1, (c == 99) = b1 := ⟨_, rfl⟩
      obtain ⟨b2, hb2⟩ : ∃ b2, (c == 115) = b2 := ⟨_, rfl⟩
      obtain ⟨b3, hb3⟩ : ∃ b3, (c == 108) = b3 := ⟨_, rfl⟩
      obtain ⟨b4, hb4⟩ : ∃ b4, (c == 109) = b4 := ⟨_, rfl⟩
      have HF : Hid (okFirst c = (b1 || b2 || b3 || b4)) := by show _ = _; unfold okFirst; rw [hb1, hb2, hb3, hb4]
      rw [hb1] at e1
      rw [hb2] at e2
      rw [hb3] at e3
      rw [hb4] at e4
      clear hb1 hb2 hb3 hb4
      cases b1
      · cases b2
        · cases b3
          · cases b4
            all_goals
              go_enter Tryz.func82, Tryz.ntmps82
              go_wp2_with fail
              go_ret
              exact ⟨by rw [HF.out]; rfl, rfl⟩
          · go_enter Tryz.func82, Tryz.ntmps82
            go_wp2_with fail
            go_ret
            exact ⟨by rw [HF.out]; simp, rfl⟩
        · go_enter Tryz.func82, Tryz.ntmps82
          go_wp2_with fail
          go_ret
          exact ⟨by rw [HF.out]; simp, rfl⟩
      · go_enter Tryz.func82, Tryz.ntmps82
        go_wp2_with fail
        go_ret
        exact ⟨by rw [HF.out]; simp, rfl⟩
    · have hok : okKey k = false := by simp [okKey, hl, h6]
      rw [hok]
      have h6' : (6 : Int) < (k.size : Int) := by omega
      go_enter Tryz.func82, Tryz.ntmps82
      go_wp2
      go_ret
      exact ⟨rfl, rfl⟩

theorem recCells_tk : ∀ (l : List Rec) (m : Nat), (recCells l).take (m * 5) = recCells (l.take m)
  | [], m => by simp [recCells]
  | x :: r, 0 => by simp [recCells]
  | x :: r, m + 1 => by
    rw [show (m + 1) * 5 = m * 5 + 5 by omega]
    simp [recCells, Rec.cells, recCells_tk r m]

theorem recCells_dp : ∀ (l : List Rec) (m : Nat), (recCells l).drop (m * 5) = recCells (l.drop m)
  | [], m => by simp [recCells]
  | x :: r, 0 => by simp [recCells]
  | x :: r, m + 1 => by
    rw [show (m + 1) * 5 = m * 5 + 5 by omega]
    simp [recCells, Rec.cells, recCells_dp r m]

/-- As long as one with the base's number waits. -/
def drainR : Nat → Int → List Rec → List Rec → Int × List Rec × List Rec
  | 0, b, q, T => (b, q, T)
  | f + 1, b, q, T => match q[(idxR b q 0).toNat]? with
    | none => (b, q, T)
    | some x => if idxR b q 0 < 0 then (b, q, T) else drainR f (b + 1) (q.take (idxR b q 0).toNat ++ q.drop ((idxR b q 0).toNat + 1)) (T ++ [x])

/-- Where one is, it is within. -/
theorem idxR_lt (m : Int) : ∀ (q : List Rec) (k : Nat), idxR m q k = -1 ∨ ∃ j : Nat, j < q.length ∧ idxR m q k = ((k + j : Nat) : Int)
  | [], k => .inl rfl
  | x :: r, k => by
    unfold idxR
    split
    · exact .inr ⟨0, by simp, by simp⟩
    · rcases idxR_lt m r (k + 1) with h | ⟨j, h1, h2⟩
      · exact .inl h
      · exact .inr ⟨j + 1, by simp; omega, by rw [h2]; congr 1; omega⟩

theorem drainR_stop (f : Nat) {b : Int} {q T : List Rec} (h : idxR b q 0 < 0) : drainR f b q T = (b, q, T) := by
  cases f with
  | zero => rfl
  | succ f =>
    unfold drainR
    split
    · rfl
    · rw [if_pos h]

theorem drainR_step (f : Nat) {b : Int} {q T : List Rec} {j : Nat} {y : Rec} (h : idxR b q 0 = (j : Int)) (hy : q[j]? = some y) : drainR (f + 1) b q T = drainR f (b + 1) (q.take j ++ q.drop (j + 1)) (T ++ [y]) := by
  have e : (idxR b q 0).toNat = j := by omega
  rw [drainR]
  simp only [e, hy]
  rw [if_neg (by omega)]

/-- What Accept has on its way: a copy at cb, the session at sb; all of it new. -/
structure AccAt (w : World) (lo cb sb i : Nat) (E B : Nat → Int) (V : Nat → Value) (Q : Nat → List Rec) (te tb : Int) (vq vt : Value) (q T : List Rec) : Prop where
  ep : ∀ j, j < 4 → w.cell? ⟨cb, j * 3, none⟩ = some (.int .i64 (E j))
  ba : ∀ j, j < 4 → w.cell? ⟨cb, j * 3 + 1, none⟩ = some (.int .i64 (B j))
  qu : ∀ j, j < 4 → w.cell? ⟨cb, j * 3 + 2, none⟩ = some (V j)
  tk : w.cell? ⟨cb, 12, none⟩ = some vt
  fzc : ∀ j, w.frozen? ⟨cb, j, none⟩ = false
  s0 : w.cell? ⟨sb, 0, none⟩ = some (.int .i64 te)
  s1 : w.cell? ⟨sb, 1, none⟩ = some (.int .i64 tb)
  s2 : w.cell? ⟨sb, 2, none⟩ = some vq
  fzs : ∀ j, w.frozen? ⟨sb, j, none⟩ = false
  rows : ∀ j, j < 4 → j ≠ i → w.ownsRow lo 53 5 (V j) (Q j).length (recCells (Q j))
  taken : w.ownsRow lo 53 5 vt T.length (recCells T)
  row : w.ownsRow lo 53 5 vq q.length (recCells q)
  cs : cb ≠ sb
  cl : lo ≤ cb
  sl : lo ≤ sb
  oq : vq.ownBlock ≠ some cb ∧ vq.ownBlock ≠ some sb
  ot : vt.ownBlock ≠ some cb ∧ vt.ownBlock ≠ some sb
  ov : ∀ j, j < 4 → j ≠ i → (V j).ownBlock ≠ some cb ∧ (V j).ownBlock ≠ some sb
  qt : ∀ g, vq.ownBlock = some g → vt.ownBlock ≠ some g
  vq : ∀ j, j < 4 → j ≠ i → ∀ g, (V j).ownBlock = some g → vq.ownBlock ≠ some g ∧ vt.ownBlock ≠ some g
  vv : ∀ j k, j < 4 → k < 4 → j ≠ i → k ≠ i → j ≠ k → ∀ g, (V j).ownBlock = some g → (V k).ownBlock ≠ some g
  low : lo ≤ w.heap.size

section
variable {w w' : World} {lo cb sb i : Nat} {E B : Nat → Int} {V : Nat → Value} {Q : Nat → List Rec} {te tb : Int} {vq vt : Value} {q T : List Rec}

theorem AccAt.keep (h : AccAt w lo cb sb i E B V Q te tb vq vt q T) (c : Chg (fun _ => False) w w') : AccAt w' lo cb sb i E B V Q te tb vq vt q T :=
  { h with
    ep := fun j hj => c.cellAt (h.ep j hj) id
    ba := fun j hj => c.cellAt (h.ba j hj) id
    qu := fun j hj => c.cellAt (h.qu j hj) id
    tk := c.cellAt h.tk id
    fzc := fun j => (World.frozen?_of_block (w := w) (c.block cb (World.block_lt_of_cell? _ _ h.tk) id)).trans (h.fzc j)
    s0 := c.cellAt h.s0 id
    s1 := c.cellAt h.s1 id
    s2 := c.cellAt h.s2 id
    fzs := fun j => (World.frozen?_of_block (w := w) (c.block sb (World.block_lt_of_cell? _ _ h.s0) id)).trans (h.fzs j)
    rows := fun j hj hne => c.row' (h.rows j hj hne) (fun _ _ h => h)
    taken := c.row' h.taken (fun _ _ h => h)
    row := c.row' h.row (fun _ _ h => h)
    low := Nat.le_trans h.low c.size }

/-- What waits is another row now. -/
theorem AccAt.wait (h : AccAt w lo cb sb i E B V Q te tb vq vt q T) {w1 : World} {vq' : Value} {q' : List Rec} (c : Chg (fun k => vq.ownBlock = some k) w w1) (hr : w1.ownsRow lo 53 5 vq' q'.length (recCells q')) (hw : Wh w.heap.size vq vq') :
    AccAt (w1.setCell ⟨sb, 2, none⟩ vq') lo cb sb i E B V Q te tb vq' vt q' T ∧ Chg (fun k => lo ≤ k) w (w1.setCell ⟨sb, 2, none⟩ vq') := by
  have hcb : cb < w.heap.size := World.block_lt_of_cell? _ _ h.tk
  have hsb : sb < w.heap.size := World.block_lt_of_cell? _ _ h.s0
  have c2 : Chg (fun k => k = sb) w1 (w1.setCell ⟨sb, 2, none⟩ vq') := Chg.setCell (p := ⟨sb, 2, none⟩) (Chg.refl (fun k => k = sb) w1) (fun _ => rfl) _
  have call : Chg (fun k => k = sb ∨ vq.ownBlock = some k) w (w1.setCell ⟨sb, 2, none⟩ vq') := (c.mono (fun k hk => .inr hk)).trans c2 (fun _ _ h => .inl h)
  have hnc : ¬ (cb = sb ∨ vq.ownBlock = some cb) := fun e => e.elim h.cs h.oq.1
  have new : ∀ g, vq'.ownBlock = some g → vq.ownBlock = some g ∨ w.heap.size ≤ g := fun g hg => by
    rcases hw with e | e
    · exact .inl (by rw [← e]; exact hg)
    · exact .inr (e g hg)
  have nsb : vq'.ownBlock ≠ some sb := fun e => by
    rcases new _ e with h1 | h1
    · exact h.oq.2 h1
    · omega
  have keepr : ∀ {v : Value} {L : List Rec}, w.ownsRow lo 53 5 v L.length (recCells L) → v.ownBlock ≠ some sb → (∀ g, v.ownBlock = some g → vq.ownBlock ≠ some g) → (w1.setCell ⟨sb, 2, none⟩ vq').ownsRow lo 53 5 v L.length (recCells L) := fun hr h1 h2 => call.row' hr (fun k hk e => e.elim (fun e => h1 (by rw [← e]; exact hk)) (fun e => h2 k hk e))
  refine ⟨⟨fun j hj => call.cellAt (h.ep j hj) hnc, fun j hj => call.cellAt (h.ba j hj) hnc, fun j hj => call.cellAt (h.qu j hj) hnc, call.cellAt h.tk hnc, fun j => (World.frozen?_of_block (w := w) (call.block cb hcb hnc)).trans (h.fzc j), ?_, ?_, ?_, fun j => ?_, fun j hj hne => keepr (h.rows j hj hne) (h.ov j hj hne).2 (fun g hg => (h.vq j hj hne g hg).1), keepr h.taken h.ot.2 (fun g hg hq => h.qt g hq hg), ?_, h.cs, h.cl, h.sl, ⟨fun e => ?_, nsb⟩, h.ot, h.ov, fun g hg ht => ?_, fun j hj hne g hg => ⟨fun hq => ?_, (h.vq j hj hne g hg).2⟩, h.vv, Nat.le_trans h.low call.size⟩, call.mono (fun k hk => ?_)⟩
  · exact (World.cell?_setCell_other _ _ _ _ (by simp)).trans (c.cellAt h.s0 h.oq.2)
  · exact (World.cell?_setCell_other _ _ _ _ (by simp)).trans (c.cellAt h.s1 h.oq.2)
  · exact World.cell?_setCell_same _ _ _ (c.cellAt h.s2 h.oq.2)
  · rw [World.frozen?_setCell]
    exact (World.frozen?_of_block (w := w) (c.block sb hsb h.oq.2)).trans (h.fzs j)
  · exact c2.row' hr (fun k hk e => nsb (by rw [← e]; exact hk))
  · rcases new _ e with h1 | h1
    · exact h.oq.1 h1
    · omega
  · rcases new _ hg with h1 | h1
    · exact h.qt g h1 ht
    · have := (h.taken.lt g ht).2; omega
  · rcases new _ hq with h1 | h1
    · exact (h.vq j hj hne g hg).1 h1
    · have := ((h.rows j hj hne).lt g hg).2; omega
  · rcases hk with e | e
    · rw [e]; exact h.sl
    · exact (h.row.lt k e).1

/-- What was taken is another row now. -/
theorem AccAt.take (h : AccAt w lo cb sb i E B V Q te tb vq vt q T) {w1 : World} {vt' : Value} {T' : List Rec} (c : Chg (fun k => vt.ownBlock = some k) w w1) (hr : w1.ownsRow lo 53 5 vt' T'.length (recCells T')) (hw : Wh w.heap.size vt vt') :
    AccAt (w1.setCell ⟨cb, 12, none⟩ vt') lo cb sb i E B V Q te tb vq vt' q T' ∧ Chg (fun k => lo ≤ k) w (w1.setCell ⟨cb, 12, none⟩ vt') := by
  have hcb : cb < w.heap.size := World.block_lt_of_cell? _ _ h.tk
  have hsb : sb < w.heap.size := World.block_lt_of_cell? _ _ h.s0
  have c2 : Chg (fun k => k = cb) w1 (w1.setCell ⟨cb, 12, none⟩ vt') := Chg.setCell (p := ⟨cb, 12, none⟩) (Chg.refl (fun k => k = cb) w1) (fun _ => rfl) _
  have call : Chg (fun k => k = cb ∨ vt.ownBlock = some k) w (w1.setCell ⟨cb, 12, none⟩ vt') := (c.mono (fun k hk => .inr hk)).trans c2 (fun _ _ h => .inl h)
  have hns : ¬ (sb = cb ∨ vt.ownBlock = some sb) := fun e => e.elim (fun e => h.cs e.symm) h.ot.2
  have new : ∀ g, vt'.ownBlock = some g → vt.ownBlock = some g ∨ w.heap.size ≤ g := fun g hg => by
    rcases hw with e | e
    · exact .inl (by rw [← e]; exact hg)
    · exact .inr (e g hg)
  have ncb : vt'.ownBlock ≠ some cb := fun e => by
    rcases new _ e with h1 | h1
    · exact h.ot.1 h1
    · omega
  have keepr : ∀ {v : Value} {L : List Rec}, w.ownsRow lo 53 5 v L.length (recCells L) → v.ownBlock ≠ some cb → (∀ g, v.ownBlock = some g → vt.ownBlock ≠ some g) → (w1.setCell ⟨cb, 12, none⟩ vt').ownsRow lo 53 5 v L.length (recCells L) := fun hr h1 h2 => call.row' hr (fun k hk e => e.elim (fun e => h1 (by rw [← e]; exact hk)) (fun e => h2 k hk e))
  have old : ∀ j v, j ≠ 12 → w.cell? ⟨cb, j, none⟩ = some v → (w1.setCell ⟨cb, 12, none⟩ vt').cell? ⟨cb, j, none⟩ = some v := fun j v hj hv => (World.cell?_setCell_other _ _ _ _ (by simp [hj])).trans (c.cellAt hv h.ot.1)
  refine ⟨⟨fun j hj => old _ _ (by omega) (h.ep j hj), fun j hj => old _ _ (by omega) (h.ba j hj), fun j hj => old _ _ (by omega) (h.qu j hj), World.cell?_setCell_same _ _ _ (c.cellAt h.tk h.ot.1), fun j => ?_, call.cellAt h.s0 hns, call.cellAt h.s1 hns, call.cellAt h.s2 hns, fun j => (World.frozen?_of_block (w := w) (call.block sb hsb hns)).trans (h.fzs j), fun j hj hne => keepr (h.rows j hj hne) (h.ov j hj hne).1 (fun g hg => (h.vq j hj hne g hg).2), ?_, keepr h.row h.oq.1 h.qt, h.cs, h.cl, h.sl, h.oq, ⟨ncb, fun e => ?_⟩, h.ov, fun g hg ht => ?_, fun j hj hne g hg => ⟨(h.vq j hj hne g hg).1, fun hq => ?_⟩, h.vv, Nat.le_trans h.low call.size⟩, call.mono (fun k hk => ?_)⟩
  · rw [World.frozen?_setCell]
    exact (World.frozen?_of_block (w := w) (c.block cb hcb h.ot.1)).trans (h.fzc j)
  · exact c2.row' hr (fun k hk e => ncb (by rw [← e]; exact hk))
  · rcases new _ e with h1 | h1
    · exact h.ot.2 h1
    · omega
  · rcases new _ ht with h1 | h1
    · exact h.qt g hg h1
    · have := (h.row.lt g hg).2; omega
  · rcases new _ hq with h1 | h1
    · exact (h.vq j hj hne g hg).2 h1
    · have := ((h.rows j hj hne).lt g hg).2; omega
  · rcases hk with e | e
    · rw [e]; exact h.cl
    · exact (h.taken.lt k e).1

theorem AccAt.base (h : AccAt w lo cb sb i E B V Q te tb vq vt q T) (b : Int) : AccAt (w.setCell ⟨sb, 1, none⟩ (.int .i64 b)) lo cb sb i E B V Q te b vq vt q T ∧ Chg (fun k => lo ≤ k) w (w.setCell ⟨sb, 1, none⟩ (.int .i64 b)) := by
  have c : Chg (fun k => k = sb) w (w.setCell ⟨sb, 1, none⟩ (.int .i64 b)) := Chg.setCell (p := ⟨sb, 1, none⟩) (Chg.refl (fun k => k = sb) w) (fun _ => rfl) _
  refine ⟨{ h with
    ep := fun j hj => c.cellAt (h.ep j hj) h.cs
    ba := fun j hj => c.cellAt (h.ba j hj) h.cs
    qu := fun j hj => c.cellAt (h.qu j hj) h.cs
    tk := c.cellAt h.tk h.cs
    fzc := fun j => by rw [World.frozen?_setCell]; exact h.fzc j
    s0 := (World.cell?_setCell_other _ _ _ _ (by simp)).trans h.s0
    s1 := World.cell?_setCell_same _ _ _ h.s1
    s2 := (World.cell?_setCell_other _ _ _ _ (by simp)).trans h.s2
    fzs := fun j => by rw [World.frozen?_setCell]; exact h.fzs j
    rows := fun j hj hne => c.row' (h.rows j hj hne) (fun k hk e => (h.ov j hj hne).2 (by rw [← e]; exact hk))
    taken := c.row' h.taken (fun k hk e => h.ot.2 (by rw [← e]; exact hk))
    row := c.row' h.row (fun k hk e => h.oq.2 (by rw [← e]; exact hk))
    low := Nat.le_trans h.low c.size }, c.mono (fun k hk => by rw [hk]; exact h.sl)⟩
end

end Go.Proofs.YthedkdbgfdjlkaaGreatDoor

/- culvertref: State, WALKED. -/
namespace Go.Proofs.YthedkdbgfdjlkaaGreatDoor
set_option linter.unusedVariables false
set_option linter.unusedSimpArgs false
open Go.RowKit Go.Lib

/-- Rows of different kinds lie in different blocks. -/
theorem row_kinds {w : World} {lo lo' : Nat} {e e' : TypeId} {n m n' m' : Nat} {v v' : Value} {xs xs' : List Value} (h : w.ownsRow lo e n v m xs) (h' : w.ownsRow lo' e' n' v' m' xs') (hne : e ≠ e') : ∀ g, v.ownBlock = some g → v'.ownBlock ≠ some g := by
  intro g hg hg'
  rcases h.2 with ⟨hv, _⟩ | ⟨g1, cap, cur, hv, _, hh, _⟩
  · rw [hv] at hg; simp [Value.ownBlock] at hg
  · rcases h'.2 with ⟨hv', _⟩ | ⟨g2, cap', cur', hv', _, hh', _⟩
    · rw [hv'] at hg'; simp [Value.ownBlock] at hg'
    · rw [hv] at hg
      rw [hv'] at hg'
      simp only [Value.ownBlock, Option.map_some, Option.some.injEq] at hg hg'
      subst hg
      subst hg'
      rw [hh] at hh'
      simp at hh'
      exact hne hh'.2

def intCells (L : List Int) : List Value := L.map (.int .i64)

/-- The numbers of those that wait, from one on. -/
def numsR (q : List Rec) (b : Int) : Nat → List Int
  | 0 => []
  | n + 1 => numsR q b n ++ (if 0 ≤ idxR (b + n) q 0 then [b + n] else [])

theorem numsR_len (q : List Rec) (b : Int) : ∀ n, (numsR q b n).length ≤ n
  | 0 => by simp [numsR]
  | n + 1 => by
    have := numsR_len q b n
    simp only [numsR, List.length_append]
    split <;> simp <;> omega

/-- The cells of the first so many sessions, as they are told. -/
def sessR (E B : Nat → Int) (U : Nat → Value) : Nat → List Value
  | 0 => []
  | n + 1 => sessR E B U n ++ [.int .i64 (E n), .int .i64 (B n), U n]

theorem sessR_len (E B : Nat → Int) (U : Nat → Value) : ∀ n, (sessR E B U n).length = n * 3
  | 0 => rfl
  | n + 1 => by
    have := sessR_len E B U n
    simp [sessR, this]
    omega

theorem sessR_same (E B : Nat → Int) (U : Nat → Value) (u : Value) (i : Nat) : ∀ n, n ≤ i → sessR E B (updV U i u) n = sessR E B U n
  | 0, _ => rfl
  | n + 1, h => by
    simp only [sessR]
    rw [sessR_same E B U u i n (by omega), updV_ne _ _ (by omega)]

theorem Tryz.infoSs : (Tryz.prog.info? 121).map (fun i => (i.zero, i.size, i.bytes)) = some (some (.agg #[.int .i64 0, .int .i64 0, .slice none 0 0]), 3, 40) := by kernel_rfl
theorem Tryz.infoIn : (Tryz.prog.info? 3).map (fun i => (i.zero, i.size, i.bytes)) = some (some (.int .i64 0), 1, 8) := by kernel_rfl
theorem Tryz.infoKy : (Tryz.prog.info? 87).map (fun i => (i.zero, i.size, i.bytes)) = some (some (.agg #[.string { data := #[] }, .int .i64 0, .int .i64 0, .int .i64 0]), 4, 40) := by kernel_rfl

/-- What is told of the keys. -/
def keysR (T : List Rec) (Hs : List Hd) (l : List ByteArray) : List Ky := l.map fun n => ⟨n, (tally n T).1, (tally n T).2, heldOf n Hs⟩

set_option maxHeartbeats 400000 in
theorem rstate_closed {w : World} {lo b : Nat} {E B : Nat → Int} {V : Nat → Value} {vt vh : Value} {Q : Nat → List Rec} {T : List Rec} {Hs : List Hd} (h : RefAt w lo b E B V vt vh Q T Hs true) :
    Calls Tryz.prog 48 #[.pointer (some ⟨b, 0, none⟩)] w fun e w' => e = .returned (.tuple #[.agg #[.slice none 0 0, .slice none 0 0], .int .i64 1]) ∧ Chg (fun _ => False) w w' := by
  have hcl := h.cl
  have hbl : b < w.heap.size := World.block_lt_of_cell? _ _ h.tk
  have hne : ¬ b = w.heap.size := by omega
  go_enter Tryz.func48, Tryz.ntmps48
  go_wp2_with fail
  refine bodyPost_ret (v := .tuple #[.agg #[.slice none 0 0, .slice none 0 0], .int .i64 1]) ?_ rfl ⟨rfl, ?_⟩
  · simp [results, Tryz.results48, go_sem]
  · have c1 : Chg (fun _ => False) w (w.alloc (Obj.cells #[.slice none 0 0, .slice none 0 0] 46)) := (Chg.refl _ w).alloc _
    first
      | exact c1
      | exact c1.step (((Chg.refl (fun k => k = w.heap.size) _).setCell (p := ⟨w.heap.size, 0, none⟩) (fun _ => rfl) _).setCell (p := ⟨w.heap.size, 1, none⟩) (fun _ => rfl) _) (fun k hk => by omega)

/-- What is told so far. -/
structure StAt (w : World) (n0 ob i : Nat) (E B : Nat → Int) (Q : Nat → List Rec) (vs : Value) (U : Nat → Value) : Prop where
  o : Blk w ob 2 (fun j => if j = 0 then vs else .slice none 0 0)
  r : Blk w n0 2 (fun _ => .slice none 0 0)
  vs : w.ownsRow (n0 + 2) 121 3 vs i (sessR E B U i)
  u : ∀ k, k < i → w.ownsRow (n0 + 2) 3 1 (U k) (numsR (Q k) (B k) 4).length (intCells (numsR (Q k) (B k) 4))
  z : n0 + 2 ≤ w.heap.size
  ho : ob = n0 + 1

theorem StAt.keep {F : Nat → Prop} {w w' : World} {n0 ob i : Nat} {E B : Nat → Int} {Q : Nat → List Rec} {vs : Value} {U : Nat → Value} (h : StAt w n0 ob i E B Q vs U) (c : Chg F w w') (hF : ∀ k, F k → w.heap.size ≤ k) : StAt w' n0 ob i E B Q vs U :=
  ⟨h.o.chg c (by omega) (fun e => by have := hF _ e; have := h.z; have := h.ho; omega), h.r.chg c (by omega) (fun e => by have := hF _ e; have := h.z; omega), c.row' h.vs (fun k hk e => by have := (h.vs.lt k hk).2; have := hF _ e; omega), fun k hk => c.row' (h.u k hk) (fun k' hk' e => by have := ((h.u k hk).lt k' hk').2; have := hF _ e; omega), Nat.le_trans h.z c.size, h.ho⟩

def xC (e b : Int) (u : Value) : Nat → Value := fun j => if j = 0 then .int .i64 e else if j = 1 then .int .i64 b else u

theorem xC_2 {w : World} {b : Nat} {e ba : Int} {u u' : Value} (hB : Blk w b 3 (updV (xC e ba u) 2 u')) : Blk w b 3 (xC e ba u') := by
  refine ⟨fun j hj => ?_, hB.fz⟩
  rw [hB.cell j hj]
  rcases (by omega : j = 0 ∨ j = 1 ∨ j = 2) with rfl | rfl | rfl <;> rfl

theorem intCells_one (L : List Int) : ∀ u ∈ intCells L, u.oneCell' = true := fun u hu => by
  obtain ⟨x, _, rfl⟩ := List.mem_map.1 hu
  rfl

set_option maxRecDepth 100000 in
set_option maxHeartbeats 8000000 in
theorem rstate_open {w : World} {lo b : Nat} {E B : Nat → Int} {V : Nat → Value} {vt vh : Value} {Q : Nat → List Rec} {T : List Rec} {Hs : List Hd} (h : RefAt w lo b E B V vt vh Q T Hs false) (hT : T.length ≤ 1000) (hH : Hs.length ≤ 1000000000) (hq : ∀ i, i < 4 → (Q i).length ≤ 4) (hB : ∀ i, i < 4 → 0 ≤ B i ∧ B i ≤ 2000)
    (hv : ∀ x ∈ T, (0 ≤ x.value ∧ x.value ≤ 4294967295) ∧ okKey x.key = true) (ht : ∀ p ∈ Hs, 0 ≤ p.token ∧ p.token ≤ 1000) :
    Calls Tryz.prog 48 #[.pointer (some ⟨b, 0, none⟩)] w fun e w' => ∃ (vs vk : Value) (U : Nat → Value), e = .returned (.tuple #[.agg #[vs, vk], .int .i64 0]) ∧
      w'.ownsRow w.heap.size 121 3 vs 4 (sessR E B U 4) ∧ (∀ i, i < 4 → w'.ownsRow w.heap.size 3 1 (U i) (numsR (Q i) (B i) 4).length (intCells (numsR (Q i) (B i) 4))) ∧ w'.ownsRow w.heap.size 87 4 vk (keysR T Hs (namesR T [])).length (keyCells (keysR T Hs (namesR T []))) ∧ Chg (fun _ => False) w w' := by
  obtain ⟨i0, hi0, hz0, hz1, hz2⟩ := info_parts Tryz.infoSs
  obtain ⟨i1, hi1, hy0, hy1, hy2⟩ := info_parts Tryz.infoIn
  obtain ⟨i2, hi2, hx0, hx1, hx2⟩ := info_parts Tryz.infoKy
  have hcl := h.cl
  have hbl : b < w.heap.size := World.block_lt_of_cell? _ _ h.tk
  have hne : ¬ b = w.heap.size := by omega
  obtain ⟨W0, hW0⟩ : ∃ W0, W0 = (w.alloc (Obj.cells #[.slice none 0 0, .slice none 0 0] 46)).alloc (Obj.cells #[.slice none 0 0, .slice none 0 0] 46) := ⟨_, rfl⟩
  have c0 : Chg (fun _ => False) w W0 := by rw [hW0]; exact ((Chg.refl _ w).alloc _).alloc _
  have hs0 : W0.heap.size = w.heap.size + 2 := by rw [hW0]; simp
  have HS0 : Hid (W0.heap.size = w.heap.size + 2) := hs0
  have R0 : Blk W0 w.heap.size 2 (fun _ => .slice none 0 0) := by
    rw [hW0]
    have hh : w.heap.size < (w.alloc (Obj.cells #[.slice none 0 0, .slice none 0 0] 46)).heap.size := by simp
    refine ⟨fun j hj => ?_, fun j => ?_⟩
    · rw [World.cell?_alloc_lt _ _ _ hh]
      rcases (by omega : j = 0 ∨ j = 1) with rfl | rfl <;> exact World.cell?_alloc_at _ _ _ _ rfl
    · exact (World.frozen?_of_block (w := w.alloc _) (Below.heap_alloc _ _ _ hh)).trans (World.frozen?_alloc_at _ _ _ _ rfl)
  have O0 : Blk W0 (w.heap.size + 1) 2 (fun _ => .slice none 0 0) := by
    have e : w.heap.size + 1 = (w.alloc (Obj.cells #[.slice none 0 0, .slice none 0 0] 46)).heap.size := by simp
    rw [hW0, e]
    refine ⟨fun j hj => ?_, fun j => World.frozen?_alloc_at _ _ _ _ rfl⟩
    rcases (by omega : j = 0 ∨ j = 1) with rfl | rfl <;> exact World.cell?_alloc_at _ _ _ _ rfl
  obtain ⟨ob, hob⟩ : ∃ ob, ob = w.heap.size + 1 := ⟨_, rfl⟩
  have HOB : Hid (ob = w.heap.size + 1) := hob
  have now : ¬ ob = w.heap.size := by omega
  go_enter Tryz.func48, Tryz.ntmps48
  go_wp2_with fail
  rw [← hW0, ← hob]
  rw [← hob] at O0
  clear hW0 hs0 hob
  go_loopw [5, 6, 7, 8, 9] (fun si _ _ _ _ wr => ∃ (i : Nat) (vs : Value) (U : Nat → Value), si = .int .i64 i ∧ i ≤ 4 ∧ Blk wr ob 2 (fun j => if j = 0 then vs else .slice none 0 0) ∧ Blk wr w.heap.size 2 (fun _ => .slice none 0 0) ∧ wr.ownsRow (w.heap.size + 2) 121 3 vs i (sessR E B U i) ∧ (∀ k, k < i → wr.ownsRow (w.heap.size + 2) 3 1 (U k) (numsR (Q k) (B k) 4).length (intCells (numsR (Q k) (B k) 4))) ∧ Chg (fun _ => False) w wr ∧ w.heap.size + 2 ≤ wr.heap.size) (fun si _ _ _ _ _ => 4 - (intOf si).toNat)
  case atStart => exact ⟨0, .slice none 0 0, fun _ => .slice none 0 0, rfl, by omega, ⟨fun j hj => by rw [O0.cell j hj]; simp, O0.fz⟩, R0, World.ownsRow_nil _ _ _ _, fun k hk => by omega, c0, by rw [HS0.out]; omega⟩
  case round =>
    clear R0 O0 c0 HS0
    obtain ⟨i, vs, U, rfl, hi, hO, hR, hvs, hU, hc, hz⟩ := hrel
    by_cases hi4 : i < 4
    · have hi4' : (i : Int) < 4 := by omega
      have x0 := hc.cellAt (h.ep i hi4) id
      have x1 := hc.cellAt (h.ba i hi4) id
      have x2 := hc.cellAt (h.qu i hi4) id
      obtain ⟨pq, cq, hpq⟩ := row_any (h.rows i hi4)
      rw [hpq] at x2
      have hbi := hB i hi4
      have hqi := hq i hi4
      have HPQ : Hid (V i = .slice pq (Q i).length cq) := hpq
      clear hpq
      obtain ⟨W1, hW1⟩ : ∃ W1, W1 = (wr.alloc (Obj.cells #[.int .i64 (E i), .int .i64 (B i), .slice pq (Q i).length cq] 133)).alloc (Obj.cells #[.int .i64 (E i), .int .i64 (B i), .slice none 0 0] 121) := ⟨_, rfl⟩
      have c1 : Chg (fun _ => False) wr W1 := by rw [hW1]; exact ((Chg.refl _ wr).alloc _).alloc _
      obtain ⟨zz, hzz⟩ : ∃ zz, zz = wr.heap.size := ⟨_, rfl⟩
      have hsA : StAt wr w.heap.size ob i E B Q vs U := ⟨hO, hR, hvs, hU, hz, HOB.out⟩
      have HKP : Hid (∀ wq, Chg (fun k => zz ≤ k) W1 wq → StAt wq w.heap.size ob i E B Q vs U ∧ Chg (fun _ => False) w wq) := fun wq cq => by
        have cc : Chg (fun k => zz ≤ k) wr wq := (c1.mono (fun _ h => h.elim)).trans cq (fun _ _ h => h)
        exact ⟨hsA.keep cc (fun k hk => by omega), hc.step cc (fun k hk => by omega)⟩
      have hzw : w.heap.size + 2 ≤ zz := by omega
      have w1s : W1.heap.size = zz + 2 := by rw [hW1, hzz]; simp
      have sb1 : W1.cell? ⟨zz, 1, none⟩ = some (.int .i64 (B i)) := by
        rw [hW1, hzz, World.cell?_alloc_lt _ _ _ (by simp)]; exact World.cell?_alloc_at _ _ _ _ rfl
      have sb2 : W1.cell? ⟨zz, 2, none⟩ = some (.slice pq (Q i).length cq) := by
        rw [hW1, hzz, World.cell?_alloc_lt _ _ _ (by simp)]; exact World.cell?_alloc_at _ _ _ _ rfl
      have xb : Blk W1 (zz + 1) 3 (xC (E i) (B i) (.slice none 0 0)) := by
        have e : zz + 1 = (wr.alloc (Obj.cells #[.int .i64 (E i), .int .i64 (B i), .slice pq (Q i).length cq] 133)).heap.size := by rw [hzz]; simp
        rw [hW1, e]
        refine ⟨fun j hj => ?_, fun j => World.frozen?_alloc_at _ _ _ _ rfl⟩
        rcases (by omega : j = 0 ∨ j = 1 ∨ j = 2) with rfl | rfl | rfl <;> exact World.cell?_alloc_at _ _ _ _ rfl
      have W1S : Hid (W1.heap.size = zz + 2) := w1s
      go_wp2_with fail
      rw [← hW1, ← hzz]
      clear hW1 hzz hsA hO hR hvs hU hc hz c1 x0 x1 x2 w1s
      go_loopw [8, 9] (fun s8 _ wq => ∃ (n : Nat) (vu : Value), s8 = .int .i64 (B i + n) ∧ n ≤ 4 ∧ wq.cell? ⟨zz, 1, none⟩ = some (.int .i64 (B i)) ∧ wq.cell? ⟨zz, 2, none⟩ = some (.slice pq (Q i).length cq) ∧ Blk wq (zz + 1) 3 (xC (E i) (B i) vu) ∧ wq.ownsRow (zz + 2) 3 1 vu (numsR (Q i) (B i) n).length (intCells (numsR (Q i) (B i) n)) ∧ Chg (fun k => zz ≤ k) W1 wq ∧ zz + 2 ≤ wq.heap.size) (fun s8 _ _ => (B i + 4 - intOf s8).toNat)
      case atStart => exact ⟨0, .slice none 0 0, by simp, by omega, sb1, sb2, xb, World.ownsRow_nil _ _ _ _, Chg.refl _ _, by rw [W1S.out]; omega⟩
      case round =>
        clear sb1 sb2 xb
        obtain ⟨n, vu, rfl, hn, sb1, sb2, xb, hvu, cq1, hzq⟩ := hrel
        have x2 : wr.cell? ⟨zz + 1, 2, none⟩ = some vu := xb.cell 2 (by omega)
        have f2 := xb.fz 2
        by_cases hn4 : n < 4
        · have hn4' : (B i) + (n : Int) < B i + 4 := by omega
          obtain ⟨hS, hcw⟩ := HKP.out wr cq1
          have hwt := waits_any (B i + n) (o := 0) sb2 (by have := hcw.row' (h.rows i hi4) (fun _ _ h => h); rw [HPQ.out] at this; exact this) (by omega)
          have hidx := idxR_lt (B i + n) (Q i) 0
          obtain ⟨ix, hix⟩ : ∃ ix, ix = idxR (B i + n) (Q i) 0 := ⟨_, rfl⟩
          rw [← hix] at hwt hidx
          have hixr : -1 ≤ ix ∧ ix ≤ 10 := by rcases hidx with e | ⟨j, e1, e2⟩ <;> omega
          have hnl := numsR_len (Q i) (B i) n
          have HNX : Hid (numsR (Q i) (B i) (n + 1) = numsR (Q i) (B i) n ++ (if 0 ≤ ix then [B i + n] else [])) := by show _ = _; rw [hix]; rfl
          clear hix hidx
          go_wp2_with fail
          refine hwt.mono ?_
          rintro _ w3 ⟨rfl, ew⟩
          rw [ew]
          clear ew w3 hwt
          by_cases hx : 0 ≤ ix
          · have HNX' : Hid (numsR (Q i) (B i) (n + 1) = numsR (Q i) (B i) n ++ [B i + n]) := by show _ = _; rw [HNX.out, if_pos hx]
            obtain ⟨v5, w5, hrun, o5, g5, e5⟩ := run_append_where (P := Tryz.prog) (wr.alloc (Obj.cells #[.int .i64 (B i + n)] 3)) (zz + 2) 36 36 3 i1 _ 1 8 Tryz.underlying36 hi1 hy0 hy1 hy2 rfl (by decide) _ _ _ (hvu.alloc _) ⟨wr.heap.size, 0, none⟩ 1 1 [.int .i64 (B i + n)] rfl (fun j y hj => by rw [add_lit', Nat.zero_add]; rcases j with _ | j <;> simp at hj; subst hj; exact World.cell?_alloc_at _ _ _ _ rfl) (by simp [Value.oneCell']) (by unfold maxLen; omega) (by omega) (by simp; omega)
            have c5 : Chg (fun g => vu.ownBlock = some g) wr w5 := ((Chg.refl (fun g => vu.ownBlock = some g) wr).alloc _).trans (G := fun g => vu.ownBlock = some g) ⟨g5.os, g5.tape, g5.output, g5.size, fun k hk hne => g5.block k hk (fun e => hne e.symm)⟩ (fun _ _ h => h)
            have hvl : ∀ g, vu.ownBlock = some g → zz + 2 ≤ g := fun g hg => (hvu.lt g hg).1
            have nz : vu.ownBlock ≠ some zz := fun e => by have := hvl _ e; omega
            have nz1 : vu.ownBlock ≠ some (zz + 1) := fun e => by have := hvl _ e; omega
            have xb5 := xb.chg c5 (by omega) nz1
            have y2 : w5.cell? ⟨zz + 1, 2, none⟩ = some vu := xb5.cell 2 (by omega)
            have g2 := xb5.fz 2
            obtain ⟨p5, k5, hp5⟩ := row_any o5
            subst hp5
            have cS : Chg (fun k => k = zz + 1) w5 (w5.setCell ⟨zz + 1, 2, none⟩ (.slice p5 ((numsR (Q i) (B i) n).length + 1) k5)) := (Chg.refl (fun k => k = zz + 1) w5).setCell (p := ⟨zz + 1, 2, none⟩) (fun _ => rfl) _
            have cT : Chg (fun k => zz ≤ k) wr (w5.setCell ⟨zz + 1, 2, none⟩ (.slice p5 ((numsR (Q i) (B i) n).length + 1) k5)) := (c5.mono (fun k hk => by have := hvl k hk; omega)).trans cS (fun k _ hk => by omega)
            have n5 : (Value.slice p5 ((numsR (Q i) (B i) n).length + 1) k5).ownBlock ≠ some (zz + 1) := fun e => by have := (o5.lt _ e).1; omega
            go_wp2_with (at_builtin; refine Lib.wpList_append_run _ rfl (.tmp 47) (.tmp 49) 36 36 rfl _ _ rfl rfl (.slice p5 ((numsR (Q i) (B i) n).length + 1) k5) w5 hrun ?_)
            refine ⟨⟨n + 1, .slice p5 ((numsR (Q i) (B i) n).length + 1) k5, by simp; omega, by omega, ?_, ?_, xC_2 (xb5.set 2 _), ?_, cq1.trans cT (fun _ _ h => h), Nat.le_trans hzq cT.size⟩, by simp [intOf]; omega⟩
            · exact cS.cellAt (c5.cellAt sb1 nz) (by omega)
            · exact cS.cellAt (c5.cellAt sb2 nz) (by omega)
            · rw [HNX'.out]
              have := cS.row' o5 (fun k hk e => n5 (by rw [← e]; exact hk))
              simpa [intCells] using this
          · have HNX' : Hid (numsR (Q i) (B i) (n + 1) = numsR (Q i) (B i) n) := by show _ = _; rw [HNX.out, if_neg hx]; simp
            go_wp2_with fail
            exact ⟨⟨n + 1, vu, by simp; omega, by omega, sb1, sb2, xb, by rw [HNX'.out]; exact hvu, cq1, hzq⟩, by simp [intOf]; omega⟩
        · have hn4' : ¬ (B i) + (n : Int) < B i + 4 := by omega
          obtain rfl : n = 4 := by omega
          obtain ⟨hS, hcw⟩ := HKP.out wr cq1
          obtain ⟨pu, ku, hpu⟩ := row_any hvu
          subst hpu
          have hvu' : wr.ownsRow (w.heap.size + 2) 3 1 (.slice pu (numsR (Q i) (B i) 4).length ku) (numsR (Q i) (B i) 4).length (intCells (numsR (Q i) (B i) 4)) := row_lower hvu (by omega)
          obtain ⟨v6, w6, hrun, o6, g6, e6⟩ := run_append_where (P := Tryz.prog) (wr.alloc (Obj.cells #[.int .i64 (E i), .int .i64 (B i), .slice pu (numsR (Q i) (B i) 4).length ku] 121)) (w.heap.size + 2) 43 43 121 i0 _ 3 40 Tryz.underlying43 hi0 hz0 hz1 hz2 rfl (by decide) _ _ _ (hS.vs.alloc _) ⟨wr.heap.size, 0, none⟩ 1 1 [.int .i64 (E i), .int .i64 (B i), .slice pu (numsR (Q i) (B i) 4).length ku] rfl (fun j y hj => by rw [add_lit', Nat.zero_add]; rcases j with _ | _ | _ | j <;> simp at hj <;> subst hj <;> exact World.cell?_alloc_at _ _ _ _ rfl) (by simp [Value.oneCell']) (by unfold maxLen; omega) (by omega) (by have := hS.z; simp; omega)
          have c6 : Chg (fun g => vs.ownBlock = some g) wr w6 := ((Chg.refl (fun g => vs.ownBlock = some g) wr).alloc _).trans (G := fun g => vs.ownBlock = some g) ⟨g6.os, g6.tape, g6.output, g6.size, fun k hk hne => g6.block k hk (fun e => hne e.symm)⟩ (fun _ _ h => h)
          have hvl : ∀ g, vs.ownBlock = some g → w.heap.size + 2 ≤ g := fun g hg => (hS.vs.lt g hg).1
          have no : vs.ownBlock ≠ some ob := fun e => by have := hvl _ e; have := HOB.out; omega
          have nr : vs.ownBlock ≠ some w.heap.size := fun e => by have := hvl _ e; omega
          obtain ⟨p6, k6, hp6⟩ := row_any o6
          subst hp6
          have hO6 := hS.o.chg c6 (by omega) no
          have o0 : wr.cell? ⟨ob, 0, none⟩ = some vs := hS.o.cell 0 (by omega)
          have o0' : w6.cell? ⟨ob, 0, none⟩ = some vs := hO6.cell 0 (by omega)
          have of := hO6.fz 0
          have q0 : wr.cell? ⟨zz + 1, 0, none⟩ = some (.int .i64 (E i)) := xb.cell 0 (by omega)
          have q1 : wr.cell? ⟨zz + 1, 1, none⟩ = some (.int .i64 (B i)) := xb.cell 1 (by omega)
          have cS : Chg (fun k => k = ob) w6 (w6.setCell ⟨ob, 0, none⟩ (.slice p6 (i + 1) k6)) := (Chg.refl (fun k => k = ob) w6).setCell (p := ⟨ob, 0, none⟩) (fun _ => rfl) _
          have n6 : (Value.slice p6 (i + 1) k6).ownBlock ≠ some ob := fun e => by have := (o6.lt _ e).1; have := HOB.out; omega
          have ci : ∀ {v : Value} {L : List Int}, wr.ownsRow (w.heap.size + 2) 3 1 v L.length (intCells L) → (w6.setCell ⟨ob, 0, none⟩ (.slice p6 (i + 1) k6)).ownsRow (w.heap.size + 2) 3 1 v L.length (intCells L) := fun hr => cS.row' (c6.row' hr (fun g hg e => row_kinds hr hS.vs (by decide) g hg e)) (fun k hk e => by have := (hr.lt k hk).1; have := HOB.out; omega)
          go_wp2_with (at_builtin; refine Lib.wpList_append_run _ rfl (.tmp 53) (.tmp 55) 43 43 rfl _ _ rfl rfl (.slice p6 (i + 1) k6) w6 hrun ?_)
          refine ⟨⟨i + 1, .slice p6 (i + 1) k6, updV U i (.slice pu (numsR (Q i) (B i) 4).length ku), by go_num, by omega, ?_, (hS.r.chg c6 (by omega) nr).chg cS (by omega) (fun e => now e.symm), ?_, fun k hk => ?_, (hcw.step c6 (fun k hk => by have := hvl k hk; omega)).step cS (fun k hk => by have := HOB.out; omega), ?_⟩, by simp [intOf]; omega⟩
          · have hb := hO6.set 0 (.slice p6 (i + 1) k6)
            refine ⟨fun j hj => ?_, hb.fz⟩
            rw [hb.cell j hj]
            rcases (by omega : j = 0 ∨ j = 1) with rfl | rfl <;> rfl
          · have := cS.row' o6 (fun k hk e => n6 (by rw [← e]; exact hk))
            simp only [sessR]
            rw [sessR_same _ _ _ _ _ _ (Nat.le_refl _), updV_same]
            exact this
          · by_cases e : k = i
            · subst e; rw [updV_same]; exact ci hvu'
            · rw [updV_ne _ _ e]; exact ci (hS.u k (by omega))
          · have h1 := hS.z
            have h2 := c6.size
            have h3 := cS.size
            omega
    · have hi4' : ¬ (i : Int) < 4 := by omega
      obtain rfl : i = 4 := by omega
      have hnm := rnames_any (hc.cellAt h.tk id) (hc.row' h.taken (fun _ _ h => h)) hT
      go_wp2_with fail
      refine hnm.mono ?_
      rintro _ w7 ⟨vn, rfl, o7, c7⟩
      clear hnm
      have hS7 : StAt w7 w.heap.size ob 4 E B Q vs U := (⟨hO, hR, hvs, hU, hz, HOB.out⟩ : StAt wr w.heap.size ob 4 E B Q vs U).keep c7 (fun _ h => h.elim)
      have hc7 := hc.trans c7 (fun _ _ h => h)
      obtain ⟨nl, hnl⟩ : ∃ nl, nl = namesR T [] := ⟨_, rfl⟩
      rw [← hnl] at o7
      have HNL : Hid (nl = namesR T []) := hnl
      have hnll : nl.length ≤ 1000 := by rw [hnl]; have := namesR_len T []; simp at this; omega
      have hnk : ∀ n ∈ nl, ∃ c r, n.data.toList = c :: r := fun n hn => by
        rw [hnl] at hn
        rcases (namesR_mem T [] n).1 hn with h | ⟨x, hx, e⟩
        · simp at h
        · have := (hv x hx).2
          rw [e] at this
          unfold okKey at this
          cases hd : n.data.toList with
          | nil => rw [hd] at this; cases this
          | cons c r => exact ⟨c, r, rfl⟩
      obtain ⟨pn, cn, rfl⟩ := row_any o7
      have hz7 : w.heap.size + 2 ≤ wr.heap.size := hz
      have on7 : w7.ownsRow (w.heap.size + 2) 9 1 (.slice pn nl.length cn) nl.length (strCells nl) := row_lower o7 hz
      clear hnl hO hR hvs hU o7
      go_wp2_with fail
      go_loopw [11, 12] (fun s11 _ wq => ∃ (j : Nat) (vk : Value), s11 = .int .i64 j ∧ j ≤ nl.length ∧ Blk wq ob 2 (fun k => if k = 0 then vs else vk) ∧ Blk wq w.heap.size 2 (fun _ => .slice none 0 0) ∧ wq.ownsRow (w.heap.size + 2) 87 4 vk j (keyCells (keysR T Hs (nl.take j))) ∧ wq.ownsRow (w.heap.size + 2) 121 3 vs 4 (sessR E B U 4) ∧ (∀ k, k < 4 → wq.ownsRow (w.heap.size + 2) 3 1 (U k) (numsR (Q k) (B k) 4).length (intCells (numsR (Q k) (B k) 4))) ∧ wq.ownsRow (w.heap.size + 2) 9 1 (.slice pn nl.length cn) nl.length (strCells nl) ∧ Chg (fun _ => False) w wq ∧ w.heap.size + 2 ≤ wq.heap.size) (fun s11 _ _ => nl.length - (intOf s11).toNat)
      case atStart => exact ⟨0, .slice none 0 0, rfl, by omega, ⟨fun j hj => hS7.o.cell j hj, hS7.o.fz⟩, hS7.r, World.ownsRow_nil _ _ _ _, hS7.vs, hS7.u, on7, hc7, hS7.z⟩
      case round =>
        clear hS7 hc7 on7 c7 hc hz hz7
        obtain ⟨j, vk, rfl, hj, hO, hR, hvk, hvs, hU, hnn, hc, hz⟩ := hrel
        by_cases hjl : j < nl.length
        · have hjl' : (j : Int) < (nl.length : Int) := by omega
          obtain ⟨nm, hnm⟩ : ∃ nm, nl[j]? = some nm := ⟨_, List.getElem?_eq_getElem hjl⟩
          obtain ⟨gn, cn', hvn, _, _, hcell⟩ := row_pos hnn (by omega)
          simp only [Value.slice.injEq] at hvn
          obtain ⟨rfl, _, rfl⟩ := hvn
          have m0 := hcell _ _ (strCells_at hnm)
          obtain ⟨c, r, hcr⟩ := hnk nm (List.mem_of_getElem? hnm)
          have hky := rkey_any hcr (hc.cellAt h.tk id) (hc.row' h.taken (fun _ _ h => h)) (hc.cellAt h.hd id) (hc.row' h.held (fun _ _ h => h)) (by omega) hH (fun x hx => (hv x hx).1) ht
          obtain ⟨kk, hkk⟩ : ∃ kk : Ky, kk = ⟨nm, (tally nm T).1, (tally nm T).2, heldOf nm Hs⟩ := ⟨_, rfl⟩
          have HKK : Hid (keysR T Hs (nl.take (j + 1)) = keysR T Hs (nl.take j) ++ [kk]) := by
            show _ = _
            obtain ⟨hl, e⟩ := List.getElem?_eq_some_iff.1 hnm
            unfold keysR
            rw [List.take_succ_eq_append_getElem hl, e, List.map_append, hkk]
            rfl
          have hky' : Calls Tryz.prog 86 #[.pointer (some ⟨b, 0, none⟩), .string nm] wr fun e w' => e = .returned (.agg #[.string kk.name, .int .i64 kk.count, .int .i64 kk.fold, .int .i64 kk.held]) ∧ Chg (fun _ => False) wr w' := by rw [hkk]; exact hky
          clear hky hkk hcell hcr hnm
          have hkl : (keysR T Hs (nl.take j)).length = j := by unfold keysR; simp; omega
          go_wp2_with fail
          refine hky'.mono ?_
          rintro _ w8 ⟨rfl, c8⟩
          clear hky'
          obtain ⟨W9, hW9⟩ : ∃ W9, W9 = w8.alloc (Obj.cells #[.string kk.name, .int .i64 kk.count, .int .i64 kk.fold, .int .i64 kk.held] 87) := ⟨_, rfl⟩
          have c9 : Chg (fun _ => False) wr W9 := c8.trans (by rw [hW9]; exact (Chg.refl _ w8).alloc _) (fun _ _ h => h)
          have hs9 : W9.heap.size = w8.heap.size + 1 := by rw [hW9]; simp
          obtain ⟨v6, w6, hrun, o6, g6, e6⟩ := run_append_where (P := Tryz.prog) (W9.alloc (Obj.cells #[.string kk.name, .int .i64 kk.count, .int .i64 kk.fold, .int .i64 kk.held] 87)) (w.heap.size + 2) 44 44 87 i2 _ 4 40 Tryz.underlying44 hi2 hx0 hx1 hx2 rfl (by decide) _ _ _ ((c9.row' hvk (fun _ _ h => h)).alloc _) ⟨W9.heap.size, 0, none⟩ 1 1 [.string kk.name, .int .i64 kk.count, .int .i64 kk.fold, .int .i64 kk.held] rfl (fun j y hj => by rw [add_lit', Nat.zero_add]; rcases j with _ | _ | _ | _ | j <;> simp at hj <;> subst hj <;> exact World.cell?_alloc_at _ _ _ _ rfl) (by simp [Value.oneCell']) (by unfold maxLen; omega) (by omega) (by have := c9.size; simp; omega)
          have c6 : Chg (fun g => vk.ownBlock = some g) wr w6 := ((c9.mono (G := fun g => vk.ownBlock = some g) (fun _ h => h.elim)).alloc _).trans (G := fun g => vk.ownBlock = some g) ⟨g6.os, g6.tape, g6.output, g6.size, fun k hk hne => g6.block k hk (fun e => hne e.symm)⟩ (fun _ _ h => h)
          have hvl : ∀ g, vk.ownBlock = some g → w.heap.size + 2 ≤ g := fun g hg => (hvk.lt g hg).1
          have no : vk.ownBlock ≠ some ob := fun e => by have := hvl _ e; have := HOB.out; omega
          have nr : vk.ownBlock ≠ some w.heap.size := fun e => by have := hvl _ e; omega
          obtain ⟨p6, k6, hp6⟩ := row_any o6
          subst hp6
          have hO6 := hO.chg c6 (by omega) no
          have o1 : w8.cell? ⟨ob, 1, none⟩ = some vk := (hO.chg c8 (by omega) id).cell 1 (by omega)
          have o1a : ∀ o, (w8.alloc o).cell? ⟨ob, 1, none⟩ = some vk := fun o => (World.cell?_alloc_lt w8 o _ (World.block_lt_of_cell? _ _ o1)).trans o1
          have o1b : ∀ o o', ((w8.alloc o).alloc o').cell? ⟨ob, 1, none⟩ = some vk := fun o o' => (World.cell?_alloc_lt _ o' _ (World.block_lt_of_cell? _ _ (o1a o))).trans (o1a o)
          have o1' : w6.cell? ⟨ob, 1, none⟩ = some vk := hO6.cell 1 (by omega)
          have of := hO6.fz 1
          have cS : Chg (fun k => k = ob) w6 (w6.setCell ⟨ob, 1, none⟩ (.slice p6 (j + 1) k6)) := (Chg.refl (fun k => k = ob) w6).setCell (p := ⟨ob, 1, none⟩) (fun _ => rfl) _
          have n6 : (Value.slice p6 (j + 1) k6).ownBlock ≠ some ob := fun e => by have := (o6.lt _ e).1; have := HOB.out; omega
          have ci : ∀ {e : TypeId} {n m : Nat} {v : Value} {xs : List Value}, wr.ownsRow (w.heap.size + 2) e n v m xs → e ≠ 87 → (w6.setCell ⟨ob, 1, none⟩ (.slice p6 (j + 1) k6)).ownsRow (w.heap.size + 2) e n v m xs := fun hr hne => cS.row' (c6.row' hr (fun g hg e => row_kinds hr hvk hne g hg e)) (fun k hk e => by have := (hr.lt k hk).1; have := HOB.out; omega)
          rw [hs9, hW9] at hrun
          clear hW9 hs9
          go_wp2_with (at_builtin; refine Lib.wpList_append_run _ rfl (.tmp 73) (.tmp 75) 44 44 rfl _ _ rfl rfl (.slice p6 (j + 1) k6) w6 hrun ?_)
          refine ⟨⟨j + 1, .slice p6 (j + 1) k6, by go_num, by omega, ?_, (hR.chg c6 (by omega) nr).chg cS (by omega) (fun e => now e.symm), ?_, ci hvs (by decide), fun k hk => ci (hU k hk) (by decide), ci hnn (by decide), (hc.step c6 (fun k hk => by have := hvl k hk; omega)).step cS (fun k hk => by have := HOB.out; omega), ?_⟩, by simp [intOf]; omega⟩
          · have hb := hO6.set 1 (.slice p6 (j + 1) k6)
            refine ⟨fun k hk => ?_, hb.fz⟩
            rw [hb.cell k hk]
            rcases (by omega : k = 0 ∨ k = 1) with rfl | rfl <;> rfl
          · have := cS.row' o6 (fun k hk e => n6 (by rw [← e]; exact hk))
            rw [HKK.out]
            have ek : ∀ (a : List Ky) (k : Ky), keyCells (a ++ [k]) = keyCells a ++ [.string k.name, .int .i64 k.count, .int .i64 k.fold, .int .i64 k.held] := fun a => by
              induction a with
              | nil => intro k; rfl
              | cons y r ih => intro k; simp [keyCells, ih]
            rw [ek]
            exact this
          · have h2 := c6.size
            have h3 := cS.size
            omega
        · have hjl' : ¬ (j : Int) < (nl.length : Int) := by omega
          obtain rfl : j = nl.length := by omega
          rw [List.take_length] at hvk
          obtain ⟨ps, ks, rfl⟩ := row_any hvs
          obtain ⟨pk, kk, rfl⟩ := row_any hvk
          have o0 : wr.cell? ⟨ob, 0, none⟩ = some (.slice ps 4 ks) := hO.cell 0 (by omega)
          have o1 : wr.cell? ⟨ob, 1, none⟩ = some (.slice pk nl.length kk) := hO.cell 1 (by omega)
          have r0 : wr.cell? ⟨w.heap.size, 0, none⟩ = some (.slice none 0 0) := hR.cell 0 (by omega)
          have r1 : wr.cell? ⟨w.heap.size, 1, none⟩ = some (.slice none 0 0) := hR.cell 1 (by omega)
          have g0 := hR.fz 0
          have g1 := hR.fz 1
          have nwo : ¬ w.heap.size = ob := fun e => now e.symm
          go_wp2_with fail
          have cS : Chg (fun k => k = w.heap.size) wr ((wr.setCell ⟨w.heap.size, 0, none⟩ (.slice ps 4 ks)).setCell ⟨w.heap.size, 1, none⟩ (.slice pk nl.length kk)) := ((Chg.refl (fun k => k = w.heap.size) wr).setCell (p := ⟨w.heap.size, 0, none⟩) (fun _ => rfl) _).setCell (p := ⟨w.heap.size, 1, none⟩) (fun _ => rfl) _
          have lw : ∀ {e : TypeId} {n m : Nat} {v : Value} {xs : List Value}, wr.ownsRow (w.heap.size + 2) e n v m xs → ((wr.setCell ⟨w.heap.size, 0, none⟩ (.slice ps 4 ks)).setCell ⟨w.heap.size, 1, none⟩ (.slice pk nl.length kk)).ownsRow w.heap.size e n v m xs := fun hr => row_lower (cS.row' hr (fun k hk e => by have := (hr.lt k hk).1; omega)) (by omega)
          refine bodyPost_ret (v := .tuple #[.agg #[.slice ps 4 ks, .slice pk nl.length kk], .int .i64 0]) ?_ rfl ⟨_, _, rfl, U, lw hvs, fun k hk => lw (hU k hk), ?_, hc.step cS (fun k hk => by omega)⟩
          · simp [results, Tryz.results48, go_sem, r0, r1]
          · have hkl : (keysR T Hs nl).length = nl.length := by unfold keysR; simp
            rw [← HNL.out, hkl]
            exact lw hvk

end Go.Proofs.YthedkdbgfdjlkaaGreatDoor
