/- THE QUEUE'S METHODS, WALKED. -/
import Derived.Test.YtdoedjmdcmgddaaGreatApi
import Derived.BigQuiet
import Derived.BigRegion
namespace Go.Proofs.YtdoedjmdcmgddaaGreat
set_option linter.unusedVariables false
set_option linter.unusedSimpArgs false
open Go.RowKit

/-- Nothing in memory has turned (a draw may have been made). -/
structure Quiet (w w' : World) : Prop where
  heap : w'.heap = w.heap
  os : w'.os = w.os
  tape : w'.tape = w.tape
  output : w'.output = w.output

theorem Quiet.refl (w : World) : Quiet w w := ⟨rfl, rfl, rfl, rfl⟩
theorem Quiet.trans {a b c : World} (h : Quiet a b) (k : Quiet b c) : Quiet a c := ⟨k.heap.trans h.heap, k.os.trans h.os, k.tape.trans h.tape, k.output.trans h.output⟩
theorem Quiet.drew {a b : World} (h : Quiet a b) : Quiet a b.drew := ⟨h.heap, h.os, h.tape, h.output⟩
theorem Quiet.drewN {a b : World} (h : Quiet a b) (n : Nat) : Quiet a (b.drewN n) := ⟨h.heap, h.os, h.tape, h.output⟩
theorem Quiet.cell {w w' : World} (h : Quiet w w') (a : Addr) : w'.cell? a = w.cell? a := by simp only [World.cell?, h.heap]
theorem Quiet.frozen {w w' : World} (h : Quiet w w') (a : Addr) : w'.frozen? a = w.frozen? a := by simp only [World.frozen?, h.heap]
theorem Quiet.row {w w' : World} (h : Quiet w w') {b : Nat} {e : TypeId} {n m : Nat} {v : Value} {xs : List Value} (hr : w.ownsRow b e n v m xs) : w'.ownsRow b e n v m xs := by
  refine ⟨hr.1, ?_⟩
  rw [h.heap]
  exact hr.2
theorem Quiet.chg {w w' : World} (h : Quiet w w') (F : Nat → Prop) : Chg F w w' := ⟨h.os, h.tape, h.output, by rw [h.heap]; exact Nat.le_refl _, fun k _ _ => by rw [h.heap]⟩

theorem Chg.row' {F : Nat → Prop} {w w' : World} (h : Chg F w w') {b : Nat} {e : TypeId} {n m : Nat} {v : Value} {xs : List Value} (hr : w.ownsRow b e n v m xs) (hF : ∀ k, v.ownBlock = some k → ¬ F k) : w'.ownsRow b e n v m xs := by
  refine ⟨hr.1, ?_⟩
  rcases hr.2 with hn | ⟨g, cap, cur, hv, hb, hg, r⟩
  · exact .inl hn
  · refine .inr ⟨g, cap, cur, hv, hb, ?_, r⟩
    have hlt : g < w.heap.size := (Array.getElem?_eq_some_iff.1 hg).1
    rw [h.block g hlt (hF g (by rw [hv]; rfl))]
    exact hg

/-- Of block b only the cells of S may have turned. -/
structure Slots (b : Nat) (S : Nat → Prop) (w w' : World) : Prop where
  cell : ∀ j, ¬ S j → w'.cell? ⟨b, j, none⟩ = w.cell? ⟨b, j, none⟩
  frozen : ∀ j, w'.frozen? ⟨b, j, none⟩ = w.frozen? ⟨b, j, none⟩

theorem Slots.of_block {b : Nat} {w w' : World} (S : Nat → Prop) (h : w'.heap[b]? = w.heap[b]?) : Slots b S w w' :=
  ⟨fun _ _ => World.cell?_of_block (w := w) h, fun _ => World.frozen?_of_block (w := w) h⟩
theorem Slots.of_chg {b : Nat} {F : Nat → Prop} {w w' : World} (S : Nat → Prop) (h : Chg F w w') (hb : b < w.heap.size) (hF : ¬ F b) : Slots b S w w' := Slots.of_block S (h.block b hb hF)
theorem Slots.refl (b : Nat) (S : Nat → Prop) (w : World) : Slots b S w w := Slots.of_block S rfl
theorem Slots.trans {b : Nat} {S T : Nat → Prop} {u v w : World} (h : Slots b S u v) (k : Slots b T v w) (hT : ∀ j, T j → S j) : Slots b S u w :=
  ⟨fun j hj => (k.cell j (fun t => hj (hT j t))).trans (h.cell j hj), fun j => (k.frozen j).trans (h.frozen j)⟩
theorem Slots.mono {b : Nat} {S T : Nat → Prop} {u v : World} (h : Slots b S u v) (hT : ∀ j, S j → T j) : Slots b T u v :=
  ⟨fun j hj => h.cell j (fun s => hj (hT j s)), h.frozen⟩
theorem Slots.setCell {b : Nat} {S : Nat → Prop} {u v : World} (h : Slots b S u v) {p : Addr} (x : Value) (hp : p.block = b → S p.off) : Slots b S u (v.setCell p x) := by
  refine ⟨fun j hj => ?_, fun j => ?_⟩
  · rw [World.cell?_setCell_other _ _ _ _ (fun e => hj (by have := hp (by rw [e]); rw [e] at this; exact this))]
    exact h.cell j hj
  · simp [h.frozen j]
theorem Slots.quiet {b : Nat} {S : Nat → Prop} {u v w : World} (h : Slots b S u v) (hq : Quiet v w) : Slots b S u w :=
  ⟨fun j hj => (hq.cell _).trans (h.cell j hj), fun j => (hq.frozen _).trans (h.frozen j)⟩

def Wt.cells (x : Wt) : List Value := [.int .i64 x.num, .string x.key, .int .i64 x.val]
def wtCells : List Wt → List Value
  | [] => []
  | x :: r => .int .i64 x.num :: .string x.key :: .int .i64 x.val :: wtCells r

theorem wtCells_len : ∀ l : List Wt, (wtCells l).length = l.length * 3
  | [] => rfl
  | x :: r => by simp [wtCells, wtCells_len r]; omega

theorem wtCells_at : ∀ (l : List Wt) (i : Nat) (x : Wt), l[i]? = some x → (wtCells l)[i * 3]? = some (.int .i64 x.num) ∧ (wtCells l)[i * 3 + 1]? = some (.string x.key) ∧ (wtCells l)[i * 3 + 2]? = some (.int .i64 x.val)
  | [], i, x, h => by simp at h
  | y :: r, 0, x, h => by simp at h; subst h; simp [wtCells]
  | y :: r, i + 1, x, h => by
    have := wtCells_at r i x (by simpa using h)
    have e : (i + 1) * 3 = i * 3 + 3 := by omega
    rw [e]
    simpa [wtCells] using this

set_option maxHeartbeats 400000 in
theorem qLen_any (p : Option Addr) (n cap : Nat) (w : World) :
    Calls Tryz.prog 179 #[.slice p n cap] w fun e w' => e = .returned (.int .i64 n) ∧ w' = w := by
  go_enter Tryz.func179, Tryz.ntmps179
  go_wp2
  go_ret
  exact ⟨rfl, rfl⟩

set_option maxHeartbeats 400000 in
theorem qLess_any (g n cap i j : Nat) (a b : Int) (w : World) (hi : i < n) (hj : j < n) (hn : n ≤ 9223372036854775807)
    (ha : w.cell? ⟨g, i * 3, none⟩ = some (.int .i64 a)) (hb : w.cell? ⟨g, j * 3, none⟩ = some (.int .i64 b)) :
    Calls Tryz.prog 180 #[.slice (some ⟨g, 0, none⟩) n cap, .int .i64 i, .int .i64 j] w fun e w' => e = .returned (.bool (decide (a < b))) ∧ Quiet w w' := by
  go_enter Tryz.func180, Tryz.ntmps180
  go_wp2
  go_quiet (fail)
  go_wp2
  go_ret
  exact ⟨rfl, (Quiet.refl w).drewN _⟩

/-- Three cells written, one behind the other. -/
def put3 (w : World) (g o : Nat) (x : Wt) : World := ((w.setCell ⟨g, o, none⟩ (.int .i64 x.num)).setCell ⟨g, o + 1, none⟩ (.string x.key)).setCell ⟨g, o + 2, none⟩ (.int .i64 x.val)

set_option maxHeartbeats 1000000 in
theorem qSwap_ne (g n cap i j : Nat) (x y : Wt) (w : World) (hi : i < n) (hj : j < n) (hn : n ≤ 9223372036854775807) (hne : i * 3 ≠ j * 3)
    (f0 : w.frozen? ⟨g, i * 3, none⟩ = false) (f1 : w.frozen? ⟨g, i * 3 + 1, none⟩ = false) (f2 : w.frozen? ⟨g, i * 3 + 2, none⟩ = false)
    (g0 : w.frozen? ⟨g, j * 3, none⟩ = false) (g1 : w.frozen? ⟨g, j * 3 + 1, none⟩ = false) (g2 : w.frozen? ⟨g, j * 3 + 2, none⟩ = false)
    (a0 : w.cell? ⟨g, i * 3, none⟩ = some (.int .i64 x.num)) (a1 : w.cell? ⟨g, i * 3 + 1, none⟩ = some (.string x.key)) (a2 : w.cell? ⟨g, i * 3 + 2, none⟩ = some (.int .i64 x.val))
    (b0 : w.cell? ⟨g, j * 3, none⟩ = some (.int .i64 y.num)) (b1 : w.cell? ⟨g, j * 3 + 1, none⟩ = some (.string y.key)) (b2 : w.cell? ⟨g, j * 3 + 2, none⟩ = some (.int .i64 y.val)) :
    Calls Tryz.prog 181 #[.slice (some ⟨g, 0, none⟩) n cap, .int .i64 i, .int .i64 j] w fun e w' => e = .returned (.tuple #[]) ∧ Quiet (put3 (put3 w g (i * 3) y) g (j * 3) x) w' := by
  go_enter Tryz.func181, Tryz.ntmps181
  have k0 : (w.setCell ⟨g, i * 3, none⟩ (.int .i64 y.num)).cell? ⟨g, j * 3, none⟩ = some (.int .i64 y.num) := by
    rw [World.cell?_setCell_other _ _ _ _ (fun hh => hne (congrArg Addr.off hh))]; exact b0
  go_wp2
  go_region
  all_goals (go_end0; exact ⟨rfl, (Quiet.refl _).drew⟩)

set_option maxHeartbeats 1000000 in
theorem qSwap_eq (g n cap i : Nat) (x : Wt) (w : World) (hi : i < n) (hn : n ≤ 9223372036854775807)
    (f0 : w.frozen? ⟨g, i * 3, none⟩ = false) (f1 : w.frozen? ⟨g, i * 3 + 1, none⟩ = false) (f2 : w.frozen? ⟨g, i * 3 + 2, none⟩ = false)
    (a0 : w.cell? ⟨g, i * 3, none⟩ = some (.int .i64 x.num)) (a1 : w.cell? ⟨g, i * 3 + 1, none⟩ = some (.string x.key)) (a2 : w.cell? ⟨g, i * 3 + 2, none⟩ = some (.int .i64 x.val)) :
    Calls Tryz.prog 181 #[.slice (some ⟨g, 0, none⟩) n cap, .int .i64 i, .int .i64 i] w fun e w' => e = .returned (.tuple #[]) ∧ Quiet (put3 (put3 w g (i * 3) x) g (i * 3) x) w' := by
  go_enter Tryz.func181, Tryz.ntmps181
  go_wp2
  go_region
  all_goals (go_end0; exact ⟨rfl, (Quiet.refl _).drew⟩)

theorem row_frozen {w : World} {lo : Nat} {e : TypeId} {size g n cap : Nat} {xs : List Value} (h : w.ownsRow lo e size (.slice (some ⟨g, 0, none⟩) n cap) n xs) (o : Nat) : w.frozen? ⟨g, o, none⟩ = false := by
  rcases h.2 with ⟨hv, _⟩ | ⟨g', cap', cur, hv, _, hg, _⟩
  · simp at hv
  · simp at hv
    obtain ⟨rfl, _⟩ := hv
    simp [World.frozen?, hg]

theorem row_cell {w : World} {lo : Nat} {e : TypeId} {size g n cap : Nat} {xs : List Value} (h : w.ownsRow lo e size (.slice (some ⟨g, 0, none⟩) n cap) n xs) {j : Nat} {u : Value} (hj : xs[j]? = some u) : w.cell? ⟨g, j, none⟩ = some u := by
  have := World.ownsRow.cells h (g := g) rfl j u hj
  rcases Nat.eq_zero_or_pos j with h0 | h0
  · subst h0; simpa [Addr.add] using this
  · simpa [Addr.add, Nat.pos_iff_ne_zero.1 h0] using this

theorem wtCells_set : ∀ (l : List Wt) (i : Nat) (x : Wt), wtCells (l.set i x) = (((wtCells l).set (i * 3) (.int .i64 x.num)).set (i * 3 + 1) (.string x.key)).set (i * 3 + 2) (.int .i64 x.val)
  | [], i, x => by simp [wtCells]
  | y :: r, 0, x => by simp [wtCells]
  | y :: r, i + 1, x => by
    have e : (i + 1) * 3 = i * 3 + 3 := by omega
    rw [e]
    simp [wtCells, wtCells_set r i x]

/-- A place of a queue's row written anew. -/
theorem row_put3 {w : World} {lo : Nat} {e : TypeId} {g n cap : Nat} {qs : List Wt} (h : w.ownsRow lo e 3 (.slice (some ⟨g, 0, none⟩) n cap) n (wtCells qs)) (i : Nat) (x : Wt) :
    (put3 w g (i * 3) x).ownsRow lo e 3 (.slice (some ⟨g, 0, none⟩) n cap) n (wtCells (qs.set i x)) ∧ Chg (fun k => k = g) w (put3 w g (i * 3) x) := by
  constructor
  · rw [wtCells_set]
    exact (((h.stored (i * 3) _).1.stored (i * 3 + 1) _).1.stored (i * 3 + 2) _).1
  · exact (((Chg.refl (fun k => k = g) w).setCell (p := ⟨g, i * 3, none⟩) (fun _ => rfl) _).setCell (p := ⟨g, i * 3 + 1, none⟩) (fun _ => rfl) _).setCell (p := ⟨g, i * 3 + 2, none⟩) (fun _ => rfl) _

def swapL (l : List Wt) (i j : Nat) : List Wt := match l[i]?, l[j]? with
  | some x, some y => (l.set i y).set j x
  | _, _ => l

theorem swapL_length (l : List Wt) (i j : Nat) : (swapL l i j).length = l.length := by
  unfold swapL; split <;> simp

def numAt (l : List Wt) (i : Nat) : Int := match l[i]? with
  | some x => x.num
  | none => 0

theorem swap_row {w : World} {lo : Nat} {g n cap i j : Nat} {qs : List Wt} (h : w.ownsRow lo 144 3 (.slice (some ⟨g, 0, none⟩) n cap) n (wtCells qs)) (hq : qs.length = n) (hi : i < n) (hj : j < n) (hn : n ≤ 1000) :
    Calls Tryz.prog 181 #[.slice (some ⟨g, 0, none⟩) n cap, .int .i64 i, .int .i64 j] w fun e w' => e = .returned (.tuple #[]) ∧
      w'.ownsRow lo 144 3 (.slice (some ⟨g, 0, none⟩) n cap) n (wtCells (swapL qs i j)) ∧ Chg (fun k => k = g) w w' := by
  obtain ⟨x, hx⟩ : ∃ x, qs[i]? = some x := ⟨_, List.getElem?_eq_getElem (by omega)⟩
  obtain ⟨y, hy⟩ : ∃ y, qs[j]? = some y := ⟨_, List.getElem?_eq_getElem (by omega)⟩
  have cx := wtCells_at qs i x hx
  have cy := wtCells_at qs j y hy
  by_cases hij : i = j
  · subst hij
    have : x = y := by rw [hx] at hy; exact Option.some.inj hy
    subst this
    refine (qSwap_eq g n cap i x w hi (by omega) (row_frozen h _) (row_frozen h _) (row_frozen h _) (row_cell h cx.1) (row_cell h cx.2.1) (row_cell h cx.2.2)).mono ?_
    rintro e w' ⟨rfl, hq'⟩
    have r1 := row_put3 h i x
    have r2 := row_put3 r1.1 i x
    refine ⟨rfl, ?_, (r1.2.trans r2.2 (fun _ _ h => h)).trans (hq'.chg _) (fun _ _ h => h)⟩
    have := hq'.row r2.1
    simpa [swapL, hx] using this
  · refine (qSwap_ne g n cap i j x y w hi hj (by omega) (by omega) (row_frozen h _) (row_frozen h _) (row_frozen h _) (row_frozen h _) (row_frozen h _) (row_frozen h _) (row_cell h cx.1) (row_cell h cx.2.1) (row_cell h cx.2.2) (row_cell h cy.1) (row_cell h cy.2.1) (row_cell h cy.2.2)).mono ?_
    rintro e w' ⟨rfl, hq'⟩
    have r1 := row_put3 h i y
    have r2 := row_put3 r1.1 j x
    refine ⟨rfl, ?_, (r1.2.trans r2.2 (fun _ _ h => h)).trans (hq'.chg _) (fun _ _ h => h)⟩
    have := hq'.row r2.1
    simpa [swapL, hx, hy] using this

theorem less_row {w : World} {lo : Nat} {g n cap i j : Nat} {qs : List Wt} (h : w.ownsRow lo 144 3 (.slice (some ⟨g, 0, none⟩) n cap) n (wtCells qs)) (hq : qs.length = n) (hi : i < n) (hj : j < n) (hn : n ≤ 1000) :
    Calls Tryz.prog 180 #[.slice (some ⟨g, 0, none⟩) n cap, .int .i64 i, .int .i64 j] w fun e w' => e = .returned (.bool (decide (numAt qs i < numAt qs j))) ∧ Quiet w w' := by
  obtain ⟨x, hx⟩ : ∃ x, qs[i]? = some x := ⟨_, List.getElem?_eq_getElem (by omega)⟩
  obtain ⟨y, hy⟩ : ∃ y, qs[j]? = some y := ⟨_, List.getElem?_eq_getElem (by omega)⟩
  have cx := wtCells_at qs i x hx
  have cy := wtCells_at qs j y hy
  have := qLess_any g n cap i j x.num y.num w hi hj (by omega) (row_cell h cx.1) (row_cell h cy.1)
  simpa [numAt, hx, hy] using this

end Go.Proofs.YtdoedjmdcmgddaaGreat
