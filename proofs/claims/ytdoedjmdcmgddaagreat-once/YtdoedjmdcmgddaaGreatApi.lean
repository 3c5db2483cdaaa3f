/- WHAT THE STATEMENTS' WALKS TAKE OF THE PROGRAM'S CALLS: a relay in memory is a predicate R; each call is held to Model's words. -/
import Derived.Test.YtdoedjmdcmgddaaGreatProg
import Derived.Test.YtdoedjmdcmgddaaGreatModel
import Derived.WalkKit
import Derived.WalkSpells
import Derived.WalkLawsBesides
namespace Go.Proofs.YtdoedjmdcmgddaaGreat
set_option linter.unusedVariables false
set_option linter.unusedSimpArgs false
open Go.RowKit

/-- Of the blocks that were there, only those of F may have turned. -/
structure Chg (F : Nat → Prop) (w w' : World) : Prop where
  os : w'.os = w.os
  tape : w'.tape = w.tape
  output : w'.output = w.output
  size : w.heap.size ≤ w'.heap.size
  block : ∀ k, k < w.heap.size → ¬ F k → w'.heap[k]? = w.heap[k]?

theorem Chg.refl (F : Nat → Prop) (w : World) : Chg F w w := ⟨rfl, rfl, rfl, Nat.le_refl _, fun _ _ _ => rfl⟩

theorem Chg.trans {F G : Nat → Prop} {a b c : World} (h : Chg F a b) (k : Chg G b c) (hG : ∀ n, n < a.heap.size → G n → F n) : Chg F a c :=
  ⟨k.os.trans h.os, k.tape.trans h.tape, k.output.trans h.output, Nat.le_trans h.size k.size,
   fun i hi hF => (k.block i (Nat.lt_of_lt_of_le hi h.size) (fun g => hF (hG i hi g))).trans (h.block i hi hF)⟩

theorem Chg.mono {F G : Nat → Prop} {a b : World} (h : Chg F a b) (hG : ∀ n, F n → G n) : Chg G a b :=
  ⟨h.os, h.tape, h.output, h.size, fun i hi hg => h.block i hi (fun f => hg (hG i f))⟩

theorem Chg.drew {F : Nat → Prop} {a w : World} (h : Chg F a w) : Chg F a w.drew := ⟨h.os, h.tape, h.output, h.size, h.block⟩

theorem Chg.alloc {F : Nat → Prop} {a w : World} (h : Chg F a w) (o : Obj) : Chg F a (w.alloc o) :=
  h.trans (G := fun _ => False) ⟨rfl, rfl, rfl, by simp, fun k hk _ => Below.heap_alloc _ _ _ hk⟩ (fun _ _ g => g.elim)

theorem Chg.setCell {F : Nat → Prop} {a w : World} (h : Chg F a w) {p : Addr} (hp : p.block < a.heap.size → F p.block) (u : Value) : Chg F a (w.setCell p u) :=
  h.trans (G := fun k => k = p.block) ⟨rfl, rfl, rfl, by simp [World.setCell], fun k _ hk => Below.heap_setCell _ _ _ _ hk⟩ (fun n hn g => by subst g; exact hp hn)

/-- From the blocks that a call may turn to 'Below'. -/
theorem Chg.below {F : Nat → Prop} {B : Nat} {w w' : World} (h : Chg F w w') (hB : B ≤ w.heap.size) (hF : ∀ k, F k → B ≤ k) : Below B w w' :=
  ⟨h.os, h.tape, h.output, h.size, fun k hk => h.block k (by omega) (fun f => by have := hF k f; omega)⟩

theorem Below.chg {B : Nat} {w w' : World} (h : Below B w w') : Chg (fun k => B ≤ k) w w' :=
  ⟨h.os, h.tape, h.output, h.size, fun k _ hf => h.block k (by omega)⟩

theorem Chg.cell {F : Nat → Prop} {w w' : World} (h : Chg F w w') {p : Addr} {v : Value} (hv : w.cell? p = some v) (hp : ¬ F p.block) : w'.cell? p = some v :=
  (World.cell?_of_block (w := w) (h.block p.block (World.block_lt_of_cell? w p hv) hp)).trans hv

theorem Chg.cellAt {F : Nat → Prop} {w w' : World} (h : Chg F w w') {b o : Nat} {v : Value} (hv : w.cell? ⟨b, o, none⟩ = some v) (hp : ¬ F b) : w'.cell? ⟨b, o, none⟩ = some v :=
  h.cell hv hp

/-- A call that turns only what is younger than w. -/
theorem Chg.step {F : Nat → Prop} {w w1 w2 : World} (h : Chg (fun _ => False) w w1) (hc : Chg F w1 w2) (hF : ∀ k, F k → w.heap.size ≤ k) : Chg (fun _ => False) w w2 :=
  h.trans hc (fun n hn f => by have := hF n f; omega)

/-- What a call has of its own is younger than w too. -/
theorem Chg.young {F F' G : Nat → Prop} {w w1 : World} (h : Chg G w w1) (hF : ∀ k, F k → w.heap.size ≤ k) (hF' : ∀ k, F' k → F k ∨ w1.heap.size ≤ k) : ∀ k, F' k → w.heap.size ≤ k :=
  fun k hk => (hF' k hk).elim (hF k) (fun h1 => Nat.le_trans h.size h1)

theorem Chg.row {F : Nat → Prop} {w w' : World} (h : Chg F w w') {b : Nat} {e : TypeId} {n m : Nat} {v : Value} {xs : List Value} (hr : w.ownsRow b e n v m xs) (hF : ∀ k, F k → ¬ b ≤ k ∨ w.heap.size ≤ k) : w'.ownsRow b e n v m xs := by
  refine ⟨hr.1, ?_⟩
  rcases hr.2 with hn | ⟨g, cap, cur, hv, hb, hg, r⟩
  · exact .inl hn
  · refine .inr ⟨g, cap, cur, hv, hb, ?_, r⟩
    have hlt : g < w.heap.size := (Array.getElem?_eq_some_iff.1 hg).1
    rw [h.block g hlt (fun f => by rcases hF g f with h1 | h1 <;> omega)]
    exact hg

/-- A row's value, where it has an element. -/
theorem row_pos {w : World} {lo : Nat} {e : TypeId} {size : Nat} {v : Value} {n : Nat} {xs : List Value} (h : w.ownsRow lo e size v n xs) (hn : 0 < n) :
    ∃ g cap, v = .slice (some ⟨g, 0, none⟩) n cap ∧ lo ≤ g ∧ n ≤ cap ∧ ∀ j u, xs[j]? = some u → w.cell? ⟨g, j, none⟩ = some u := by
  have hc := fun g hg => World.ownsRow.cells h (g := g) hg
  rcases h.2 with ⟨_, hz⟩ | ⟨g, cap, cur, hv, hb, _, hcap, _⟩
  · omega
  · refine ⟨g, cap, hv, hb, hcap, fun j u hj => ?_⟩
    have := hc g (by rw [hv]; rfl) j u hj
    rcases Nat.eq_zero_or_pos j with h0 | h0
    · subst h0; simpa [Addr.add] using this
    · simpa [Addr.add, Nat.pos_iff_ne_zero.1 h0] using this

/-- A row's value, whatever it has. -/
theorem row_any {w : World} {lo : Nat} {e : TypeId} {size : Nat} {v : Value} {n : Nat} {xs : List Value} (h : w.ownsRow lo e size v n xs) :
    ∃ p cap, v = .slice p n cap := by
  rcases h.2 with ⟨hv, hz⟩ | ⟨g, cap, cur, hv, _⟩
  · exact ⟨none, 0, by rw [hv, hz]⟩
  · exact ⟨_, cap, hv⟩

/-- A record as a value. -/
def Rec.value' (x : Rec) : Value := .agg #[.int .i64 x.session, .int .i64 x.epoch, .int .i64 x.number, .string x.key, .int .i64 x.value]

/-- An int's numbers. -/
def inInt (n : Int) : Prop := -9223372036854775808 ≤ n ∧ n ≤ 9223372036854775807

structure Rec.fits (x : Rec) : Prop where
  session : inInt x.session
  epoch : inInt x.epoch
  number : inInt x.number
  value : inInt x.value
  key : x.key.size ≤ maxLen

def Ln.nums (l : Ln) : List Value := l.ws.map fun y => .int .i64 y.num

/-- The cells of sessions, their lists of those that wait beside them. -/
def sessCells : List Ln → List Value → List Value
  | l :: r, u :: us => .int .i64 l.epoch :: .int .i64 l.base :: u :: sessCells r us
  | _, _ => []

def keyCells : List Ky → List Value
  | [] => []
  | k :: r => .string k.name :: .int .i64 k.count :: .int .i64 k.fold :: .int .i64 k.held :: keyCells r

/-- A state that was told, in memory from block lo on. -/
structure StateAt (w : World) (lo : Nat) (vs vk : Value) (s : St) : Prop where
  sess : ∃ us : List Value, us.length = s.lanes.length ∧ w.ownsRow lo 56 3 vs s.lanes.length (sessCells s.lanes us) ∧
    ∀ (i : Nat) (l : Ln) (u : Value), s.lanes[i]? = some l → us[i]? = some u → w.ownsRow lo 3 1 u l.ws.length l.nums
  keys : w.ownsRow lo 60 4 vk s.keys.length (keyCells s.keys)

theorem StateAt.kept {F : Nat → Prop} {w w' : World} {lo : Nat} {vs vk : Value} {s : St} (h : StateAt w lo vs vk s) (hc : Chg F w w') (hF : ∀ k, F k → ¬ lo ≤ k ∨ w.heap.size ≤ k) : StateAt w' lo vs vk s := by
  obtain ⟨us, h1, h2, h3⟩ := h.sess
  exact ⟨⟨us, h1, hc.row h2 hF, fun i l u hl hu => hc.row (h3 i l u hl hu) hF⟩, hc.row h.keys hF⟩

/-- What holds of every state that a relay can be in. -/
structure St.fine (s : St) : Prop where
  four : s.lanes.length = 4
  lane : ∀ l ∈ s.lanes, 0 ≤ l.epoch ∧ l.epoch ≤ 9223372036854775807 ∧ 0 ≤ l.base ∧ l.base ≤ 1000
  total : s.records ≤ 1000
  key : ∀ k ∈ s.keys, 1 ≤ k.count ∧ 0 ≤ k.held ∧ k.held ≤ k.count

/-- THE CALLS. R w a o F: the relay at a is in the state o ('none': it is closed), in the blocks of F. -/
structure Api (R : World → Addr → Option St → (Nat → Prop) → Prop) : Prop where
  lt : ∀ {w a o F k}, R w a o F → F k → k < w.heap.size
  stable : ∀ {w w' a o F}, R w a o F → (∀ k, F k → w'.heap[k]? = w.heap[k]?) → R w' a o F
  fine : ∀ {w a s F}, R w a (some s) F → s.fine
  new : ∀ w, Calls Tryz.prog 9 #[] w fun e w' => ∃ a F, e = .returned (.pointer (some a)) ∧ R w' a (some St.init) F ∧ (∀ k, F k → w.heap.size ≤ k) ∧ Chg (fun _ => False) w w'
  accept : ∀ {w a o F} (x : Rec), R w a o F → x.fits → Calls Tryz.prog 12 #[.pointer (some a), x.value'] w fun e w' =>
    ∃ F', e = .returned (.tuple #[.int .i64 (accept? o x).1.1, .int .i64 (accept? o x).1.2]) ∧ R w' a (accept? o x).2 F' ∧ (∀ k, F' k → F k ∨ w.heap.size ≤ k) ∧ Chg F w w'
  state : ∀ {w a o F}, R w a o F → Calls Tryz.prog 16 #[.pointer (some a)] w fun e w' =>
    ∃ vs vk, e = .returned (.tuple #[.agg #[vs, vk], .int .i64 (errno? o)]) ∧ StateAt w' w.heap.size vs vk (state? o) ∧ R w' a o F ∧ Chg F w w'
  close : ∀ {w a o F}, R w a o F → Calls Tryz.prog 18 #[.pointer (some a)] w fun e w' =>
    e = .returned (.int .i64 (errno? o)) ∧ R w' a none F ∧ Chg F w w'

end Go.Proofs.YtdoedjmdcmgddaaGreat
