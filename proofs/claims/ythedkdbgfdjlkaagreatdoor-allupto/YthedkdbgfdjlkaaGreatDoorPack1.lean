import GoSem.Op.String
import Derived.Test.YthedkdbgfdjlkaaGreatDoorProg
import Derived.WalkKit
import Derived.WalkSpells
import Derived.WalkLawsBesides
import Derived.BigQuiet
import Derived.BigRegion
import Derived.Deep.LoopGhost
import Derived.Deep.RegionLaw
import Derived.Lib.AppendZerosOnto
import Derived.Lib.Overlaps
import Derived.Lib.SliceRun
import Derived.Laws.Externs
import Derived.Laws.IdiomCopy
import Derived.Shelf.Small.Bits
import Derived.Shelf.Small.Strs
import Derived.Shelf.Small.Wraps
import Derived.Shelf.Strconv.Itoa0
import Derived.Shelf.LaysM
import Derived.Shelf.Strconv.Clone
import Derived.Shelf.Strings.Search1
import Derived.Shelf.Sort.Plain
import Derived.Shelf.Slices.Turned
import Derived.Shelf.Slices.CompactS
import Derived.Ground.Names2Prog
import Derived.Shelf.Slices.SearchI
import Derived.Shelf.Slices.Cells
import Derived.Shelf.Slices.In.SortNone
import Derived.Shelf.SlSortCmp.SmallK
import Derived.Ground.SlsfProg
namespace Go.Proofs.YthedkdbgfdjlkaaGreatDoor
set_option linter.unusedVariables false
set_option linter.unusedSimpArgs false
structure Rec where
  session : Int
  epoch : Int
  number : Int
  key : ByteArray
  value : Int
structure Wt where
  num : Int
  key : ByteArray
  val : Int
structure Ln where
  epoch : Int
  base : Int
  ws : List Wt
structure Ky where
  name : ByteArray
  count : Int
  fold : Int
  held : Int
structure St where
  lanes : List Ln
  keys : List Ky
def Ln.init : Ln := ⟨0, 0, []⟩
def St.init : St := ⟨[Ln.init, Ln.init, Ln.init, Ln.init], []⟩
def okFirst (c : UInt8) : Bool := c == 99 || c == 115 || c == 108 || c == 109
def okKey (k : ByteArray) : Bool := match k.data.toList with
  | [] => false
  | c :: _ => okFirst c && decide (k.size ≤ 6)
def less (a b : ByteArray) : Bool := Op.bytesLess a.data.toList b.data.toList
def foldOne (name : ByteArray) (count fold val : Int) : Int := match name.data.toList with
  | [] => fold
  | c :: _ => if c == 99 then count else if c == 115 then (fold + val) % 4294967296 else if c == 108 then val else max fold val
def Ky.more (k : Ky) (val : Int) : Ky := ⟨k.name, k.count + 1, foldOne k.name (k.count + 1) k.fold val, k.held⟩
def takeKy (name : ByteArray) (val : Int) : List Ky → List Ky
  | [] => [(⟨name, 0, 0, 0⟩ : Ky).more val]
  | k :: r => if k.name = name then k.more val :: r else if less name k.name then (⟨name, 0, 0, 0⟩ : Ky).more val :: k :: r else k :: takeKy name val r
def putW (x : Wt) : List Wt → List Wt
  | [] => [x]
  | y :: r => if x.num < y.num then x :: y :: r else y :: putW x r
def drainW : Int → List Wt → List Ky → Int × List Wt × List Ky
  | b, [], ks => (b, [], ks)
  | b, x :: r, ks => if x.num = b then drainW (b + 1) r (takeKy x.key x.val ks) else (b, x :: r, ks)
def St.names (s : St) : List ByteArray := s.keys.map (·.name) ++ s.lanes.flatMap (fun l => l.ws.map (·.key))
def isIn (k : ByteArray) (r : List ByteArray) : Bool := r.any (fun y => decide (y = k))
def distinct : List ByteArray → Nat
  | [] => 0
  | k :: r => if isIn k r then distinct r else distinct r + 1
def counts : List Ky → Int
  | [] => 0
  | k :: r => k.count + counts r
def waits : List Ln → Int
  | [] => 0
  | l :: r => (l.ws.length : Int) + waits r
def St.records (s : St) : Int := counts s.keys + waits s.lanes
def Ln.turned (l : Ln) (e : Int) : Ln := if l.epoch < e then ⟨e, 0, []⟩ else l
def acceptIn (s : St) (i : Nat) (l : Ln) (x : Rec) : (Int × Int) × St :=
  if x.epoch < l.epoch then ((0, 4), s) else
  let c := l.turned x.epoch
  if x.number < 0 ∨ c.base + 4 ≤ x.number then ((0, 5), s) else
  if x.number < c.base ∨ c.ws.any (fun y => y.num == x.number) then ((c.base, 0), s) else
  let t : St := ⟨s.lanes.set i c, s.keys⟩
  if isIn x.key t.names = false ∧ 4 ≤ distinct t.names then ((0, 6), s) else
  if 1000 ≤ t.records then ((0, 7), s) else
  let d := drainW c.base (putW ⟨x.number, x.key, x.value⟩ c.ws) s.keys
  ((d.1, 0), ⟨s.lanes.set i ⟨c.epoch, d.1, d.2.1⟩, d.2.2⟩)
def accept (s : St) (x : Rec) : (Int × Int) × St :=
  if x.session < 0 ∨ 4 ≤ x.session then ((0, 2), s) else
  if okKey x.key = false ∨ x.value < 0 ∨ 4294967295 < x.value then ((0, 3), s) else
  match s.lanes[x.session.toNat]? with
  | none => ((0, 2), s)
  | some l => acceptIn s x.session.toNat l x
def accept? : Option St → Rec → (Int × Int) × Option St
  | none, _ => ((0, 1), none)
  | some s, x => ((accept s x).1, some (accept s x).2)
def state? : Option St → St
  | none => ⟨[], []⟩
  | some s => s
def errno? : Option St → Int
  | none => 1
  | some _ => 0
end Go.Proofs.YthedkdbgfdjlkaaGreatDoor

namespace Go.Proofs.YthedkdbgfdjlkaaGreatDoor
set_option linter.unusedVariables false
set_option linter.unusedSimpArgs false
open Go.RowKit
structure Chg (F : Nat → Prop) (w w' : World) : Prop where
  os : w'.os = w.os
  tape : w'.tape = w.tape
  output : w'.output = w.output
  size : w.heap.size ≤ w'.heap.size
  block : ∀ k, k < w.heap.size → ¬ F k → w'.heap[k]? = w.heap[k]?
theorem Chg.refl (F : Nat → Prop) (w : World) : Chg F w w := ⟨rfl, rfl, rfl, Nat.le_refl _, fun _ _ _ => rfl⟩
theorem Chg.trans {F G : Nat → Prop} {a b c : World} (h : Chg F a b) (k : Chg G b c) (hG : ∀ n, n < a.heap.size → G n → F n) : Chg F a c :=
  ⟨k.os.trans h.os, k.tape.trans h.tape, k.output.trans h.output, Nat.le_trans h.size k.size,
   fun i hi hF => (k.block i (Nat.lt_of_lt_of_le hi h.size) (fun g => hF (hG i hi g))).trans (h.block i hi hF)⟩
theorem Chg.mono {F G : Nat → Prop} {a b : World} (h : Chg F a b) (hG : ∀ n, F n → G n) : Chg G a b :=
  ⟨h.os, h.tape, h.output, h.size, fun i hi hg => h.block i hi (fun f => hg (hG i f))⟩
theorem Chg.drew {F : Nat → Prop} {a w : World} (h : Chg F a w) : Chg F a w.drew := ⟨h.os, h.tape, h.output, h.size, h.block⟩
theorem Chg.alloc {F : Nat → Prop} {a w : World} (h : Chg F a w) (o : Obj) : Chg F a (w.alloc o) :=
  h.trans (G := fun _ => False) ⟨rfl, rfl, rfl, by simp, fun k hk _ => Below.heap_alloc _ _ _ hk⟩ (fun _ _ g => g.elim)
theorem Chg.setCell {F : Nat → Prop} {a w : World} (h : Chg F a w) {p : Addr} (hp : p.block < a.heap.size → F p.block) (u : Value) : Chg F a (w.setCell p u) :=
  h.trans (G := fun k => k = p.block) ⟨rfl, rfl, rfl, by simp [World.setCell], fun k _ hk => Below.heap_setCell _ _ _ _ hk⟩ (fun n hn g => by subst g; exact hp hn)
theorem Chg.below {F : Nat → Prop} {B : Nat} {w w' : World} (h : Chg F w w') (hB : B ≤ w.heap.size) (hF : ∀ k, F k → B ≤ k) : Below B w w' :=
  ⟨h.os, h.tape, h.output, h.size, fun k hk => h.block k (by omega) (fun f => by have := hF k f; omega)⟩
theorem Below.chg {B : Nat} {w w' : World} (h : Below B w w') : Chg (fun k => B ≤ k) w w' :=
  ⟨h.os, h.tape, h.output, h.size, fun k _ hf => h.block k (by omega)⟩
theorem Chg.cell {F : Nat → Prop} {w w' : World} (h : Chg F w w') {p : Addr} {v : Value} (hv : w.cell? p = some v) (hp : ¬ F p.block) : w'.cell? p = some v :=
  (World.cell?_of_block (w := w) (h.block p.block (World.block_lt_of_cell? w p hv) hp)).trans hv
theorem Chg.cellAt {F : Nat → Prop} {w w' : World} (h : Chg F w w') {b o : Nat} {v : Value} (hv : w.cell? ⟨b, o, none⟩ = some v) (hp : ¬ F b) : w'.cell? ⟨b, o, none⟩ = some v :=
  h.cell hv hp
theorem Chg.step {F : Nat → Prop} {w w1 w2 : World} (h : Chg (fun _ => False) w w1) (hc : Chg F w1 w2) (hF : ∀ k, F k → w.heap.size ≤ k) : Chg (fun _ => False) w w2 :=
  h.trans hc (fun n hn f => by have := hF n f; omega)
theorem Chg.young {F F' G : Nat → Prop} {w w1 : World} (h : Chg G w w1) (hF : ∀ k, F k → w.heap.size ≤ k) (hF' : ∀ k, F' k → F k ∨ w1.heap.size ≤ k) : ∀ k, F' k → w.heap.size ≤ k :=
  fun k hk => (hF' k hk).elim (hF k) (fun h1 => Nat.le_trans h.size h1)
theorem Chg.row {F : Nat → Prop} {w w' : World} (h : Chg F w w') {b : Nat} {e : TypeId} {n m : Nat} {v : Value} {xs : List Value} (hr : w.ownsRow b e n v m xs) (hF : ∀ k, F k → ¬ b ≤ k ∨ w.heap.size ≤ k) : w'.ownsRow b e n v m xs := by
  refine ⟨hr.1, ?_⟩
  rcases hr.2 with hn | ⟨g, cap, cur, hv, hb, hg, r⟩
  · exact .inl hn
  · refine .inr ⟨g, cap, cur, hv, hb, ?_, r⟩
    have hlt : g < w.heap.size := (Array.getElem?_eq_some_iff.1 hg).1
    rw [h.block g hlt (fun f => by rcases hF g f with h1 | h1 <;> omega)]
    exact hg
theorem row_pos {w : World} {lo : Nat} {e : TypeId} {size : Nat} {v : Value} {n : Nat} {xs : List Value} (h : w.ownsRow lo e size v n xs) (hn : 0 < n) :
    ∃ g cap, v = .slice (some ⟨g, 0, none⟩) n cap ∧ lo ≤ g ∧ n ≤ cap ∧ ∀ j u, xs[j]? = some u → w.cell? ⟨g, j, none⟩ = some u := by
  have hc := fun g hg => World.ownsRow.cells h (g := g) hg
  rcases h.2 with ⟨_, hz⟩ | ⟨g, cap, cur, hv, hb, _, hcap, _⟩
  · omega
  · refine ⟨g, cap, hv, hb, hcap, fun j u hj => ?_⟩
    have := hc g (by rw [hv]; rfl) j u hj
    rcases Nat.eq_zero_or_pos j with h0 | h0
    · subst h0; simpa [Addr.add] using this
    · simpa [Addr.add, Nat.pos_iff_ne_zero.1 h0] using this
theorem row_any {w : World} {lo : Nat} {e : TypeId} {size : Nat} {v : Value} {n : Nat} {xs : List Value} (h : w.ownsRow lo e size v n xs) :
    ∃ p cap, v = .slice p n cap := by
  rcases h.2 with ⟨hv, hz⟩ | ⟨g, cap, cur, hv, _⟩
  · exact ⟨none, 0, by rw [hv, hz]⟩
  · exact ⟨_, cap, hv⟩
def Rec.value' (x : Rec) : Value := .agg #[.int .i64 x.session, .int .i64 x.epoch, .int .i64 x.number, .string x.key, .int .i64 x.value]
def inInt (n : Int) : Prop := -9223372036854775808 ≤ n ∧ n ≤ 9223372036854775807
structure Rec.fits (x : Rec) : Prop where
  session : inInt x.session
  epoch : inInt x.epoch
  number : inInt x.number
  value : inInt x.value
  key : x.key.size ≤ maxLen
def Ln.nums (l : Ln) : List Value := l.ws.map fun y => .int .i64 y.num
def sessCells : List Ln → List Value → List Value
  | l :: r, u :: us => .int .i64 l.epoch :: .int .i64 l.base :: u :: sessCells r us
  | _, _ => []
def keyCells : List Ky → List Value
  | [] => []
  | k :: r => .string k.name :: .int .i64 k.count :: .int .i64 k.fold :: .int .i64 k.held :: keyCells r
structure StateAt (w : World) (lo : Nat) (vs vk : Value) (s : St) : Prop where
  sess : ∃ us : List Value, us.length = s.lanes.length ∧ w.ownsRow lo 121 3 vs s.lanes.length (sessCells s.lanes us) ∧
    ∀ (i : Nat) (l : Ln) (u : Value), s.lanes[i]? = some l → us[i]? = some u → w.ownsRow lo 3 1 u l.ws.length l.nums
  keys : w.ownsRow lo 87 4 vk s.keys.length (keyCells s.keys)
theorem StateAt.kept {F : Nat → Prop} {w w' : World} {lo : Nat} {vs vk : Value} {s : St} (h : StateAt w lo vs vk s) (hc : Chg F w w') (hF : ∀ k, F k → ¬ lo ≤ k ∨ w.heap.size ≤ k) : StateAt w' lo vs vk s := by
  obtain ⟨us, h1, h2, h3⟩ := h.sess
  exact ⟨⟨us, h1, hc.row h2 hF, fun i l u hl hu => hc.row (h3 i l u hl hu) hF⟩, hc.row h.keys hF⟩
structure St.fine (s : St) : Prop where
  four : s.lanes.length = 4
  lane : ∀ l ∈ s.lanes, 0 ≤ l.epoch ∧ l.epoch ≤ 9223372036854775807 ∧ 0 ≤ l.base ∧ l.base ≤ 1000
  total : s.records ≤ 1000
  key : ∀ k ∈ s.keys, 1 ≤ k.count ∧ 0 ≤ k.held ∧ k.held ≤ k.count
structure Api (R : World → Addr → Option St → (Nat → Prop) → Prop) : Prop where
  lt : ∀ {w a o F k}, R w a o F → F k → k < w.heap.size
  stable : ∀ {w w' a o F}, R w a o F → (∀ k, F k → w'.heap[k]? = w.heap[k]?) → R w' a o F
  fine : ∀ {w a s F}, R w a (some s) F → s.fine
  new : ∀ w, Calls Tryz.prog 11 #[] w fun e w' => ∃ a F, e = .returned (.pointer (some a)) ∧ R w' a (some St.init) F ∧ (∀ k, F k → w.heap.size ≤ k) ∧ Chg (fun _ => False) w w'
  accept : ∀ {w a o F} (x : Rec), R w a o F → x.epoch = 0 → x.fits → Calls Tryz.prog 22 #[.pointer (some a), x.value'] w fun e w' =>
    ∃ F', e = .returned (.tuple #[.int .i64 (accept? o x).1.1, .int .i64 (accept? o x).1.2]) ∧ R w' a (accept? o x).2 F' ∧ (∀ k, F' k → F k ∨ w.heap.size ≤ k) ∧ Chg F w w'
  state : ∀ {w a o F}, R w a o F → Calls Tryz.prog 16 #[.pointer (some a)] w fun e w' =>
    ∃ vs vk, e = .returned (.tuple #[.agg #[vs, vk], .int .i64 (errno? o)]) ∧ StateAt w' w.heap.size vs vk (state? o) ∧ R w' a o F ∧ Chg F w w'
  close : ∀ {w a o F}, R w a o F → Calls Tryz.prog 24 #[.pointer (some a)] w fun e w' =>
    e = .returned (.int .i64 (errno? o)) ∧ R w' a none F ∧ Chg F w w'
abbrev roomy : Nat := 70368744177664
structure ApiN (R : Nat → World → Addr → Option St → (Nat → Prop) → Prop) : Prop where
  lt : ∀ {n w a o F k}, R n w a o F → F k → k < w.heap.size
  stable : ∀ {n w w' a o F}, R n w a o F → (∀ k, F k → w'.heap[k]? = w.heap[k]?) → R n w' a o F
  mono : ∀ {n m w a o F}, R n w a o F → n ≤ m → R m w a o F
  fine : ∀ {n w a s F}, R n w a (some s) F → s.fine
  new : ∀ w, Calls Tryz.prog 11 #[] w fun e w' => ∃ a F, e = .returned (.pointer (some a)) ∧ R 512 w' a (some St.init) F ∧ (∀ k, F k → w.heap.size ≤ k) ∧ Chg (fun _ => False) w w'
  accept : ∀ {n w a o F} (x : Rec), R n w a o F → n ≤ roomy → x.fits → Calls Tryz.prog 22 #[.pointer (some a), x.value'] w fun e w' =>
    ∃ F' m, e = .returned (.tuple #[.int .i64 (accept? o x).1.1, .int .i64 (accept? o x).1.2]) ∧ R m w' a (accept? o x).2 F' ∧ (∀ k, F' k → F k ∨ w.heap.size ≤ k) ∧ Chg F w w' ∧ m ≤ n + 32 ∧ ((accept? o x).2 = o → m = n)
  state : ∀ {n w a o F}, R n w a o F → Calls Tryz.prog 16 #[.pointer (some a)] w fun e w' =>
    ∃ vs vk, e = .returned (.tuple #[.agg #[vs, vk], .int .i64 (errno? o)]) ∧ StateAt w' w.heap.size vs vk (state? o) ∧ R n w' a o F ∧ Chg F w w'
  close : ∀ {n w a o F}, R n w a o F → Calls Tryz.prog 24 #[.pointer (some a)] w fun e w' =>
    e = .returned (.int .i64 (errno? o)) ∧ R n w' a none F ∧ Chg F w w'
section
variable {R : Nat → World → Addr → Option St → (Nat → Prop) → Prop}
theorem ApiN.acc (H : ApiN R) {n : Nat} {w : World} {a : Addr} {o : Option St} {F : Nat → Prop} (x : Rec) (hR : R n w a o F) (hn : n ≤ roomy) (hx : x.fits) : Calls Tryz.prog 22 #[.pointer (some a), x.value'] w fun e w' =>
    ∃ F', e = .returned (.tuple #[.int .i64 (accept? o x).1.1, .int .i64 (accept? o x).1.2]) ∧ R (n + 32) w' a (accept? o x).2 F' ∧ (∀ k, F' k → F k ∨ w.heap.size ≤ k) ∧ Chg F w w' :=
  (H.accept x hR hn hx).mono fun _ _ ⟨F', _, h1, h2, h3, h4, h5, _⟩ => ⟨F', h1, H.mono h2 h5, h3, h4⟩
theorem ApiN.keep (H : ApiN R) {n : Nat} {w w' : World} {a : Addr} {o : Option St} {F : Nat → Prop} (hR : R n w a o F) (hc : Chg (fun _ => False) w w') : R n w' a o F :=
  H.stable hR fun k hk => hc.block k (H.lt hR hk) id
theorem ApiN.alloc (H : ApiN R) {n : Nat} {w : World} {a : Addr} {o : Option St} {F : Nat → Prop} (hR : R n w a o F) (b : Obj) : R n (w.alloc b) a o F :=
  H.stable hR fun k hk => Below.heap_alloc _ _ _ (H.lt hR hk)
end
end Go.Proofs.YthedkdbgfdjlkaaGreatDoor

namespace Go.Proofs.YthedkdbgfdjlkaaGreatDoor
set_option linter.unusedVariables false
set_option linter.unusedSimpArgs false
open Go.RowKit
structure Quiet (w w' : World) : Prop where
  heap : w'.heap = w.heap
  os : w'.os = w.os
  tape : w'.tape = w.tape
  output : w'.output = w.output
theorem Quiet.refl (w : World) : Quiet w w := ⟨rfl, rfl, rfl, rfl⟩
theorem Quiet.trans {a b c : World} (h : Quiet a b) (k : Quiet b c) : Quiet a c := ⟨k.heap.trans h.heap, k.os.trans h.os, k.tape.trans h.tape, k.output.trans h.output⟩
theorem Quiet.drew {a b : World} (h : Quiet a b) : Quiet a b.drew := ⟨h.heap, h.os, h.tape, h.output⟩
theorem Quiet.drewN {a b : World} (h : Quiet a b) (n : Nat) : Quiet a (b.drewN n) := ⟨h.heap, h.os, h.tape, h.output⟩
theorem Quiet.cell {w w' : World} (h : Quiet w w') (a : Addr) : w'.cell? a = w.cell? a := by simp only [World.cell?, h.heap]
theorem Quiet.frozen {w w' : World} (h : Quiet w w') (a : Addr) : w'.frozen? a = w.frozen? a := by simp only [World.frozen?, h.heap]
theorem Quiet.row {w w' : World} (h : Quiet w w') {b : Nat} {e : TypeId} {n m : Nat} {v : Value} {xs : List Value} (hr : w.ownsRow b e n v m xs) : w'.ownsRow b e n v m xs := by
  refine ⟨hr.1, ?_⟩
  rw [h.heap]
  exact hr.2
theorem Quiet.chg {w w' : World} (h : Quiet w w') (F : Nat → Prop) : Chg F w w' := ⟨h.os, h.tape, h.output, by rw [h.heap]; exact Nat.le_refl _, fun k _ _ => by rw [h.heap]⟩
theorem Chg.row' {F : Nat → Prop} {w w' : World} (h : Chg F w w') {b : Nat} {e : TypeId} {n m : Nat} {v : Value} {xs : List Value} (hr : w.ownsRow b e n v m xs) (hF : ∀ k, v.ownBlock = some k → ¬ F k) : w'.ownsRow b e n v m xs := by
  refine ⟨hr.1, ?_⟩
  rcases hr.2 with hn | ⟨g, cap, cur, hv, hb, hg, r⟩
  · exact .inl hn
  · refine .inr ⟨g, cap, cur, hv, hb, ?_, r⟩
    have hlt : g < w.heap.size := (Array.getElem?_eq_some_iff.1 hg).1
    rw [h.block g hlt (hF g (by rw [hv]; rfl))]
    exact hg
structure Slots (b : Nat) (S : Nat → Prop) (w w' : World) : Prop where
  cell : ∀ j, ¬ S j → w'.cell? ⟨b, j, none⟩ = w.cell? ⟨b, j, none⟩
  frozen : ∀ j, w'.frozen? ⟨b, j, none⟩ = w.frozen? ⟨b, j, none⟩
theorem Slots.of_block {b : Nat} {w w' : World} (S : Nat → Prop) (h : w'.heap[b]? = w.heap[b]?) : Slots b S w w' :=
  ⟨fun _ _ => World.cell?_of_block (w := w) h, fun _ => World.frozen?_of_block (w := w) h⟩
theorem Slots.of_chg {b : Nat} {F : Nat → Prop} {w w' : World} (S : Nat → Prop) (h : Chg F w w') (hb : b < w.heap.size) (hF : ¬ F b) : Slots b S w w' := Slots.of_block S (h.block b hb hF)
theorem Slots.refl (b : Nat) (S : Nat → Prop) (w : World) : Slots b S w w := Slots.of_block S rfl
theorem Slots.trans {b : Nat} {S T : Nat → Prop} {u v w : World} (h : Slots b S u v) (k : Slots b T v w) (hT : ∀ j, T j → S j) : Slots b S u w :=
  ⟨fun j hj => (k.cell j (fun t => hj (hT j t))).trans (h.cell j hj), fun j => (k.frozen j).trans (h.frozen j)⟩
theorem Slots.mono {b : Nat} {S T : Nat → Prop} {u v : World} (h : Slots b S u v) (hT : ∀ j, S j → T j) : Slots b T u v :=
  ⟨fun j hj => h.cell j (fun s => hj (hT j s)), h.frozen⟩
theorem Slots.setCell {b : Nat} {S : Nat → Prop} {u v : World} (h : Slots b S u v) {p : Addr} (x : Value) (hp : p.block = b → S p.off) : Slots b S u (v.setCell p x) := by
  refine ⟨fun j hj => ?_, fun j => ?_⟩
  · rw [World.cell?_setCell_other _ _ _ _ (fun e => hj (by have := hp (by rw [e]); rw [e] at this; exact this))]
    exact h.cell j hj
  · simp [h.frozen j]
theorem Slots.quiet {b : Nat} {S : Nat → Prop} {u v w : World} (h : Slots b S u v) (hq : Quiet v w) : Slots b S u w :=
  ⟨fun j hj => (hq.cell _).trans (h.cell j hj), fun j => (hq.frozen _).trans (h.frozen j)⟩
def Wt.cells (x : Wt) : List Value := [.int .i64 x.num, .string x.key, .int .i64 x.val]
def wtCells : List Wt → List Value
  | [] => []
  | x :: r => .int .i64 x.num :: .string x.key :: .int .i64 x.val :: wtCells r
theorem wtCells_len : ∀ l : List Wt, (wtCells l).length = l.length * 3
  | [] => rfl
  | x :: r => by simp [wtCells, wtCells_len r]; omega
theorem wtCells_at : ∀ (l : List Wt) (i : Nat) (x : Wt), l[i]? = some x → (wtCells l)[i * 3]? = some (.int .i64 x.num) ∧ (wtCells l)[i * 3 + 1]? = some (.string x.key) ∧ (wtCells l)[i * 3 + 2]? = some (.int .i64 x.val)
  | [], i, x, h => by simp at h
  | y :: r, 0, x, h => by simp at h; subst h; simp [wtCells]
  | y :: r, i + 1, x, h => by
    have := wtCells_at r i x (by simpa using h)
    have e : (i + 1) * 3 = i * 3 + 3 := by omega
    rw [e]
    simpa [wtCells] using this
set_option maxHeartbeats 400000 in
theorem qLen_any (p : Option Addr) (n cap : Nat) (w : World) :
    Calls Tryz.prog 219 #[.slice p n cap] w fun e w' => e = .returned (.int .i64 n) ∧ w' = w := by
  go_enter Tryz.func219, Tryz.ntmps219
  go_wp2
  go_ret
  exact ⟨rfl, rfl⟩
set_option maxHeartbeats 400000 in
theorem qLess_any (g n cap i j : Nat) (a b : Int) (w : World) (hi : i < n) (hj : j < n) (hn : n ≤ 9223372036854775807)
    (ha : w.cell? ⟨g, i * 3, none⟩ = some (.int .i64 a)) (hb : w.cell? ⟨g, j * 3, none⟩ = some (.int .i64 b)) :
    Calls Tryz.prog 220 #[.slice (some ⟨g, 0, none⟩) n cap, .int .i64 i, .int .i64 j] w fun e w' => e = .returned (.bool (decide (a < b))) ∧ Quiet w w' := by
  go_enter Tryz.func220, Tryz.ntmps220
  go_wp2
  go_quiet (fail)
  go_wp2
  go_ret
  exact ⟨rfl, (Quiet.refl w).drewN _⟩
def put3 (w : World) (g o : Nat) (x : Wt) : World := ((w.setCell ⟨g, o, none⟩ (.int .i64 x.num)).setCell ⟨g, o + 1, none⟩ (.string x.key)).setCell ⟨g, o + 2, none⟩ (.int .i64 x.val)
set_option maxHeartbeats 1000000 in
theorem qSwap_ne (g n cap i j : Nat) (x y : Wt) (w : World) (hi : i < n) (hj : j < n) (hn : n ≤ 9223372036854775807) (hne : i * 3 ≠ j * 3)
    (f0 : w.frozen? ⟨g, i * 3, none⟩ = false) (f1 : w.frozen? ⟨g, i * 3 + 1, none⟩ = false) (f2 : w.frozen? ⟨g, i * 3 + 2, none⟩ = false)
    (g0 : w.frozen? ⟨g, j * 3, none⟩ = false) (g1 : w.frozen? ⟨g, j * 3 + 1, none⟩ = false) (g2 : w.frozen? ⟨g, j * 3 + 2, none⟩ = false)
    (a0 : w.cell? ⟨g, i * 3, none⟩ = some (.int .i64 x.num)) (a1 : w.cell? ⟨g, i * 3 + 1, none⟩ = some (.string x.key)) (a2 : w.cell? ⟨g, i * 3 + 2, none⟩ = some (.int .i64 x.val))
    (b0 : w.cell? ⟨g, j * 3, none⟩ = some (.int .i64 y.num)) (b1 : w.cell? ⟨g, j * 3 + 1, none⟩ = some (.string y.key)) (b2 : w.cell? ⟨g, j * 3 + 2, none⟩ = some (.int .i64 y.val)) :
    Calls Tryz.prog 221 #[.slice (some ⟨g, 0, none⟩) n cap, .int .i64 i, .int .i64 j] w fun e w' => e = .returned (.tuple #[]) ∧ Quiet (put3 (put3 w g (i * 3) y) g (j * 3) x) w' := by
  go_enter Tryz.func221, Tryz.ntmps221
  have k0 : (w.setCell ⟨g, i * 3, none⟩ (.int .i64 y.num)).cell? ⟨g, j * 3, none⟩ = some (.int .i64 y.num) := by
    rw [World.cell?_setCell_other _ _ _ _ (fun hh => hne (congrArg Addr.off hh))]; exact b0
  go_wp2
  go_region
  all_goals (go_end0; exact ⟨rfl, (Quiet.refl _).drew⟩)
set_option maxHeartbeats 1000000 in
theorem qSwap_eq (g n cap i : Nat) (x : Wt) (w : World) (hi : i < n) (hn : n ≤ 9223372036854775807)
    (f0 : w.frozen? ⟨g, i * 3, none⟩ = false) (f1 : w.frozen? ⟨g, i * 3 + 1, none⟩ = false) (f2 : w.frozen? ⟨g, i * 3 + 2, none⟩ = false)
    (a0 : w.cell? ⟨g, i * 3, none⟩ = some (.int .i64 x.num)) (a1 : w.cell? ⟨g, i * 3 + 1, none⟩ = some (.string x.key)) (a2 : w.cell? ⟨g, i * 3 + 2, none⟩ = some (.int .i64 x.val)) :
    Calls Tryz.prog 221 #[.slice (some ⟨g, 0, none⟩) n cap, .int .i64 i, .int .i64 i] w fun e w' => e = .returned (.tuple #[]) ∧ Quiet (put3 (put3 w g (i * 3) x) g (i * 3) x) w' := by
  go_enter Tryz.func221, Tryz.ntmps221
  go_wp2
  go_region
  all_goals (go_end0; exact ⟨rfl, (Quiet.refl _).drew⟩)
theorem row_frozen {w : World} {lo : Nat} {e : TypeId} {size g n cap : Nat} {xs : List Value} (h : w.ownsRow lo e size (.slice (some ⟨g, 0, none⟩) n cap) n xs) (o : Nat) : w.frozen? ⟨g, o, none⟩ = false := by
  rcases h.2 with ⟨hv, _⟩ | ⟨g', cap', cur, hv, _, hg, _⟩
  · simp at hv
  · simp at hv
    obtain ⟨rfl, _⟩ := hv
    simp [World.frozen?, hg]
theorem row_cell {w : World} {lo : Nat} {e : TypeId} {size g n cap : Nat} {xs : List Value} (h : w.ownsRow lo e size (.slice (some ⟨g, 0, none⟩) n cap) n xs) {j : Nat} {u : Value} (hj : xs[j]? = some u) : w.cell? ⟨g, j, none⟩ = some u := by
  have := World.ownsRow.cells h (g := g) rfl j u hj
  rcases Nat.eq_zero_or_pos j with h0 | h0
  · subst h0; simpa [Addr.add] using this
  · simpa [Addr.add, Nat.pos_iff_ne_zero.1 h0] using this
theorem wtCells_set : ∀ (l : List Wt) (i : Nat) (x : Wt), wtCells (l.set i x) = (((wtCells l).set (i * 3) (.int .i64 x.num)).set (i * 3 + 1) (.string x.key)).set (i * 3 + 2) (.int .i64 x.val)
  | [], i, x => by simp [wtCells]
  | y :: r, 0, x => by simp [wtCells]
  | y :: r, i + 1, x => by
    have e : (i + 1) * 3 = i * 3 + 3 := by omega
    rw [e]
    simp [wtCells, wtCells_set r i x]
theorem row_put3 {w : World} {lo : Nat} {e : TypeId} {g n cap : Nat} {qs : List Wt} (h : w.ownsRow lo e 3 (.slice (some ⟨g, 0, none⟩) n cap) n (wtCells qs)) (i : Nat) (x : Wt) :
    (put3 w g (i * 3) x).ownsRow lo e 3 (.slice (some ⟨g, 0, none⟩) n cap) n (wtCells (qs.set i x)) ∧ Chg (fun k => k = g) w (put3 w g (i * 3) x) := by
  constructor
  · rw [wtCells_set]
    exact (((h.stored (i * 3) _).1.stored (i * 3 + 1) _).1.stored (i * 3 + 2) _).1
  · exact (((Chg.refl (fun k => k = g) w).setCell (p := ⟨g, i * 3, none⟩) (fun _ => rfl) _).setCell (p := ⟨g, i * 3 + 1, none⟩) (fun _ => rfl) _).setCell (p := ⟨g, i * 3 + 2, none⟩) (fun _ => rfl) _
def swapL (l : List Wt) (i j : Nat) : List Wt := match l[i]?, l[j]? with
  | some x, some y => (l.set i y).set j x
  | _, _ => l
theorem swapL_length (l : List Wt) (i j : Nat) : (swapL l i j).length = l.length := by
  unfold swapL; split <;> simp
def numAt (l : List Wt) (i : Nat) : Int := match l[i]? with
  | some x => x.num
  | none => 0
theorem swap_row {w : World} {lo : Nat} {g n cap i j : Nat} {qs : List Wt} (h : w.ownsRow lo 168 3 (.slice (some ⟨g, 0, none⟩) n cap) n (wtCells qs)) (hq : qs.length = n) (hi : i < n) (hj : j < n) (hn : n ≤ 1000) :
    Calls Tryz.prog 221 #[.slice (some ⟨g, 0, none⟩) n cap, .int .i64 i, .int .i64 j] w fun e w' => e = .returned (.tuple #[]) ∧
      w'.ownsRow lo 168 3 (.slice (some ⟨g, 0, none⟩) n cap) n (wtCells (swapL qs i j)) ∧ Chg (fun k => k = g) w w' := by
  obtain ⟨x, hx⟩ : ∃ x, qs[i]? = some x := ⟨_, List.getElem?_eq_getElem (by omega)⟩
  obtain ⟨y, hy⟩ : ∃ y, qs[j]? = some y := ⟨_, List.getElem?_eq_getElem (by omega)⟩
  have cx := wtCells_at qs i x hx
  have cy := wtCells_at qs j y hy
  by_cases hij : i = j
  · subst hij
    have : x = y := by rw [hx] at hy; exact Option.some.inj hy
    subst this
    refine (qSwap_eq g n cap i x w hi (by omega) (row_frozen h _) (row_frozen h _) (row_frozen h _) (row_cell h cx.1) (row_cell h cx.2.1) (row_cell h cx.2.2)).mono ?_
    rintro e w' ⟨rfl, hq'⟩
    have r1 := row_put3 h i x
    have r2 := row_put3 r1.1 i x
    refine ⟨rfl, ?_, (r1.2.trans r2.2 (fun _ _ h => h)).trans (hq'.chg _) (fun _ _ h => h)⟩
    have := hq'.row r2.1
    simpa [swapL, hx] using this
  · refine (qSwap_ne g n cap i j x y w hi hj (by omega) (by omega) (row_frozen h _) (row_frozen h _) (row_frozen h _) (row_frozen h _) (row_frozen h _) (row_frozen h _) (row_cell h cx.1) (row_cell h cx.2.1) (row_cell h cx.2.2) (row_cell h cy.1) (row_cell h cy.2.1) (row_cell h cy.2.2)).mono ?_
    rintro e w' ⟨rfl, hq'⟩
    have r1 := row_put3 h i y
    have r2 := row_put3 r1.1 j x
    refine ⟨rfl, ?_, (r1.2.trans r2.2 (fun _ _ h => h)).trans (hq'.chg _) (fun _ _ h => h)⟩
    have := hq'.row r2.1
    simpa [swapL, hx, hy] using this
theorem less_row {w : World} {lo : Nat} {g n cap i j : Nat} {qs : List Wt} (h : w.ownsRow lo 168 3 (.slice (some ⟨g, 0, none⟩) n cap) n (wtCells qs)) (hq : qs.length = n) (hi : i < n) (hj : j < n) (hn : n ≤ 1000) :
    Calls Tryz.prog 220 #[.slice (some ⟨g, 0, none⟩) n cap, .int .i64 i, .int .i64 j] w fun e w' => e = .returned (.bool (decide (numAt qs i < numAt qs j))) ∧ Quiet w w' := by
  obtain ⟨x, hx⟩ : ∃ x, qs[i]? = some x := ⟨_, List.getElem?_eq_getElem (by omega)⟩
  obtain ⟨y, hy⟩ : ∃ y, qs[j]? = some y := ⟨_, List.getElem?_eq_getElem (by omega)⟩
  have cx := wtCells_at qs i x hx
  have cy := wtCells_at qs j y hy
  have := qLess_any g n cap i j x.num y.num w hi hj (by omega) (row_cell h cx.1) (row_cell h cy.1)
  simpa [numAt, hx, hy] using this
end Go.Proofs.YthedkdbgfdjlkaaGreatDoor

namespace Go.Proofs.YthedkdbgfdjlkaaGreatDoor
set_option linter.unusedVariables false
set_option linter.unusedSimpArgs false
open Go.RowKit
structure QAt (w : World) (lo : Nat) (p : Addr) (g cap n : Nat) (qs : List Wt) : Prop where
  var : w.cell? p = some (.slice (some ⟨g, 0, none⟩) n cap)
  len : qs.length = n
  row : w.ownsRow lo 168 3 (.slice (some ⟨g, 0, none⟩) n cap) n (wtCells qs)
  ne : p.block ≠ g
theorem QAt.quiet {w w' : World} {lo : Nat} {p : Addr} {g cap n : Nat} {qs : List Wt} (h : QAt w lo p g cap n qs) (hq : Quiet w w') : QAt w' lo p g cap n qs :=
  ⟨(hq.cell p).trans h.var, h.len, hq.row h.row, h.ne⟩
theorem load_then (P : Program) (f : Nat) (p : Addr) (w : World) (v : Value) (h : w.cell? p = some v) : (Sem.load .plain p (fun v => Sem.pure (f, v))).run P w = .ok (f, v) w := by
  simp [Sem.run, h]
theorem m_less (p : Addr) (w : World) : (method 438 213 (.pointer (some p)) "Less").run Tryz.prog w = (Sem.load .plain p (fun v => Sem.pure ((220 : Nat), v))).run Tryz.prog w := by kernel_rfl
theorem m_swap (p : Addr) (w : World) : (method 438 213 (.pointer (some p)) "Swap").run Tryz.prog w = (Sem.load .plain p (fun v => Sem.pure ((221 : Nat), v))).run Tryz.prog w := by kernel_rfl
theorem m_len (p : Addr) (w : World) : (method 438 213 (.pointer (some p)) "Len").run Tryz.prog w = (Sem.load .plain p (fun v => Sem.pure ((219 : Nat), v))).run Tryz.prog w := by kernel_rfl
theorem m_push (p : Addr) (w : World) : (method 438 213 (.pointer (some p)) "Push").run Tryz.prog w = .ok (228, .pointer (some p)) w := by kernel_rfl
theorem m_pop (p : Addr) (w : World) : (method 438 213 (.pointer (some p)) "Pop").run Tryz.prog w = .ok (227, .pointer (some p)) w := by kernel_rfl
def upFn : Nat → List Wt → Nat → List Wt
  | 0, l, _ => l
  | f + 1, l, j => if (j - 1) / 2 = j ∨ ¬ numAt l j < numAt l ((j - 1) / 2) then l else upFn f (swapL l ((j - 1) / 2) j) ((j - 1) / 2)
set_option maxRecDepth 100000 in
set_option maxHeartbeats 400000 in
theorem up_any (lo : Nat) (p : Addr) (g cap n j : Nat) (qs : List Wt) (w : World) (hq : QAt w lo p g cap n qs) (hj : j < n) (hn : n ≤ 1000) :
    Calls Tryz.prog 146 #[.iface 213 (.pointer (some p)), .int .i64 j] w fun e w' => e = .returned (.tuple #[]) ∧ QAt w' lo p g cap n (upFn (j + 1) qs j) ∧ Chg (fun k => k = g) w w' := by
  go_enter Tryz.func146, Tryz.ntmps146
  go_wp2
  go_loopw [1, 4] (fun sj si wr => ∃ (j' f : Nat) (l : List Wt), sj = .int .i64 j' ∧ j' < n ∧ j' < f ∧ QAt wr lo p g cap n l ∧ Chg (fun k => k = g) w wr ∧ Hid (upFn (j + 1) qs j = upFn f l j')) (fun sj _ _ => (intOf sj).toNat)
  case atStart => exact ⟨j, j + 1, qs, rfl, hj, by omega, hq, Chg.refl _ _, rfl⟩
  case round =>
    obtain ⟨j', f, l, rfl, hj', hf, hl, hc, HE⟩ := hrel
    rcases Nat.eq_zero_or_pos j' with h0 | h0
    · subst h0
      go_wp2_with fail
      go_end0
      refine ⟨rfl, ?_, hc⟩
      rw [HE.out]
      obtain ⟨f, rfl⟩ : ∃ f', f = f' + 1 := ⟨f - 1, by omega⟩
      simpa [upFn] using hl
    · obtain ⟨m, rfl⟩ : ∃ m, j' = m + 1 := ⟨j' - 1, by omega⟩
      have hne : (((m : Int) / 2) == (m : Int) + 1) = false := by simp; omega
      have hv := hl.var
      have hm := fun W (h : W.cell? p = some (.slice (some ⟨g, 0, none⟩) n cap)) => (m_less p W).trans (load_then Tryz.prog 220 p W _ h)
      have hls := less_row hl.row hl.len (i := m + 1) (j := m / 2) hj' (by omega) hn
      rw [show ((m + 1 : Nat) : Int) = (m : Int) + 1 from rfl, show ((m / 2 : Nat) : Int) = (m : Int) / 2 from rfl] at hls
      go_wp2_with fail
      refine hls.mono ?_
      rintro _ w1 ⟨rfl, hq1⟩
      clear hls hm
      have hl1 := hl.quiet hq1
      have hc1 := hc.trans (hq1.chg (fun k => k = g)) (fun _ _ h => h)
      have hv1 := hl1.var
      have hsw := swap_row hl1.row hl1.len (i := m / 2) (j := m + 1) (by omega) hj' hn
      rw [show ((m + 1 : Nat) : Int) = (m : Int) + 1 from rfl, show ((m / 2 : Nat) : Int) = (m : Int) / 2 from rfl] at hsw
      have hm := fun W (h : W.cell? p = some (.slice (some ⟨g, 0, none⟩) n cap)) => (m_swap p W).trans (load_then Tryz.prog 221 p W _ h)
      by_cases ht : numAt l (m + 1) < numAt l (m / 2)
      · have hd : decide (numAt l (m + 1) < numAt l (m / 2)) = true := by simpa using ht
        rw [hd]
        go_wp2_with fail
        refine hsw.mono ?_
        rintro _ w2 ⟨rfl, hr2, hc2⟩
        go_wp2_with fail
        go_roundw
        case rel =>
          refine ⟨m / 2, f - 1, swapL l (m / 2) (m + 1), by go_num, by omega, by omega, ⟨?_, by rw [swapL_length]; exact hl.len, hr2, hl.ne⟩, hc1.trans hc2 (fun _ _ h => h), ?_⟩
          · exact (World.cell?_of_block (hc2.block p.block (World.block_lt_of_cell? w1 p hv1) hl.ne)).trans hv1
          · show _ = _
            rw [HE.out]
            obtain ⟨f, rfl⟩ : ∃ f', f = f' + 1 := ⟨f - 1, by omega⟩
            have : ¬ m / 2 = m + 1 := by omega
            simp [upFn, this, ht]
        case measure => simp [intOf]; omega
      · have hd : decide (numAt l (m + 1) < numAt l (m / 2)) = false := by simpa using ht
        rw [hd]
        go_wp2_with fail
        go_end0
        refine ⟨rfl, ?_, hc1⟩
        rw [HE.out]
        obtain ⟨f, rfl⟩ : ∃ f', f = f' + 1 := ⟨f - 1, by omega⟩
        have : upFn (f + 1) l (m + 1) = l := by simp [upFn, ht]
        rw [this]
        exact hl1
end Go.Proofs.YthedkdbgfdjlkaaGreatDoor

namespace Go.Proofs.YthedkdbgfdjlkaaGreatDoor
set_option linter.unusedVariables false
set_option linter.unusedSimpArgs false
open Go.RowKit
theorem row_lower {w : World} {lo lo' : Nat} {e : TypeId} {size : Nat} {v : Value} {n : Nat} {xs : List Value} (h : w.ownsRow lo e size v n xs) (hl : lo' ≤ lo) : w.ownsRow lo' e size v n xs := by
  refine ⟨h.1, ?_⟩
  rcases h.2 with hn | ⟨g, cap, cur, hv, hb, r⟩
  · exact .inl hn
  · exact .inr ⟨g, cap, cur, hv, Nat.le_trans hl hb, r⟩
theorem run_append_where {P : Program} (w : World) (base : Nat) (t ty e : TypeId) (i : TypeInfo) (z : Value) (size bytes : Nat) (h1 : P.underlying t = some (.slice e)) (h2 : P.info? e = some i) (h3 : i.zero = some z) (h4 : i.size = size) (h5 : i.bytes = bytes) (h6 : z.cells.size = size) (h7 : 0 < size)
    (v : Value) (n : Nat) (xs : List Value) (hown : w.ownsRow base e size v n xs)
    (ad : Addr) (m c : Nat) (news : List Value) (hn : news.length = m * size) (hc : ∀ j u, news[j]? = some u → w.cell? (ad.add j) = some u) (h1c : ∀ u ∈ news, u.oneCell' = true)
    (b1 : n + m ≤ maxLen) (b2 : (n + m) * bytes ≤ 140737488355328) (hb : base ≤ w.heap.size) :
    ∃ v' w', (Builtin.append_ #[t, t] ty #[v, .slice (some ad) m c]).run P w = .ok v' w' ∧ w'.ownsRow base e size v' (n + m) (xs ++ news) ∧ w.grownBy w' v.ownBlock ∧
      (v'.ownBlock = v.ownBlock ∨ ∀ k, v'.ownBlock = some k → w.heap.size ≤ k) := by
  have hown0 := hown
  rcases hown.2 with ⟨rfl, rfl⟩ | ⟨g, cap, cur, rfl, hbg, hg, hcap, hmax, hcur, htake⟩
  · obtain rfl : xs = [] := List.eq_nil_of_length_eq_zero (by simpa using hown.1)
    obtain ⟨v', w', hrun, r1, r2, _⟩ := run_append_own (P := P) w w.heap.size t ty e i z size bytes h1 h2 h3 h4 h5 h6 h7 (.slice none 0 0) 0 [] (World.ownsRow_nil w _ e size) ad m c news hn hc h1c b1 b2 (Nat.le_refl _)
    exact ⟨v', w', hrun, row_lower r1 hb, r2, .inr fun k hk => (r1.lt k hk).1⟩
  · have hcells : ∀ j u, xs[j]? = some u → w.cell? ((⟨g, 0, none⟩ : Addr).add j) = some u := World.ownsRow.cells hown (g := g) rfl
    by_cases hroom : n + m ≤ cap
    · obtain ⟨v', w', hrun, r1, r2, _⟩ := run_append_own (P := P) w base t ty e i z size bytes h1 h2 h3 h4 h5 h6 h7 _ n xs hown0 ad m c news hn hc h1c b1 b2 hb
      subst h4
      have hsp : ∀ j, j < news.length → (w.cell? ⟨g, 0 + n * i.size + j, none⟩).isSome = true ∧ w.frozen? ⟨g, 0 + n * i.size + j, none⟩ = false := by
        intro j hj
        have hlt : 0 + n * i.size + j < cur.size := by
          rw [hcur]
          have : (n + m) * i.size ≤ cap * i.size := Nat.mul_le_mul_right _ hroom
          rw [Nat.add_mul] at this
          omega
        constructor
        · simp [World.cell?, hg]; omega
        · simp [World.frozen?, hg]
      have hrun2 := run_append_room_cells (P := P) w t ty e i h1 h2 g 0 n cap ad m c news hn hc h1c hroom (fun j hj => (hsp j hj).1) (fun j hj => (hsp j hj).2)
      rw [hrun2] at hrun
      have hv : v' = .slice (some ⟨g, 0, none⟩) (n + m) cap := by
        injection hrun with e1 e2
        exact e1.symm
      refine ⟨v', w', hrun2.trans hrun, r1, r2, .inl ?_⟩
      rw [hv]; rfl
    · obtain ⟨v', w', hrun, r1, r2⟩ := run_append_arg_grows (P := P) w t ty e i z size bytes h1 h2 h3 h4 h5 h6 h7 ⟨g, 0, none⟩ n cap xs hown.1 hcells ad m c news hn hc (by omega) b1 b2
      exact ⟨v', w', hrun, row_lower r1 hb, ⟨r2.os, r2.tape, r2.output, r2.size, fun k hk _ => r2.block k hk (by simp)⟩, .inr fun k hk => (r1.lt k hk).1⟩
theorem step_append_own {P : Program} {ops : Array Oper} {o : Oper} {a : Act} {w : World} {K : Act → World → Prop} {Q : Exit → Act → World → Prop} {E : Prop}
    (hg : o.guard = none) (s x : Operand) (t : TypeId) (hop : o.op = Op.call { callee := Callee.builtin Builtin.append, args := #[s, x], argTypes := #[t, t] })
    (base : Nat) (e : TypeId) (i : TypeInfo) (z : Value) (size bytes : Nat) (h1 : P.underlying t = some (.slice e)) (h2 : P.info? e = some i) (h3 : i.zero = some z) (h4 : i.size = size) (h5 : i.bytes = bytes) (h6 : z.cells.size = size) (h7 : 0 < size)
    (v : Value) (n : Nat) (xs : List Value) (hs : a.eval s = v) (hown : w.ownsRow base e size v n xs)
    (ad : Addr) (m c : Nat) (news : List Value) (hx : a.eval x = .slice (some ad) m c) (hn : news.length = m * size) (hc : ∀ j u, news[j]? = some u → w.cell? (ad.add j) = some u) (h1c : ∀ u ∈ news, u.oneCell' = true)
    (b1 : n + m ≤ maxLen) (b2 : (n + m) * bytes ≤ 140737488355328) (hb : base ≤ w.heap.size)
    (hK : ∀ v' w', w'.ownsRow base e size v' (n + m) (xs ++ news) → w.grownBy w' v.ownBlock → (v'.ownBlock = v.ownBlock ∨ ∀ k, v'.ownBlock = some k → w.heap.size ≤ k) → K (a.put o.dst v') w') :
    if Region.wanted o (yielded ops a.tmps) = true then Oper.wp P o a w K Q else E := by
  have hw : Region.wanted o (yielded ops a.tmps) = true := by simp [Region.wanted, hg]
  rw [if_pos hw]
  obtain ⟨v', w', hrun, r1, r2, r3⟩ := run_append_where (P := P) w base t o.type e i z size bytes h1 h2 h3 h4 h5 h6 h7 v n xs hown ad m c news hn hc h1c b1 b2 hb
  unfold Oper.wp
  simp [execOp, hop, resolve, invoke, builtin, hs, hx, hrun, Result.andThen]
  exact hK v' w' r1 r2 r3
theorem wtCells_append : ∀ (l : List Wt) (x : Wt), wtCells (l ++ [x]) = wtCells l ++ x.cells
  | [], x => rfl
  | y :: r, x => by simp [wtCells, wtCells_append r x]
theorem Tryz.infoW : (Tryz.prog.info? 168).map (fun i => (i.zero, i.size, i.bytes)) = some (some (.agg #[.int .i64 0, .string ⟨#[]⟩, .int .i64 0]), 3, 32) := by kernel_rfl
theorem assert_waiter (v : Value) (w : World) : (Instr.typeAssert (.iface 168 v) 20 168 false).run Tryz.prog w = .ok v w := by kernel_rfl
set_option maxRecDepth 100000 in
set_option maxHeartbeats 1000000 in
theorem qPush_any (lo : Nat) (p : Addr) (v : Value) (n : Nat) (qs : List Wt) (x : Wt) (w : World) (hp : w.cell? p = some v) (hz : w.frozen? p = false) (hr : w.ownsRow lo 168 3 v n (wtCells qs)) (hne : v.ownBlock ≠ some p.block) (hlo : lo ≤ w.heap.size) (hn : n ≤ 1000) :
    Calls Tryz.prog 228 #[.pointer (some p), .iface 168 (.agg #[.int .i64 x.num, .string x.key, .int .i64 x.val])] w fun e w' => ∃ v', e = .returned (.tuple #[]) ∧
      w'.cell? p = some v' ∧ w'.ownsRow lo 168 3 v' (n + 1) (wtCells (qs ++ [x])) ∧ (v'.ownBlock = v.ownBlock ∨ ∀ k, v'.ownBlock = some k → w.heap.size ≤ k) ∧ Slots p.block (fun j => j = p.off) w w' ∧ Chg (fun k => k = p.block ∨ v.ownBlock = some k) w w' := by
  obtain ⟨q, cap, rfl⟩ := row_any hr
  obtain ⟨i0, hi, hz0, hz1, hz2⟩ := info_parts Tryz.infoW
  have hta := assert_waiter
  have s1 : Hid (∀ j u, x.cells[j]? = some u → ((w.alloc (.cells #[.int .i64 x.num, .string x.key, .int .i64 x.val] 168)).drew).cell? ((⟨w.heap.size, 0, none⟩ : Addr).add j) = some u) := by
    intro j u hj
    match j, hj with
    | 0, hj => simp [Wt.cells] at hj; subst hj; simp [Addr.add]
    | 1, hj => simp [Wt.cells] at hj; subst hj; simp [Addr.add]
    | 2, hj => simp [Wt.cells] at hj; subst hj; simp [Addr.add]
    | k + 3, hj => simp [Wt.cells] at hj
  have s2 : Hid (∀ u ∈ x.cells, u.oneCell' = true) := by
    intro u hu
    simp [Wt.cells] at hu
    rcases hu with rfl | rfl | rfl <;> rfl
  have s3 : Hid (n + 1 ≤ maxLen) := by show n + 1 ≤ maxLen; unfold maxLen; omega
  have s4 : Hid ((n + 1) * 32 ≤ 140737488355328) := by show (n + 1) * 32 ≤ 140737488355328; omega
  have s5 : Hid (lo ≤ ((w.alloc (.cells #[.int .i64 x.num, .string x.key, .int .i64 x.val] 168)).drew).heap.size) := by show lo ≤ (w.alloc _).heap.size; rw [World.size_alloc]; omega
  have hlt := World.block_lt_of_cell? w p hp
  have s6 : Hid (∀ (v' : Value) (w1 : World), (w.alloc (.cells #[.int .i64 x.num, .string x.key, .int .i64 x.val] 168)).drew.grownBy w1 (Value.slice q n cap).ownBlock → w1.cell? p = some (.slice q n cap) ∧ w1.frozen? p = false ∧ Chg (fun k => k = p.block ∨ (Value.slice q n cap).ownBlock = some k) w w1 ∧ Slots p.block (fun j => j = p.off) w w1) := by
    intro v' w1 hg
    have hpn : some p.block ≠ (Value.slice q n cap).ownBlock := fun h => hne h.symm
    have hb := hg.block p.block (by show p.block < (w.alloc _).heap.size; rw [World.size_alloc]; omega) hpn
    have hb' : w1.heap[p.block]? = w.heap[p.block]? := hb.trans (Below.heap_alloc _ _ _ hlt)
    refine ⟨(World.cell?_of_block (w := w) hb').trans hp, (World.frozen?_of_block (w := w) hb').trans hz, ?_, ?_⟩
    · refine ((Chg.refl _ w).alloc _).trans (G := fun k => (Value.slice q n cap).ownBlock = some k) ⟨hg.os, hg.tape, hg.output, hg.size, fun k hk hne' => hg.block k hk (fun h => hne' h.symm)⟩ (fun _ _ h => Or.inr h)
    · exact Slots.of_block _ hb'
  have hpa : (w.alloc (.cells #[.int .i64 x.num, .string x.key, .int .i64 x.val] 168)).cell? p = some (.slice q n cap) := (World.cell?_alloc_lt w _ p hlt).trans hp
  clear hlt
  go_enter Tryz.func228, Tryz.ntmps228
  go_wp2
  go_region_law (refine step_append_own rfl (.tmp 7) (.tmp 10) 92 rfl lo 168 i0 _ 3 32 Tryz.underlying92 hi hz0 hz1 hz2 rfl (by decide) _ n (wtCells qs) (by simp [Act.eval, Act.put]) (hr.alloc _) ⟨w.heap.size, 0, none⟩ 1 1 x.cells (by simp [Act.eval, Act.put]) rfl s1.out s2.out s3.out s4.out s5.out ?_; intro v' w1 hown hgrow hwhere; obtain ⟨q', cap', rfl⟩ := row_any hown; obtain ⟨hp1, hz1', hc1, hl1⟩ := s6.out (.slice q' (n + 1) cap') w1 hgrow)
  all_goals
    go_end0
    have hb : (Value.slice q' (n + 1) cap').ownBlock ≠ some p.block := by
      rcases hwhere with h | h
      · rw [h]; exact hne
      · intro hk
        have h1 := h _ hk
        have h2 := World.block_lt_of_cell? w p hp
        have e : ((w.alloc (.cells #[.int .i64 x.num, .string x.key, .int .i64 x.val] 168)).drew).heap.size = w.heap.size + 1 := World.size_alloc _ _
        omega
    refine ⟨_, rfl, World.cell?_setCell_same w1 p _ hp1, ?_, ?_, hl1.setCell _ (fun _ => rfl), ?_⟩
    · rw [wtCells_append]
      exact ownsRow_setCell_other hown hb _
    · rcases hwhere with h | h
      · exact .inl h
      · refine .inr fun k hk => ?_
        have h1 := h k hk
        have e : ((w.alloc (.cells #[.int .i64 x.num, .string x.key, .int .i64 x.val] 168)).drew).heap.size = w.heap.size + 1 := World.size_alloc _ _
        omega
    · exact hc1.setCell (fun _ => .inl rfl) _
end Go.Proofs.YthedkdbgfdjlkaaGreatDoor

namespace Go.Proofs.YthedkdbgfdjlkaaGreatDoor
set_option linter.unusedVariables false
set_option linter.unusedSimpArgs false
open Go.RowKit Go.Lib
theorem splice_step {α : Type} (xs : List α) (o : Nat) (v : α) (r : List α) (h : o + (r.length + 1) ≤ xs.length) :
    (xs.set o v).take (o + 1) ++ r ++ (xs.set o v).drop (o + 1 + r.length) = xs.take o ++ (v :: r) ++ xs.drop (o + (r.length + 1)) := by
  have h1 : (xs.set o v).take (o + 1) = xs.take o ++ [v] := by
    rw [List.take_add_one, List.take_set_of_le (Nat.le_refl _), List.getElem?_set_self (by omega)]
    rfl
  have h2 : (xs.set o v).drop (o + 1 + r.length) = xs.drop (o + (r.length + 1)) := by
    rw [List.drop_set_of_lt (by omega)]
    congr 1; omega
  rw [h1, h2]; simp
theorem row_setCells {lo : Nat} {e : TypeId} {size g n cap : Nat} : ∀ (vs : List Value) (o : Nat) (w : World) (xs : List Value), w.ownsRow lo e size (.slice (some ⟨g, 0, none⟩) n cap) n xs → o + vs.length ≤ xs.length →
    (w.setCells g o vs).ownsRow lo e size (.slice (some ⟨g, 0, none⟩) n cap) n (xs.take o ++ vs ++ xs.drop (o + vs.length)) ∧ Chg (fun k => k = g) w (w.setCells g o vs)
  | [], o, w, xs, h, hl => by simpa [World.setCells] using ⟨h, Chg.refl _ _⟩
  | v :: r, o, w, xs, h, hl => by
    have hl' : o + (r.length + 1) ≤ xs.length := by simpa using hl
    obtain ⟨h1, h2⟩ := row_setCells r (o + 1) (w.setCell ⟨g, o, none⟩ v) (xs.set o v) (h.stored o v).1 (by simp; omega)
    rw [splice_step xs o v r hl'] at h1
    refine ⟨?_, ?_⟩
    · simpa [World.setCells] using h1
    · have : Chg (fun k => k = g) w (w.setCell ⟨g, o, none⟩ v) := (Chg.refl (fun k => k = g) w).setCell (p := ⟨g, o, none⟩) (fun _ => rfl) _
      simpa [World.setCells] using this.trans h2 (fun _ _ h => h)
variable {P : Program}
theorem run_copy_sized (w : World) (dT sT ty elem : TypeId) (size : Nat) (b o dLen dCap : Nat) (a : Addr) (sLen sCap : Nat) (cs : List Value)
    (hu : P.underlying dT = some (.slice elem)) (hs : (P.info? elem).map (·.size) = some size) (hn : cs.length = Nat.min sLen dLen * size)
    (hsrc : ∀ j v, cs[j]? = some v → w.cell? (a.add j) = some v) (hc : ∀ j, j < cs.length → (w.cell? ⟨b, o + j, none⟩).isSome = true) (hf : ∀ j, j < cs.length → w.frozen? ⟨b, o + j, none⟩ = false) (h1 : ∀ v ∈ cs, v.oneCell' = true) :
    (Builtin.copy_ #[dT, sT] ty #[.slice (some ⟨b, o, none⟩) dLen dCap, .slice (some a) sLen sCap]).run P w = .ok (goInt (Nat.min sLen dLen)) (w.setCells b o cs) := by
  have hl := run_loadCells_list (P := P) w a cs hsrc
  have hst := run_storeCells_cells (P := P) b o cs 0 w (by simpa using hc) (by simpa using hf) h1
  cases hq : P.info? elem with
  | none => simp [hq] at hs
  | some i =>
    have hi : i.size = size := by simpa [hq] using hs
    simp [Builtin.copy_, run_underlying hu, Builtin.lenOf, Builtin.firstCells, sizeOf, typeInfo, hq, hi, ← hn, hl, hst]
theorem run_append_types (w : World) (t t' ty e e' : TypeId) (i : TypeInfo) (hi : P.info? e = some i) (ht : P.underlying t = some (.slice e)) (ht' : P.underlying t' = some (.slice e')) (p : Option Addr) (n c : Nat) (x : Value) :
    (Builtin.append_ #[t, t'] ty #[.slice p n c, x]).run P w = (Builtin.append_ #[t, t] ty #[.slice p n c, x]).run P w := by
  simp [Builtin.append_, run_underlying ht, run_underlying ht', sizeOf, typeInfo, hi]
theorem wpList_append_run' (w : World) {ops : Array Oper} {rest : List Oper} {o : Oper} {a : Act} {Q : Exit → Act → World → Prop} (hgd : o.guard = none) (s x : Operand) (t tn : TypeId)
    (ho : o.op = .call { callee := .builtin .append, args := #[s, x], argTypes := #[t, tn] }) (vs vx : Value) (hs : a.eval s = vs) (hx : a.eval x = vx)
    (v' : Value) (w' : World) (hr : ∀ ty, (Builtin.append_ #[t, tn] ty #[vs, vx]).run P w = .ok v' w') (h : wpList P ops Q rest (a.put o.dst v') w') : wpList P ops Q (o :: rest) a w :=
  Lib.wpList_append_run w hgd s x t tn ho vs vx hs hx v' w' (hr _) h
theorem wp_copy_run' (w : World) {o : Oper} {a : Act} {K : Act → World → Prop} {Q : Exit → Act → World → Prop} (d s : Operand) (t t' : TypeId)
    (ho : o.op = .call { callee := .builtin .copy, args := #[d, s], argTypes := #[t, t'] }) (v u : Value) (hd : a.eval d = v) (hs : a.eval s = u) {v' : Value} {w' : World}
    (hr : (Builtin.copy_ #[t, t'] o.type #[v, u]).run P w = .ok v' w') (h : K (a.put o.dst v') w') : o.wp P a w K Q := by
  unfold Oper.wp execOp
  simp only [ho, resolve, invoke, builtin, Sem.run_bind, Sem.run_pure, Result.andThen_ok, List.map_toArray, List.map_cons, List.map_nil, hd, hs, hr]
  exact h
theorem wpList_copy_run' (w : World) {ops : Array Oper} {rest : List Oper} {o : Oper} {a : Act} {Q : Exit → Act → World → Prop} (hgd : o.guard = none) (d s : Operand) (t t' : TypeId)
    (ho : o.op = .call { callee := .builtin .copy, args := #[d, s], argTypes := #[t, t'] }) (v u : Value) (hd : a.eval d = v) (hs : a.eval s = u) {v' : Value} {w' : World}
    (hr : (Builtin.copy_ #[t, t'] o.type #[v, u]).run P w = .ok v' w') (h : wpList P ops Q rest (a.put o.dst v') w') : wpList P ops Q (o :: rest) a w :=
  wpList_plain hgd fun _ hK => wp_copy_run' w d s t t' ho v u hd hs hr (hK _ _ h)
end Go.Proofs.YthedkdbgfdjlkaaGreatDoor

namespace Go.Proofs.YthedkdbgfdjlkaaGreatDoor
set_option linter.unusedVariables false
set_option linter.unusedSimpArgs false
open Go.RowKit Go.Lib
def Ky.cells (k : Ky) : List Value := [.string k.name, .int .i64 k.count, .int .i64 k.fold, .int .i64 k.held]
def Ky.agg (k : Ky) : Value := .agg #[.string k.name, .int .i64 k.count, .int .i64 k.fold, .int .i64 k.held]
theorem keyCells_len : ∀ l : List Ky, (keyCells l).length = l.length * 4
  | [] => rfl
  | x :: r => by simp [keyCells, keyCells_len r]; omega
theorem keyCells_cat : ∀ (l r : List Ky), keyCells (l ++ r) = keyCells l ++ keyCells r
  | [], r => rfl
  | y :: l, r => by simp [keyCells, keyCells_cat l r]
theorem keyCells_one (k : Ky) : keyCells [k] = k.cells := rfl
theorem keyCells_at : ∀ (l : List Ky) (i : Nat) (x : Ky), l[i]? = some x → (keyCells l)[i * 4]? = some (.string x.name) ∧ (keyCells l)[i * 4 + 1]? = some (.int .i64 x.count) ∧ (keyCells l)[i * 4 + 2]? = some (.int .i64 x.fold) ∧ (keyCells l)[i * 4 + 3]? = some (.int .i64 x.held)
  | [], i, x, h => by simp at h
  | y :: r, 0, x, h => by simp at h; subst h; simp [keyCells]
  | y :: r, i + 1, x, h => by
    have := keyCells_at r i x (by simpa using h)
    have e : (i + 1) * 4 = i * 4 + 4 := by omega
    rw [e]
    simpa [keyCells] using this
theorem keyCells_one' : ∀ (l : List Ky), ∀ u ∈ keyCells l, u.oneCell' = true
  | [], u, h => by simp [keyCells] at h
  | y :: r, u, h => by
    simp [keyCells] at h
    rcases h with rfl | rfl | rfl | rfl | h
    · rfl
    · rfl
    · rfl
    · rfl
    · exact keyCells_one' r u h
theorem Tryz.infoK : (Tryz.prog.info? 87).map (fun i => (i.zero, i.size, i.bytes)) = some (some (.agg #[.string ⟨#[]⟩, .int .i64 0, .int .i64 0, .int .i64 0]), 4, 40) := by kernel_rfl
theorem ob_p (p : Option Addr) (n c : Nat) : (Value.slice p n c).ownBlock = p.map (·.block) := by cases p <;> rfl
set_option maxRecDepth 100000 in
set_option maxHeartbeats 400000 in
theorem insert_end (lo n vb : Nat) (v : Value) (ks : List Ky) (x : Ky) (w : World) (hr : w.ownsRow lo 87 4 v n (keyCells ks)) (hl : ks.length = n) (hn : n ≤ 1000) (hlo : lo ≤ w.heap.size)
    (hx : ∀ j u, x.cells[j]? = some u → w.cell? ⟨vb, j, none⟩ = some u) :
    Calls Tryz.prog 148 #[v, .int .i64 n, .slice (some ⟨vb, 0, none⟩) 1 1] w fun e w' => ∃ v', e = .returned v' ∧
      w'.ownsRow lo 87 4 v' (n + 1) (keyCells (ks ++ [x])) ∧ (v'.ownBlock = v.ownBlock ∨ ∀ k, v'.ownBlock = some k → w.heap.size ≤ k) ∧ Chg (fun k => v.ownBlock = some k) w w' := by
  obtain ⟨p, cap, rfl⟩ := row_any hr
  obtain ⟨i0, hi, hz0, hz1, hz2⟩ := info_parts Tryz.infoK
  have hcap : n ≤ cap := by
    rcases hr.2 with ⟨h, h0⟩ | ⟨g', cap', cur, hv, _, _, h, _⟩
    · omega
    · simp at hv; omega
  obtain ⟨v', w', hrun, r1, r2, r3⟩ := run_append_where (P := Tryz.prog) w lo 96 0 87 i0 _ 4 40 Tryz.underlying96 hi hz0 hz1 hz2 rfl (by decide) (.slice p n cap) n (keyCells ks) hr ⟨vb, 0, none⟩ 1 1 x.cells rfl
    (fun j u hj => by
      have := hx j u hj
      rcases Nat.eq_zero_or_pos j with h0 | h0
      · subst h0; simpa [Addr.add] using this
      · simpa [Addr.add, Nat.pos_iff_ne_zero.1 h0] using this) (keyCells_one' [x]) (by unfold maxLen; omega) (by omega) hlo
  rw [ob_p] at r2 r3
  have hrun' : ∀ ty, (Builtin.append_ #[96, 44] ty #[.slice p n cap, .slice (some ⟨vb, 0, none⟩) 1 1]).run Tryz.prog w = .ok v' w' := fun ty =>
    (run_append_types w 96 44 ty 87 87 i0 hi Tryz.underlying96 Tryz.underlying44 p n cap _).trans hrun
  go_enter Tryz.func148, Tryz.ntmps148
  go_wp2_with (at_builtin; refine wpList_append_run' _ rfl _ _ 96 44 rfl _ _ rfl rfl v' w' hrun' ?_)
  all_goals
    go_ret
    refine ⟨v', rfl, by rw [keyCells_cat]; exact r1, ?_, ?_⟩
    · rw [ob_p]; exact r3
    · exact ⟨r2.os, r2.tape, r2.output, r2.size, fun k hk hne => r2.block k hk (fun e => hne (by rw [ob_p]; exact e.symm))⟩
theorem add_lit' (g o j : Nat) : ((⟨g, o, none⟩ : Addr).add j) = ⟨g, o + j, none⟩ := by
  rcases Nat.eq_zero_or_pos j with h0 | h0
  · subst h0; simp [Addr.add]
  · simp [Addr.add, Nat.pos_iff_ne_zero.1 h0]
theorem keyCells_take : ∀ (l : List Ky) (i : Nat), keyCells (l.take i) = (keyCells l).take (i * 4)
  | [], i => by simp [keyCells]
  | y :: r, 0 => by simp [keyCells]
  | y :: r, i + 1 => by
    have e : (i + 1) * 4 = i * 4 + 4 := by omega
    rw [e]; simp [keyCells, keyCells_take r i]
theorem keyCells_drop : ∀ (l : List Ky) (i : Nat), keyCells (l.drop i) = (keyCells l).drop (i * 4)
  | [], i => by simp [keyCells]
  | y :: r, 0 => by simp [keyCells]
  | y :: r, i + 1 => by
    have e : (i + 1) * 4 = i * 4 + 4 := by omega
    rw [e]; simp [keyCells, keyCells_drop r i]
theorem row_more {w : World} {lo : Nat} {e : TypeId} {size g n cap : Nat} {xs : List Value} (h : w.ownsRow lo e size (.slice (some ⟨g, 0, none⟩) n cap) n xs) (hc : n + 1 ≤ cap) :
    ∃ ys, ys.length = size ∧ w.ownsRow lo e size (.slice (some ⟨g, 0, none⟩) (n + 1) cap) (n + 1) (xs ++ ys) := by
  rcases h.2 with ⟨hv, _⟩ | ⟨g', cap', cur, hv, hb, hg, hn, hm, hs, ht⟩
  · simp at hv
  · simp at hv
    obtain ⟨rfl, rfl⟩ := hv
    have hle : (n + 1) * size ≤ cur.size := by rw [hs]; exact Nat.mul_le_mul_right _ hc
    refine ⟨(cur.toList.drop (n * size)).take size, ?_, ?_, ?_⟩
    · rw [Nat.add_mul] at hle
      simp [List.length_take]; omega
    · rw [Nat.add_mul] at hle ⊢
      simp [h.1, List.length_take]; omega
    · refine .inr ⟨g, cap, cur, rfl, hb, hg, hc, hm, hs, ?_⟩
      rw [← ht, Nat.add_mul, Nat.one_mul, List.take_add]
theorem row_shape {w : World} {lo : Nat} {e : TypeId} {size g n cap : Nat} {xs : List Value} (h : w.ownsRow lo e size (.slice (some ⟨g, 0, none⟩) n cap) n xs) : w.shape? g = some (e, cap * size) := by
  rcases h.2 with ⟨hv, _⟩ | ⟨g', cap', cur, hv, hb, hg, hn, hm, hs, ht⟩
  · simp at hv
  · simp at hv
    obtain ⟨rfl, rfl⟩ := hv
    simp [World.shape?, hg, hs]
theorem shift_list (A ys : List Value) (i n : Nat) (D xc : List Value) (hA : A.length = n * 4) (hys : ys.length = 4) (hi : i < n) (hD : D = A.drop (i * 4)) (hx : xc.length = 4) :
    ((A ++ ys).take ((i + 1) * 4) ++ D ++ (A ++ ys).drop ((i + 1) * 4 + D.length)).take (i * 4) ++ xc ++ ((A ++ ys).take ((i + 1) * 4) ++ D ++ (A ++ ys).drop ((i + 1) * 4 + D.length)).drop (i * 4 + xc.length) = A.take (i * 4) ++ xc ++ D := by
  have hDl : D.length = n * 4 - i * 4 := by rw [hD, List.length_drop, hA]
  have h1 : (A ++ ys).drop ((i + 1) * 4 + D.length) = [] := List.drop_eq_nil_of_le (by simp [hA, hys]; omega)
  have h2 : (A ++ ys).take ((i + 1) * 4) = A.take ((i + 1) * 4) := by rw [List.take_append_of_le_length (by omega)]
  have h3 : (A.take ((i + 1) * 4)).length = (i + 1) * 4 := by rw [List.length_take]; omega
  rw [h1, h2, List.append_nil, hx]
  rw [List.take_append_of_le_length (by omega), List.take_take, Nat.min_eq_left (by omega)]
  rw [show i * 4 + 4 = (A.take ((i + 1) * 4)).length by omega, List.drop_left]
set_option maxRecDepth 100000 in
set_option maxHeartbeats 1000000 in
theorem insert_shift (lo n i g cap vb : Nat) (ks : List Ky) (x : Ky) (w : World) (hr : w.ownsRow lo 87 4 (.slice (some ⟨g, 0, none⟩) n cap) n (keyCells ks)) (hl : ks.length = n) (hn : n ≤ 1000) (hi : i < n) (hroom : n + 1 ≤ cap) (hcap : cap ≤ 9223372036854775807) (hvb : vb ≠ g)
    (hx : w.heap[vb]? = some (.cells #[.string x.name, .int .i64 x.count, .int .i64 x.fold, .int .i64 x.held] 87)) :
    Calls Tryz.prog 148 #[.slice (some ⟨g, 0, none⟩) n cap, .int .i64 i, .slice (some ⟨vb, 0, none⟩) 1 1] w fun e w' => e = .returned (.slice (some ⟨g, 0, none⟩) (n + 1) cap) ∧
      w'.ownsRow lo 87 4 (.slice (some ⟨g, 0, none⟩) (n + 1) cap) (n + 1) (keyCells (ks.take i ++ [x] ++ ks.drop i)) ∧ Chg (fun k => k = g) w w' := by
  obtain ⟨ys, hys, hr1⟩ := row_more hr hroom
  have hlen : (keyCells ks ++ ys).length = (n + 1) * 4 := by simp [keyCells_len, hl, hys]; omega
  have hsz : (Tryz.prog.info? 87).map (·.size) = some 4 := by kernel_rfl
  have hsome : ∀ j, j < (n + 1) * 4 → (w.cell? ⟨g, j, none⟩).isSome = true := fun j hj => by
    rw [row_cell hr1 (List.getElem?_eq_getElem (by omega))]; rfl
  have hdl : (keyCells (ks.drop i)).length = (n - i) * 4 := by rw [keyCells_len, List.length_drop, hl]
  have hxc : ∀ j u, x.cells[j]? = some u → w.cell? ⟨vb, j, none⟩ = some u := fun j u hj => by
    simp only [World.cell?, hx]
    match j, hj with
    | 0, hj => simpa [Ky.cells] using hj
    | 1, hj => simpa [Ky.cells] using hj
    | 2, hj => simpa [Ky.cells] using hj
    | 3, hj => simpa [Ky.cells] using hj
    | k + 4, hj => simp [Ky.cells] at hj
  -- the two copies
  have hcp1 : ∀ ty dc sc, (Builtin.copy_ #[96, 96] ty #[.slice (some ⟨g, (i + 1) * 4, none⟩) (n - i) dc, .slice (some ⟨g, i * 4, none⟩) (n + 1 - i) sc]).run Tryz.prog w.drew = .ok (goInt (n - i : Nat)) (w.drew.setCells g ((i + 1) * 4) (keyCells (ks.drop i))) := fun ty dc sc => by
    have hmin : Nat.min (n + 1 - i) (n - i) = n - i := by simp only [Nat.min_def]; split <;> omega
    have := run_copy_sized (P := Tryz.prog) w.drew 96 96 ty 87 4 g ((i + 1) * 4) (n - i) dc ⟨g, i * 4, none⟩ (n + 1 - i) sc (keyCells (ks.drop i)) Tryz.underlying96 hsz (by rw [hmin, hdl])
      (fun j u hj => by
        rw [add_lit']
        refine (World.cell?_drew _ _).trans (row_cell hr ?_)
        rw [keyCells_drop, List.getElem?_drop] at hj
        exact hj)
      (fun j hj => hsome _ (by rw [hdl] at hj; omega)) (fun j hj => row_frozen hr _) (keyCells_one' _)
    rw [hmin] at this
    exact this
  obtain ⟨W1, hW1⟩ : ∃ W1, W1 = w.drew.setCells g ((i + 1) * 4) (keyCells (ks.drop i)) := ⟨_, rfl⟩
  rw [← hW1] at hcp1
  have hr1' : w.drew.ownsRow lo 87 4 (.slice (some ⟨g, 0, none⟩) (n + 1) cap) (n + 1) (keyCells ks ++ ys) := hr1
  obtain ⟨q1, c1⟩ := row_setCells (keyCells (ks.drop i)) ((i + 1) * 4) w.drew (keyCells ks ++ ys) hr1' (by rw [hlen, hdl]; omega)
  rw [← hW1] at q1 c1
  have c1' : Chg (fun k => k = g) w W1 := (Chg.refl _ w).drew.trans c1 (fun _ _ h => h)
  obtain ⟨L1, hL1⟩ : ∃ L1, L1 = (keyCells ks ++ ys).take ((i + 1) * 4) ++ keyCells (ks.drop i) ++ (keyCells ks ++ ys).drop ((i + 1) * 4 + (keyCells (ks.drop i)).length) := ⟨_, rfl⟩
  rw [← hL1] at q1
  have hL1l : L1.length = (n + 1) * 4 := q1.1
  have hcp2 : ∀ (W : World), (∀ a, W.cell? a = W1.cell? a) → (∀ a, W.frozen? a = W1.frozen? a) → ∀ ty dc, (Builtin.copy_ #[96, 44] ty #[.slice (some ⟨g, i * 4, none⟩) (n + 1 - i) dc, .slice (some ⟨vb, 0, none⟩) 1 1]).run Tryz.prog W = .ok (goInt (1 : Nat)) (W.setCells g (i * 4) x.cells) := fun W hWc hWf ty dc => by
    have hmin : Nat.min 1 (n + 1 - i) = 1 := by simp only [Nat.min_def]; split <;> omega
    have := run_copy_sized (P := Tryz.prog) W 96 44 ty 87 4 g (i * 4) (n + 1 - i) dc ⟨vb, 0, none⟩ 1 1 x.cells Tryz.underlying96 hsz (by rw [hmin]; rfl)
      (fun j u hj => by
        rw [add_lit', hWc, Nat.zero_add]
        exact c1'.cellAt (hxc j u hj) hvb)
      (fun j hj => by
        have : x.cells.length = 4 := rfl
        rw [hWc, row_cell q1 (List.getElem?_eq_getElem (by omega))]; rfl) (fun j hj => by rw [hWf]; exact row_frozen q1 _) (keyCells_one' [x])
    rw [hmin] at this
    exact this
  have hov : ∀ lb cb, (callFunc 162 #[.slice (some ⟨vb, 0, none⟩) 1 1, .slice (some ⟨g, (i + 1) * 4, none⟩) lb cb]).run Tryz.prog w = .ok (.value (.bool false)) w := fun lb cb => by
    rw [run_callFunc_extern Tryz.func162 (by kernel_rfl) (by kernel_rfl) (by kernel_rfl) (e := Extern.SlicesOverlaps.overlaps #[44, 44] #[4]) (by kernel_rfl),
      Lib.run_overlaps_apart w 44 4 87 Tryz.underlying44 4 (fun w => by kernel_rfl) ⟨vb, 0, none⟩ ⟨g, (i + 1) * 4, none⟩ 1 1 lb cb hvb 87 87 4 (cap * 4) (by simp [World.shape?, hx]) (row_shape hr) (by omega) (by simp [World.frozen?, hx]) (by simp [World.frozen?, hx])]
    rfl
  have hz2 : ¬ ((i : Int) = (n : Int)) := by omega
  have hb2 : ¬ (cap = i + 1) := by omega
  have hb4 : ¬ (cap = i) := by omega
  have hb3 : (i : Int) ≤ (n : Int) + 1 := by omega
  have hin : i ≤ n := by omega
  have hw1 : IntKind.i64.wrap ((i : Int) + 1) = (i : Int) + 1 := by rw [IntKind.wrap_i64]; omega
  have hb1 : (0 : Int) ≤ (i : Int) + 1 := by omega
  have hb5 : (i : Int) + 1 ≤ (n : Int) + 1 := by omega
  have htn : ((i : Int) + 1).toNat = i + 1 := by omega
  go_enter Tryz.func148, Tryz.ntmps148
  have HL : Hid (L1 = (keyCells ks ++ ys).take ((i + 1) * 4) ++ keyCells (ks.drop i) ++ (keyCells ks ++ ys).drop ((i + 1) * 4 + (keyCells (ks.drop i)).length)) := hL1
  clear hW1 hL1 hr1 hr1' c1 hsome hxc hx
  go_wp2_with (simp only [hov])
  go_region
  all_goals go_wp2_with (at_builtin; refine wpList_copy_run' _ rfl _ _ 96 44 rfl _ _ rfl rfl (hcp2 _ (fun _ => rfl) (fun _ => rfl) _ _) ?_)
  all_goals
    go_ret
    obtain ⟨q2, c2⟩ := row_setCells x.cells (i * 4) W1 L1 q1 (by rw [hL1l]; show i * 4 + 4 ≤ _; omega)
    refine ⟨rfl, ?_, c1'.trans c2 (fun _ _ h => h)⟩
    have e := shift_list (keyCells ks) ys i n (keyCells (ks.drop i)) x.cells (by rw [keyCells_len, hl]) hys hi (keyCells_drop ks i) rfl
    rw [← HL.out] at e
    rw [e, ← keyCells_take] at q2
    rw [keyCells_cat, keyCells_cat, keyCells_one]
    exact q2
end Go.Proofs.YthedkdbgfdjlkaaGreatDoor

namespace Go.Proofs.YthedkdbgfdjlkaaGreatDoor
set_option linter.unusedVariables false
set_option linter.unusedSimpArgs false
open Go.RowKit Go.Lib
theorem zeroCells_size (z : Array Value) (n : Nat) : (Builtin.zeroCells z n).size = n * z.size := by simp [Builtin.zeroCells]
theorem grow_list (A Z : List Value) (i n : Nat) (D xc : List Value) (hA : A.length = n * 4) (hi : i < n) (hD : D = A.drop (i * 4)) (hx : xc.length = 4) (hZ : Z.length = (n + 1 - i) * 4) :
    ((A.take (i * 4) ++ Z).take (i * 4) ++ xc ++ (A.take (i * 4) ++ Z).drop (i * 4 + xc.length)).take ((i + 1) * 4) ++ D ++ ((A.take (i * 4) ++ Z).take (i * 4) ++ xc ++ (A.take (i * 4) ++ Z).drop (i * 4 + xc.length)).drop ((i + 1) * 4 + D.length) = A.take (i * 4) ++ xc ++ D := by
  have hDl : D.length = n * 4 - i * 4 := by rw [hD, List.length_drop, hA]
  have h3 : (A.take (i * 4)).length = i * 4 := by rw [List.length_take]; omega
  have h4 : (A.take (i * 4) ++ Z).take (i * 4) = A.take (i * 4) := by rw [List.take_append_of_le_length (by omega), List.take_take, Nat.min_self]
  have h5 : (A.take (i * 4) ++ xc).length = (i + 1) * 4 := by rw [List.length_append, h3, hx]; omega
  have h6 : (A.take (i * 4) ++ xc ++ (A.take (i * 4) ++ Z).drop (i * 4 + xc.length)).length = (n + 1) * 4 := by
    rw [List.length_append, h5, List.length_drop, List.length_append, h3, hx, hZ]; omega
  rw [h4]
  have hX2 : (A.take (i * 4) ++ xc ++ (A.take (i * 4) ++ Z).drop (i * 4 + xc.length)).drop ((i + 1) * 4 + D.length) = [] := List.drop_eq_nil_of_le (by rw [h6]; omega)
  have hX1 : (A.take (i * 4) ++ xc ++ (A.take (i * 4) ++ Z).drop (i * 4 + xc.length)).take ((i + 1) * 4) = A.take (i * 4) ++ xc := by
    rw [List.take_append_of_le_length (Nat.le_of_eq h5.symm), ← h5, List.take_length]
  rw [hX1, hX2, List.append_nil]
set_option maxRecDepth 100000 in
set_option maxHeartbeats 1000000 in
theorem insert_grow (lo n i g cap vb : Nat) (ks : List Ky) (x : Ky) (w : World) (hr : w.ownsRow lo 87 4 (.slice (some ⟨g, 0, none⟩) n cap) n (keyCells ks)) (hl : ks.length = n) (hn : n ≤ 1000) (hi : i < n) (hroom : cap < n + 1) (hlo : lo ≤ w.heap.size)
    (hx : w.heap[vb]? = some (.cells #[.string x.name, .int .i64 x.count, .int .i64 x.fold, .int .i64 x.held] 87)) :
    Calls Tryz.prog 148 #[.slice (some ⟨g, 0, none⟩) n cap, .int .i64 i, .slice (some ⟨vb, 0, none⟩) 1 1] w fun e w' => ∃ v', e = .returned v' ∧
      w'.ownsRow lo 87 4 v' (n + 1) (keyCells (ks.take i ++ [x] ++ ks.drop i)) ∧ (∀ k, v'.ownBlock = some k → w.heap.size ≤ k) ∧ Chg (fun _ => False) w w' := by
  obtain ⟨i0, hi0, hz0, hz1, hz2⟩ := info_parts Tryz.infoK
  have hsz : (Tryz.prog.info? 87).map (·.size) = some 4 := by kernel_rfl
  have hgl : g < w.heap.size := by
    have hc0 := row_cell hr (List.getElem?_eq_getElem (l := keyCells ks) (i := 0) (by rw [keyCells_len]; omega))
    exact World.block_lt_of_cell? w _ hc0
  have hvl : vb < w.heap.size := (Array.getElem?_eq_some_iff.1 hx).1
  have hdl : (keyCells (ks.drop i)).length = (n - i) * 4 := by rw [keyCells_len, List.length_drop, hl]
  have htl : ((keyCells ks).take (i * 4)).length = i * 4 := by rw [List.length_take, keyCells_len, hl]; omega
  have hkk : (n : Int) + 1 - (i : Int) = ((n + 1 - i : Nat) : Int) := by omega
  have hik : i + (n + 1 - i) = n + 1 := by omega
  have hold : (Builtin.firstCells i0.size i (.slice (some ⟨g, 0, none⟩) i cap)).run Tryz.prog w.drew = .ok ((keyCells ks).take (i * 4)).toArray w.drew := by
    rw [hz1]
    have := run_loadCells_list (P := Tryz.prog) w.drew ⟨g, 0, none⟩ ((keyCells ks).take (i * 4)) (fun j u hj => by
      rw [add_lit', Nat.zero_add]
      refine (World.cell?_drew _ _).trans (row_cell hr ?_)
      rw [List.getElem?_take] at hj
      split at hj
      · exact hj
      · cases hj)
    rw [htl] at this
    simpa [Builtin.firstCells] using this
  have hrz : ∀ ty, (Builtin.append_ #[96, 3] ty #[.slice (some ⟨g, 0, none⟩) i cap, .int .i64 ((n : Int) + 1 - (i : Int))]).run Tryz.prog w =
      .ok (.slice (some ⟨w.heap.size, 0, none⟩) (n + 1) (grownCap w (n + 1) cap 87)) (w.drew.alloc (.cells (((keyCells ks).take (i * 4)).toArray ++ Builtin.zeroCells #[.string ⟨#[]⟩, .int .i64 0, .int .i64 0, .int .i64 0] (n + 1 - i) ++ Builtin.zeroCells #[.string ⟨#[]⟩, .int .i64 0, .int .i64 0, .int .i64 0] (grownCap w (n + 1) cap 87 - (n + 1))) 87)) := fun ty => by
    have h := Lib.run_append_grow_zeros w 96 3 ty 87 i0 _ .i64 .i64 Tryz.underlying96 Tryz.underlying3 hi0 hz0 (some ⟨g, 0, none⟩) i cap ((keyCells ks).take (i * 4)) hold (n + 1 - i) (by omega) (by omega) (by omega) (by omega) (by rw [hz2]; omega) (by rw [hz2, hik]; exact growslice_fits hroom (by omega))
    rw [hik] at h
    rw [hkk]
    exact h
  obtain ⟨G, hG⟩ : ∃ G, G = grownCap w (n + 1) cap 87 := ⟨_, rfl⟩
  have hGn : n + 1 ≤ G := by rw [hG]; exact grownCap_ge w _ _ _
  have hGm : G ≤ maxLen := by rw [hG]; exact grownCap_le_maxLen w (n + 1) cap 87 (by unfold maxLen; omega)
  have hG63 : G ≤ 9223372036854775807 := by unfold maxLen at hGm; omega
  rw [← hG] at hrz
  obtain ⟨Z, hZ⟩ : ∃ Z : List Value, Z = (Builtin.zeroCells #[.string ⟨#[]⟩, .int .i64 0, .int .i64 0, .int .i64 0] (n + 1 - i)).toList := ⟨_, rfl⟩
  have hZl : Z.length = (n + 1 - i) * 4 := by rw [hZ, Array.length_toList, zeroCells_size]; rfl
  obtain ⟨ROW, hROW⟩ : ∃ ROW : Array Value, ROW = ((keyCells ks).take (i * 4)).toArray ++ Builtin.zeroCells #[.string ⟨#[]⟩, .int .i64 0, .int .i64 0, .int .i64 0] (n + 1 - i) ++ Builtin.zeroCells #[.string ⟨#[]⟩, .int .i64 0, .int .i64 0, .int .i64 0] (G - (n + 1)) := ⟨_, rfl⟩
  rw [← hROW] at hrz
  obtain ⟨W1, hW1⟩ : ∃ W1, W1 = w.drew.alloc (.cells ROW 87) := ⟨_, rfl⟩
  rw [← hW1] at hrz
  have q0 : W1.ownsRow w.heap.size 87 4 (.slice (some ⟨w.heap.size, 0, none⟩) (n + 1) G) (n + 1) ((keyCells ks).take (i * 4) ++ Z) := by
    refine ⟨by rw [List.length_append, htl, hZl]; omega, .inr ⟨w.heap.size, G, ROW, rfl, Nat.le_refl _, ?_, hGn, hGm, ?_, ?_⟩⟩
    · rw [hW1]; exact heap_alloc_new w.drew _
    · rw [hROW]; simp only [Array.size_append, List.size_toArray, zeroCells_size, htl]; simp; omega
    · rw [hZ, hROW]
      simp only [Array.toList_append, List.append_assoc]
      rw [← List.append_assoc, List.take_append_of_le_length (by rw [List.length_append, htl, Array.length_toList, zeroCells_size]; simp; omega), List.take_of_length_le (by rw [List.length_append, htl, Array.length_toList, zeroCells_size]; simp; omega)]
  have c0 : Chg (fun _ => False) w W1 := by rw [hW1]; exact (Chg.refl _ w).drew.alloc _
  have hxc : ∀ j u, x.cells[j]? = some u → W1.cell? ⟨vb, j, none⟩ = some u := fun j u hj => by
    refine c0.cellAt ?_ id
    simp only [World.cell?, hx]
    match j, hj with
    | 0, hj => simpa [Ky.cells] using hj
    | 1, hj => simpa [Ky.cells] using hj
    | 2, hj => simpa [Ky.cells] using hj
    | 3, hj => simpa [Ky.cells] using hj
    | k + 4, hj => simp [Ky.cells] at hj
  obtain ⟨q1, c1⟩ := row_setCells x.cells (i * 4) W1 _ q0 (by rw [q0.1]; show i * 4 + 4 ≤ _; omega)
  obtain ⟨L1, hL1⟩ : ∃ L1, L1 = ((keyCells ks).take (i * 4) ++ Z).take (i * 4) ++ x.cells ++ ((keyCells ks).take (i * 4) ++ Z).drop (i * 4 + x.cells.length) := ⟨_, rfl⟩
  rw [← hL1] at q1
  have hcpA : ∀ (W : World), (∀ a, W.cell? a = W1.cell? a) → (∀ a, W.frozen? a = W1.frozen? a) → ∀ ty dc, (Builtin.copy_ #[96, 44] ty #[.slice (some ⟨w.heap.size, i * 4, none⟩) (n + 1 - i) dc, .slice (some ⟨vb, 0, none⟩) 1 1]).run Tryz.prog W = .ok (goInt (1 : Nat)) (W.setCells w.heap.size (i * 4) x.cells) := fun W hWc hWf ty dc => by
    have hmin : Nat.min 1 (n + 1 - i) = 1 := by simp only [Nat.min_def]; split <;> omega
    have := run_copy_sized (P := Tryz.prog) W 96 44 ty 87 4 w.heap.size (i * 4) (n + 1 - i) dc ⟨vb, 0, none⟩ 1 1 x.cells Tryz.underlying96 hsz (by rw [hmin]; rfl)
      (fun j u hj => by
        rw [add_lit', hWc, Nat.zero_add]
        exact hxc j u hj)
      (fun j hj => by
        have : x.cells.length = 4 := rfl
        rw [hWc, row_cell q0 (List.getElem?_eq_getElem (by rw [q0.1]; omega))]; rfl) (fun j hj => by rw [hWf]; exact row_frozen q0 _) (keyCells_one' [x])
    rw [hmin] at this
    exact this
  obtain ⟨W2, hW2⟩ : ∃ W2, W2 = W1.setCells w.heap.size (i * 4) x.cells := ⟨_, rfl⟩
  rw [← hW2] at q1 c1
  have hcpB : ∀ (W : World), (∀ a, W.cell? a = W2.cell? a) → (∀ a, W.frozen? a = W2.frozen? a) → ∀ ty dc sc, (Builtin.copy_ #[96, 96] ty #[.slice (some ⟨w.heap.size, (i + 1) * 4, none⟩) (n - i) dc, .slice (some ⟨g, i * 4, none⟩) (n - i) sc]).run Tryz.prog W = .ok (goInt (n - i : Nat)) (W.setCells w.heap.size ((i + 1) * 4) (keyCells (ks.drop i))) := fun W hWc hWf ty dc sc => by
    have hmin : Nat.min (n - i) (n - i) = n - i := Nat.min_self _
    have := run_copy_sized (P := Tryz.prog) W 96 96 ty 87 4 w.heap.size ((i + 1) * 4) (n - i) dc ⟨g, i * 4, none⟩ (n - i) sc (keyCells (ks.drop i)) Tryz.underlying96 hsz (by rw [hmin, hdl])
      (fun j u hj => by
        rw [add_lit', hWc]
        rw [keyCells_drop, List.getElem?_drop] at hj
        exact c1.cellAt (c0.cellAt (row_cell hr hj) id) (by omega))
      (fun j hj => by rw [hWc, row_cell q1 (List.getElem?_eq_getElem (by rw [q1.1]; rw [hdl] at hj; omega))]; rfl) (fun j hj => by rw [hWf]; exact row_frozen q1 _) (keyCells_one' _)
    rw [hmin] at this
    exact this
  have q1d : W2.drew.ownsRow w.heap.size 87 4 (.slice (some ⟨w.heap.size, 0, none⟩) (n + 1) G) (n + 1) L1 := q1
  obtain ⟨q2, c2⟩ := row_setCells (keyCells (ks.drop i)) ((i + 1) * 4) W2.drew L1 q1d (by rw [q1.1, hdl]; omega)
  have hfin := grow_list (keyCells ks) Z i n (keyCells (ks.drop i)) x.cells (by rw [keyCells_len, hl]) hi (keyCells_drop ks i) rfl hZl
  rw [← hL1] at hfin
  rw [hfin, ← keyCells_take] at q2
  have q3 : (W2.drew.setCells w.heap.size ((i + 1) * 4) (keyCells (ks.drop i))).ownsRow w.heap.size 87 4 (.slice (some ⟨w.heap.size, 0, none⟩) (n + 1) G) (n + 1) (keyCells (ks.take i ++ [x] ++ ks.drop i)) := by
    rw [keyCells_cat, keyCells_cat, keyCells_one]; exact q2
  have cfin : Chg (fun _ => False) w (W2.drew.setCells w.heap.size ((i + 1) * 4) (keyCells (ks.drop i))) := (c0.trans c1 (fun k hk h => by omega)).drew.trans c2 (fun k hk h => by omega)
  have hz2 : ¬ ((i : Int) = (n : Int)) := by omega
  have hz3 : (cap : Int) < (n : Int) + 1 := by omega
  have hb2 : ¬ (G = i + 1) := by omega
  have hb4 : ¬ (G = i) := by omega
  have hnc : n ≤ cap := by
    rcases hr.2 with ⟨h, _⟩ | ⟨g', cap', cur, hv, _, _, h, _⟩
    · simp at h
    · simp at hv; omega
  have hb6 : ¬ (cap = i) := by omega
  have hb7 : (i : Int) ≤ (cap : Int) := by omega
  have hb3 : (i : Int) ≤ (n : Int) + 1 := by omega
  have hin : i ≤ n := by omega
  have hw1 : IntKind.i64.wrap ((i : Int) + 1) = (i : Int) + 1 := by rw [IntKind.wrap_i64]; omega
  have hb1 : (0 : Int) ≤ (i : Int) + 1 := by omega
  have hb5 : (i : Int) + 1 ≤ (n : Int) + 1 := by omega
  have htn : ((i : Int) + 1).toNat = i + 1 := by omega
  have hcB := hcpB W2.drew (fun _ => rfl) (fun _ => rfl)
  have HW2 : Hid (W2 = W1.setCells w.heap.size (i * 4) x.cells) := hW2
  clear hcpB hkk hik hdl htl hZl hW1 hW2 hL1 hZ hG hROW q0 q1 q1d q2 c0 c1 c2 hxc hold hfin hx hr
  go_enter Tryz.func148, Tryz.ntmps148
  go_wp2_with (first | (at_builtin; refine wpList_append_run' _ rfl _ _ 96 3 rfl _ _ rfl rfl _ W1 hrz ?_) | (at_builtin; refine wpList_copy_run' _ rfl _ _ 96 44 rfl _ _ rfl rfl (hcpA _ (fun _ => rfl) (fun _ => rfl) _ _) ?_))
  rw [← HW2.out]
  go_region
  all_goals
    go_wp2
    go_ret
    refine ⟨_, rfl, row_lower q3 hlo, ?_, cfin⟩
    intro k hk
    simp [Value.ownBlock] at hk
    omega
end Go.Proofs.YthedkdbgfdjlkaaGreatDoor

namespace Go.Proofs
open Go.Shelf
def Tryz.lays125_ren : Go.Shelf.Ren := ⟨fun | 125 => 160 | 128 => 177 | 129 => 178 | n => n, fun | 46 => 183 | 3 => 3 | 51 => 101 | 53 => 291 | 4 => 4 | 5 => 5 | 9 => 9 | n => n, fun | n => n⟩
theorem Tryz.lays125 : Go.Proofs.Lays.n125 Tryz.prog Tryz.lays125_ren := {
  mixed := by kernel_rfl
  f125 := Tryz.func160.trans (congrArg some (by kernel_rfl))
  f128 := Tryz.func177.trans (congrArg some (by kernel_rfl))
  f129 := Tryz.func178.trans (congrArg some (by kernel_rfl))
  t3 := Tryz.underlying3
  a3 := Tryz.isAgg3
  z3 := Tryz.sizeOf3
  v3 := Tryz.zeroValue3
  t4 := Tryz.underlying4
  a4 := Tryz.isAgg4
  z4 := Tryz.sizeOf4
  v4 := Tryz.zeroValue4
  t5 := Tryz.underlying5
  a5 := Tryz.isAgg5
  z5 := Tryz.sizeOf5
  v5 := Tryz.zeroValue5
  t9 := Tryz.underlying9
  a9 := Tryz.isAgg9
  z9 := Tryz.sizeOf9
  v9 := Tryz.zeroValue9
  t46 := Tryz.underlying183
  a46 := Tryz.isAgg183
  z46 := Tryz.sizeOf183
  v46 := Tryz.zeroValue183
  t51 := Tryz.underlying101
  a51 := Tryz.isAgg101
  z51 := Tryz.sizeOf101
  v51 := Tryz.zeroValue101
  t53 := Tryz.underlying291
  a53 := Tryz.isAgg291
  z53 := Tryz.sizeOf291
  v53 := Tryz.zeroValue291 }
theorem Tryz.bits_Len (x : Int) (w : World) (h0 : 0 ≤ x) (h1 : x ≤ 18446744073709551615) :
    Calls Tryz.prog 160 #[.int .u64 x] w fun e w' => e = .returned (.int .i64 (Lib.bitLen x.toNat)) ∧ w' = w := Any.bits_Len Tryz.lays125 x w h0 h1
open Go.RowKit in
def Tryz.lays106_ren : Go.Shelf.Ren := ⟨fun | 106 => 151 | 213 => 165 | 265 => 180 | n => n, fun | 9 => 9 | 3 => 3 | n => n, fun | n => n⟩
theorem Tryz.lays106 : Go.Proofs.Lays.n106 Tryz.prog Tryz.lays106_ren := {
  mixed := by kernel_rfl
  f106 := Tryz.func151.trans (congrArg some (by kernel_rfl))
  f213 := Tryz.func165.trans (congrArg some (by kernel_rfl))
  f265 := Tryz.func180.trans (congrArg some (by kernel_rfl))
  t3 := Tryz.underlying3
  a3 := Tryz.isAgg3
  z3 := Tryz.sizeOf3
  v3 := Tryz.zeroValue3
  t9 := Tryz.underlying9
  a9 := Tryz.isAgg9
  z9 := Tryz.sizeOf9
  v9 := Tryz.zeroValue9 }
open Go.RowKit in
theorem Tryz.strings_Compare (a b : ByteArray) (w : World) :
    Calls Tryz.prog 151 #[.string a, .string b] w fun e w' => e = .returned (.int .i64 (Lib.compareBytes a.data.toList b.data.toList)) ∧ w' = w := Any.strings_Compare Tryz.lays106 a b w
def Tryz.lays137_ren : Go.Shelf.Ren := ⟨fun | 137 => 120 | 217 => 150 | 266 => 164 | n => n, fun | 9 => 9 | 5 => 5 | 3 => 3 | n => n, fun | n => n⟩
theorem Tryz.lays137 : Go.Proofs.Lays.n137 Tryz.prog Tryz.lays137_ren := {
  mixed := by kernel_rfl
  f137 := Tryz.func120.trans (congrArg some (by kernel_rfl))
  f217 := Tryz.func150.trans (congrArg some (by kernel_rfl))
  f266 := Tryz.func164.trans (congrArg some (by kernel_rfl))
  t3 := Tryz.underlying3
  a3 := Tryz.isAgg3
  z3 := Tryz.sizeOf3
  v3 := Tryz.zeroValue3
  t5 := Tryz.underlying5
  a5 := Tryz.isAgg5
  z5 := Tryz.sizeOf5
  v5 := Tryz.zeroValue5
  t9 := Tryz.underlying9
  a9 := Tryz.isAgg9
  z9 := Tryz.sizeOf9
  v9 := Tryz.zeroValue9 }
open Go.RowKit in
theorem Tryz.strings_IndexByte (s : ByteArray) (c : Int) (w : World) :
    Calls Tryz.prog 120 #[.string s, .int .u8 c] w fun e w' => e = .returned (.int .i64 (Lib.indexByte s.data.toList c.toNat.toUInt8)) ∧ w' = w := Any.strings_IndexByte Tryz.lays137 s c w
open Go.RowKit in
def Tryz.lays122_ren : Go.Shelf.Ren := ⟨fun | 122 => 129 | 215 => 157 | n => n, fun | 3 => 3 | 4 => 4 | n => n, fun | n => n⟩
theorem Tryz.lays122 : Go.Proofs.Lays.n122 Tryz.prog Tryz.lays122_ren := {
  mixed := by kernel_rfl
  f122 := Tryz.func129.trans (congrArg some (by kernel_rfl))
  f215 := Tryz.func157.trans (congrArg some (by kernel_rfl))
  t3 := Tryz.underlying3
  a3 := Tryz.isAgg3
  z3 := Tryz.sizeOf3
  v3 := Tryz.zeroValue3
  t4 := Tryz.underlying4
  a4 := Tryz.isAgg4
  z4 := Tryz.sizeOf4
  v4 := Tryz.zeroValue4 }
open Go.RowKit in
theorem Tryz.cmp_Compare_int (x y : Int) (w : World) :
    Calls Tryz.prog 129 #[.int .i64 x, .int .i64 y] w fun e w' => e = .returned (.int .i64 (Lib.compareInt x y)) ∧ w' = w := Any.cmp_Compare_int Tryz.lays122 x y w
def Tryz.laysM316_ren : Go.Shelf.Ren := ⟨fun | 316 => 117 | n => n, fun | 9 => 9 | 3 => 3 | 4 => 4 | 37 => 88 | 0 => 0 | 127 => 260 | 5 => 5 | n => n, fun | n => n⟩
theorem Tryz.laysM316 : Go.Proofs.LaysM.n316 Tryz.prog Tryz.laysM316_ren := {
  mixed := by kernel_rfl
  f316 := Tryz.func117.trans (congrArg some (by kernel_rfl))
  t0 := Tryz.underlying0
  a0 := Tryz.isAgg0
  z0 := Tryz.sizeOf0
  v0 := Tryz.zeroValue0
  t3 := Tryz.underlying3
  a3 := Tryz.isAgg3
  z3 := Tryz.sizeOf3
  v3 := Tryz.zeroValue3
  t4 := Tryz.underlying4
  a4 := Tryz.isAgg4
  z4 := Tryz.sizeOf4
  v4 := Tryz.zeroValue4
  t9 := Tryz.underlying9
  a9 := Tryz.isAgg9
  z9 := Tryz.sizeOf9
  v9 := Tryz.zeroValue9
  t37 := Tryz.underlying88
  a37 := Tryz.isAgg88
  z37 := Tryz.sizeOf88
  v37 := Tryz.zeroValue88
  t127 := Tryz.underlying260
  a127 := Tryz.isAgg260
  z127 := Tryz.sizeOf260
  v127 := Tryz.zeroValue260
  t5 := Tryz.underlying5
  a5 := Tryz.isAgg5
  z5 := Tryz.sizeOf5
  v5 := Tryz.zeroValue5
  i0 := by kernel_rfl
  i3 := by kernel_rfl
  i4 := by kernel_rfl
  i5 := by kernel_rfl
  i9 := by kernel_rfl
  i37 := by kernel_rfl
  i127 := by kernel_rfl }
open Go.RowKit in
theorem Tryz.stringslite_Clone (s : ByteArray) (w : World) (hlim : s.size ≤ 281474976710656) :
    Calls Tryz.prog 117 #[.string s] w fun e w' => e = .returned (.string s) ∧ Below w.heap.size w w' := Any.stringslite_Clone Tryz.laysM316 s w hlim
open Go.RowKit Go.Lib in
def Tryz.lays190_ren : Go.Shelf.Ren := ⟨fun | 190 => 142 | 125 => 160 | 258 => 159 | 128 => 177 | 129 => 178 | 302 => 168 | 303 => 169 | 304 => 170 | 305 => 171 | 306 => 172 | 307 => 173 | 308 => 174 | 309 => 175 | 310 => 176 | 333 => 189 | 329 => 190 | 330 => 191 | 334 => 192 | 335 => 193 | 336 => 194 | 344 => 199 | n => n, fun | 31 => 34 | 9 => 9 | 3 => 3 | 46 => 183 | 0 => 0 | 51 => 101 | 53 => 291 | 4 => 4 | 183 => 283 | 182 => 282 | 131 => 170 | 5 => 5 | 218 => 297 | 222 => 301 | 228 => 306 | 229 => 307 | n => n, fun | n => n⟩
theorem Tryz.lays190 : Go.Proofs.Lays.n190 Tryz.prog Tryz.lays190_ren := {
  mixed := by kernel_rfl
  f125 := Tryz.func160.trans (congrArg some (by kernel_rfl))
  f128 := Tryz.func177.trans (congrArg some (by kernel_rfl))
  f129 := Tryz.func178.trans (congrArg some (by kernel_rfl))
  f190 := Tryz.func142.trans (congrArg some (by kernel_rfl))
  f258 := Tryz.func159.trans (congrArg some (by kernel_rfl))
  f302 := Tryz.func168.trans (congrArg some (by kernel_rfl))
  f303 := Tryz.func169.trans (congrArg some (by kernel_rfl))
  f304 := Tryz.func170.trans (congrArg some (by kernel_rfl))
  f305 := Tryz.func171.trans (congrArg some (by kernel_rfl))
  f306 := Tryz.func172.trans (congrArg some (by kernel_rfl))
  f307 := Tryz.func173.trans (congrArg some (by kernel_rfl))
  f308 := Tryz.func174.trans (congrArg some (by kernel_rfl))
  f309 := Tryz.func175.trans (congrArg some (by kernel_rfl))
  f310 := Tryz.func176.trans (congrArg some (by kernel_rfl))
  f329 := Tryz.func190.trans (congrArg some (by kernel_rfl))
  f330 := Tryz.func191.trans (congrArg some (by kernel_rfl))
  f333 := Tryz.func189.trans (congrArg some (by kernel_rfl))
  f334 := Tryz.func192.trans (congrArg some (by kernel_rfl))
  f335 := Tryz.func193.trans (congrArg some (by kernel_rfl))
  f336 := Tryz.func194.trans (congrArg some (by kernel_rfl))
  f344 := Tryz.func199.trans (congrArg some (by kernel_rfl))
  t0 := Tryz.underlying0
  a0 := Tryz.isAgg0
  z0 := Tryz.sizeOf0
  v0 := Tryz.zeroValue0
  t3 := Tryz.underlying3
  a3 := Tryz.isAgg3
  z3 := Tryz.sizeOf3
  v3 := Tryz.zeroValue3
  t4 := Tryz.underlying4
  a4 := Tryz.isAgg4
  z4 := Tryz.sizeOf4
  v4 := Tryz.zeroValue4
  t5 := Tryz.underlying5
  a5 := Tryz.isAgg5
  z5 := Tryz.sizeOf5
  v5 := Tryz.zeroValue5
  t9 := Tryz.underlying9
  a9 := Tryz.isAgg9
  z9 := Tryz.sizeOf9
  v9 := Tryz.zeroValue9
  t31 := Tryz.underlying34
  a31 := Tryz.isAgg34
  z31 := Tryz.sizeOf34
  v31 := Tryz.zeroValue34
  t46 := Tryz.underlying183
  a46 := Tryz.isAgg183
  z46 := Tryz.sizeOf183
  v46 := Tryz.zeroValue183
  t51 := Tryz.underlying101
  a51 := Tryz.isAgg101
  z51 := Tryz.sizeOf101
  v51 := Tryz.zeroValue101
  t53 := Tryz.underlying291
  a53 := Tryz.isAgg291
  z53 := Tryz.sizeOf291
  v53 := Tryz.zeroValue291
  t131 := Tryz.underlying170
  a131 := Tryz.isAgg170
  z131 := Tryz.sizeOf170
  v131 := Tryz.zeroValue170
  t182 := Tryz.underlying282
  a182 := Tryz.isAgg282
  z182 := Tryz.sizeOf282
  v182 := Tryz.zeroValue282
  t183 := Tryz.underlying283
  a183 := Tryz.isAgg283
  z183 := Tryz.sizeOf283
  v183 := Tryz.zeroValue283
  t218 := Tryz.underlying297
  a218 := Tryz.isAgg297
  z218 := Tryz.sizeOf297
  v218 := Tryz.zeroValue297
  t222 := Tryz.underlying301
  a222 := Tryz.isAgg301
  z222 := Tryz.sizeOf301
  v222 := Tryz.zeroValue301
  t228 := Tryz.underlying306
  a228 := Tryz.isAgg306
  z228 := Tryz.sizeOf306
  v228 := Tryz.zeroValue306
  t229 := Tryz.underlying307
  a229 := Tryz.isAgg307
  z229 := Tryz.sizeOf307
  v229 := Tryz.zeroValue307 }
open Go.Sort Go.RowKit in
theorem Tryz.slices_Sort_string (blk off cap : Nat) (ss : List (List UInt8)) (w : World) (hH : Holds encStr w blk off ss.toArray) (hblk : blk < w.heap.size) (hsz : ss.length < 4611686018427387904) :
    Calls Tryz.prog 142 #[.slice (some ⟨blk, off, none⟩) ss.length cap] w fun e w' =>
      e = .returned (.tuple #[]) ∧ ∃ n os, w' = grow (putRow encStr (Sort.ahead w n) blk off (ss.mergeSort fun x y => decide (x ≤ y)).toArray) os := Any.slices_Sort_string Tryz.lays190 blk off cap ss w hH hblk hsz
open Go.Lib in
open Go.Lib in
def Tryz.lays110_ren : Go.Shelf.Ren := ⟨fun | 110 => 114 | 109 => 144 | n => n, fun | 31 => 34 | 9 => 9 | 4 => 4 | 3 => 3 | 0 => 0 | n => n, fun | n => n⟩
theorem Tryz.lays110 : Go.Proofs.Lays.n110 Tryz.prog Tryz.lays110_ren := {
  mixed := by kernel_rfl
  f109 := Tryz.func144.trans (congrArg some (by kernel_rfl))
  f110 := Tryz.func114.trans (congrArg some (by kernel_rfl))
  t0 := Tryz.underlying0
  a0 := Tryz.isAgg0
  z0 := Tryz.sizeOf0
  v0 := Tryz.zeroValue0
  t3 := Tryz.underlying3
  a3 := Tryz.isAgg3
  z3 := Tryz.sizeOf3
  v3 := Tryz.zeroValue3
  t4 := Tryz.underlying4
  a4 := Tryz.isAgg4
  z4 := Tryz.sizeOf4
  v4 := Tryz.zeroValue4
  t9 := Tryz.underlying9
  a9 := Tryz.isAgg9
  z9 := Tryz.sizeOf9
  v9 := Tryz.zeroValue9
  t31 := Tryz.underlying34
  a31 := Tryz.isAgg34
  z31 := Tryz.sizeOf34
  v31 := Tryz.zeroValue34 }
open Go.Lib in
theorem Tryz.slices_Contains_string (b off n c : Nat) (zs : List ByteArray) (x : ByteArray) (w : World) (hz : n ≤ zs.length) (hbig : n ≤ 9223372036854775807) (hc : ∀ j, j < zs.length → w.cell? ⟨b, off + j, none⟩ = some (.string (zs.getD j ByteArray.empty))) :
    Calls Tryz.prog 114 #[.slice (some ⟨b, off, none⟩) n c, .string x] w fun e w' => e = .returned (.bool (Lib.containsS (zs.take n) x)) ∧ w' = w := Any.slices_Contains_string Tryz.lays110 b off n c zs x w hz hbig hc
open Go.Lib in
def Tryz.lays194_ren : Go.Shelf.Ren := ⟨fun | 194 => 143 | n => n, fun | 31 => 34 | 9 => 9 | 3 => 3 | 4 => 4 | 0 => 0 | n => n, fun | n => n⟩
theorem Tryz.lays194 : Go.Proofs.Lays.n194 Tryz.prog Tryz.lays194_ren := {
  mixed := by kernel_rfl
  f194 := Tryz.func143.trans (congrArg some (by kernel_rfl))
  t0 := Tryz.underlying0
  a0 := Tryz.isAgg0
  z0 := Tryz.sizeOf0
  v0 := Tryz.zeroValue0
  t3 := Tryz.underlying3
  a3 := Tryz.isAgg3
  z3 := Tryz.sizeOf3
  v3 := Tryz.zeroValue3
  t4 := Tryz.underlying4
  a4 := Tryz.isAgg4
  z4 := Tryz.sizeOf4
  v4 := Tryz.zeroValue4
  t9 := Tryz.underlying9
  a9 := Tryz.isAgg9
  z9 := Tryz.sizeOf9
  v9 := Tryz.zeroValue9
  t31 := Tryz.underlying34
  a31 := Tryz.isAgg34
  z31 := Tryz.sizeOf34
  v31 := Tryz.zeroValue34 }
open Go.RowKit Go.Lib Go.Sort in
open Go.RowKit Go.Lib Go.Sort in
theorem Tryz.slices_Compact_string (blk off cap : Nat) (zs : List (List UInt8)) (w : World) (hH : Holds encStr w blk off zs.toArray) (hsz : zs.length ≤ 9223372036854775807) (hcap : zs.length ≤ cap) :
    Calls Tryz.prog 143 #[.slice (some ⟨blk, off, none⟩) zs.length cap] w fun e w' => e = .returned (.slice (some ⟨blk, off, none⟩) (Lib.compact zs).length cap) ∧ ∃ q, w' = putRow encStr (Sort.ahead w q) blk off (Lib.compact zs ++ List.replicate (zs.length - (Lib.compact zs).length) []).toArray := Any.slices_Compact_string Tryz.lays194 blk off cap zs w hH hsz hcap
open Go.RowKit Go.Lib Go.Sort in
theorem Tryz.slices_Compact_string_empty (a : Option Addr) (cap : Nat) (w : World) :
    Calls Tryz.prog 143 #[.slice a 0 cap] w fun e w' => e = .returned (.slice a 0 cap) ∧ w' = w := Any.slices_Compact_string_empty Tryz.lays194 a cap w
open Go.RowKit Go.Lib in
open Go.RowKit Go.Lib Go.Sort in
open Go.RowKit Go.Sort in
theorem Tryz.slices_Sort_string_none (p : Option Addr) (cap : Nat) (w : World) :
    Calls Tryz.prog 142 #[.slice p 0 cap] w fun e w' => e = .returned (.tuple #[]) ∧ w' = w := Any.slices_Sort_string_none Tryz.lays190 p cap w
def Tryz.sortW_ren : Go.Shelf.Ren := ⟨fun | 6 => 155 | 15 => 160 | 14 => 167 | 28 => 177 | 29 => 178 | 20 => 181 | 21 => 182 | 22 => 183 | 23 => 184 | 24 => 185 | 25 => 186 | 26 => 187 | 27 => 188 | 46 => 196 | 47 => 190 | 48 => 191 | 49 => 197 | 50 => 198 | 57 => 200 | n => n, fun | 22 => 91 | 24 => 168 | 25 => 230 | 3 => 3 | 39 => 183 | 0 => 0 | 53 => 101 | 55 => 291 | 4 => 4 | 46 => 283 | 45 => 282 | 50 => 170 | 5 => 5 | 9 => 9 | 66 => 297 | 70 => 301 | 76 => 306 | 77 => 307 | n => n, fun | n => n⟩
theorem Tryz.sortW : Go.Proofs.SlLaysF0.n6 Tryz.prog Tryz.sortW_ren := {
  mixed := by kernel_rfl
  f6 := ⟨Tryz.f155.name, by decide, Tryz.func155.trans (congrArg some (by kernel_rfl))⟩
  f14 := ⟨Tryz.f167.name, by decide, Tryz.func167.trans (congrArg some (by kernel_rfl))⟩
  f15 := Tryz.func160.trans (congrArg some (by kernel_rfl))
  f20 := ⟨Tryz.f181.name, by decide, Tryz.func181.trans (congrArg some (by kernel_rfl))⟩
  f21 := ⟨Tryz.f182.name, by decide, Tryz.func182.trans (congrArg some (by kernel_rfl))⟩
  f22 := ⟨Tryz.f183.name, by decide, Tryz.func183.trans (congrArg some (by kernel_rfl))⟩
  f23 := ⟨Tryz.f184.name, by decide, Tryz.func184.trans (congrArg some (by kernel_rfl))⟩
  f24 := ⟨Tryz.f185.name, by decide, Tryz.func185.trans (congrArg some (by kernel_rfl))⟩
  f25 := ⟨Tryz.f186.name, by decide, Tryz.func186.trans (congrArg some (by kernel_rfl))⟩
  f26 := ⟨Tryz.f187.name, by decide, Tryz.func187.trans (congrArg some (by kernel_rfl))⟩
  f27 := ⟨Tryz.f188.name, by decide, Tryz.func188.trans (congrArg some (by kernel_rfl))⟩
  f28 := Tryz.func177.trans (congrArg some (by kernel_rfl))
  f29 := Tryz.func178.trans (congrArg some (by kernel_rfl))
  f46 := ⟨Tryz.f196.name, by decide, Tryz.func196.trans (congrArg some (by kernel_rfl))⟩
  f47 := Tryz.func190.trans (congrArg some (by kernel_rfl))
  f48 := Tryz.func191.trans (congrArg some (by kernel_rfl))
  f49 := ⟨Tryz.f197.name, by decide, Tryz.func197.trans (congrArg some (by kernel_rfl))⟩
  f50 := ⟨Tryz.f198.name, by decide, Tryz.func198.trans (congrArg some (by kernel_rfl))⟩
  f57 := ⟨Tryz.f200.name, by decide, Tryz.func200.trans (congrArg some (by kernel_rfl))⟩
  t0 := Tryz.underlying0
  a0 := Tryz.isAgg0
  z0 := Tryz.sizeOf0
  v0 := Tryz.zeroValue0
  t3 := Tryz.underlying3
  a3 := Tryz.isAgg3
  z3 := Tryz.sizeOf3
  v3 := Tryz.zeroValue3
  t4 := Tryz.underlying4
  a4 := Tryz.isAgg4
  z4 := Tryz.sizeOf4
  v4 := Tryz.zeroValue4
  t5 := Tryz.underlying5
  a5 := Tryz.isAgg5
  z5 := Tryz.sizeOf5
  v5 := Tryz.zeroValue5
  t9 := Tryz.underlying9
  a9 := Tryz.isAgg9
  z9 := Tryz.sizeOf9
  v9 := Tryz.zeroValue9
  t22 := Tryz.underlying91
  a22 := Tryz.isAgg91
  z22 := Tryz.sizeOf91
  v22 := Tryz.zeroValue91
  t25 := Tryz.underlying230
  a25 := Tryz.isAgg230
  z25 := Tryz.sizeOf230
  v25 := Tryz.zeroValue230
  t39 := Tryz.underlying183
  a39 := Tryz.isAgg183
  z39 := Tryz.sizeOf183
  v39 := Tryz.zeroValue183
  t45 := Tryz.underlying282
  a45 := Tryz.isAgg282
  z45 := Tryz.sizeOf282
  v45 := Tryz.zeroValue282
  t46 := Tryz.underlying283
  a46 := Tryz.isAgg283
  z46 := Tryz.sizeOf283
  v46 := Tryz.zeroValue283
  t50 := Tryz.underlying170
  a50 := Tryz.isAgg170
  z50 := Tryz.sizeOf170
  v50 := Tryz.zeroValue170
  t53 := Tryz.underlying101
  a53 := Tryz.isAgg101
  z53 := Tryz.sizeOf101
  v53 := Tryz.zeroValue101
  t55 := Tryz.underlying291
  a55 := Tryz.isAgg291
  z55 := Tryz.sizeOf291
  v55 := Tryz.zeroValue291
  t66 := Tryz.underlying297
  a66 := Tryz.isAgg297
  z66 := Tryz.sizeOf297
  v66 := Tryz.zeroValue297
  t70 := Tryz.underlying301
  a70 := Tryz.isAgg301
  z70 := Tryz.sizeOf301
  v70 := Tryz.zeroValue301
  t76 := Tryz.underlying306
  a76 := Tryz.isAgg306
  z76 := Tryz.sizeOf306
  v76 := Tryz.zeroValue306
  t77 := Tryz.underlying307
  a77 := Tryz.isAgg307
  z77 := Tryz.sizeOf307
  v77 := Tryz.zeroValue307 }
end Go.Proofs

namespace Go.Proofs.YthedkdbgfdjlkaaGreatDoor
set_option linter.unusedVariables false
set_option linter.unusedSimpArgs false
open Go.RowKit Go.Lib
theorem cmp_lt : ∀ (a b : List UInt8), (compareBytes a b < 0) ↔ Op.bytesLess a b = true
  | [], [] => by simp [compareBytes, Op.bytesLess]
  | [], _ :: _ => by simp [compareBytes, Op.bytesLess]
  | _ :: _, [] => by simp [compareBytes, Op.bytesLess]
  | a :: x, b :: y => by
    have ih := cmp_lt x y
    simp only [compareBytes, Op.bytesLess]
    by_cases h1 : a < b
    · simp [h1]
    · by_cases h2 : b < a
      · have : ¬ (a == b) = true := by
          intro h; have := eq_of_beq h; subst this; exact absurd h2 h1
        simp [h1, h2, this]
      · have e : a = b := by
          refine Decidable.of_not_not fun h => ?_
          rcases UInt8.lt_or_lt_of_ne h with h | h
          · exact h1 h
          · exact h2 h
        subst e
        simp [h1, ih]
theorem cmp_eq0 : ∀ (a b : List UInt8), (compareBytes a b = 0) ↔ a = b
  | [], [] => by simp [compareBytes]
  | [], _ :: _ => by simp [compareBytes]
  | _ :: _, [] => by simp [compareBytes]
  | a :: x, b :: y => by
    have ih := cmp_eq0 x y
    simp only [compareBytes]
    by_cases h1 : a < b
    · have : a ≠ b := fun e => by subst e; exact absurd h1 (UInt8.lt_irrefl a)
      simp [h1, this]
    · by_cases h2 : b < a
      · have : a ≠ b := fun e => by subst e; exact absurd h2 (UInt8.lt_irrefl a)
        simp [h1, h2, this]
      · have e : a = b := by
          refine Decidable.of_not_not fun h => ?_
          rcases UInt8.lt_or_lt_of_ne h with h | h
          · exact h1 h
          · exact h2 h
        subst e
        simp [h1, ih]
theorem data_inj {a b : ByteArray} (h : a.data.toList = b.data.toList) : a = b := by
  cases a; cases b
  simp at h
  rw [h]
def cmpN (a b : ByteArray) : Int := compareBytes a.data.toList b.data.toList
theorem cmpN_lt (a b : ByteArray) : (cmpN a b < 0) ↔ less a b = true := cmp_lt _ _
theorem cmpN_eq (a b : ByteArray) : (cmpN a b = 0) ↔ a = b := ⟨fun h => data_inj ((cmp_eq0 _ _).1 h), fun h => by subst h; exact (cmp_eq0 _ _).2 rfl⟩
set_option maxRecDepth 100000 in
set_option maxHeartbeats 400000 in
theorem compareName_any (k : Ky) (name : ByteArray) (w : World) :
    Calls Tryz.prog 122 #[k.agg, .string name] w fun e w' => e = .returned (.int .i64 (cmpN k.name name)) ∧ Chg (fun _ => False) w w' := by
  unfold Ky.agg
  go_enter Tryz.func122, Tryz.ntmps122
  go_wp2_with fail
  refine (Tryz.strings_Compare _ _ _).mono ?_
  rintro _ w1 ⟨rfl, rfl⟩
  go_wp2_with fail
  go_ret
  exact ⟨rfl, (Chg.refl _ _).alloc _⟩
def lowPos (name : ByteArray) : List Ky → Nat
  | [] => 0
  | k :: r => if less k.name name then lowPos name r + 1 else 0
theorem lowPos_le (name : ByteArray) : ∀ l : List Ky, lowPos name l ≤ l.length
  | [] => Nat.le_refl _
  | k :: r => by
    have := lowPos_le name r
    unfold lowPos; split <;> simp <;> omega
def nameAt (l : List Ky) (i : Nat) : ByteArray := match l[i]? with
  | some k => k.name
  | none => ⟨#[]⟩
structure Rises (l : List Ky) : Prop where
  tail : ∀ (name : ByteArray) (i : Nat), i < l.length → (less (nameAt l i) name = true ↔ i < lowPos name l)
set_option maxRecDepth 100000 in
set_option maxHeartbeats 400000 in
theorem search_any (lo n : Nat) (v : Value) (ks : List Ky) (name : ByteArray) (w : World) (hr : w.ownsRow lo 87 4 v n (keyCells ks)) (hl : ks.length = n) (hn : n ≤ 1000) (hs : Rises ks) :
    Calls Tryz.prog 121 #[v, .string name, .func (.func 122) #[] #[]] w fun e w' =>
      e = .returned (.tuple #[.int .i64 (lowPos name ks), .bool (decide (lowPos name ks < n ∧ nameAt ks (lowPos name ks) = name))]) ∧ Chg (fun _ => False) w w' := by
  obtain ⟨p, cap, rfl⟩ := row_any hr
  have hP := lowPos_le name ks
  obtain ⟨Q, hQ⟩ : ∃ Q, Q = lowPos name ks := ⟨_, rfl⟩
  go_enter Tryz.func121, Tryz.ntmps121
  go_wp2
  go_loopw [9, 10, 11] (fun si sj _ wr => ∃ (i j : Nat), si = .int .i64 i ∧ sj = .int .i64 j ∧ i ≤ Q ∧ Q ≤ j ∧ j ≤ n ∧ Chg (fun _ => False) w wr) (fun si sj _ _ => (intOf sj).toNat - (intOf si).toNat)
  case atStart => exact ⟨0, n, rfl, rfl, by omega, by omega, by omega, Chg.refl _ _⟩
  case round =>
    obtain ⟨i, j, rfl, rfl, hi, hj, hjn, hc⟩ := hrel
    by_cases hij : i < j
    · have hij' : (i : Int) < (j : Int) := by omega
      obtain ⟨m, hm⟩ : ∃ m, m = (i + j) / 2 := ⟨_, rfl⟩
      have hm1 : i ≤ m := by omega
      have hm2 : m < j := by omega
      have e0 : ((i : Int) + (j : Int)) / 2 = (m : Int) := by omega
      have HM : Hid (m = (i + j) / 2) := hm
      clear hm
      obtain ⟨x, hx⟩ : ∃ x, ks[m]? = some x := ⟨_, List.getElem?_eq_getElem (by omega)⟩
      have cx := keyCells_at ks m x hx
      obtain ⟨g, cap', hv, hlg, _, hcell⟩ := row_pos hr (by omega)
      simp only [Value.slice.injEq] at hv
      obtain ⟨rfl, _, rfl⟩ := hv
      have a0 := hc.cellAt (hcell _ _ cx.1) id
      have a1 := hc.cellAt (hcell _ _ cx.2.1) id
      have a2 := hc.cellAt (hcell _ _ cx.2.2.1) id
      have a3 := hc.cellAt (hcell _ _ cx.2.2.2) id
      have hmn : (m : Int) < (n : Int) := by omega
      have hlt := hs.tail name m (by omega)
      have hnm : nameAt ks m = x.name := by simp [nameAt, hx]
      rw [hnm] at hlt
      clear hcell hr cx
      go_wp2_with fail
      refine (compareName_any x name wr).mono ?_
      rintro _ w1 ⟨rfl, hc1⟩
      by_cases hle : less x.name name = true
      · have hd : cmpN x.name name < 0 := (cmpN_lt _ _).2 hle
        have hmQ := hlt.1 hle
        rw [← hQ] at hmQ
        clear hlt hnm e0
        go_wp2_with fail
        go_roundw
        case rel => exact ⟨m + 1, j, by go_num, rfl, by omega, hj, hjn, hc.trans hc1 (fun _ _ h => h)⟩
        case measure => simp [intOf]; omega
      · have hd : ¬ cmpN x.name name < 0 := fun h => hle ((cmpN_lt _ _).1 h)
        have hmQ : ¬ m < lowPos name ks := fun h => hle (hlt.2 h)
        rw [← hQ] at hmQ
        clear hlt hnm e0
        go_wp2_with fail
        go_roundw
        case rel => exact ⟨i, m, rfl, by go_num, hi, by omega, by omega, hc.trans hc1 (fun _ _ h => h)⟩
        case measure => simp [intOf]; omega
    · have hij' : ¬ (i : Int) < (j : Int) := by omega
      have hiQ : i = Q := by omega
      subst hiQ
      by_cases hin : i < n
      · obtain ⟨x, hx⟩ : ∃ x, ks[i]? = some x := ⟨_, List.getElem?_eq_getElem (by omega)⟩
        have cx := keyCells_at ks i x hx
        obtain ⟨g, cap', hv, hlg, _, hcell⟩ := row_pos hr (by omega)
        simp only [Value.slice.injEq] at hv
        obtain ⟨rfl, _, rfl⟩ := hv
        have a0 := hc.cellAt (hcell _ _ cx.1) id
        have a1 := hc.cellAt (hcell _ _ cx.2.1) id
        have a2 := hc.cellAt (hcell _ _ cx.2.2.1) id
        have a3 := hc.cellAt (hcell _ _ cx.2.2.2) id
        have hin' : (i : Int) < (n : Int) := by omega
        have hnm : nameAt ks i = x.name := by simp [nameAt, hx]
        have HQ : Hid (i = lowPos name ks) := hQ
        clear hcell hr cx hQ
        go_wp2_with fail
        refine (compareName_any x name wr).mono ?_
        rintro _ w1 ⟨rfl, hc1⟩
        go_wp2_with fail
        go_ret2
        refine ⟨?_, hc.trans hc1 (fun _ _ h => h)⟩
        have e1 : (cmpN x.name name == 0) = decide (i < n ∧ nameAt ks i = name) := by
          rw [hnm]
          have := cmpN_eq x.name name
          by_cases h : x.name = name
          · simp [h, hin, this.2 h, (cmpN_eq name name).2 rfl]
          · have h0 : ¬ cmpN x.name name = 0 := fun h' => h (this.1 h')
            simp [h, h0]
        rw [← HQ.out, ← e1]
        rfl
      · have hin' : ¬ (i : Int) < (n : Int) := by omega
        have e1 : decide (i < n ∧ nameAt ks i = name) = false := by simp; omega
        have HQ : Hid (i = lowPos name ks) := hQ
        have E1 : Hid (decide (i < n ∧ nameAt ks i = name) = false) := e1
        clear hQ e1
        go_wp2_with fail
        go_ret2
        refine ⟨?_, hc⟩
        rw [← HQ.out]
        have d1 : decide (i < n) = false := by simp; omega
        simp [d1]
end Go.Proofs.YthedkdbgfdjlkaaGreatDoor

namespace Go.Proofs.YthedkdbgfdjlkaaGreatDoor
set_option linter.unusedVariables false
set_option linter.unusedSimpArgs false
open Go.Lib
theorem cmp_gt : ∀ (a b : List UInt8), (0 < compareBytes a b) ↔ Op.bytesLess b a = true
  | [], [] => by simp [compareBytes, Op.bytesLess]
  | [], _ :: _ => by simp [compareBytes, Op.bytesLess]
  | _ :: _, [] => by simp [compareBytes, Op.bytesLess]
  | a :: x, b :: y => by
    have ih := cmp_gt x y
    simp only [compareBytes, Op.bytesLess]
    by_cases h1 : a < b
    · have h2 : ¬ b < a := UInt8.lt_asymm h1
      have : ¬ (b == a) = true := by
        intro h; have := eq_of_beq h; subst this; exact absurd h1 (UInt8.lt_irrefl _)
      simp [h1, h2, this]
    · by_cases h2 : b < a
      · simp [h1, h2]
      · have e : a = b := by
          refine Decidable.of_not_not fun h => ?_
          rcases UInt8.lt_or_lt_of_ne h with h | h
          · exact h1 h
          · exact h2 h
        subst e
        simp [h1, ih]
theorem less_irrefl (a : ByteArray) : less a a = false := by
  have h := (cmpN_eq a a).2 rfl
  have := cmpN_lt a a
  cases e : less a a with
  | false => rfl
  | true => have := this.2 e; omega
theorem less_tri (a b : ByteArray) : less a b = true ∨ a = b ∨ less b a = true := by
  rcases Int.lt_trichotomy (cmpN a b) 0 with h | h | h
  · exact .inl ((cmpN_lt a b).1 h)
  · exact .inr (.inl ((cmpN_eq a b).1 h))
  · exact .inr (.inr ((cmp_gt _ _).1 h))
theorem bless_trans : ∀ (a b c : List UInt8), Op.bytesLess a b = true → Op.bytesLess b c = true → Op.bytesLess a c = true
  | a, b, [], _, h2 => by simp [Op.bytesLess] at h2
  | [], b, _ :: _, _, _ => by simp [Op.bytesLess]
  | x :: a, [], _ :: _, h1, _ => by simp [Op.bytesLess] at h1
  | x :: a, y :: b, z :: c, h1, h2 => by
    have ih := bless_trans a b c
    simp only [Op.bytesLess, Bool.or_eq_true, Bool.and_eq_true, beq_iff_eq, decide_eq_true_eq] at h1 h2 ⊢
    rcases h1 with h1 | ⟨rfl, h1⟩
    · rcases h2 with h2 | ⟨rfl, h2⟩
      · exact .inl (UInt8.lt_trans h1 h2)
      · exact .inl h1
    · rcases h2 with h2 | ⟨rfl, h2⟩
      · exact .inl h2
      · exact .inr ⟨rfl, ih h1 h2⟩
theorem less_trans {a b c : ByteArray} (h1 : less a b = true) (h2 : less b c = true) : less a c = true := bless_trans _ _ _ h1 h2
theorem less_asymm {a b : ByteArray} (h : less a b = true) : less b a = false := by
  cases e : less b a with
  | false => rfl
  | true => have := less_trans h e; rw [less_irrefl] at this; cases this
def Sorted (l : List Ky) : Prop := l.Pairwise fun a b => less a.name b.name = true
theorem Sorted.rises : ∀ {l : List Ky}, Sorted l → Rises l
  | [], _ => ⟨fun name i h => by simp at h⟩
  | k :: r, h => by
    obtain ⟨h1, h2⟩ := List.pairwise_cons.1 h
    have ih := Sorted.rises h2
    refine ⟨fun name i hi => ?_⟩
    by_cases hk : less k.name name = true
    · cases i with
      | zero => simp [nameAt, lowPos, hk]
      | succ i =>
        have := ih.tail name i (by simpa using hi)
        simpa [nameAt, lowPos, hk] using this
    · cases i with
      | zero => simp [nameAt, lowPos, hk]
      | succ i =>
        have hi' : i < r.length := by simpa using hi
        have hx : r[i]? = some r[i] := List.getElem?_eq_getElem hi'
        have hlt := h1 r[i] (List.getElem_mem hi')
        have : ¬ less r[i].name name = true := fun h' => hk (less_trans hlt h')
        simp [nameAt, lowPos, hk, hx, this]
theorem takeKy_found (name : ByteArray) (val : Int) : ∀ {l : List Ky}, Sorted l → ∀ {i : Nat} {k : Ky}, lowPos name l = i → l[i]? = some k → k.name = name → takeKy name val l = l.set i (k.more val)
  | [], _, i, k, _, hk, _ => by simp at hk
  | y :: r, h, i, k, hi, hk, hn => by
    obtain ⟨h1, h2⟩ := List.pairwise_cons.1 h
    by_cases hy : less y.name name = true
    · have hne : ¬ y.name = name := fun e => by rw [e, less_irrefl] at hy; cases hy
      have hna : less name y.name = false := less_asymm hy
      simp only [lowPos, hy] at hi
      subst hi
      have := takeKy_found name val h2 (i := lowPos name r) (k := k) rfl (by simpa using hk) hn
      simp [takeKy, hne, hna, this]
    · simp only [lowPos, hy] at hi
      subst hi
      simp at hk
      subst hk
      simp [takeKy, hn]
theorem takeKy_new (name : ByteArray) (val : Int) : ∀ {l : List Ky}, Sorted l → ∀ {i : Nat}, lowPos name l = i → ¬ (i < l.length ∧ nameAt l i = name) → takeKy name val l = l.take i ++ [(⟨name, 0, 0, 0⟩ : Ky).more val] ++ l.drop i
  | [], _, i, hi, _ => by simp [takeKy]
  | y :: r, h, i, hi, hno => by
    obtain ⟨h1, h2⟩ := List.pairwise_cons.1 h
    by_cases hy : less y.name name = true
    · have hne : ¬ y.name = name := fun e => by rw [e, less_irrefl] at hy; cases hy
      have hna : less name y.name = false := less_asymm hy
      simp only [lowPos, hy] at hi
      subst hi
      have := takeKy_new name val h2 (i := lowPos name r) rfl (by
        intro ⟨a, b⟩
        exact hno ⟨by simp; omega, by simpa [nameAt] using b⟩)
      simp [takeKy, hne, hna, this]
    · simp only [lowPos, hy] at hi
      subst hi
      have hne : ¬ y.name = name := fun e => hno ⟨by simp, by simpa [nameAt] using e⟩
      have hna : less name y.name = true := by
        rcases less_tri y.name name with h' | h' | h'
        · exact absurd h' hy
        · exact absurd h' hne
        · exact h'
      simp [takeKy, hne, hna]
end Go.Proofs.YthedkdbgfdjlkaaGreatDoor

namespace Go.Proofs.YthedkdbgfdjlkaaGreatDoor
set_option linter.unusedVariables false
set_option linter.unusedSimpArgs false
open Go.RowKit Go.Lib
theorem toNat_beq (c : UInt8) (n : Nat) (hn : n < 256) : (((c.toNat : Int)) == (n : Int)) = (c == UInt8.ofNat n) := by
  have h : (UInt8.ofNat n).toNat = n := by simp; omega
  by_cases e : c = UInt8.ofNat n
  · subst e; simp [h]
  · have : ¬ c.toNat = n := fun h' => e (UInt8.toNat_inj.1 (h'.trans h.symm))
    have h1 : (c == UInt8.ofNat n) = false := by simpa using e
    rw [h1]
    simp; omega
theorem c99 (c : UInt8) : (((c.toNat : Int)) == 99) = (c == 99) := toNat_beq c 99 (by omega)
theorem c115 (c : UInt8) : (((c.toNat : Int)) == 115) = (c == 115) := toNat_beq c 115 (by omega)
theorem c108 (c : UInt8) : (((c.toNat : Int)) == 108) = (c == 108) := toNat_beq c 108 (by omega)
theorem foldOne_c {k : ByteArray} {n f v : Int} {c : UInt8} {r : List UInt8} (hk : k.data.toList = c :: r) : foldOne k n f v = if c == 99 then n else if c == 115 then (f + v) % 4294967296 else if c == 108 then v else max f v := by
  simp only [foldOne, hk]
set_option maxRecDepth 100000 in
set_option maxHeartbeats 400000 in
theorem fold_any (k : Ky) (val : Int) (w : World) (c : UInt8) (r : List UInt8) (hk : k.name.data.toList = c :: r) (hf : 0 ≤ k.fold ∧ k.fold ≤ 4294967295) (hv : 0 ≤ val ∧ val ≤ 4294967295) (hok : okFirst c = true) :
    Calls Tryz.prog 149 #[k.agg, .int .i64 val] w fun e w' => e = .returned (.int .i64 (foldOne k.name k.count k.fold val)) ∧ Chg (fun _ => False) w w' := by
  obtain ⟨hf0, hf1⟩ := hf
  obtain ⟨hv0, hv1⟩ := hv
  have hlen : 0 < k.name.size := by show 0 < k.name.data.size; rw [← Array.length_toList, hk]; simp
  have h0 : k.name[0] = c := by
    have : k.name.data.toList[0]'(by rw [hk]; simp) = c := by simp [hk]
    exact this
  unfold Ky.agg
  go_enter Tryz.func149, Tryz.ntmps149
  go_wp2
  all_goals
    go_ret
    refine ⟨?_, (Chg.refl _ w).alloc _⟩
    rw [foldOne_c hk, ← c99, ← c115, ← c108]
    simp [*]
end Go.Proofs.YthedkdbgfdjlkaaGreatDoor
