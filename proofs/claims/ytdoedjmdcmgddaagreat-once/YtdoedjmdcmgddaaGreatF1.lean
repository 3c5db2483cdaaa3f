/- The flow's Accept, WALKED. -/
import Derived.Test.YtdoedjmdcmgddaaGreatD1
namespace Go.Proofs.YtdoedjmdcmgddaaGreat
set_option linter.unusedVariables false
set_option linter.unusedSimpArgs false
open Go.RowKit Go.Lib

/-- A flow at ⟨b, o⟩ in memory. -/
structure FlowAt (w : World) (lo b o : Nat) (E B : Nat → Int) (V : Nat → Value) (vk : Value) (Q : Nat → List Wt) (ks : List Ky) : Prop where
  cells : FlowCells w b o E B V vk
  froz : ∀ j, w.frozen? ⟨b, j, none⟩ = false
  rows : ∀ i, i < 4 → w.ownsRow lo 144 3 (V i) (Q i).length (wtCells (Q i))
  keys : w.ownsRow lo 60 4 vk ks.length (keyCells ks)
  own : ∀ i, i < 4 → (V i).ownBlock ≠ some b
  ownk : vk.ownBlock ≠ some b
  sep : ∀ i j, i < 4 → j < 4 → i ≠ j → ∀ g, (V i).ownBlock = some g → (V j).ownBlock ≠ some g
  sepk : ∀ i, i < 4 → ∀ g, (V i).ownBlock = some g → vk.ownBlock ≠ some g
  low : lo ≤ w.heap.size

/-- What its numbers keep to. -/
structure FlowFit (E B : Nat → Int) (Q : Nat → List Wt) (ks : List Ky) : Prop where
  ql : ∀ i, i < 4 → (Q i).length ≤ 3
  kl : ks.length ≤ 4
  led : Led ks (qLens Q 4)
  ba : ∀ i, i < 4 → 0 ≤ B i ∧ B i ≤ counts ks
  wok : ∀ i, i < 4 → ∀ x ∈ Q i, x.ok

def upd {α : Type} (f : Nat → α) (i : Nat) (x : α) : Nat → α := fun j => if j = i then x else f j

/-- The session, its epoch turned where a later one comes. -/
def tE (E : Nat → Int) (s : Nat) (ep : Int) : Int := if E s < ep then ep else E s
def tB (E B : Nat → Int) (s : Nat) (ep : Int) : Int := if E s < ep then 0 else B s
def tQ (E : Nat → Int) (Q : Nat → List Wt) (s : Nat) (ep : Int) : List Wt := if E s < ep then [] else Q s

set_option maxRecDepth 100000 in
set_option maxHeartbeats 400000 in
theorem flowAccept_bad (b o : Nat) (x : Rec) (w : World) (hx : x.fits) (hbad : recErr x ≠ 0) :
    Calls Tryz.prog 28 #[.pointer (some ⟨b, o, none⟩), x.value'] w fun e w' => e = .returned (.tuple #[.int .i64 0, .int .i64 (recErr x)]) ∧ Chg (fun _ => False) w w' := by
  have hcr := checkRecord_any x (w.alloc (.cells #[.int .i64 x.session, .int .i64 x.epoch, .int .i64 x.number, .string x.key, .int .i64 x.value] 37)) hx
  have hne : (recErr x != 0) = true := by simpa using hbad
  unfold Rec.value' at hcr ⊢
  go_enter Tryz.func28, Tryz.ntmps28
  go_wp2_with fail
  refine hcr.mono ?_
  rintro _ w1 ⟨rfl, c1⟩
  go_wp2_with fail
  go_ret2
  exact ⟨rfl, ((Chg.refl _ w).alloc _).trans c1 (fun _ _ h => h)⟩

set_option maxRecDepth 100000 in
set_option maxHeartbeats 2000000 in
theorem flowAccept_old (lo b o s : Nat) (E B : Nat → Int) (V : Nat → Value) (vk : Value) (Q : Nat → List Wt) (ks : List Ky) (ep num val : Int) (key : ByteArray) (w : World) (hs : s < 4) (hF : FlowAt w lo b o E B V vk Q ks) (hx : (⟨s, ep, num, key, val⟩ : Rec).fits) (hgood : recErr ⟨s, ep, num, key, val⟩ = 0) (hep : ep < E s) :
    Calls Tryz.prog 28 #[.pointer (some ⟨b, o, none⟩), (⟨s, ep, num, key, val⟩ : Rec).value'] w fun e w' => e = .returned (.tuple #[.int .i64 0, .int .i64 4]) ∧ Chg (fun _ => False) w w' := by
  have hcr := checkRecord_any ⟨s, ep, num, key, val⟩ (w.alloc (.cells #[.int .i64 s, .int .i64 ep, .int .i64 num, .string key, .int .i64 val] 37)) hx
  rw [hgood] at hcr
  have hes := hF.cells.ep s hs
  have hbl : b < w.heap.size := World.block_lt_of_cell? _ _ hes
  have hs' : (s : Int) < 4 := by omega
  unfold Rec.value' at hcr ⊢
  go_enter Tryz.func28, Tryz.ntmps28
  go_wp2_with fail
  refine hcr.mono ?_
  rintro _ w1 ⟨rfl, c1⟩
  have c01 : Chg (fun _ => False) w w1 := ((Chg.refl _ w).alloc _).trans c1 (fun _ _ h => h)
  have x0 := c1.cellAt (World.cell?_alloc_at (w := w) #[.int .i64 s, .int .i64 ep, .int .i64 num, .string key, .int .i64 val] 37 w.heap.size 0 rfl) id
  have x1 := c1.cellAt (World.cell?_alloc_at (w := w) #[.int .i64 s, .int .i64 ep, .int .i64 num, .string key, .int .i64 val] 37 w.heap.size 1 rfl) id
  replace hes := c01.cellAt hes id
  simp only [List.getElem_toArray, List.getElem_cons_zero, List.getElem_cons_succ] at x0 x1
  clear hcr
  go_wp2_with fail
  go_quiet (fail)
  go_wp2_with fail
  go_ret2
  exact ⟨rfl, c01.trans (((Quiet.refl _).drewN _).chg _) (fun _ _ h => h)⟩

end Go.Proofs.YtdoedjmdcmgddaaGreat
