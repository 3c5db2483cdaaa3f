/- The relay's calls, WALKED: New, Accept, State. -/
import Derived.Test.YtdoedjmdcmgddaaGreatF3
import Derived.Test.YtdoedjmdcmgddaaGreatG2
import Derived.Test.YtdoedjmdcmgddaaGreatLocks
import Derived.Defers
import Derived.Deep.RegionHeld3
namespace Go.Proofs.YtdoedjmdcmgddaaGreat
set_option linter.unusedVariables false
set_option linter.unusedSimpArgs false
open Go.RowKit Go.Lib Go.Conc.Locks

/-- What the flow's Accept answers, whatever comes. -/
def accF (E B : Nat → Int) (Q : Nat → List Wt) (ks : List Ky) (x : Rec) : (Int × Int) × Option (Int × Int × List Wt × List Ky) :=
  if recErr x ≠ 0 then ((0, recErr x), none) else if x.epoch < E x.session.toNat then ((0, 4), none) else accH E B Q ks x.session.toNat x.epoch x.number x.key x.value

theorem flowAccept_any {w : World} {lo b o : Nat} {E B : Nat → Int} {V : Nat → Value} {vk : Value} {Q : Nat → List Wt} {ks : List Ky} (hF : FlowAt w lo b o E B V vk Q ks) (hfit : FlowFit E B Q ks) (x : Rec) (hx : x.fits) :
    Calls Tryz.prog 28 #[.pointer (some ⟨b, o, none⟩), x.value'] w fun e w' =>
      e = .returned (.tuple #[.int .i64 (accF E B Q ks x).1.1, .int .i64 (accF E B Q ks x).1.2]) ∧ AccPost lo b o x.session.toNat E B V vk Q w w' (accF E B Q ks x).2 := by
  by_cases hbad : recErr x ≠ 0
  · have e : accF E B Q ks x = ((0, recErr x), none) := by unfold accF; rw [if_pos hbad]
    rw [e]
    exact flowAccept_bad b o x w hx hbad
  · have hgood : recErr x = 0 := by simpa using hbad
    have hs : 0 ≤ x.session ∧ x.session < 4 := by
      unfold recErr at hgood
      split at hgood
      · cases hgood
      · omega
    obtain ⟨se, ep, num, key, val⟩ := x
    simp only at hs
    obtain ⟨s, rfl⟩ : ∃ s : Nat, se = s := ⟨se.toNat, by omega⟩
    have hs4 : s < 4 := by omega
    by_cases hep : ep < E s
    · have e : accF E B Q ks ⟨s, ep, num, key, val⟩ = ((0, 4), none) := by unfold accF; rw [if_neg hbad]; simp [hep]
      rw [e]
      exact flowAccept_old lo b o s E B V vk Q ks ep num val key w hs4 hF hx hgood hep
    · have e : accF E B Q ks ⟨s, ep, num, key, val⟩ = accH E B Q ks s ep num key val := by unfold accF; rw [if_neg hbad]; simp [hep]
      rw [e]
      exact flowAccept_new lo b o s E B V vk Q ks ep num val key w hs4 hF hfit hx hgood hep

/-- The relay's own cells, ahead of its flow: nobody holds a lock. -/
structure Head (w : World) (b : Nat) (d : Int) (c : Bool) : Prop where
  mu : w.cell? ⟨b, 0, none⟩ = some (.int .i32 0)
  dn : w.cell? ⟨b, 2, none⟩ = some (.int .u32 d)
  om : w.cell? ⟨b, 3, none⟩ = some (.int .i32 0)
  cl : w.cell? ⟨b, 5, none⟩ = some (.bool c)
  fz : ∀ j, w.frozen? ⟨b, j, none⟩ = false

set_option maxHeartbeats 400000 in
theorem New_cells (w : World) : Calls Tryz.prog 9 #[] w fun e w' => e = .returned (.pointer (some ⟨w.heap.size, 0, none⟩)) ∧
    w' = w.alloc (.cells #[.int .i32 0, .int .u32 0, .int .u32 0, .int .i32 0, .int .u32 0, .bool false, .int .i64 0, .int .i64 0, .slice none 0 0, .int .i64 0, .int .i64 0, .slice none 0 0, .int .i64 0, .int .i64 0, .slice none 0 0, .int .i64 0, .int .i64 0, .slice none 0 0, .slice none 0 0] 100) := by
  go_enter Tryz.func9, Tryz.ntmps9
  go_wp2_with fail
  go_ret
  exact ⟨rfl, rfl⟩

/-- The relay's lock is taken. -/
structure Held (W w1 : World) (b : Nat) : Prop where
  eq : w1 = W.setCell ⟨b, 0, none⟩ (.int .i32 1)

theorem Held.slots {W w1 : World} {b : Nat} (h : Held W w1 b) : Slots b (fun j => j = 0) W w1 := by
  rw [h.eq]; exact (Slots.refl b _ W).setCell (p := ⟨b, 0, none⟩) _ (fun _ => rfl)
theorem Held.chg {W w1 : World} {b : Nat} (h : Held W w1 b) : Chg (fun k => k = b) W w1 := by
  rw [h.eq]; exact (Chg.refl (fun k => k = b) W).setCell (p := ⟨b, 0, none⟩) (fun _ => rfl) _
theorem Held.cell {W w1 : World} {b : Nat} (h : Held W w1 b) {v : Value} (hc : W.cell? ⟨b, 0, none⟩ = some v) : w1.cell? ⟨b, 0, none⟩ = some (.int .i32 1) := by
  rw [h.eq]; exact World.cell?_setCell_same _ _ _ hc

theorem lock_rel (b : Nat) (W : World) (h0 : W.cell? ⟨b, 0, none⟩ = some (.int .i32 0)) (hz : W.frozen? ⟨b, 0, none⟩ = false) :
    Calls Tryz.prog 26 #[.pointer (some ⟨b, 0, none⟩)] W fun e w1 => e = .returned (.tuple #[]) ∧ Held W w1 b :=
  (Go.MuLone.lock_free Tryz.muLib ⟨b, 0, none⟩ W h0 hz).mono (fun _ _ ⟨h1, h2⟩ => ⟨h1, ⟨h2⟩⟩)

/-- The door: the lock is let go. -/
theorem door {fn : Func} {tmps : Array Value} {R : Ending → World → Prop} {b : Nat} {w2 : World} {v : Value} (hc : w2.cell? ⟨b, 0, none⟩ = some (.int .i32 1)) (hz : w2.frozen? ⟨b, 0, none⟩ = false)
    (hres : (results fn tmps).run Tryz.prog (w2.setCell ⟨b, 0, none⟩ (.int .i32 0)) = .ok v (w2.setCell ⟨b, 0, none⟩ (.int .i32 0))) (hR : R (.returned v) (w2.setCell ⟨b, 0, none⟩ (.int .i32 0))) :
    Leaves Tryz.prog fn tmps R [{ target := .fn (.func 27) #[], args := #[.pointer (some ⟨b, 0, none⟩)] }] .returning w2 := by
  refine leaves_cons (f := 27) (args := #[.pointer (some ⟨b, 0, none⟩)]) (by simp) (by kernel_rfl) ?_
  refine (Go.MuLone.unlock_deferred Tryz.muLib ⟨b, 0, none⟩ _ _ hc hz).mono ?_
  rintro e u' w'' ⟨rfl, rfl, rfl⟩
  exact ⟨v, hres, hR⟩

theorem Head.chg {F : Nat → Prop} {w w' : World} {b : Nat} {d : Int} {c : Bool} (h : Head w b d c) (hc : Chg F w w') (hF : ¬ F b) : Head w' b d c :=
  ⟨hc.cellAt h.mu hF, hc.cellAt h.dn hF, hc.cellAt h.om hF, hc.cellAt h.cl hF, fun j => (World.frozen?_of_block (w := w) (hc.block b (World.block_lt_of_cell? _ _ h.mu) hF)).trans (h.fz j)⟩

/-- Behind the door. -/
theorem Head.back {W w1 : World} {b : Nat} {d : Int} {c : Bool} {S : Nat → Prop} (h : Head W b d c) (sl : Slots b S W w1) (hS : ∀ j, S j → j = 0 ∨ 6 ≤ j) (h0 : w1.cell? ⟨b, 0, none⟩ = some (.int .i32 1)) : Head (w1.setCell ⟨b, 0, none⟩ (.int .i32 0)) b d c := by
  have sl2 : Slots b (fun j => j = 0 ∨ 6 ≤ j) W (w1.setCell ⟨b, 0, none⟩ (.int .i32 0)) := (sl.mono hS).setCell (p := ⟨b, 0, none⟩) _ (fun _ => .inl rfl)
  exact ⟨World.cell?_setCell_same _ _ _ h0, (sl2.cell 2 (by omega)).trans h.dn, (sl2.cell 3 (by omega)).trans h.om, (sl2.cell 5 (by omega)).trans h.cl, fun j => (sl2.frozen j).trans (h.fz j)⟩

set_option maxHeartbeats 400000 in
theorem accept_closed (b : Nat) (x : Rec) (w : World) (h : Head w b 1 true) :
    Calls Tryz.prog 12 #[.pointer (some ⟨b, 0, none⟩), x.value'] w fun e w' => e = .returned (.tuple #[.int .i64 0, .int .i64 1]) ∧ Head w' b 1 true ∧ Chg (fun k => k = b) w w' := by
  have hbl : b < w.heap.size := World.block_lt_of_cell? _ _ h.mu
  have cW : Chg (fun _ => False) w (w.alloc (.cells #[.int .i64 x.session, .int .i64 x.epoch, .int .i64 x.number, .string x.key, .int .i64 x.value] 37)) := (Chg.refl _ w).alloc _
  have hW := h.chg cW id
  have hlk := lock_rel b _ hW.mu (hW.fz 0)
  unfold Rec.value'
  go_enter_defers Tryz.func12, Tryz.ntmps12
  go_wp2_with (go_at_call 26; refine hlk.mono ?_; rintro _ w1 ⟨rfl, h1⟩; have c5 := (h1.slots.cell 5 (by omega)).trans hW.cl)
  refine door (v := .tuple #[.int .i64 0, .int .i64 1]) (h1.cell hW.mu) ((h1.slots.frozen 0).trans (hW.fz 0)) ?_ ⟨rfl, hW.back h1.slots (fun j hj => .inl hj) (h1.cell hW.mu), ?_⟩
  · simp [results, Tryz.results12, go_sem]
  · exact ((cW.mono (fun _ h => h.elim)).trans h1.chg (fun _ _ h => h)).setCell (p := ⟨b, 0, none⟩) (fun _ => rfl) _

theorem FlowAt.beside {w w' : World} {lo b o : Nat} {E B : Nat → Int} {V : Nat → Value} {vk : Value} {Q : Nat → List Wt} {ks : List Ky} {S : Nat → Prop} (h : FlowAt w lo b o E B V vk Q ks) (sl : Slots b S w w') (hS : ∀ j, S j → j < o ∨ o + 13 ≤ j) (cg : Chg (fun k => k = b) w w') : FlowAt w' lo b o E B V vk Q ks :=
  ⟨⟨fun i hi => (sl.cell _ (fun hs => by have := hS _ hs; omega)).trans (h.cells.ep i hi), fun i hi => (sl.cell _ (fun hs => by have := hS _ hs; omega)).trans (h.cells.ba i hi), fun i hi => (sl.cell _ (fun hs => by have := hS _ hs; omega)).trans (h.cells.qu i hi), (sl.cell _ (fun hs => by have := hS _ hs; omega)).trans h.cells.le⟩,
   fun j => (sl.frozen j).trans (h.froz j), fun i hi => cg.row' (h.rows i hi) (fun k hk e => h.own i hi (by rw [← e]; exact hk)), cg.row' h.keys (fun k hk e => h.ownk (by rw [← e]; exact hk)), h.own, h.ownk, h.sep, h.sepk, Nat.le_trans h.low cg.size⟩

/-- What becomes of a flow's numbers. -/
def nxE (E : Nat → Int) (s : Nat) : Option (Int × Int × List Wt × List Ky) → Nat → Int
  | none => E
  | some r => upd E s r.1
def nxB (B : Nat → Int) (s : Nat) : Option (Int × Int × List Wt × List Ky) → Nat → Int
  | none => B
  | some r => upd B s r.2.1
def nxQ (Q : Nat → List Wt) (s : Nat) : Option (Int × Int × List Wt × List Ky) → Nat → List Wt
  | none => Q
  | some r => upd Q s r.2.2.1
def nxK (ks : List Ky) : Option (Int × Int × List Wt × List Ky) → List Ky
  | none => ks
  | some r => r.2.2.2

/-- The blocks of a flow beside its own. -/
def Rows (V : Nat → Value) (vk : Value) (k : Nat) : Prop := (∃ i, i < 4 ∧ (V i).ownBlock = some k) ∨ vk.ownBlock = some k

theorem AccPost.next {w1 w2 : World} {lo b o s : Nat} {E B : Nat → Int} {V : Nat → Value} {vk : Value} {Q : Nat → List Wt} {ks : List Ky} {r : Option (Int × Int × List Wt × List Ky)} (hs : s < 4 ∨ r = none) (hF : FlowAt w1 lo b o E B V vk Q ks) (h : AccPost lo b o s E B V vk Q w1 w2 r) :
    ∃ V' vk', FlowAt w2 lo b o (nxE E s r) (nxB B s r) V' vk' (nxQ Q s r) (nxK ks r) ∧ (∀ k, Rows V' vk' k → Rows V vk k ∨ w1.heap.size ≤ k) ∧ Slots b (fun j => o ≤ j ∧ j < o + 13) w1 w2 ∧ Chg (fun k => k = b ∨ Rows V vk k) w1 w2 := by
  have hbl : b < w1.heap.size := World.block_lt_of_cell? _ _ hF.cells.le
  cases r with
  | none =>
    have h' : Chg (fun _ => False) w1 w2 := h
    exact ⟨V, vk, hF.chg hbl h' id (fun _ _ _ _ => id) (fun _ _ => id), fun k hk => .inl hk, Slots.of_chg _ h' hbl id, h'.mono (fun _ h => h.elim)⟩
  | some r =>
    obtain ⟨e', b', q', ks'⟩ := r
    have hs : s < 4 := hs.resolve_right (by simp)
    obtain ⟨v', vk', h1, h2, h3, h4, h5⟩ := h
    refine ⟨_, vk', h1, fun k hk => ?_, h4, h5.mono (fun k hk => ?_)⟩
    · rcases hk with ⟨i, hi, hk⟩ | hk
      · by_cases e : i = s
        · subst e
          rw [upd_same] at hk
          exact (h2 k hk).imp (fun h => .inl ⟨i, hi, h⟩) id
        · rw [upd_ne _ _ e] at hk
          exact .inl (.inl ⟨i, hi, hk⟩)
      · exact (h3 k hk).imp (fun h => .inr h) id
    · rcases hk with hk | hk | hk
      · exact .inl hk
      · exact .inr (.inl ⟨s, hs, hk⟩)
      · exact .inr (.inr hk)

theorem accF_lt {E B : Nat → Int} {Q : Nat → List Wt} {ks : List Ky} {x : Rec} : x.session.toNat < 4 ∨ (accF E B Q ks x).2 = none := by
  unfold accF
  by_cases h : recErr x ≠ 0
  · rw [if_pos h]; exact .inr rfl
  · left
    have hgood : recErr x = 0 := by simpa using h
    unfold recErr at hgood
    split at hgood
    · cases hgood
    · omega

set_option maxRecDepth 100000 in
set_option maxHeartbeats 1000000 in
theorem accept_open {w : World} {lo b : Nat} {E B : Nat → Int} {V : Nat → Value} {vk : Value} {Q : Nat → List Wt} {ks : List Ky} (h : Head w b 0 false) (hF : FlowAt w lo b 6 E B V vk Q ks) (hfit : FlowFit E B Q ks) (x : Rec) (hx : x.fits) :
    Calls Tryz.prog 12 #[.pointer (some ⟨b, 0, none⟩), x.value'] w fun e w' => e = .returned (.tuple #[.int .i64 (accF E B Q ks x).1.1, .int .i64 (accF E B Q ks x).1.2]) ∧ Head w' b 0 false ∧
      ∃ V' vk', FlowAt w' lo b 6 (nxE E x.session.toNat (accF E B Q ks x).2) (nxB B x.session.toNat (accF E B Q ks x).2) V' vk' (nxQ Q x.session.toNat (accF E B Q ks x).2) (nxK ks (accF E B Q ks x).2) ∧
        (∀ k, Rows V' vk' k → Rows V vk k ∨ w.heap.size ≤ k) ∧ Chg (fun k => k = b ∨ Rows V vk k) w w' := by
  have hbl : b < w.heap.size := World.block_lt_of_cell? _ _ h.mu
  have cW : Chg (fun _ => False) w (w.alloc (.cells #[.int .i64 x.session, .int .i64 x.epoch, .int .i64 x.number, .string x.key, .int .i64 x.value] 37)) := (Chg.refl _ w).alloc _
  have hW := h.chg cW id
  have hFW := hF.chg hbl cW id (fun _ _ _ _ => id) (fun _ _ => id)
  have hlk := lock_rel b _ hW.mu (hW.fz 0)
  have hfa := fun (W : World) (hF : FlowAt W lo b 6 E B V vk Q ks) => flowAccept_any hF hfit x hx
  obtain ⟨r, hr⟩ : ∃ r, r = accF E B Q ks x := ⟨_, rfl⟩
  have hlt := accF_lt (E := E) (B := B) (Q := Q) (ks := ks) (x := x)
  rw [← hr] at hlt ⊢
  rw [← hr] at hfa
  obtain ⟨⟨r1, r2⟩, ro⟩ := r
  simp only at hlt hfa ⊢
  have HFA : Hid (∀ (W : World), FlowAt W lo b 6 E B V vk Q ks → _) := hfa
  clear hfa hr
  unfold Rec.value' at HFA ⊢
  go_enter_defers Tryz.func12, Tryz.ntmps12
  go_wp2_with (go_at_call 26; refine hlk.mono ?_; rintro _ w1 ⟨rfl, h1⟩; have c5 := (h1.slots.cell 5 (by omega)).trans hW.cl; have hF1 := hFW.beside h1.slots (fun j hj => .inl (by omega)) h1.chg)
  have hne : ¬ w.heap.size = b := by omega
  have a0 := h1.chg.cellAt (World.cell?_alloc_at (w := w) #[.int .i64 x.session, .int .i64 x.epoch, .int .i64 x.number, .string x.key, .int .i64 x.value] 37 w.heap.size 0 rfl) hne
  have a1 := h1.chg.cellAt (World.cell?_alloc_at (w := w) #[.int .i64 x.session, .int .i64 x.epoch, .int .i64 x.number, .string x.key, .int .i64 x.value] 37 w.heap.size 1 rfl) hne
  have a2 := h1.chg.cellAt (World.cell?_alloc_at (w := w) #[.int .i64 x.session, .int .i64 x.epoch, .int .i64 x.number, .string x.key, .int .i64 x.value] 37 w.heap.size 2 rfl) hne
  have a3 := h1.chg.cellAt (World.cell?_alloc_at (w := w) #[.int .i64 x.session, .int .i64 x.epoch, .int .i64 x.number, .string x.key, .int .i64 x.value] 37 w.heap.size 3 rfl) hne
  have a4 := h1.chg.cellAt (World.cell?_alloc_at (w := w) #[.int .i64 x.session, .int .i64 x.epoch, .int .i64 x.number, .string x.key, .int .i64 x.value] 37 w.heap.size 4 rfl) hne
  simp only [List.getElem_toArray, List.getElem_cons_zero, List.getElem_cons_succ] at a0 a1 a2 a3 a4
  have hbl1 : b < w1.heap.size := Nat.lt_of_lt_of_le (Nat.lt_of_lt_of_le hbl cW.size) h1.chg.size
  have hF2 := hF1.chg hbl1 (((Quiet.refl w1).drew).chg (fun _ => False)) id (fun _ _ _ _ => id) (fun _ _ => id)
  have m1 := h1.cell hW.mu
  have z1 := (h1.slots.frozen 0).trans (hW.fz 0)
  clear hlk
  refine wp_region_noPanic ?_
  go_region_with (go_at_call 28; refine (HFA.out _ hF2).mono ?_; rintro _ w2 ⟨rfl, hp⟩)
  all_goals
    refine NoPanic.normal ?_
    go_wp2_with fail
    obtain ⟨V', vk', t1, t2, t3, t4⟩ := hp.next hlt hF2
    have t3' : Slots b (fun j => j = 0 ∨ 6 ≤ j) w1 w2 := (Slots.of_chg _ (((Quiet.refl w1).drew).chg (fun _ => False)) hbl1 id).trans t3 (fun j hj => .inr hj.1)
    have m2 : w2.cell? ⟨b, 0, none⟩ = some (.int .i32 1) := (t3.cell 0 (by omega)).trans m1
    have z2 : w2.frozen? ⟨b, 0, none⟩ = false := (t3.frozen 0).trans z1
    have g2 : Chg (fun k => k = b) w2 (w2.setCell ⟨b, 0, none⟩ (.int .i32 0)) := (Chg.refl (fun k => k = b) w2).setCell (p := ⟨b, 0, none⟩) (fun _ => rfl) _
    have s2 : Slots b (fun j => j = 0) w2 (w2.setCell ⟨b, 0, none⟩ (.int .i32 0)) := (Slots.refl b _ w2).setCell (p := ⟨b, 0, none⟩) _ (fun _ => rfl)
    have c01 : Chg (fun k => k = b ∨ Rows V vk k) w w1 := (cW.mono (fun _ h => h.elim)).trans h1.chg (fun _ _ h => .inl h)
    refine door (v := .tuple #[.int .i64 r1, .int .i64 r2]) m2 z2 ?_ ⟨rfl, hW.back ((h1.slots.mono (fun j hj => .inl hj)).trans t3' (fun j hj => hj)) (fun j hj => hj) m2, V', vk', t1.beside s2 (fun j hj => .inl (by omega)) g2, fun k hk => (t2 k hk).imp id (fun h => Nat.le_trans c01.size h), ((c01.trans (((Quiet.refl w1).drew).chg (fun _ => False)) (fun _ _ h => h.elim)).trans t4 (fun _ _ h => h)).trans g2 (fun _ _ h => .inl h)⟩
    simp [results, Tryz.results12, go_sem]

end Go.Proofs.YtdoedjmdcmgddaaGreat
