import Derived.Test.YthedkdbgfdjlkaaGreatDoorPack1
import Derived.Test.YthedkdbgfdjlkaaGreatDoorPack2
import Derived.Test.YthedkdbgfdjlkaaGreatDoorPack3
import Derived.Test.YthedkdbgfdjlkaaGreatDoorPack4
import Derived.Test.YthedkdbgfdjlkaaGreatDoorPack5
import Derived.Test.YthedkdbgfdjlkaaGreatDoorPack6
import Derived.Test.YthedkdbgfdjlkaaGreatDoorPack7
import Derived.Test.YthedkdbgfdjlkaaGreatDoorPack8
import Derived.Test.YthedkdbgfdjlkaaGreatDoorPack9
import Derived.Test.YthedkdbgfdjlkaaGreatDoorPack10
/- culvertref IS THE DOCUMENT'S RELAY: its calls, each held to Model's words. -/
namespace Go.Proofs.YthedkdbgfdjlkaaGreatDoor
set_option linter.unusedVariables false
set_option linter.unusedSimpArgs false
open Go.RowKit Go.Lib

theorem sorted_ext : ∀ {a b : List Int}, (a.Pairwise fun x y => x < y) → (b.Pairwise fun x y => x < y) → (∀ x, x ∈ a ↔ x ∈ b) → a = b
  | [], [], _, _, _ => rfl
  | [], y :: r, _, _, h => by have := (h y).2 (by simp); simp at this
  | x :: r, [], _, _, h => by have := (h x).1 (by simp); simp at this
  | x :: r, y :: t, ha, hb, h => by
    obtain ⟨a1, a2⟩ := List.pairwise_cons.1 ha
    obtain ⟨b1, b2⟩ := List.pairwise_cons.1 hb
    have hxy : x = y := by
      have h1 := (h x).1 (by simp)
      have h2 := (h y).2 (by simp)
      rcases List.mem_cons.1 h1 with e | e
      · exact e
      · rcases List.mem_cons.1 h2 with e2 | e2
        · exact e2.symm
        · have := b1 x e
          have := a1 y e2
          omega
    subst hxy
    congr 1
    refine sorted_ext a2 b2 (fun z => ?_)
    constructor
    · intro hz
      rcases List.mem_cons.1 ((h z).1 (by simp [hz])) with e | e
      · have := a1 z hz; omega
      · exact e
    · intro hz
      rcases List.mem_cons.1 ((h z).2 (by simp [hz])) with e | e
      · have := b1 z hz; omega
      · exact e

theorem numsR_mem (q : List Rec) (b : Int) (m : Int) : ∀ n, m ∈ numsR q b n ↔ b ≤ m ∧ m < b + n ∧ ∃ x ∈ q, x.number = m
  | 0 => by simp [numsR]; omega
  | n + 1 => by
    have hi : 0 ≤ idxR (b + n) q 0 ↔ ∃ x ∈ q, x.number = b + n := by
      rcases idxR_lt (b + n) q 0 with e | ⟨j, hj, e⟩
      · constructor
        · intro h; omega
        · rintro ⟨x, hx, ex⟩
          exact absurd ex (idxR_none.1 e x hx)
      · constructor
        · intro _
          obtain ⟨x, hx, ex⟩ := idxR_some e
          exact ⟨x, List.mem_of_getElem? hx, ex⟩
        · intro _; omega
    simp only [numsR, List.mem_append, numsR_mem q b m n]
    by_cases h : 0 ≤ idxR (b + n) q 0
    · rw [if_pos h]
      constructor
      · rintro (⟨h1, h2, h3⟩ | h1)
        · exact ⟨h1, by omega, h3⟩
        · simp at h1
          subst h1
          exact ⟨by omega, by omega, hi.1 h⟩
      · rintro ⟨h1, h2, h3⟩
        by_cases e : m = b + n
        · right; simp [e]
        · left; exact ⟨h1, by omega, h3⟩
    · rw [if_neg h]
      constructor
      · rintro (⟨h1, h2, h3⟩ | h1)
        · exact ⟨h1, by omega, h3⟩
        · simp at h1
      · rintro ⟨h1, h2, h3⟩
        left
        refine ⟨h1, ?_, h3⟩
        by_cases e : m = b + n
        · subst e; exact absurd (hi.2 h3) h
        · omega

theorem numsR_up (q : List Rec) (b : Int) : ∀ n, (numsR q b n).Pairwise fun x y => x < y
  | 0 => List.Pairwise.nil
  | n + 1 => by
    simp only [numsR]
    rw [List.pairwise_append]
    refine ⟨numsR_up q b n, by split <;> simp, fun x hx y hy => ?_⟩
    have := (numsR_mem q b x n).1 hx
    split at hy
    · simp at hy; omega
    · simp at hy

theorem nums_both {q : List Rec} {ws : List Wt} {b : Int} (hp : (q.map Rec.wt).Perm ws) (hu : ws.Pairwise fun a b => a.num < b.num) (hw : ∀ y ∈ ws, b < y.num ∧ y.num < b + 4) : numsR q b 4 = ws.map (·.num) := by
  refine sorted_ext (numsR_up q b 4) (by rw [List.pairwise_map]; exact hu) (fun m => ?_)
  rw [numsR_mem]
  constructor
  · rintro ⟨_, _, x, hx, e⟩
    exact List.mem_map.2 ⟨x.wt, hp.mem_iff.1 (List.mem_map.2 ⟨x, hx, rfl⟩), e⟩
  · intro h
    obtain ⟨y, hy, e⟩ := List.mem_map.1 h
    have h1 := hw y hy
    obtain ⟨x, hx, ex⟩ := List.mem_map.1 (hp.mem_iff.2 hy)
    exact ⟨by omega, by omega, x, hx, by rw [← e, ← ex]; rfl⟩

/-- The blocks of a relay beside its own. -/
def RRows (V : Nat → Value) (vt vh : Value) (k : Nat) : Prop := (∃ i, i < 4 ∧ (V i).ownBlock = some k) ∨ vt.ownBlock = some k ∨ vh.ownBlock = some k

/-- What the lists keep to, closed or not. -/
structure RFit (T : List Rec) (Hs : List Hd) (N : Nat) : Prop where
  t : T.length ≤ 1000
  h : Hs.length ≤ N
  val : ∀ x ∈ T, (0 ≤ x.value ∧ x.value ≤ 4294967295) ∧ okKey x.key = true
  tok : ∀ p ∈ Hs, 0 ≤ p.token ∧ p.token ≤ 1000

def RefCase (N : Nat) (w : World) (b : Nat) (F : Nat → Prop) (o : Option St) : Prop :=
  ∃ (E B : Nat → Int) (V : Nat → Value) (vt vh : Value) (Q : Nat → List Rec) (T : List Rec) (Hs : List Hd), RefAt w 0 b E B V vt vh Q T Hs o.isNone ∧ RFit T Hs N ∧ (∀ s, o = some s → RTie E B Q T Hs s) ∧ ∀ k, RRows V vt vh k → F k

/-- A relay of culvertref in memory: of N answers at most. -/
def RefRel (N : Nat) (w : World) (a : Addr) (o : Option St) (F : Nat → Prop) : Prop := ∃ b, a = ⟨b, 0, none⟩ ∧ F b ∧ (∀ k, F k → k < w.heap.size) ∧ RefCase N w b F o

theorem RTie.fit {E B : Nat → Int} {Q : Nat → List Rec} {T : List Rec} {Hs : List Hd} {s : St} (h : RTie E B Q T Hs s) {N : Nat} (hN : Hs.length ≤ N) : RFit T Hs N := by
  have hw := (waitsR_range Q (fun i hi => by have := h.short hi; omega) 4 (by omega)).1
  have ht := h.tot
  refine ⟨by omega, hN, h.val, fun p hp => ?_⟩
  have h1 := h.tok p hp
  have h2 := tally_take_le p.key T T.length
  omega

theorem RefAt.same {w w' : World} {b : Nat} {E B : Nat → Int} {V : Nat → Value} {vt vh : Value} {Q : Nat → List Rec} {T : List Rec} {Hs : List Hd} {c : Bool} (h : RefAt w 0 b E B V vt vh Q T Hs c) (hb : w'.heap[b]? = w.heap[b]?) (hr : ∀ k, RRows V vt vh k → w'.heap[k]? = w.heap[k]?) : RefAt w' 0 b E B V vt vh Q T Hs c := by
  have row : ∀ {e : TypeId} {n m : Nat} {v : Value} {xs : List Value}, w.ownsRow 0 e n v m xs → (∀ k, v.ownBlock = some k → w'.heap[k]? = w.heap[k]?) → w'.ownsRow 0 e n v m xs := fun hr h => by
    refine ⟨hr.1, ?_⟩
    rcases hr.2 with hn | ⟨g, cap, cur, hv, hb, hg, r⟩
    · exact .inl hn
    · exact .inr ⟨g, cap, cur, hv, hb, (h g (by rw [hv]; rfl)).trans hg, r⟩
  exact { h with
    ep := fun j hj => (World.cell?_of_block (w := w) hb).trans (h.ep j hj)
    ba := fun j hj => (World.cell?_of_block (w := w) hb).trans (h.ba j hj)
    qu := fun j hj => (World.cell?_of_block (w := w) hb).trans (h.qu j hj)
    tk := (World.cell?_of_block (w := w) hb).trans h.tk
    hd := (World.cell?_of_block (w := w) hb).trans h.hd
    cl := (World.cell?_of_block (w := w) hb).trans h.cl
    fz := fun j => (World.frozen?_of_block (w := w) hb).trans (h.fz j)
    rows := fun j hj => row (h.rows j hj) (fun k hk => hr k (.inl ⟨j, hj, hk⟩))
    taken := row h.taken (fun k hk => hr k (.inr (.inl hk)))
    held := row h.held (fun k hk => hr k (.inr (.inr hk)))
    low := Nat.zero_le _ }

theorem ref_lt {N : Nat} {w : World} {a : Addr} {o : Option St} {F : Nat → Prop} {k : Nat} (h : RefRel N w a o F) (hk : F k) : k < w.heap.size := by
  obtain ⟨b, _, _, h1, _⟩ := h
  exact h1 k hk

theorem ref_stable {N : Nat} {w w' : World} {a : Addr} {o : Option St} {F : Nat → Prop} (h : RefRel N w a o F) (hs : ∀ k, F k → w'.heap[k]? = w.heap[k]?) : RefRel N w' a o F := by
  obtain ⟨b, rfl, hb, h1, E, B, V, vt, vh, Q, T, Hs, h2, h3, h4, h5⟩ := h
  refine ⟨b, rfl, hb, fun k hk => ?_, E, B, V, vt, vh, Q, T, Hs, h2.same (hs b hb) (fun k hk => hs k (h5 k hk)), h3, h4, h5⟩
  have e := hs k hk
  rw [Array.getElem?_eq_getElem (h1 k hk)] at e
  exact (Array.getElem?_eq_some_iff.1 e).1

theorem ref_more {N M : Nat} {w : World} {a : Addr} {o : Option St} {F : Nat → Prop} (h : RefRel N w a o F) (hN : N ≤ M) : RefRel M w a o F := by
  obtain ⟨b, rfl, hb, h1, E, B, V, vt, vh, Q, T, Hs, h2, h3, h4, h5⟩ := h
  exact ⟨b, rfl, hb, h1, E, B, V, vt, vh, Q, T, Hs, h2, ⟨h3.t, Nat.le_trans h3.h hN, h3.val, h3.tok⟩, h4, h5⟩

theorem ref_accept {N : Nat} {w : World} {a : Addr} {o : Option St} {F : Nat → Prop} (x : Rec) (h : RefRel N w a o F) (hx : x.fits) (hN : N ≤ 1000000000) : Calls Tryz.prog 46 #[.pointer (some a), x.value'] w fun e w' =>
    ∃ F', e = .returned (.tuple #[.int .i64 (accept? o x).1.1, .int .i64 (accept? o x).1.2]) ∧ RefRel N w' a (accept? o x).2 F' ∧ (∀ k, F' k → F k ∨ w.heap.size ≤ k) ∧ Chg F w w' := by
  obtain ⟨b, rfl, hb, h1, E, B, V, vt, vh, Q, T, Hs, h2, h3, h4, h5⟩ := h
  have keep : ∀ w', Chg (fun _ => False) w w' → RefRel N w' ⟨b, 0, none⟩ o F := fun w' c => ref_stable ⟨b, rfl, hb, h1, E, B, V, vt, vh, Q, T, Hs, h2, h3, h4, h5⟩ (fun k hk => c.block k (h1 k hk) id)
  cases o with
  | none =>
    refine (racc_early h2 x hx (.inl rfl)).mono ?_
    rintro e w' ⟨rfl, _, g2⟩
    have e1 : accR E B Q T true x = ((0, 1), none) := by unfold accR; rw [if_pos rfl]
    exact ⟨F, by show _ = _; simp only [Option.isNone, e1, accept?], keep w' g2, fun k hk => .inl hk, g2.mono (fun _ h => h.elim)⟩
  | some s =>
    have hT := h4 s rfl
    obtain ⟨t1, t2⟩ := racc_tie hT x hx
    have h2' : RefAt w 0 b E B V vt vh Q T Hs false := h2
    by_cases hbad : (x.session < 0 ∨ 4 ≤ x.session) ∨ (okKey x.key = false ∨ x.value < 0 ∨ 4294967295 < x.value) ∨ x.epoch < E x.session.toNat
    · refine (racc_early h2' x hx (.inr hbad)).mono ?_
      rintro e w' ⟨rfl, g1, g2⟩
      rw [g1] at t2
      have t2' : (accept s x).2 = s := t2
      exact ⟨F, by simp only [accept?]; rw [t1], by simp only [accept?]; rw [t2']; exact keep w' g2, fun k hk => .inl hk, g2.mono (fun _ h => h.elim)⟩
    · have hs : ¬ (x.session < 0 ∨ 4 ≤ x.session) := fun e => hbad (.inl e)
      have hk : ¬ (okKey x.key = false ∨ x.value < 0 ∨ 4294967295 < x.value) := fun e => hbad (.inr (.inl e))
      have he : ¬ x.epoch < E x.session.toNat := fun e => hbad (.inr (.inr e))
      obtain ⟨i, hi⟩ : ∃ i : Nat, x.session = i := ⟨x.session.toNat, by omega⟩
      have hin : x.session.toNat = i := by omega
      have e1 : accR E B Q T false x = accR2 E B Q T i x := by unfold accR; rw [if_neg (by simp), if_neg hs, if_neg hk, if_neg he, hin]
      rw [hin] at he t2
      rw [e1] at t1 t2
      have hok : okKey x.key = true := by
        cases hh : okKey x.key
        · exact absurd (.inl hh) hk
        · rfl
      have hw := (waitsR_range Q (fun i hi => by have := hT.short hi; omega) 4 (by omega)).1
      have htot := hT.tot
      refine (racc_main h2' x hx i (by omega) hi hok (by omega) he h3.t (by have := h3.h; omega) (fun j hj => hT.short hj) (fun j hj => by have := hT.ba j hj; have := h3.t; omega)).mono ?_
      rintro e w' ⟨rfl, g1⟩
      obtain ⟨r, hr⟩ : ∃ r, r = (accR2 E B Q T i x).2 := ⟨_, rfl⟩
      rw [← hr] at g1 t2
      cases r with
      | none =>
        have t2' : (accept s x).2 = s := t2
        have g1' : Chg (fun _ => False) w w' := g1
        exact ⟨F, by simp only [accept?]; rw [t1], by simp only [accept?]; rw [t2']; exact keep w' g1', fun k hk => .inl hk, g1'.mono (fun _ h => h.elim)⟩
      | some r =>
        obtain ⟨V', vt', r1, r2, r3⟩ := g1
        have t2' : RTie (updF E i r.1) (updF B i r.2.1) (updF Q i r.2.2.1) r.2.2.2 Hs (accept s x).2 := t2
        refine ⟨fun k => F k ∨ (w.heap.size ≤ k ∧ k < w'.heap.size), by simp only [accept?]; rw [t1], ⟨b, rfl, .inl hb, fun k hk => ?_, _, _, V', vt', vh, _, _, Hs, r1, t2'.fit h3.h, fun s' hs' => ?_, fun k hk => ?_⟩, fun k hk => hk.imp id (fun h => h.1), r3.mono (fun k hk => by rw [hk]; exact hb)⟩
        · rcases hk with hk | hk
          · exact Nat.lt_of_lt_of_le (h1 k hk) r3.size
          · exact hk.2
        · simp only [accept?, Option.some.injEq] at hs'
          subst hs'
          exact t2'
        · rcases hk with ⟨j, hj, hk⟩ | hk | hk
          · exact .inr ⟨r2 k (.inl ⟨j, hj, hk⟩), ((r1.rows j hj).lt k hk).2⟩
          · exact .inr ⟨r2 k (.inr hk), (r1.taken.lt k hk).2⟩
          · exact .inl (h5 k (.inr (.inr hk)))

end Go.Proofs.YthedkdbgfdjlkaaGreatDoor

/- culvertref IS THE DOCUMENT'S RELAY: the other calls. -/
namespace Go.Proofs.YthedkdbgfdjlkaaGreatDoor
set_option linter.unusedVariables false
set_option linter.unusedSimpArgs false
open Go.RowKit Go.Lib

theorem ref_state {N : Nat} {w : World} {a : Addr} {o : Option St} {F : Nat → Prop} (h : RefRel N w a o F) (hN : N ≤ 1000000000) : Calls Tryz.prog 48 #[.pointer (some a)] w fun e w' =>
    ∃ vs vk, e = .returned (.tuple #[.agg #[vs, vk], .int .i64 (errno? o)]) ∧ StateAt w' w.heap.size vs vk (state? o) ∧ RefRel N w' a o F ∧ Chg (fun _ => False) w w' := by
  have h0 := h
  obtain ⟨b, rfl, hb, h1, E, B, V, vt, vh, Q, T, Hs, h2, h3, h4, h5⟩ := h
  have keep : ∀ w', Chg (fun _ => False) w w' → RefRel N w' ⟨b, 0, none⟩ o F := fun w' c => ref_stable h0 (fun k hk => c.block k (h1 k hk) id)
  cases o with
  | none =>
    refine (rstate_closed h2).mono ?_
    rintro e w' ⟨rfl, g2⟩
    exact ⟨_, _, rfl, ⟨⟨[], rfl, World.ownsRow_nil _ _ _ _, fun i l u hl => by simp [state?] at hl⟩, World.ownsRow_nil _ _ _ _⟩, keep w' g2, g2⟩
  | some s =>
    have hT := h4 s rfl
    have h2' : RefAt w 0 b E B V vt vh Q T Hs false := h2
    refine (rstate_open h2' h3.t (by have := h3.h; omega) (fun j hj => by have := hT.short hj; omega) (fun j hj => by have := hT.ba j hj; have := h3.t; omega) h3.val h3.tok).mono ?_
    rintro e w' ⟨vs, vk, U, rfl, g1, g2, g3, g4⟩
    refine ⟨vs, vk, rfl, ⟨⟨[U 0, U 1, U 2, U 3], ?_, ?_, fun i l u hl hu => ?_⟩, ?_⟩, keep w' g4, g4⟩
    · simp [state?, hT.four]
    · obtain ⟨l0, c0, a0, b0, _⟩ := hT.lane 0 (by omega)
      obtain ⟨l1, c1, a1, b1, _⟩ := hT.lane 1 (by omega)
      obtain ⟨l2, c2, a2, b2, _⟩ := hT.lane 2 (by omega)
      obtain ⟨l3, c3, a3, b3, _⟩ := hT.lane 3 (by omega)
      have h4' := hT.four
      simp only [state?]
      match hs : s.lanes, h4' with
      | [x0, x1, x2, x3], _ =>
        rw [hs] at c0 c1 c2 c3
        simp at c0 c1 c2 c3
        subst c0 c1 c2 c3
        simpa [sessCells, sessR, a0, b0, a1, b1, a2, b2, a3, b3] using g1
    · have hi : i < 4 := by
        have := (List.getElem?_eq_some_iff.1 hl).1
        simp only [state?] at this
        rw [hT.four] at this
        exact this
      have hu' : u = U i := by
        rcases (by omega : i = 0 ∨ i = 1 ∨ i = 2 ∨ i = 3) with rfl | rfl | rfl | rfl <;> simp at hu <;> exact hu.symm
      obtain ⟨l', c, e1, e2, e3, e4, e5⟩ := hT.lane i hi
      have : l' = l := by simp only [state?] at hl; rw [hl] at c; exact (Option.some.inj c).symm
      subst this
      have hn := nums_both e3 e4 e5
      have hg := g2 i hi
      rw [hn] at hg
      rw [hu']
      unfold intCells at hg
      rw [List.map_map, List.length_map] at hg
      exact hg
    · simp only [state?]
      rw [hT.keys, ← keysR_eq]
      exact g3

theorem ref_puts {N : Nat} {w : World} {a : Addr} {o : Option St} {F : Nat → Prop} (h : RefRel N w a o F) (hN : N ≤ 1000000000) : Calls Tryz.prog 52 #[.pointer (some a)] w fun e w' =>
    ∃ vp, e = .returned (.tuple #[vp, .int .i64 (errno? o)]) ∧ w'.ownsRow w.heap.size 63 3 vp (puts? o).length (putCells (puts? o)) ∧ RefRel N w' a o F ∧ Chg (fun _ => False) w w' := by
  have h0 := h
  obtain ⟨b, rfl, hb, h1, E, B, V, vt, vh, Q, T, Hs, h2, h3, h4, h5⟩ := h
  have keep : ∀ w', Chg (fun _ => False) w w' → RefRel N w' ⟨b, 0, none⟩ o F := fun w' c => ref_stable h0 (fun k hk => c.block k (h1 k hk) id)
  cases o with
  | none =>
    refine (rputs_closed h2).mono ?_
    rintro e w' ⟨rfl, g2⟩
    exact ⟨_, rfl, World.ownsRow_nil _ _ _ _, keep w' g2, g2⟩
  | some s =>
    have hT := h4 s rfl
    have h2' : RefAt w 0 b E B V vt vh Q T Hs false := h2
    refine (rputs_open h2' h3.t (by have := h3.h; omega) h3.val h3.tok).mono ?_
    rintro e w' ⟨vp, rfl, g1, g2⟩
    refine ⟨vp, rfl, ?_, keep w' g2, g2⟩
    simp only [puts?]
    rw [hT.keys, ← keysR_eq]
    exact g1

theorem ref_close {N : Nat} {w : World} {a : Addr} {o : Option St} {F : Nat → Prop} (h : RefRel N w a o F) : Calls Tryz.prog 51 #[.pointer (some a)] w fun e w' =>
    e = .returned (.int .i64 (errno? o)) ∧ RefRel N w' a none F ∧ Chg F w w' := by
  obtain ⟨b, rfl, hb, h1, E, B, V, vt, vh, Q, T, Hs, h2, h3, h4, h5⟩ := h
  refine (rclose_any h2).mono ?_
  rintro e w' ⟨rfl, g1, g2⟩
  refine ⟨?_, ⟨b, rfl, hb, fun k hk => Nat.lt_of_lt_of_le (h1 k hk) g2.size, E, B, V, vt, vh, Q, T, Hs, g1, h3, fun s hs => (by cases hs), h5⟩, g2.mono (fun k hk => by rw [hk]; exact hb)⟩
  cases o <;> rfl

theorem findKy_held (Hs : List Hd) (key : ByteArray) : ∀ ks : List Ky, findKy key (ks.map (withHeld Hs)) = (findKy key ks).map (withHeld Hs)
  | [] => rfl
  | k :: r => by
    have ih := findKy_held Hs key r
    simp only [List.map_cons, findKy]
    have e : (withHeld Hs k).name = k.name := rfl
    rw [e]
    split
    · rfl
    · exact ih

theorem findKy_tally (T : List Rec) (key : ByteArray) : (∀ k, findKy key (keysOf T []) = some k → k.name = key ∧ k.count = (tally key T).1 ∧ 1 ≤ (tally key T).1) ∧ (findKy key (keysOf T []) = none → (tally key T).1 = 0) := by
  have hin : ∀ ks : List Ky, (∀ k, findKy key ks = some k → k ∈ ks ∧ k.name = key) ∧ (findKy key ks = none → ∀ k ∈ ks, k.name ≠ key) := by
    intro ks
    induction ks with
    | nil => exact ⟨fun k h => by simp [findKy] at h, fun _ k hk => by simp at hk⟩
    | cons y r ih =>
      refine ⟨fun k h => ?_, fun h k hk => ?_⟩
      · unfold findKy at h
        split at h
        · rename_i e
          have := Option.some.inj h
          subst this
          exact ⟨by simp, e⟩
        · have := ih.1 k h
          exact ⟨by simp [this.1], this.2⟩
      · unfold findKy at h
        split at h
        · cases h
        · rename_i e
          rcases List.mem_cons.1 hk with rfl | hk
          · exact e
          · exact ih.2 h k hk
  obtain ⟨k1, k2, k3⟩ := keysOf_tally T
  refine ⟨fun k hk => ?_, fun hn => ?_⟩
  · obtain ⟨h1, h2⟩ := (hin _).1 k hk
    have h3 := k2 k h1
    rw [h2] at h3
    have e : k.count = (tally key T).1 := by rw [← h3]
    refine ⟨h2, e, ?_⟩
    -- the key is of some record
    rcases keysOf_names T [] k h1 with ⟨y, hy, _⟩ | ⟨x, hx, ex⟩
    · simp at hy
    · rw [h2] at ex
      obtain ⟨i, hi, ei⟩ := List.getElem_of_mem hx
      have hxi : T[i]? = some x := by rw [List.getElem?_eq_getElem hi, ei]
      have h4 := tally_take_next key T i x hxi
      have h5 := tally_take_le key T i
      have h6 := tally_take_le key T (i + 1)
      rw [h4] at h6
      unfold tallyOne at h6
      rw [if_pos ex] at h6
      simp only at h6
      omega
  · have := (hin _).2 hn
    have h0 : tally key T = (0, 0) := tally_none _ _ _ (fun x hx e => by
      obtain ⟨k, hk, ek⟩ := k3 x hx
      exact this k hk (ek.trans e))
    rw [h0]

theorem hold_both {T : List Rec} {Hs : List Hd} {key : ByteArray} {n : Int} : ∀ ks : List Ky, (ks.map (·.name)).Nodup → holdKy key n (ks.map (withHeld Hs)) = ks.map (withHeld (Hs ++ [⟨key, n⟩]))
  | [], _ => rfl
  | k :: r, hn => by
    simp only [List.map_cons, List.nodup_cons] at hn
    have ih := hold_both (T := T) (Hs := Hs) (key := key) (n := n) r hn.2
    have hh : ∀ name, heldOf name (Hs ++ [⟨key, n⟩]) = if key = name then max (heldOf name Hs) n else heldOf name Hs := fun name => by
      unfold heldOf
      rw [List.foldl_append]
      rfl
    simp only [List.map_cons, holdKy]
    have e : (withHeld Hs k).name = k.name := rfl
    rw [e]
    by_cases hk : k.name = key
    · rw [if_pos hk]
      have h1 : withHeld (Hs ++ [⟨key, n⟩]) k = ⟨(withHeld Hs k).name, (withHeld Hs k).count, (withHeld Hs k).fold, max (withHeld Hs k).held n⟩ := by
        unfold withHeld
        rw [hh, if_pos hk.symm]
      have h2 : r.map (withHeld (Hs ++ [⟨key, n⟩])) = r.map (withHeld Hs) := List.map_congr_left fun y hy => by
        unfold withHeld
        rw [hh, if_neg (fun e2 => hn.1 (List.mem_map.2 ⟨y, hy, by rw [hk]; exact e2.symm⟩))]
      rw [h1, h2]
      rfl
    · rw [if_neg hk, ih]
      have h1 : withHeld (Hs ++ [⟨key, n⟩]) k = withHeld Hs k := by
        unfold withHeld
        rw [hh, if_neg (fun e2 => hk e2.symm)]
      rw [h1]

theorem rans_tie {E B : Nat → Int} {Q : Nat → List Rec} {T : List Rec} {Hs : List Hd} {s : St} (h : RTie E B Q T Hs s) (key : ByteArray) (n : Int) :
    (answer s key n).1 = (ansR T false key n).1 ∧ ((ansR T false key n).2 = none → (answer s key n).2 = s) ∧ (∀ p, (ansR T false key n).2 = some p → RTie E B Q T (Hs ++ [p]) (answer s key n).2) := by
  unfold answer ansR
  rw [if_neg (show ¬ false = true by simp)]
  by_cases hok : okKey key = false
  · rw [if_pos hok, if_pos hok]
    exact ⟨rfl, fun _ => rfl, fun p hp => by cases hp⟩
  · rw [if_neg hok, if_neg hok, h.keys, findKy_held]
    obtain ⟨f1, f2⟩ := findKy_tally T key
    cases hf : findKy key (keysOf T []) with
    | none =>
      rw [if_pos (f2 hf)]
      exact ⟨rfl, fun _ => rfl, fun p hp => by cases hp⟩
    | some k =>
      obtain ⟨k1, k2, k3⟩ := f1 k hf
      rw [if_neg (by omega)]
      have ec : (withHeld Hs k).count = (tally key T).1 := k2
      simp only [Option.map_some, ec]
      by_cases hb : n < 0 ∨ (tally key T).1 < n
      · rw [if_pos hb, if_pos hb]
        exact ⟨rfl, fun _ => rfl, fun p hp => by cases hp⟩
      · rw [if_neg hb, if_neg hb]
        refine ⟨rfl, fun hp => (by cases hp), fun p hp => ?_⟩
        simp only [Option.some.injEq] at hp
        subst hp
        have hnd : ((keysOf T []).map (·.name)).Nodup := by
          unfold List.Nodup
          rw [List.pairwise_map]
          refine (keysOf_tally T).1.imp fun {a b} hab e => ?_
          rw [e, less_irrefl] at hab
          cases hab
        refine ⟨h.four, h.lane, hold_both (T := T) _ hnd, fun q hq => ?_, fun q hq => ?_, h.val, h.wal, h.ep, h.ba, h.tot⟩
        · rcases List.mem_append.1 hq with hq | hq
          · exact h.held q hq
          · simp at hq
            subst hq
            by_cases hx : ∃ x ∈ T, x.key = key
            · exact hx
            · have h0 : tally key T = (0, 0) := tally_none _ _ _ (fun x hx' e => hx ⟨x, hx', e⟩)
              rw [h0] at k3
              simp at k3
        · rcases List.mem_append.1 hq with hq | hq
          · exact h.tok q hq
          · simp at hq
            subst hq
            simp only
            omega

theorem ref_answer {N : Nat} {w : World} {a : Addr} {o : Option St} {F : Nat → Prop} (key : ByteArray) (n : Int) (h : RefRel N w a o F) (hkey : key.size ≤ maxLen) (hn : inInt n) (hN : N < 1000000000) : Calls Tryz.prog 55 #[.pointer (some a), .string key, .int .i64 n] w fun e w' =>
    ∃ F', e = .returned (.int .i64 (answer? o key n).1) ∧ RefRel (N + 1) w' a (answer? o key n).2 F' ∧ (∀ k, F' k → F k ∨ w.heap.size ≤ k) ∧ Chg F w w' := by
  have h0 := h
  obtain ⟨b, rfl, hb, h1, E, B, V, vt, vh, Q, T, Hs, h2, h3, h4, h5⟩ := h
  have keep : ∀ w', Chg (fun _ => False) w w' → RefRel (N + 1) w' ⟨b, 0, none⟩ o F := fun w' c => ref_more (ref_stable h0 (fun k hk => c.block k (h1 k hk) id)) (by omega)
  refine (ranswer_any h2 key n hkey hn h3.t (by have := h3.h; omega) (fun x hx => (h3.val x hx).1) h3.tok).mono ?_
  rintro e w' ⟨rfl, g1⟩
  cases o with
  | none =>
    have e1 : ansR T true key n = (1, none) := by unfold ansR; rw [if_pos rfl]
    have g1' : Chg (fun _ => False) w w' := by
      have : RansPost w w' 0 b E B V vt vh Q T Hs (ansR T true key n).2 := g1
      rw [e1] at this
      exact this
    exact ⟨F, by show _ = _; simp only [Option.isNone, e1, answer?], keep w' g1', fun k hk => .inl hk, g1'.mono (fun _ h => h.elim)⟩
  | some s =>
    have hT := h4 s rfl
    obtain ⟨t1, t2, t3⟩ := rans_tie hT key n
    have g2 : RansPost w w' 0 b E B V vt vh Q T Hs (ansR T false key n).2 := g1
    obtain ⟨r, hr⟩ : ∃ r, r = (ansR T false key n).2 := ⟨_, rfl⟩
    rw [← hr] at g2 t2 t3
    cases r with
    | none =>
      have g2' : Chg (fun _ => False) w w' := g2
      exact ⟨F, by simp only [answer?]; rw [t1]; rfl, by simp only [answer?]; rw [t2 rfl]; exact keep w' g2', fun k hk => .inl hk, g2'.mono (fun _ h => h.elim)⟩
    | some p =>
      obtain ⟨vh', r1, r2, r3⟩ := g2
      have hT' := t3 p rfl
      refine ⟨fun k => F k ∨ (w.heap.size ≤ k ∧ k < w'.heap.size), by simp only [answer?]; rw [t1]; rfl, ⟨b, rfl, .inl hb, fun k hk => ?_, E, B, V, vt, vh', Q, T, _, r1, hT'.fit (by have := h3.h; simp; omega), fun s' hs' => ?_, fun k hk => ?_⟩, fun k hk => hk.imp id (fun h => h.1), r3.mono (fun k hk => ?_)⟩
      · rcases hk with hk | hk
        · exact Nat.lt_of_lt_of_le (h1 k hk) r3.size
        · exact hk.2
      · simp only [answer?, Option.some.injEq] at hs'
        subst hs'
        exact hT'
      · rcases hk with ⟨j, hj, hk⟩ | hk | hk
        · exact .inl (h5 k (.inl ⟨j, hj, hk⟩))
        · exact .inl (h5 k (.inr (.inl hk)))
        · rcases r2 with e | e
          · exact .inl (h5 k (.inr (.inr (by rw [← e]; exact hk))))
          · exact .inr ⟨e k hk, (r1.held.lt k hk).2⟩
      · rcases hk with rfl | hk
        · exact hb
        · exact h5 k (.inr (.inr hk))

/-- A relay of which nothing is known yet. -/
theorem ref_blank {w : World} {b : Nat} (hB : Blk w b 15 (blank false)) : RefRel 0 w ⟨b, 0, none⟩ (some St.init) (fun k => k = b) := by
  have hbl : b < w.heap.size := World.block_lt_of_cell? _ _ (hB.cell 0 (by omega))
  refine ⟨b, rfl, rfl, fun k hk => by omega, fun _ => 0, fun _ => 0, fun _ => .slice none 0 0, .slice none 0 0, .slice none 0 0, fun _ => [], [], [], ⟨fun i hi => ?_, fun i hi => ?_, fun i hi => ?_, hB.cell 12 (by omega), hB.cell 13 (by omega), hB.cell 14 (by omega), hB.fz, fun i hi => World.ownsRow_nil _ _ _ _, World.ownsRow_nil _ _ _ _, World.ownsRow_nil _ _ _ _, fun i hi => by simp [Value.ownBlock], by simp [Value.ownBlock], by simp [Value.ownBlock], fun i j _ _ _ g hg => by simp [Value.ownBlock] at hg, fun i _ g hg => by simp [Value.ownBlock] at hg, fun i _ g hg => by simp [Value.ownBlock] at hg, fun g hg => by simp [Value.ownBlock] at hg, Nat.zero_le _⟩, ⟨by simp, by simp, by simp, by simp⟩, fun s hs => ?_, fun k hk => ?_⟩
  · rcases (by omega : i = 0 ∨ i = 1 ∨ i = 2 ∨ i = 3) with rfl | rfl | rfl | rfl
    · exact hB.cell 0 (by omega)
    · exact hB.cell 3 (by omega)
    · exact hB.cell 6 (by omega)
    · exact hB.cell 9 (by omega)
  · rcases (by omega : i = 0 ∨ i = 1 ∨ i = 2 ∨ i = 3) with rfl | rfl | rfl | rfl
    · exact hB.cell 1 (by omega)
    · exact hB.cell 4 (by omega)
    · exact hB.cell 7 (by omega)
    · exact hB.cell 10 (by omega)
  · rcases (by omega : i = 0 ∨ i = 1 ∨ i = 2 ∨ i = 3) with rfl | rfl | rfl | rfl
    · exact hB.cell 2 (by omega)
    · exact hB.cell 5 (by omega)
    · exact hB.cell 8 (by omega)
    · exact hB.cell 11 (by omega)
  · simp only [Option.some.injEq] at hs
    subst hs
    refine ⟨rfl, fun i hi => ⟨Ln.init, ?_, rfl, rfl, .refl _, List.Pairwise.nil, by simp [Ln.init]⟩, rfl, fun p hp => by simp at hp, fun p hp => by simp at hp, fun x hx => by simp at hx, fun i _ x hx => by simp at hx, fun i _ => by omega, fun i _ => by simp, by simp [waitsR]⟩
    rcases (by omega : i = 0 ∨ i = 1 ∨ i = 2 ∨ i = 3) with rfl | rfl | rfl | rfl <;> rfl
  · rcases hk with ⟨i, _, hk⟩ | hk | hk <;> simp [Value.ownBlock] at hk

end Go.Proofs.YthedkdbgfdjlkaaGreatDoor

/- culvertlaw: the relays of a script, the document's beside them, and the book. -/
namespace Go.Proofs.YthedkdbgfdjlkaaGreatDoor
set_option linter.unusedVariables false
set_option linter.unusedSimpArgs false
open Go.RowKit Go.Lib

def ptrs (n : Nat) (a : Nat → Addr) : List Value := (List.range n).map fun i => .pointer (some (a i))

theorem ptrs_len (n : Nat) (a : Nat → Addr) : (ptrs n a).length = n := by simp [ptrs]
theorem ptrs_at (n : Nat) (a : Nat → Addr) {k : Nat} (h : k < n) : (ptrs n a)[k]? = some (.pointer (some (a k))) := by simp [ptrs, h]
theorem ptrs_more (n : Nat) (a : Nat → Addr) (p : Addr) : ptrs (n + 1) (putAt a n p) = ptrs n a ++ [.pointer (some p)] := by
  unfold ptrs
  rw [List.range_succ, List.map_append]
  congr 1
  · refine List.map_congr_left fun i hi => ?_
    rw [List.mem_range] at hi
    rw [putAt_ne _ _ (by omega)]
  · simp [putAt_at]

/-- The world of a script: n relays, N steps behind it; z tells each block's owner. -/
structure Wd (W0 w : World) (wb n N : Nat) (z : Nat → Nat) (pa ra : Nat → Addr) (st : Nat → Option St) (T : Nat → List UInt8) (FP FR : Nat → Nat → Prop) (B : Nat → Prop) (r : Nat → Value) (L : Nat → List Value) (vp vr : Value) : Prop where
  book : Book w wb 3 B r L
  c0 : w.cell? ⟨wb, 0, none⟩ = some vp
  c1 : w.cell? ⟨wb, 1, none⟩ = some vr
  rp : w.ownsRow 0 27 1 vp n (ptrs n pa)
  rr : w.ownsRow 0 130 1 vr n (ptrs n ra)
  many : n ≤ N
  relP : ∀ i, i < n → RelT (T i) w (pa i) (st i) (FP i)
  relR : ∀ i, i < n → RefRel N w (ra i) (st i) (FR i)
  lenT : ∀ i, i < n → (T i).length ≤ 512 + 32 * N
  lenL : ∀ x, x < 4 → (L x).length ≤ 16 * N
  zw : z wb = 1
  zp : ∀ g, vp.ownBlock = some g → z g = 2
  zr : ∀ g, vr.ownBlock = some g → z g = 3
  zB : ∀ g, B g → z g = 4
  zP : ∀ i, i < n → ∀ g, FP i g → z g = 5 + 2 * i
  zR : ∀ i, i < n → ∀ g, FR i g → z g = 6 + 2 * i
  low : ∀ g, g < W0.heap.size → z g = 0
  orig : Chg (fun _ => False) W0 w

/-- A world of a script, whatever it has come to. -/
def Wx (W0 w : World) (wb n N : Nat) : Prop := ∃ z pa ra st T FP FR B r L vp vr, Wd W0 w wb n N z pa ra st T FP FR B r L vp vr

section
variable {W0 w : World} {wb n N : Nat} {z : Nat → Nat} {pa ra : Nat → Addr} {st : Nat → Option St} {T : Nat → List UInt8} {FP FR : Nat → Nat → Prop} {B : Nat → Prop} {r : Nat → Value} {L : Nat → List Value} {vp vr : Value}

theorem Wd.lt (h : Wd W0 w wb n N z pa ra st T FP FR B r L vp vr) : wb < w.heap.size := h.book.lt

/-- Of new blocks nothing is known. -/
theorem Wd.keep (h : Wd W0 w wb n N z pa ra st T FP FR B r L vp vr) {w' : World} (c : Chg (fun _ => False) w w') : Wd W0 w' wb n N z pa ra st T FP FR B r L vp vr where
  book := h.book.chg c (fun _ f => f.elim)
  c0 := c.cellAt h.c0 id
  c1 := c.cellAt h.c1 id
  rp := c.row' h.rp (fun _ _ => id)
  rr := c.row' h.rr (fun _ _ => id)
  many := h.many
  relP i hi := relT_stable (h.relP i hi) (fun k hk => c.block k (relT_lt (h.relP i hi) hk) id)
  relR i hi := ref_stable (h.relR i hi) (fun k hk => c.block k (ref_lt (h.relR i hi) hk) id)
  lenT := h.lenT
  lenL := h.lenL
  zw := h.zw
  zp := h.zp
  zr := h.zr
  zB := h.zB
  zP := h.zP
  zR := h.zR
  low := h.low
  orig := h.orig.trans c (fun _ _ f => f.elim)

/-- The relay k was called, and the document's. -/
theorem Wd.turn (h : Wd W0 w wb n N z pa ra st T FP FR B r L vp vr) {k : Nat} (hk : k < n) {w1 w2 : World} {T' : List UInt8} {o' : Option St} {F' G' : Nat → Prop} (c1 : Chg (FP k) w w1) (hP : RelT T' w1 (pa k) o' F') (hF : ∀ g, F' g → FP k g ∨ w.heap.size ≤ g) (c2 : Chg (FR k) w1 w2) (hR : RefRel (N + 1) w2 (ra k) o' G') (hG : ∀ g, G' g → FR k g ∨ w1.heap.size ≤ g) (hT : T'.length ≤ 512 + 32 * (N + 1)) : Wx W0 w2 wb n (N + 1) := by
  have hw := h.lt
  have z1 := c1.size
  have z2 := c2.size
  have cc : Chg (fun g => FP k g ∨ FR k g) w w2 := (c1.mono (fun _ f => .inl f)).trans c2 (fun _ _ f => .inr f)
  have hz : ∀ g, FP k g ∨ FR k g → z g = 5 + 2 * k ∨ z g = 6 + 2 * k := fun g hg => hg.elim (fun e => .inl (h.zP k hk g e)) (fun e => .inr (h.zR k hk g e))
  have hFl : ∀ g, FP k g → g < w.heap.size := fun g hg => relT_lt (h.relP k hk) hg
  have hGl : ∀ g, FR k g → g < w.heap.size := fun g hg => ref_lt (h.relR k hk) hg
  have hvpl : ∀ g, vp.ownBlock = some g → g < w.heap.size := fun g hg => (h.rp.lt g hg).2
  have hvrl : ∀ g, vr.ownBlock = some g → g < w.heap.size := fun g hg => (h.rr.lt g hg).2
  refine ⟨fun g => if g < w.heap.size then z g else if g < w1.heap.size then 5 + 2 * k else 6 + 2 * k, pa, ra, putAt st k o', putAt T k T', putAt FP k F', putAt FR k G', B, r, L, vp, vr, ?_⟩
  refine ⟨h.book.chg cc (fun g hg => ⟨fun e => ?_, fun e => ?_⟩), cc.cellAt h.c0 (fun e => ?_), cc.cellAt h.c1 (fun e => ?_), cc.row' h.rp (fun g hg e => ?_), cc.row' h.rr (fun g hg e => ?_), Nat.le_succ_of_le h.many, fun i hi => ?_, fun i hi => ?_, fun i hi => ?_, fun x hx => ?_, ?_, fun g hg => ?_, fun g hg => ?_, fun g hg => ?_, fun i hi g hg => ?_, fun i hi g hg => ?_, fun g hg => ?_, h.orig.trans cc (fun g hg f => ?_)⟩
  · have := h.zB g e; have := hz g hg; omega
  · have := hz g hg; rw [e, h.zw] at this; omega
  · have := hz _ e; rw [h.zw] at this; omega
  · have := hz _ e; rw [h.zw] at this; omega
  · have := h.zp g hg; have := hz g e; omega
  · have := h.zr g hg; have := hz g e; omega
  · by_cases e : i = k
    · subst e
      rw [putAt_at, putAt_at, putAt_at]
      refine relT_stable hP (fun q hq => c2.block q (relT_lt hP hq) (fun f => ?_))
      rcases hF q hq with e1 | e1
      · have := h.zP _ hi q e1; have := h.zR _ hi q f; omega
      · have := hGl q f; omega
    · rw [putAt_ne _ _ e, putAt_ne _ _ e, putAt_ne _ _ e]
      refine relT_stable (h.relP i hi) (fun q hq => cc.block q (relT_lt (h.relP i hi) hq) (fun f => ?_))
      have := h.zP i hi q hq
      have := hz q f
      omega
  · by_cases e : i = k
    · subst e
      rw [putAt_at, putAt_at]
      exact hR
    · rw [putAt_ne _ _ e, putAt_ne _ _ e]
      refine ref_more (ref_stable (h.relR i hi) (fun q hq => cc.block q (ref_lt (h.relR i hi) hq) (fun f => ?_))) (by omega)
      have := h.zR i hi q hq
      have := hz q f
      omega
  · by_cases e : i = k
    · subst e; rw [putAt_at]; exact hT
    · rw [putAt_ne _ _ e]; have := h.lenT i hi; omega
  · have := h.lenL x hx; omega
  · simp only [hw, if_true]; exact h.zw
  · simp only [hvpl g hg, if_true]; exact h.zp g hg
  · simp only [hvrl g hg, if_true]; exact h.zr g hg
  · simp only [(h.book.own g hg).2, if_true]; exact h.zB g hg
  · by_cases e : i = k
    · subst e
      rw [putAt_at] at hg
      rcases hF g hg with e1 | e1
      · simp only [hFl g e1, if_true]; exact h.zP _ hi g e1
      · have := relT_lt hP hg
        rw [if_neg (by omega), if_pos this]
    · rw [putAt_ne _ _ e] at hg
      simp only [relT_lt (h.relP i hi) hg, if_true]; exact h.zP i hi g hg
  · by_cases e : i = k
    · subst e
      rw [putAt_at] at hg
      rcases hG g hg with e1 | e1
      · simp only [hGl g e1, if_true]; exact h.zR _ hi g e1
      · rw [if_neg (by omega), if_neg (by omega)]
    · rw [putAt_ne _ _ e] at hg
      simp only [ref_lt (h.relR i hi) hg, if_true]; exact h.zR i hi g hg
  · have := h.orig.size
    rw [if_pos (by omega)]; exact h.low g hg
  · have := h.low g hg; have := hz g f; omega

/-- The relay k was asked, and what it told is marked: w1 behind the asking, w2 behind all else that was asked, w3 behind the marks. -/
theorem Wd.mark (h : Wd W0 w wb n N z pa ra st T FP FR B r L vp vr) {k : Nat} (hk : k < n) {w1 w2 w3 : World} (c1 : Chg (FP k) w w1) (hP : RelT (T k) w1 (pa k) (st k) (FP k)) (c2 : Chg (fun _ => False) w1 w2) (hI : Inks w2 w.heap.size wb 3 B L w3) : Wx W0 w3 wb n (N + 1) := by
  have hw := h.lt
  have z1 := c1.size
  have z2 := c2.size
  obtain ⟨B', r', L', hB, hL, hBB, c3, hs⟩ := hI
  have z3 := c3.size
  have c12 : Chg (FP k) w w2 := c1.trans c2 (fun _ _ f => f.elim)
  have cc : Chg (fun g => FP k g ∨ g = wb ∨ B g) w w3 := (c12.mono (fun _ f => .inl f)).trans c3 (fun g hg f => by
    rcases f with f | f | f
    · exact .inr (.inl f)
    · exact .inr (.inr f)
    · omega)
  have hvpl : ∀ g, vp.ownBlock = some g → g < w.heap.size := fun g hg => (h.rp.lt g hg).2
  have hvrl : ∀ g, vr.ownBlock = some g → g < w.heap.size := fun g hg => (h.rr.lt g hg).2
  have hnw : ¬ FP k wb := fun f => by have := h.zP k hk wb f; rw [h.zw] at this; omega
  have hcell : ∀ j v, j < 3 → w.cell? ⟨wb, j, none⟩ = some v → w3.cell? ⟨wb, j, none⟩ = some v := fun j v hj hv => (hs.cell j (by omega)).trans (c12.cellAt hv hnw)
  refine ⟨fun g => if g < w.heap.size then z g else 4, pa, ra, st, T, FP, FR, B', r', L', vp, vr, ?_⟩
  refine ⟨hB, hcell 0 _ (by omega) h.c0, hcell 1 _ (by omega) h.c1, cc.row' h.rp (fun g hg e => ?_), cc.row' h.rr (fun g hg e => ?_), Nat.le_succ_of_le h.many, fun i hi => ?_, fun i hi => ?_, fun i hi => ?_, fun x hx => ?_, ?_, fun g hg => ?_, fun g hg => ?_, fun g hg => ?_, fun i hi g hg => ?_, fun i hi g hg => ?_, fun g hg => ?_, h.orig.trans cc (fun g hg f => ?_)⟩
  · have := h.zp g hg
    rcases e with e | e | e
    · have := h.zP k hk g e; omega
    · rw [e, h.zw] at this; omega
    · have := h.zB g e; omega
  · have := h.zr g hg
    rcases e with e | e | e
    · have := h.zP k hk g e; omega
    · rw [e, h.zw] at this; omega
    · have := h.zB g e; omega
  · by_cases e : i = k
    · subst e
      refine relT_stable hP (fun q hq => ?_)
      have h1 := relT_lt hP hq
      have h0 := relT_lt (h.relP _ hi) hq
      have hzq := h.zP _ hi q hq
      refine (c3.block q (by omega) (fun f => ?_)).trans (c2.block q h1 id)
      rcases f with f | f | f
      · rw [f, h.zw] at hzq; omega
      · have := h.zB q f; omega
      · omega
    · refine relT_stable (h.relP i hi) (fun q hq => cc.block q (relT_lt (h.relP i hi) hq) (fun f => ?_))
      have hzq := h.zP i hi q hq
      rcases f with f | f | f
      · have := h.zP k hk q f; omega
      · rw [f, h.zw] at hzq; omega
      · have := h.zB q f; omega
  · refine ref_more (ref_stable (h.relR i hi) (fun q hq => cc.block q (ref_lt (h.relR i hi) hq) (fun f => ?_))) (by omega)
    have hzq := h.zR i hi q hq
    rcases f with f | f | f
    · have := h.zP k hk q f; omega
    · rw [f, h.zw] at hzq; omega
    · have := h.zB q f; omega
  · have := h.lenT i hi; omega
  · have := hL x hx; have := h.lenL x hx; omega
  · simp only [hw, if_true]; exact h.zw
  · simp only [hvpl g hg, if_true]; exact h.zp g hg
  · simp only [hvrl g hg, if_true]; exact h.zr g hg
  · rcases hBB g hg with e | e
    · simp only [(h.book.own g e).2, if_true]; exact h.zB g e
    · rw [if_neg (by omega)]
  · simp only [relT_lt (h.relP i hi) hg, if_true]; exact h.zP i hi g hg
  · simp only [ref_lt (h.relR i hi) hg, if_true]; exact h.zR i hi g hg
  · have := h.orig.size
    rw [if_pos (by omega)]; exact h.low g hg
  · have hl := h.low g hg
    rcases f with f | f | f
    · have := h.zP k hk g f; omega
    · rw [f, h.zw] at hl; omega
    · have := h.zB g f; omega
end

end Go.Proofs.YthedkdbgfdjlkaaGreatDoor

/- culvertlaw: World.begins, WALKED. -/
namespace Go.Proofs.YthedkdbgfdjlkaaGreatDoor
set_option linter.unusedVariables false
set_option linter.unusedSimpArgs false
open Go.RowKit Go.Lib

theorem Tryz.infoPP : (Tryz.prog.info? 27).map (fun i => (i.zero, i.size, i.bytes)) = some (some (.pointer none), 1, 8) := by kernel_rfl
theorem Tryz.infoPR : (Tryz.prog.info? 130).map (fun i => (i.zero, i.size, i.bytes)) = some (some (.pointer none), 1, 8) := by kernel_rfl

abbrev blank15 : Array Value := #[.int .i64 0, .int .i64 0, .slice none 0 0, .int .i64 0, .int .i64 0, .slice none 0 0, .int .i64 0, .int .i64 0, .slice none 0 0, .int .i64 0, .int .i64 0, .slice none 0 0, .slice none 0 0, .slice none 0 0, .bool false]

theorem blank_new (w : World) : Blk (w.alloc (.cells blank15 137)) w.heap.size 15 (blank false) := by
  refine ⟨fun j hj => ?_, fun j => ?_⟩
  · rcases (by omega : j = 0 ∨ j = 1 ∨ j = 2 ∨ j = 3 ∨ j = 4 ∨ j = 5 ∨ j = 6 ∨ j = 7 ∨ j = 8 ∨ j = 9 ∨ j = 10 ∨ j = 11 ∨ j = 12 ∨ j = 13 ∨ j = 14) with rfl | rfl | rfl | rfl | rfl | rfl | rfl | rfl | rfl | rfl | rfl | rfl | rfl | rfl | rfl <;> exact World.cell?_alloc_at _ _ _ _ rfl
  · exact World.frozen?_alloc_at _ _ _ _ rfl

section
variable {W0 w : World} {wb n N : Nat} {z : Nat → Nat} {pa ra : Nat → Addr} {st : Nat → Option St} {T : Nat → List UInt8} {FP FR : Nat → Nat → Prop} {B : Nat → Prop} {r : Nat → Value} {L : Nat → List Value} {vp vr : Value}

/-- One relay more: w1 behind New, w2 behind the first append, w4 behind the second. -/
theorem Wd.more (h : Wd W0 w wb n N z pa ra st T FP FR B r L vp vr) {a : Addr} {F : Nat → Prop} {w1 w2 w3 w4 w5 : World} {vp' vr' : Value} {rb : Nat} (hP : RelT (encHead St.init) w1 a (some St.init) F) (hF : ∀ k, F k → w.heap.size ≤ k) (c1 : Chg (fun _ => False) w w1)
    (o2 : w2.ownsRow 0 27 1 vp' (n + 1) (ptrs n pa ++ [.pointer (some a)])) (c2 : Chg (fun g => vp.ownBlock = some g) w1 w2) (wh2 : Wh w1.heap.size vp vp') (hw3 : w3 = w2.setCell ⟨wb, 0, none⟩ vp') (hrb : rb = w3.heap.size)
    (o4 : w4.ownsRow 0 130 1 vr' (n + 1) (ptrs n ra ++ [.pointer (some ⟨rb, 0, none⟩)])) (c4 : Chg (fun g => vr.ownBlock = some g) (w3.alloc (.cells blank15 137)) w4) (wh4 : Wh (rb + 1) vr vr') (hw5 : w5 = w4.setCell ⟨wb, 1, none⟩ vr') : Wx W0 w5 wb (n + 1) (N + 1) := by
  have hw := h.lt
  have z1 := c1.size
  have z2 := c2.size
  have hvpl : ∀ g, vp.ownBlock = some g → g < w.heap.size := fun g hg => (h.rp.lt g hg).2
  have hvrl : ∀ g, vr.ownBlock = some g → g < w.heap.size := fun g hg => (h.rr.lt g hg).2
  have c3 : Chg (fun q => q = wb) w2 w3 := by rw [hw3]; exact (Chg.refl (fun q => q = wb) w2).setCell (p := ⟨wb, 0, none⟩) (fun _ => rfl) _
  have hs3 : w3.heap.size = w2.heap.size := by rw [hw3]; simp [World.setCell]
  have ca : Chg (fun _ => False) w3 (w3.alloc (.cells blank15 137)) := (Chg.refl _ w3).alloc _
  have hsa : (w3.alloc (.cells blank15 137)).heap.size = rb + 1 := by rw [World.size_alloc, hrb]
  have z4 := c4.size
  have c5 : Chg (fun q => q = wb) w4 w5 := by rw [hw5]; exact (Chg.refl (fun q => q = wb) w4).setCell (p := ⟨wb, 1, none⟩) (fun _ => rfl) _
  have z5 := c5.size
  have hs5 : w5.heap.size = w4.heap.size := by rw [hw5]; simp [World.setCell]
  have vpw : vp.ownBlock ≠ some wb := fun e => by have := h.zp wb e; rw [h.zw] at this; omega
  have vrw : vr.ownBlock ≠ some wb := fun e => by have := h.zr wb e; rw [h.zw] at this; omega
  have vp'w : vp'.ownBlock ≠ some wb := fun e => by
    rcases wh2 with e1 | e1
    · exact vpw (e1 ▸ e)
    · have := e1 _ e; omega
  have vr'w : vr'.ownBlock ≠ some wb := fun e => by
    rcases wh4 with e1 | e1
    · exact vrw (e1 ▸ e)
    · have := e1 _ e; omega
  -- w to w4, but for wb and the two rows
  have c13 : Chg (fun g => g = wb ∨ vp.ownBlock = some g) w w3 := ((c1.mono (fun _ f => f.elim)).trans c2 (fun _ _ f => .inr f)).trans c3 (fun _ _ f => .inl f)
  have c14 : Chg (fun g => g = wb ∨ vp.ownBlock = some g ∨ vr.ownBlock = some g) w w4 := ((c13.mono (fun g f => f.elim .inl (fun e => .inr (.inl e)))).trans ca (fun _ _ f => f.elim)).trans c4 (fun _ _ f => .inr (.inr f))
  have c15 : Chg (fun g => g = wb ∨ vp.ownBlock = some g ∨ vr.ownBlock = some g) w w5 := c14.trans c5 (fun _ _ f => .inl f)
  have hz15 : ∀ g, g = wb ∨ vp.ownBlock = some g ∨ vr.ownBlock = some g → 0 < z g ∧ z g < 4 := fun g hg => by
    rcases hg with e | e | e
    · rw [e, h.zw]; omega
    · rw [h.zp g e]; omega
    · rw [h.zr g e]; omega
  have c35 : Chg (fun g => g = wb ∨ vr.ownBlock = some g) w3 w5 := (((Chg.refl (fun _ => False) w3).mono (fun _ f => f.elim)).trans ca (fun _ _ f => f.elim)).trans ((c4.mono (fun _ f => .inr f)).trans c5 (fun _ _ f => .inl f)) (fun _ _ f => f)
  have hsl : Slots wb (fun j => j = 0 ∨ j = 1) w w5 := by
    have s1 : Slots wb (fun j => j = 0 ∨ j = 1) w w2 := (Slots.of_chg _ c1 hw id).trans (Slots.of_chg (fun j => j = 0 ∨ j = 1) c2 (by omega) vpw) (fun _ h => h)
    have s2 : Slots wb (fun j => j = 0 ∨ j = 1) w w3 := by rw [hw3]; exact s1.setCell (p := ⟨wb, 0, none⟩) _ (fun _ => .inl rfl)
    have s3 : Slots wb (fun j => j = 0 ∨ j = 1) w w4 := (s2.trans (Slots.of_chg (fun j => j = 0 ∨ j = 1) ca (by omega) id) (fun _ h => h)).trans (Slots.of_chg (fun j => j = 0 ∨ j = 1) c4 (by omega) vrw) (fun _ h => h)
    rw [hw5]; exact s3.setCell (p := ⟨wb, 1, none⟩) _ (fun _ => .inr rfl)
  have hc0 : w5.cell? ⟨wb, 0, none⟩ = some vp' := by
    have e3 : w3.cell? ⟨wb, 0, none⟩ = some vp' := by
      rw [hw3]; exact World.cell?_setCell_same _ _ _ (c2.cellAt (c1.cellAt h.c0 id) vpw)
    have e4 : w4.cell? ⟨wb, 0, none⟩ = some vp' := c4.cellAt (ca.cellAt e3 id) vrw
    rw [hw5]; exact (World.cell?_setCell_other _ _ _ _ (by simp)).trans e4
  have hc1 : w5.cell? ⟨wb, 1, none⟩ = some vr' := by
    have e3 : w3.cell? ⟨wb, 1, none⟩ = some vr := by
      rw [hw3]; exact (World.cell?_setCell_other _ _ _ _ (by simp)).trans (c2.cellAt (c1.cellAt h.c1 id) vpw)
    rw [hw5]; exact World.cell?_setCell_same _ _ _ (c4.cellAt (ca.cellAt e3 id) vrw)
  have hvp' : ∀ g, vp'.ownBlock = some g → vp.ownBlock = some g ∨ w1.heap.size ≤ g ∧ g < w2.heap.size := fun g hg => by
    rcases wh2 with e | e
    · exact .inl (e ▸ hg)
    · exact .inr ⟨e g hg, (o2.lt g hg).2⟩
  have hvr' : ∀ g, vr'.ownBlock = some g → vr.ownBlock = some g ∨ rb + 1 ≤ g := fun g hg => by
    rcases wh4 with e | e
    · exact .inl (e ▸ hg)
    · exact .inr (e g hg)
  have hrp : w5.ownsRow 0 27 1 vp' (n + 1) (ptrs (n + 1) (putAt pa n a)) := by
    rw [ptrs_more]
    refine c35.row' (c3.row' o2 (fun g hg e => vp'w (e ▸ hg))) (fun g hg e => ?_)
    rcases e with e | e
    · exact vp'w (e ▸ hg)
    · rcases hvp' g hg with e1 | e1
      · have := h.zp g e1; have := h.zr g e; omega
      · have := hvrl g e; omega
  have hrr : w5.ownsRow 0 130 1 vr' (n + 1) (ptrs (n + 1) (putAt ra n ⟨rb, 0, none⟩)) := by
    rw [ptrs_more]
    exact c5.row' o4 (fun g hg e => vr'w (e ▸ hg))
  have hrel : RelT (encHead St.init) w5 a (some St.init) F := by
    refine relT_stable hP (fun q hq => ?_)
    have h1 := relT_lt hP hq
    have h0 := hF q hq
    have e3 : w3.heap[q]? = w1.heap[q]? := (c3.block q (by omega) (by omega)).trans (c2.block q h1 (fun f => by have := hvpl q f; omega))
    exact (c35.block q (by omega) (fun f => by rcases f with f | f; · omega
                                               · have := hvrl q f; omega)).trans e3
  have href : RefRel (N + 1) w5 ⟨rb, 0, none⟩ (some St.init) (fun k => k = rb) := by
    have hb : Blk (w3.alloc (.cells blank15 137)) rb 15 (blank false) := by rw [hrb]; exact blank_new w3
    have hb4 := hb.chg c4 (by omega) (fun f => by have := hvrl rb f; omega)
    have hb5 := hb4.chg c5 (by omega) (fun f => by omega)
    exact ref_more (ref_blank hb5) (by omega)
  refine ⟨fun g => if g < w.heap.size then z g else if g < w1.heap.size then 5 + 2 * n else if g < w2.heap.size then 2 else if g = rb then 6 + 2 * n else 3, putAt pa n a, putAt ra n ⟨rb, 0, none⟩, putAt st n (some St.init), putAt T n (encHead St.init), putAt FP n F, putAt FR n (fun k => k = rb), B, r, L, vp', vr', ?_⟩
  refine ⟨⟨fun j => (hsl.frozen j).trans (h.book.fz j), fun x hx => (hsl.cell (3 + x) (by omega)).trans (h.book.cell x hx), fun x hx => c15.row' (h.book.row x hx) (fun g hg e => ?_), h.book.quad, fun x hx i u hu => ⟨(h.book.inked x hx i u hu).1.chg c15 (fun g hg e => ?_), (h.book.inked x hx i u hu).2⟩, h.book.rows, h.book.list, fun g hg => ⟨(h.book.own g hg).1, Nat.lt_of_lt_of_le (h.book.own g hg).2 c15.size⟩⟩, hc0, hc1, hrp, hrr, Nat.succ_le_succ h.many, fun i hi => ?_, fun i hi => ?_, fun i hi => ?_, fun x hx => ?_, ?_, fun g hg => ?_, fun g hg => ?_, fun g hg => ?_, fun i hi g hg => ?_, fun i hi g hg => ?_, fun g hg => ?_, h.orig.trans c15 (fun g hg f => ?_)⟩
  · have := h.zB g (h.book.rows x hx g hg); have := hz15 g e; omega
  · have := h.zB g (h.book.list x hx u (List.mem_of_getElem? hu) g hg).1; have := hz15 g e; omega
  · by_cases e : i = n
    · subst e; rw [putAt_at, putAt_at, putAt_at, putAt_at]; exact hrel
    · rw [putAt_ne _ _ e, putAt_ne _ _ e, putAt_ne _ _ e, putAt_ne _ _ e]
      have hi' : i < n := by omega
      exact relT_stable (h.relP i hi') (fun q hq => c15.block q (relT_lt (h.relP i hi') hq) (fun f => by have := hz15 q f; have := h.zP i hi' q hq; omega))
  · by_cases e : i = n
    · subst e; rw [putAt_at, putAt_at, putAt_at]; exact href
    · rw [putAt_ne _ _ e, putAt_ne _ _ e, putAt_ne _ _ e]
      have hi' : i < n := by omega
      exact ref_more (ref_stable (h.relR i hi') (fun q hq => c15.block q (ref_lt (h.relR i hi') hq) (fun f => by have := hz15 q f; have := h.zR i hi' q hq; omega))) (by omega)
  · by_cases e : i = n
    · subst e; rw [putAt_at]; have := init_short; omega
    · rw [putAt_ne _ _ e]; have := h.lenT i (by omega); omega
  · have := h.lenL x hx; omega
  · simp only [hw, if_true]; exact h.zw
  · rcases hvp' g hg with e | e
    · simp only [hvpl g e, if_true]; exact h.zp g e
    · rw [if_neg (by omega), if_neg (by omega), if_pos e.2]
  · rcases hvr' g hg with e | e
    · simp only [hvrl g e, if_true]; exact h.zr g e
    · rw [if_neg (by omega), if_neg (by omega), if_neg (by omega), if_neg (by omega)]
  · simp only [(h.book.own g hg).2, if_true]; exact h.zB g hg
  · by_cases e : i = n
    · subst e
      rw [putAt_at] at hg
      have := hF g hg
      have := relT_lt hP hg
      rw [if_neg (by omega), if_pos this]
    · rw [putAt_ne _ _ e] at hg
      have hi' : i < n := by omega
      simp only [relT_lt (h.relP i hi') hg, if_true]; exact h.zP i hi' g hg
  · by_cases e : i = n
    · subst e
      rw [putAt_at] at hg
      rw [if_neg (by omega), if_neg (by omega), if_neg (by omega), if_pos hg]
    · rw [putAt_ne _ _ e] at hg
      have hi' : i < n := by omega
      simp only [ref_lt (h.relR i hi') hg, if_true]; exact h.zR i hi' g hg
  · have := h.orig.size
    rw [if_pos (by omega)]; exact h.low g hg
  · have := h.low g hg; have := hz15 g f; omega
end

end Go.Proofs.YthedkdbgfdjlkaaGreatDoor

/- culvertlaw: World.begins, WALKED. -/
namespace Go.Proofs.YthedkdbgfdjlkaaGreatDoor
set_option linter.unusedVariables false
set_option linter.unusedSimpArgs false
open Go.RowKit Go.Lib

/-- The two appends of begins, and what they leave. -/
theorem begin_runs {W0 w w1 : World} {wb n N : Nat} {z : Nat → Nat} {pa ra : Nat → Addr} {st : Nat → Option St} {T : Nat → List UInt8} {FP FR : Nat → Nat → Prop} {B : Nat → Prop} {r : Nat → Value} {L : Nat → List Value} {p1 p2 : Option Addr} {k1 k2 : Nat} (h : Wd W0 w wb n N z pa ra st T FP FR B r L (.slice p1 n k1) (.slice p2 n k2)) (hN : N ≤ 1000000000) {a : Addr} {F : Nat → Prop} (hP : RelT (encHead St.init) w1 a (some St.init) F) (hF : ∀ k, F k → w.heap.size ≤ k) (c1 : Chg (fun _ => False) w w1) :
    ∃ p1' k1' w2 p2' k2' w4, (Builtin.append_ #[70, 70] 70 #[.slice p1 n k1, .slice (some ⟨w1.heap.size, 0, none⟩) 1 1]).run Tryz.prog (w1.alloc (Obj.cells #[.pointer (some a)] 27)) = .ok (.slice p1' (n + 1) k1') w2 ∧
      w1.cell? ⟨wb, 0, none⟩ = some (.slice p1 n k1) ∧ w2.cell? ⟨wb, 0, none⟩ = some (.slice p1 n k1) ∧ w2.frozen? ⟨wb, 0, none⟩ = false ∧ w2.cell? ⟨wb, 1, none⟩ = some (.slice p2 n k2) ∧
      (Builtin.append_ #[71, 71] 71 #[.slice p2 n k2, .slice (some ⟨w2.heap.size + 1, 0, none⟩) 1 1]).run Tryz.prog (((w2.setCell ⟨wb, 0, none⟩ (.slice p1' (n + 1) k1')).alloc (Obj.cells blank15 137)).alloc (Obj.cells #[.pointer (some ⟨w2.heap.size, 0, none⟩)] 130)) = .ok (.slice p2' (n + 1) k2') w4 ∧
      w4.cell? ⟨wb, 1, none⟩ = some (.slice p2 n k2) ∧ w4.frozen? ⟨wb, 1, none⟩ = false ∧ Wx W0 (w4.setCell ⟨wb, 1, none⟩ (.slice p2' (n + 1) k2')) wb (n + 1) (N + 1) := by
  obtain ⟨i1, hi1, hy0, hy1, hy2⟩ := info_parts Tryz.infoPP
  obtain ⟨i2, hi2, hx0, hx1, hx2⟩ := info_parts Tryz.infoPR
  have hn : n ≤ 1000000000 := Nat.le_trans h.many hN
  have hw := h.lt
  have vpw : (Value.slice p1 n k1).ownBlock ≠ some wb := fun e => by have := h.zp wb e; rw [h.zw] at this; omega
  have vrw : (Value.slice p2 n k2).ownBlock ≠ some wb := fun e => by have := h.zr wb e; rw [h.zw] at this; omega
  have d0 := c1.cellAt h.c0 id
  have d1 := c1.cellAt h.c1 id
  have z1 := c1.size
  obtain ⟨vq, w2, t1, o2, g2, e2⟩ := run_append_where (P := Tryz.prog) (w1.alloc (Obj.cells #[.pointer (some a)] 27)) 0 70 70 27 i1 _ 1 8 Tryz.underlying70 hi1 hy0 hy1 hy2 rfl (by decide) _ _ _ ((c1.row' h.rp (fun _ _ => id)).alloc _) ⟨w1.heap.size, 0, none⟩ 1 1 [.pointer (some a)] rfl (fun j y hj => by rw [add_lit', Nat.zero_add]; rcases j with _ | j <;> simp at hj; subst hj; exact World.cell?_alloc_at _ _ _ _ rfl) (by simp [Value.oneCell']) (by unfold maxLen; omega) (by omega) (Nat.zero_le _)
  have c2 : Chg (fun g => (Value.slice p1 n k1).ownBlock = some g) w1 w2 := ((Chg.refl (fun g => (Value.slice p1 n k1).ownBlock = some g) w1).alloc _).trans (G := fun g => (Value.slice p1 n k1).ownBlock = some g) ⟨g2.os, g2.tape, g2.output, g2.size, fun k hk hne => g2.block k hk (fun e => hne e.symm)⟩ (fun _ _ h => h)
  have wh2 : Wh w1.heap.size (.slice p1 n k1) vq := e2.imp id (fun e k hk => by have := e k hk; rw [World.size_alloc] at this; omega)
  obtain ⟨p1', k1', rfl⟩ := row_any o2
  have d20 := c2.cellAt d0 vpw
  have d21 := c2.cellAt d1 vpw
  have z2 := c2.size
  have f2 : ∀ j, w2.frozen? ⟨wb, j, none⟩ = false := fun j => ((World.frozen?_of_block (c2.block wb (by omega) vpw)).trans (World.frozen?_of_block (c1.block wb hw id))).trans (h.book.fz j)
  have f20 := f2 0
  obtain ⟨w3, hw3⟩ : ∃ w3, w3 = w2.setCell ⟨wb, 0, none⟩ (.slice p1' (n + 1) k1') := ⟨_, rfl⟩
  have s3 : w3.heap.size = w2.heap.size := by rw [hw3]; simp [World.setCell]
  have c3 : Chg (fun q => q = wb) w2 w3 := by rw [hw3]; exact (Chg.refl (fun q => q = wb) w2).setCell (p := ⟨wb, 0, none⟩) (fun _ => rfl) _
  have d31 : w3.cell? ⟨wb, 1, none⟩ = some (.slice p2 n k2) := by rw [hw3]; exact (World.cell?_setCell_other _ _ _ _ (by simp)).trans d21
  have f31 : w3.frozen? ⟨wb, 1, none⟩ = false := by rw [hw3, World.frozen?_setCell]; exact f2 1
  have hap : ∀ g, (Value.slice p2 n k2).ownBlock = some g → ¬ (Value.slice p1 n k1).ownBlock = some g := fun g hg e => by have := h.zp g e; have := h.zr g hg; omega
  have rr3 := c3.row' (c2.row' (c1.row' h.rr (fun _ _ => id)) (fun g hg e => hap g hg e)) (fun g hg e => vrw (e ▸ hg))
  obtain ⟨vq2, w4, t2, o4, g4, e4⟩ := run_append_where (P := Tryz.prog) ((w3.alloc (Obj.cells blank15 137)).alloc (Obj.cells #[.pointer (some ⟨w3.heap.size, 0, none⟩)] 130)) 0 71 71 130 i2 _ 1 8 Tryz.underlying71 hi2 hx0 hx1 hx2 rfl (by decide) _ _ _ ((rr3.alloc _).alloc _) ⟨(w3.alloc (Obj.cells blank15 137)).heap.size, 0, none⟩ 1 1 [.pointer (some ⟨w3.heap.size, 0, none⟩)] rfl (fun j y hj => by rw [add_lit', Nat.zero_add]; rcases j with _ | j <;> simp at hj; subst hj; exact World.cell?_alloc_at _ _ _ _ rfl) (by simp [Value.oneCell']) (by unfold maxLen; omega) (by omega) (Nat.zero_le _)
  have c4 : Chg (fun g => (Value.slice p2 n k2).ownBlock = some g) (w3.alloc (Obj.cells blank15 137)) w4 := ((Chg.refl (fun g => (Value.slice p2 n k2).ownBlock = some g) (w3.alloc (Obj.cells blank15 137))).alloc _).trans (G := fun g => (Value.slice p2 n k2).ownBlock = some g) ⟨g4.os, g4.tape, g4.output, g4.size, fun k hk hne => g4.block k hk (fun e => hne e.symm)⟩ (fun _ _ h => h)
  have wh4 : Wh (w3.heap.size + 1) (.slice p2 n k2) vq2 := e4.imp id (fun e k hk => by have := e k hk; rw [World.size_alloc, World.size_alloc] at this; omega)
  obtain ⟨p2', k2', rfl⟩ := row_any o4
  rw [World.size_alloc, s3] at t2
  have t2' := t2
  rw [hw3] at t2'
  have ca : Chg (fun _ => False) w3 (w3.alloc (Obj.cells blank15 137)) := (Chg.refl _ w3).alloc _
  have d41 := c4.cellAt (ca.cellAt d31 id) vrw
  have f41 : w4.frozen? ⟨wb, 1, none⟩ = false := ((World.frozen?_of_block (c4.block wb (by rw [World.size_alloc]; omega) vrw)).trans (World.frozen?_of_block (ca.block wb (by omega) id))).trans f31
  exact ⟨p1', k1', w2, p2', k2', w4, t1, d0, d20, f20, d21, t2', d41, f41, h.more hP hF c1 o2 c2 wh2 hw3 rfl o4 c4 wh4 rfl⟩

set_option maxRecDepth 100000 in
set_option maxHeartbeats 4000000 in
theorem begins_any {W0 w : World} {wb n N : Nat} (hx : Wx W0 w wb n N) (hN : N ≤ 1000000000) :
    Calls Tryz.prog 25 #[.pointer (some ⟨wb, 0, none⟩)] w fun e w' => e = .returned (.bool true) ∧ Wx W0 w' wb (n + 1) (N + 1) := by
  obtain ⟨z, pa, ra, st, T, FP, FR, B, r, L, vp, vr, h⟩ := hx
  obtain ⟨p1, k1, rfl⟩ := row_any h.rp
  obtain ⟨p2, k2, rfl⟩ := row_any h.rr
  have hnew := relT_new w
  go_enter Tryz.func25, Tryz.ntmps25
  go_wp2_with (first | (go_at_call 11; refine hnew.mono ?_; rintro _ w1 ⟨a, F, rfl, hP, hF, c1⟩; obtain ⟨p1', k1', w2, p2', k2', w4, t1, d0, d20, f20, d21, t2, d41, f41, hfin⟩ := begin_runs h hN hP hF c1) | (at_builtin; refine Lib.wpList_append_run _ rfl (.tmp 11) (.tmp 13) 70 70 rfl _ _ rfl rfl (.slice p1' (n + 1) k1') w2 t1 ?_) | (at_builtin; refine Lib.wpList_append_run _ rfl (.tmp 21) (.tmp 24) 71 71 rfl _ _ rfl rfl (.slice p2' (n + 1) k2') w4 t2 ?_))
  go_ret
  exact ⟨rfl, hfin⟩

end Go.Proofs.YthedkdbgfdjlkaaGreatDoor

/- culvertlaw: Marked.state, WALKED. -/
namespace Go.Proofs.YthedkdbgfdjlkaaGreatDoor
set_option linter.unusedVariables false
set_option linter.unusedSimpArgs false
open Go.RowKit Go.Lib

theorem Tryz.infoMS : (Tryz.prog.info? 121).map (fun i => (i.zero, i.size, i.bytes)) = some (some (.agg #[.int .i64 0, .int .i64 0, .slice none 0 0]), 3, 40) := by kernel_rfl
theorem Tryz.infoLS : (Tryz.prog.info? 43).map (fun i => (i.zero, i.size, i.bytes)) = some (some (.slice none 0 0), 1, 24) := by kernel_rfl
theorem Tryz.infoMK : (Tryz.prog.info? 87).map (fun i => (i.zero, i.size, i.bytes)) = some (some (.agg #[.string { data := #[] }, .int .i64 0, .int .i64 0, .int .i64 0]), 4, 40) := by kernel_rfl
theorem Tryz.infoLK : (Tryz.prog.info? 44).map (fun i => (i.zero, i.size, i.bytes)) = some (some (.slice none 0 0), 1, 24) := by kernel_rfl

/-- Behind k lists, whatever the book is by then. -/
def MSx (w : World) (lo mb o : Nat) (B : Nat → Prop) (L : Nat → List Value) (vs vk : Value) (s : St) (us : List Value) (k : Nat) (wr : World) : Prop := ∃ B' r' L', MS w lo mb o B L vs vk s us k wr B' r' L'

set_option maxRecDepth 100000 in
set_option maxHeartbeats 8000000 in
theorem mstate_any {w : World} {lo mb o : Nat} {B : Nat → Prop} {r : Nat → Value} {L : Nat → List Value} {vs vk : Value} {s : St} {us : List Value} (hB : Book w mb o B r L) (hs : StateOf w lo vs vk s us) (hBl : ∀ g, B g → g < lo) (hml : mb < lo) (hlo : lo ≤ w.heap.size) (hl4 : s.lanes.length ≤ 4) (hk4 : s.keys.length ≤ 4) (hw : ∀ l ∈ s.lanes, l.ws.length ≤ 900) (hn : ∀ x, x < 4 → (L x).length ≤ 900000000) :
    Calls Tryz.prog 50 #[.pointer (some ⟨mb, o, none⟩), .agg #[vs, vk]] w fun e w' => e = .returned (.tuple #[]) ∧ Inks w lo mb o B L w' := by
  obtain ⟨i1, hi1, hy0, hy1, hy2⟩ := info_parts Tryz.infoMS
  obtain ⟨i2, hi2, hx0, hx1, hx2⟩ := info_parts Tryz.infoLS
  obtain ⟨j1, hj1, hz0, hz1, hz2⟩ := info_parts Tryz.infoMK
  obtain ⟨j2, hj2, ht0, ht1, ht2⟩ := info_parts Tryz.infoLK
  obtain ⟨ps, cs, rfl⟩ := row_any hs.sess
  obtain ⟨pk, ck, rfl⟩ := row_any hs.keys
  have hstart := MS.start hB hs hBl hlo
  go_enter Tryz.func50, Tryz.ntmps50
  go_wp2_with fail
  go_loopw [4] (fun si wr => ∃ (k : Nat), si = .int .i64 k ∧ k ≤ s.lanes.length ∧ MSx w lo mb o B L (.slice ps s.lanes.length cs) (.slice pk s.keys.length ck) s us k wr) (fun si _ => s.lanes.length - (intOf si).toNat)
  case atStart => exact ⟨0, rfl, by omega, B, r, L, hstart⟩
  case round =>
    clear hstart
    obtain ⟨k, rfl, hk, B1, r1, L1, h⟩ := hrel
    have a0 := h.c0
    have a1 := h.c1
    by_cases hkn : k < s.lanes.length
    · have hkn' : (k : Int) < (s.lanes.length : Int) := by omega
      obtain ⟨l, hl⟩ : ∃ l, s.lanes[k]? = some l := ⟨_, List.getElem?_eq_getElem hkn⟩
      obtain ⟨v, hv⟩ : ∃ v, us[k]? = some v := ⟨_, List.getElem?_eq_getElem (by rw [hs.len]; exact hkn)⟩
      obtain ⟨g, cap', hvs, _, _, hcell⟩ := row_pos h.sess (by omega)
      simp only [Value.slice.injEq] at hvs
      obtain ⟨rfl, _, rfl⟩ := hvs
      have m2 := hcell _ _ (sessCells_at _ _ _ _ _ hl hv).2.2
      have hwl : l.ws.length ≤ 900 := hw l (List.mem_of_getElem? hl)
      have hln0 : (L1 0).length ≤ 900000016 := by have := h.len0; have := hn 0 (by omega); omega
      have hrow := h.wait k l v (Nat.le_refl _) hl hv
      have hcall := mints_any (h.book.cell 0 (by omega)) h.book.fz (h.book.row 0 (by omega)) (row_lower hrow (Nat.zero_le _)) (by omega) (by omega) (fun e => (h.book.own mb (h.book.rows 0 (by omega) mb e)).1 rfl) (fun e => by have := (hrow.lt mb e).1; omega) (Nat.zero_le _)
      simp only [Nat.add_zero] at hcall
      clear hcell
      obtain ⟨pu, cu, rfl⟩ := row_any hrow
      go_wp2_with (go_at_call 88; refine hcall.mono ?_; rintro _ w2 ⟨vI', v1, v2, v3, rfl, q1, q2, q3, q4, q5, q6⟩)
      have hnext := h.step hs hlo hBl hml hl hv hwl q1 q2 q3 q4 q5 q6
      exact ⟨⟨k + 1, by go_num, by omega, hnext⟩, by simp [intOf]; omega⟩
    · have hkn' : ¬ (k : Int) < (s.lanes.length : Int) := by omega
      obtain rfl : k = s.lanes.length := by omega
      have hb1 := h.book.cell 1 (by omega)
      obtain ⟨p1, k1, hr1⟩ := row_any (h.book.row 1 (by omega))
      rw [hr1] at hb1
      obtain ⟨X, hX⟩ : ∃ X : Int, X = 1000000 + (((L1 1).length / 4 : Nat) : Int) := ⟨_, rfl⟩
      have hln1 : (L1 1).length ≤ 900000000 := by have := h.len 1 (by omega) (by omega); have := hn 1 (by omega); omega
      have hXr : 0 ≤ X ∧ X ≤ 2000000000 := by omega
      have hq : (1000000 : Int) + ((L1 1).length : Int) / 4 = X := by rw [hX]; omega
      have HX : Hid (X = 1000000 + (((L1 1).length / 4 : Nat) : Int)) := hX
      clear hX
      obtain ⟨W0, hW0⟩ : ∃ W0, W0 = wr.alloc (Obj.cells #[.int .i64 0, .int .i64 X, .slice none 0 0] 121) := ⟨_, rfl⟩
      have c0 : Chg (fun _ => False) wr W0 := by rw [hW0]; exact (Chg.refl _ wr).alloc _
      have z0 : W0.cell? ⟨wr.heap.size, 0, none⟩ = some (.int .i64 0) := by rw [hW0]; exact World.cell?_alloc_at _ _ _ _ rfl
      have z1 : W0.cell? ⟨wr.heap.size, 1, none⟩ = some (.int .i64 X) := by rw [hW0]; exact World.cell?_alloc_at _ _ _ _ rfl
      have z2 : W0.cell? ⟨wr.heap.size, 2, none⟩ = some (.slice none 0 0) := by rw [hW0]; exact World.cell?_alloc_at _ _ _ _ rfl
      have hz0' : wr.heap.size < W0.heap.size := World.block_lt_of_cell? _ _ z0
      have hvw : ∀ g, (Value.slice ps s.lanes.length cs).ownBlock = some g → g < wr.heap.size := fun g hg => (h.sess.lt g hg).2
      have hvs0 : ∀ g, (Value.slice ps s.lanes.length cs).ownBlock = some g → g ≠ w.heap.size := fun g hg => by have := (hs.sess.lt g hg).2; omega
      obtain ⟨wo, rfl⟩ : ∃ wo : World, wo = wr := ⟨_, rfl⟩
      go_wp2_with fail
      rw [← hW0]
      clear hW0 hq
      have e0 := c0.cellAt a0 id
      go_loopw [6] (fun si wq => ∃ (k : Nat), si = .int .i64 k ∧ k ≤ s.lanes.length ∧ wq.ownsRow lo 121 3 (.slice ps s.lanes.length cs) s.lanes.length (reps [.int .i64 0, .int .i64 X, .slice none 0 0] k ++ (sessCells s.lanes us).drop (k * 3)) ∧ Chg (fun q => (Value.slice ps s.lanes.length cs).ownBlock = some q) W0 wq) (fun si _ => s.lanes.length - (intOf si).toNat)
      case atStart => exact ⟨0, rfl, by omega, by simpa [reps] using c0.row' h.sess (fun _ _ h => h), Chg.refl _ _⟩
      case round =>
        obtain ⟨k, rfl, hk2, hrow, hcw⟩ := hrel
        have d0 := hcw.cellAt e0 (fun e => hvs0 _ e rfl)
        have y0 := hcw.cellAt z0 (fun e => by have := hvw _ e; omega)
        have y1 := hcw.cellAt z1 (fun e => by have := hvw _ e; omega)
        have y2 := hcw.cellAt z2 (fun e => by have := hvw _ e; omega)
        by_cases hkn : k < s.lanes.length
        · have hkn2 : (k : Int) < (s.lanes.length : Int) := by omega
          obtain ⟨g, cap', hvs, _, _, _⟩ := row_pos hrow (by omega)
          simp only [Value.slice.injEq] at hvs
          obtain ⟨rfl, _, rfl⟩ := hvs
          have hne : ¬ g = wo.heap.size := by have := hvw g rfl; omega
          have hne' : ¬ wo.heap.size = g := fun e => hne e.symm
          have hne2 : ¬ g = w.heap.size := hvs0 g rfl
          obtain ⟨⟨u0, m0⟩, ⟨u1, m1⟩, ⟨u2, m2⟩, hst⟩ := fill3 hrow hkn
          have f0 := row_frozen hrow (k * 3)
          have f1 := row_frozen hrow (k * 3 + 1)
          have f2 := row_frozen hrow (k * 3 + 2)
          have HST : Hid ((((wr.setCell ⟨g, k * 3, none⟩ (.int .i64 0)).setCell ⟨g, k * 3 + 1, none⟩ (.int .i64 X)).setCell ⟨g, k * 3 + 2, none⟩ (.slice none 0 0)).ownsRow lo 121 3 (.slice (some ⟨g, 0, none⟩) s.lanes.length cs) s.lanes.length (reps [.int .i64 0, .int .i64 X, .slice none 0 0] (k + 1) ++ (sessCells s.lanes us).drop ((k + 1) * 3))) := hst
          have cS : Chg (fun q => q = g) wr (((wr.setCell ⟨g, k * 3, none⟩ (.int .i64 0)).setCell ⟨g, k * 3 + 1, none⟩ (.int .i64 X)).setCell ⟨g, k * 3 + 2, none⟩ (.slice none 0 0)) := (((Chg.refl (fun q => q = g) wr).setCell (p := ⟨g, k * 3, none⟩) (fun _ => rfl) _).setCell (p := ⟨g, k * 3 + 1, none⟩) (fun _ => rfl) _).setCell (p := ⟨g, k * 3 + 2, none⟩) (fun _ => rfl) _
          clear hst
          go_wp2_with fail
          exact ⟨⟨k + 1, by go_num, by omega, HST.out, hcw.trans cS (fun q _ h => by rw [h]; rfl)⟩, by simp [intOf]; omega⟩
        · have hkn2 : ¬ (k : Int) < (s.lanes.length : Int) := by omega
          obtain rfl : k = s.lanes.length := by omega
          rw [List.drop_of_length_le (by rw [h.sess.1]; omega), List.append_nil] at hrow
          have hb0 := h.book.chg c0 (fun _ f => f.elim)
          have hvB : ∀ g, (Value.slice ps s.lanes.length cs).ownBlock = some g → ¬ B1 g ∧ g ≠ mb ∧ g < W0.heap.size := fun g hg => ⟨fun e => (h.old g e).2 (.inr (.inl hg)), by have := (hs.sess.lt g hg).1; omega, by have := hvw g hg; omega⟩
          obtain ⟨v1, w1, v2, w2, v3, w3, vF, wF, t1, t2, t3, tF, ⟨q1, x1, q2, x2, q3, x3, qF, xF, rfl, rfl, rfl, rfl⟩, d1, d2, d3, cF, eF, fF, hbook, hcc, hsl⟩ := book_marks (P := Tryz.prog) (lo := lo) hb0 (x := 1) (by omega) 43 74 121 i1 i2 _ 40 [.int .i64 0, .int .i64 X, .slice none 0 0] X Tryz.underlying43 hi1 hy0 hy1 hy2 rfl (by simp) rfl (by simp [Value.oneCell']) (by omega) rfl Tryz.underlying74 hi2 hx0 hx1 hx2 HX.out (.slice ps s.lanes.length cs) s.lanes.length (by omega) hvB hcw hrow (by have := h.chg.size; omega) (by omega)
          rw [hr1] at tF eF hcc
          have s1 := d1.cellAt e0 (fun e => hvs0 _ e rfl)
          have s2 := d2.cellAt e0 (fun e => hvs0 _ e rfl)
          have s3 := d3.cellAt e0 (fun e => hvs0 _ e rfl)
          have s3d : w3.drew.cell? ⟨w.heap.size, 0, none⟩ = some (.slice ps s.lanes.length cs) := s3
          have b3 := d3.cellAt (c0.cellAt hb1 id) (fun e => (hvB _ e).2.1 rfl)
          have b3d : w3.drew.cell? ⟨mb, o + 1, none⟩ = some (.slice p1 (L1 1).length k1) := b3
          have b3a : (w3.alloc (.cells #[.slice ps s.lanes.length cs, .slice q1 (s.lanes.length + 1) x1, .slice q2 (s.lanes.length + 2) x2, .slice q3 (s.lanes.length + 3) x3] 43)).cell? ⟨mb, o + 1, none⟩ = some (.slice p1 (L1 1).length k1) := ((Chg.refl (fun _ => False) w3).alloc _).cellAt b3 id
          have l10 := d1.cellAt z0 (fun e => by have := hvw _ e; omega)
          have l11 := d1.cellAt z1 (fun e => by have := hvw _ e; omega)
          have l12 := d1.cellAt z2 (fun e => by have := hvw _ e; omega)
          have l20 := d2.cellAt z0 (fun e => by have := hvw _ e; omega)
          have l21 := d2.cellAt z1 (fun e => by have := hvw _ e; omega)
          have l22 := d2.cellAt z2 (fun e => by have := hvw _ e; omega)
          replace t1 : (Builtin.append_ #[43, 43] 43 #[.slice ps s.lanes.length cs, .slice (some ⟨wr.heap.size, 0, none⟩) 1 1]).run Tryz.prog (wr.alloc (.cells #[.int .i64 0, .int .i64 X, .slice none 0 0] 121)) = .ok (.slice q1 (s.lanes.length + 1) x1) w1 := t1
          replace t2 : (Builtin.append_ #[43, 43] 43 #[.slice ps s.lanes.length cs, .slice (some ⟨w1.heap.size, 0, none⟩) 2 2]).run Tryz.prog (w1.alloc (.cells #[.int .i64 0, .int .i64 X, .slice none 0 0, .int .i64 0, .int .i64 X, .slice none 0 0] 121)) = .ok (.slice q2 (s.lanes.length + 2) x2) w2 := t2
          replace t3 : (Builtin.append_ #[43, 43] 43 #[.slice ps s.lanes.length cs, .slice (some ⟨w2.heap.size, 0, none⟩) 3 3]).run Tryz.prog (w2.alloc (.cells #[.int .i64 0, .int .i64 X, .slice none 0 0, .int .i64 0, .int .i64 X, .slice none 0 0, .int .i64 0, .int .i64 X, .slice none 0 0] 121)) = .ok (.slice q3 (s.lanes.length + 3) x3) w3 := t3
          replace tF : (Builtin.append_ #[74, 74] 74 #[.slice p1 (L1 1).length k1, .slice (some ⟨w3.heap.size, 0, none⟩) 4 4]).run Tryz.prog (w3.alloc (.cells #[.slice ps s.lanes.length cs, .slice q1 (s.lanes.length + 1) x1, .slice q2 (s.lanes.length + 2) x2, .slice q3 (s.lanes.length + 3) x3] 43)).drew = .ok (.slice qF ((L1 1).length + 4) xF) wF := tF
          have hMT : Hid (∃ B2 r2 L2, MT w lo mb o B L (.slice pk s.keys.length ck) s (wF.setCell ⟨mb, o + 1, none⟩ (.slice qF ((L1 1).length + 4) xF)) B2 r2 L2) := h.sess' hs hlo hml hl4 c0 hbook (by rw [hr1]; exact hcc) hsl
          clear hbook hcc hsl hb0 hrow hvB d1 d2 d3 cF h
          go_wp2_with (first | (at_builtin; refine Lib.wpList_append_run _ rfl (.tmp 51) (.tmp 53) 43 43 rfl _ _ rfl rfl (.slice q1 (s.lanes.length + 1) x1) w1 t1 ?_) | (at_builtin; refine Lib.wpList_append_run _ rfl (.tmp 56) (.tmp 59) 43 43 rfl _ _ rfl rfl (.slice q2 (s.lanes.length + 2) x2) w2 t2 ?_) | (at_builtin; refine Lib.wpList_append_run _ rfl (.tmp 62) (.tmp 66) 43 43 rfl _ _ rfl rfl (.slice q3 (s.lanes.length + 3) x3) w3 t3 ?_))
          go_region_law (refine step_run rfl (.tmp 72) (.tmp 78) 74 74 rfl _ _ (by simp [Act.eval, Act.put]) (by simp [Act.eval, Act.put]) _ _ tF ?_)
          all_goals
            obtain ⟨WA, hWA⟩ : ∃ WA, WA = wF.setCell ⟨mb, o + 1, none⟩ (.slice qF ((L1 1).length + 4) xF) := ⟨_, rfl⟩
            rw [← hWA]
            rw [← hWA] at hMT
            clear hWA t1 t2 t3 tF s1 s2 s3 s3d b3 b3d b3a l10 l11 l12 l20 l21 l22 eF fF d0 y0 y1 y2 e0 z0 z1 z2 a0 a1 hb1
            obtain ⟨B2, r2, L2, h⟩ := hMT.out
            clear hMT
            have a1 := h.c1
            have hb2 := h.book.cell 2 (by omega)
            obtain ⟨p2, k2, hr2⟩ := row_any (h.book.row 2 (by omega))
            rw [hr2] at hb2
            obtain ⟨Y, hY⟩ : ∃ Y : Int, Y = 1000000 + (((L2 2).length / 4 : Nat) : Int) := ⟨_, rfl⟩
            have hln2 : (L2 2).length ≤ 900000000 := by have := h.len2; have := hn 2 (by omega); omega
            have hYr : 0 ≤ Y ∧ Y ≤ 2000000000 := by omega
            have hq2 : (1000000 : Int) + ((L2 2).length : Int) / 4 = Y := by rw [hY]; omega
            have HY : Hid (Y = 1000000 + (((L2 2).length / 4 : Nat) : Int)) := hY
            clear hY
            obtain ⟨V0, hV0⟩ : ∃ V0, V0 = WA.alloc (Obj.cells #[.string { data := #[] }, .int .i64 Y, .int .i64 0, .int .i64 0] 87) := ⟨_, rfl⟩
            have g0 : Chg (fun _ => False) WA V0 := by rw [hV0]; exact (Chg.refl _ WA).alloc _
            have n0 : V0.cell? ⟨WA.heap.size, 0, none⟩ = some (.string { data := #[] }) := by rw [hV0]; exact World.cell?_alloc_at _ _ _ _ rfl
            have n1 : V0.cell? ⟨WA.heap.size, 1, none⟩ = some (.int .i64 Y) := by rw [hV0]; exact World.cell?_alloc_at _ _ _ _ rfl
            have n2 : V0.cell? ⟨WA.heap.size, 2, none⟩ = some (.int .i64 0) := by rw [hV0]; exact World.cell?_alloc_at _ _ _ _ rfl
            have n3 : V0.cell? ⟨WA.heap.size, 3, none⟩ = some (.int .i64 0) := by rw [hV0]; exact World.cell?_alloc_at _ _ _ _ rfl
            have hgz : WA.heap.size < V0.heap.size := World.block_lt_of_cell? _ _ n0
            have hkw : ∀ g, (Value.slice pk s.keys.length ck).ownBlock = some g → g < WA.heap.size := fun g hg => (h.keys.lt g hg).2
            have hks0 : ∀ g, (Value.slice pk s.keys.length ck).ownBlock = some g → g ≠ w.heap.size := fun g hg => by have := (hs.keys.lt g hg).2; omega
            go_wp2_with fail
            rw [← hV0]
            clear hV0 hq2
            have e1 := g0.cellAt a1 id
            go_loopw [11] (fun si wq => ∃ (k : Nat), si = .int .i64 k ∧ k ≤ s.keys.length ∧ wq.ownsRow lo 87 4 (.slice pk s.keys.length ck) s.keys.length (reps [.string { data := #[] }, .int .i64 Y, .int .i64 0, .int .i64 0] k ++ (keyCells s.keys).drop (k * 4)) ∧ Chg (fun q => (Value.slice pk s.keys.length ck).ownBlock = some q) V0 wq) (fun si _ => s.keys.length - (intOf si).toNat)
            case atStart => exact ⟨0, rfl, by omega, by simpa [reps] using g0.row' h.keys (fun _ _ h => h), Chg.refl _ _⟩
            case round =>
              obtain ⟨wp, rfl⟩ : ∃ wp : World, wp = wr := ⟨_, rfl⟩
              obtain ⟨k, rfl, hk3, hrow, hcw2⟩ := hrel
              have d1 := hcw2.cellAt e1 (fun e => hks0 _ e rfl)
              have y0 := hcw2.cellAt n0 (fun e => by have := hkw _ e; omega)
              have y1 := hcw2.cellAt n1 (fun e => by have := hkw _ e; omega)
              have y2 := hcw2.cellAt n2 (fun e => by have := hkw _ e; omega)
              have y3 := hcw2.cellAt n3 (fun e => by have := hkw _ e; omega)
              by_cases hkn : k < s.keys.length
              · have hkn3 : (k : Int) < (s.keys.length : Int) := by omega
                obtain ⟨g, cap', hvs, _, _, _⟩ := row_pos hrow (by omega)
                simp only [Value.slice.injEq] at hvs
                obtain ⟨rfl, _, rfl⟩ := hvs
                have hne : ¬ g = WA.heap.size := by have := hkw g rfl; omega
                have hne' : ¬ WA.heap.size = g := fun e => hne e.symm
                have hne2 : ¬ g = w.heap.size := hks0 g rfl
                obtain ⟨⟨u0, m0⟩, ⟨u1, m1⟩, ⟨u2, m2⟩, ⟨u3, m3⟩, hst⟩ := fill4 hrow hkn
                have f0 := row_frozen hrow (k * 4)
                have f1 := row_frozen hrow (k * 4 + 1)
                have f2 := row_frozen hrow (k * 4 + 2)
                have f3 := row_frozen hrow (k * 4 + 3)
                have HST : Hid (((((wp.setCell ⟨g, k * 4, none⟩ (.string { data := #[] })).setCell ⟨g, k * 4 + 1, none⟩ (.int .i64 Y)).setCell ⟨g, k * 4 + 2, none⟩ (.int .i64 0)).setCell ⟨g, k * 4 + 3, none⟩ (.int .i64 0)).ownsRow lo 87 4 (.slice (some ⟨g, 0, none⟩) s.keys.length ck) s.keys.length (reps [.string { data := #[] }, .int .i64 Y, .int .i64 0, .int .i64 0] (k + 1) ++ (keyCells s.keys).drop ((k + 1) * 4))) := hst
                have cS : Chg (fun q => q = g) wp ((((wp.setCell ⟨g, k * 4, none⟩ (.string { data := #[] })).setCell ⟨g, k * 4 + 1, none⟩ (.int .i64 Y)).setCell ⟨g, k * 4 + 2, none⟩ (.int .i64 0)).setCell ⟨g, k * 4 + 3, none⟩ (.int .i64 0)) := ((((Chg.refl (fun q => q = g) wp).setCell (p := ⟨g, k * 4, none⟩) (fun _ => rfl) _).setCell (p := ⟨g, k * 4 + 1, none⟩) (fun _ => rfl) _).setCell (p := ⟨g, k * 4 + 2, none⟩) (fun _ => rfl) _).setCell (p := ⟨g, k * 4 + 3, none⟩) (fun _ => rfl) _
                clear hst
                go_wp2_with fail
                exact ⟨⟨k + 1, by go_num, by omega, HST.out, hcw2.trans cS (fun q _ h => by rw [h]; rfl)⟩, by simp [intOf]; omega⟩
              · have hkn3 : ¬ (k : Int) < (s.keys.length : Int) := by omega
                obtain rfl : k = s.keys.length := by omega
                rw [List.drop_of_length_le (by rw [h.keys.1]; omega), List.append_nil] at hrow
                have hb0 := h.book.chg g0 (fun _ f => f.elim)
                have hvB : ∀ g, (Value.slice pk s.keys.length ck).ownBlock = some g → ¬ B2 g ∧ g ≠ mb ∧ g < V0.heap.size := fun g hg => ⟨fun e => (h.old g e).2.2 hg, by have := (hs.keys.lt g hg).1; omega, by have := hkw g hg; omega⟩
                obtain ⟨v1, w1, v2, w2, v3, w3, vF, wF, t1, t2, t3, tF, ⟨q1, x1, q2, x2, q3, x3, qF, xF, rfl, rfl, rfl, rfl⟩, d1, d2, d3, cF, eF, fF, hbook, hcc, hsl⟩ := book_marks (P := Tryz.prog) (lo := lo) hb0 (x := 2) (by omega) 44 75 87 j1 j2 _ 40 [.string { data := #[] }, .int .i64 Y, .int .i64 0, .int .i64 0] Y Tryz.underlying44 hj1 hz0 hz1 hz2 rfl (by simp) rfl (by simp [Value.oneCell']) (by omega) rfl Tryz.underlying75 hj2 ht0 ht1 ht2 HY.out (.slice pk s.keys.length ck) s.keys.length (by omega) hvB hcw2 hrow (by have := h.chg.size; omega) (by omega)
                rw [hr2] at tF eF hcc
                have s1 := d1.cellAt e1 (fun e => hks0 _ e rfl)
                have s2 := d2.cellAt e1 (fun e => hks0 _ e rfl)
                have s3 := d3.cellAt e1 (fun e => hks0 _ e rfl)
                have b3 := d3.cellAt (g0.cellAt hb2 id) (fun e => (hvB _ e).2.1 rfl)
                have b3a : (w3.alloc (.cells #[.slice pk s.keys.length ck, .slice q1 (s.keys.length + 1) x1, .slice q2 (s.keys.length + 2) x2, .slice q3 (s.keys.length + 3) x3] 44)).cell? ⟨mb, o + 2, none⟩ = some (.slice p2 (L2 2).length k2) := ((Chg.refl (fun _ => False) w3).alloc _).cellAt b3 id
                have l10 := d1.cellAt n0 (fun e => by have := hkw _ e; omega)
                have l11 := d1.cellAt n1 (fun e => by have := hkw _ e; omega)
                have l12 := d1.cellAt n2 (fun e => by have := hkw _ e; omega)
                have l13 := d1.cellAt n3 (fun e => by have := hkw _ e; omega)
                have l20 := d2.cellAt n0 (fun e => by have := hkw _ e; omega)
                have l21 := d2.cellAt n1 (fun e => by have := hkw _ e; omega)
                have l22 := d2.cellAt n2 (fun e => by have := hkw _ e; omega)
                have l23 := d2.cellAt n3 (fun e => by have := hkw _ e; omega)
                replace t1 : (Builtin.append_ #[44, 44] 44 #[.slice pk s.keys.length ck, .slice (some ⟨wp.heap.size, 0, none⟩) 1 1]).run Tryz.prog (wp.alloc (.cells #[.string { data := #[] }, .int .i64 Y, .int .i64 0, .int .i64 0] 87)) = .ok (.slice q1 (s.keys.length + 1) x1) w1 := t1
                replace t2 : (Builtin.append_ #[44, 44] 44 #[.slice pk s.keys.length ck, .slice (some ⟨w1.heap.size, 0, none⟩) 2 2]).run Tryz.prog (w1.alloc (.cells #[.string { data := #[] }, .int .i64 Y, .int .i64 0, .int .i64 0, .string { data := #[] }, .int .i64 Y, .int .i64 0, .int .i64 0] 87)) = .ok (.slice q2 (s.keys.length + 2) x2) w2 := t2
                replace t3 : (Builtin.append_ #[44, 44] 44 #[.slice pk s.keys.length ck, .slice (some ⟨w2.heap.size, 0, none⟩) 3 3]).run Tryz.prog (w2.alloc (.cells #[.string { data := #[] }, .int .i64 Y, .int .i64 0, .int .i64 0, .string { data := #[] }, .int .i64 Y, .int .i64 0, .int .i64 0, .string { data := #[] }, .int .i64 Y, .int .i64 0, .int .i64 0] 87)) = .ok (.slice q3 (s.keys.length + 3) x3) w3 := t3
                replace tF : (Builtin.append_ #[75, 75] 75 #[.slice p2 (L2 2).length k2, .slice (some ⟨w3.heap.size, 0, none⟩) 4 4]).run Tryz.prog (w3.alloc (.cells #[.slice pk s.keys.length ck, .slice q1 (s.keys.length + 1) x1, .slice q2 (s.keys.length + 2) x2, .slice q3 (s.keys.length + 3) x3] 44)).drew = .ok (.slice qF ((L2 2).length + 4) xF) wF := tF
                have hfin : Inks w lo mb o B L (wF.setCell ⟨mb, o + 2, none⟩ (.slice qF ((L2 2).length + 4) xF)) := h.fin hs.keys hlo g0 hbook (by rw [hr2]; exact hcc) hsl
                clear hbook hcc hsl hb0 hrow hvB d1 d2 d3 cF h
                go_wp2_with (first | (at_builtin; refine Lib.wpList_append_run _ rfl (.tmp 103) (.tmp 105) 44 44 rfl _ _ rfl rfl (.slice q1 (s.keys.length + 1) x1) w1 t1 ?_) | (at_builtin; refine Lib.wpList_append_run _ rfl (.tmp 108) (.tmp 111) 44 44 rfl _ _ rfl rfl (.slice q2 (s.keys.length + 2) x2) w2 t2 ?_) | (at_builtin; refine Lib.wpList_append_run _ rfl (.tmp 114) (.tmp 118) 44 44 rfl _ _ rfl rfl (.slice q3 (s.keys.length + 3) x3) w3 t3 ?_))
                go_region_law (refine step_run rfl (.tmp 124) (.tmp 130) 75 75 rfl _ _ (by simp [Act.eval, Act.put]) (by simp [Act.eval, Act.put]) _ _ tF ?_)
                all_goals
                  go_end0
                  exact ⟨rfl, hfin⟩

end Go.Proofs.YthedkdbgfdjlkaaGreatDoor

/- culvertlaw: World.told: what its walks take. -/
namespace Go.Proofs.YthedkdbgfdjlkaaGreatDoor
set_option linter.unusedVariables false
set_option linter.unusedSimpArgs false
open Go.RowKit Go.Lib

/-- One step of a script. -/
structure OpD where
  kind : Int
  on : Int
  x : Rec
  key : ByteArray
  num : Int

def OpD.cells (o : OpD) : List Value := [.int .i64 o.kind, .int .i64 o.on, .int .i64 o.x.session, .int .i64 o.x.epoch, .int .i64 o.x.number, .string o.x.key, .int .i64 o.x.value, .string o.key, .int .i64 o.num]

def OpD.value (o : OpD) : Value := .agg #[.int .i64 o.kind, .int .i64 o.on, .int .i64 o.x.session, .int .i64 o.x.epoch, .int .i64 o.x.number, .string o.x.key, .int .i64 o.x.value, .string o.key, .int .i64 o.num]

structure OpD.fits (o : OpD) : Prop where
  kind : inInt o.kind
  on : inInt o.on
  x : o.x.fits
  key : o.key.size ≤ maxLen
  num : inInt o.num

theorem relT_small {T : List UInt8} {w : World} {a : Addr} {o : Option St} {F : Nat → Prop} (h : RelT T w a o F) : (state? o).lanes.length ≤ 4 ∧ (state? o).keys.length ≤ 4 ∧ ∀ l ∈ (state? o).lanes, l.ws.length ≤ 4 := by
  cases o with
  | none => simp [state?]
  | some s =>
    obtain ⟨b, _, _, _, h⟩ := h
    obtain ⟨_, E, B, V, vk, vb, Q, ks, _, h5, h6, _⟩ := h
    refine ⟨by simp only [state?]; rw [h6.four]; omega, by simp only [state?]; rw [h6.keys]; exact h5.kl, fun l hl => ?_⟩
    simp only [state?] at hl
    obtain ⟨i, hi, e⟩ := List.getElem_of_mem hl
    have hi4 : i < 4 := by rw [← h6.four]; exact hi
    obtain ⟨l', g1, g2⟩ := h6.lane i hi4
    have : l' = l := by rw [List.getElem?_eq_getElem hi, e] at g1; exact (Option.some.inj g1).symm
    subst this
    rw [← g2.perm.length_eq]
    have := h5.ql i hi4
    omega

theorem relT_puts_len {T : List UInt8} {w : World} {a : Addr} {o : Option St} {F : Nat → Prop} (h : RelT T w a o F) : (puts? o).length ≤ 4 := by
  have := (relT_small h).2.1
  cases o with
  | none => simp [puts?]
  | some s =>
    simp only [state?, puts?] at this ⊢
    have := putsOf_short s.keys
    omega

/-- The marks of puts, as those of a state. -/
theorem Book.putInks {w w' : World} {mb lo : Nat} {B : Nat → Prop} {r : Nat → Value} {L : Nat → List Value} (h : Book w mb 3 B r L) {v v1 v2 v3 r' : Value} {n : Nat} {xs : List Value} (hl : w.ownsRow lo 63 3 v n xs) (hlo : lo ≤ w.heap.size) (hBl : ∀ g, B g → g < lo) (hml : mb < lo) (hn : n ≤ 900)
    (hc : w'.cell? ⟨mb, 3 + 3, none⟩ = some r') (hr : w'.ownsRow 0 56 1 r' ((L 3).length + 4) (L 3 ++ [v, v1, v2, v3]))
    (hm : ∀ u, u = v ∨ u = v1 ∨ u = v2 ∨ u = v3 → Mk w' 3 1 (1000000 + (((L 3).length / 4 : Nat) : Int)) u ∧ Lst w.heap.size n v u)
    (hw : Wh w.heap.size (r 3) r') (hs : Slots mb (fun j => j = 3 + 3) w w') (cc : Chg (fun k => k = mb ∨ (r 3).ownBlock = some k ∨ v.ownBlock = some k) w w') : Inks w lo mb 3 B L w' := by
  have hv : ∀ g, v.ownBlock = some g → ¬ B g ∧ g ≠ mb ∧ g < w.heap.size := fun g hg => by
    have := hl.lt g hg
    exact ⟨fun e => by have := hBl g e; omega, by omega, this.2⟩
  refine ⟨_, _, _, h.step (x := 3) (by omega) (n := n) (by omega) hv hc hr hm hw hs cc, fun x hx => ?_, fun g hg => ?_, ?_, ?_⟩
  · by_cases e : x = 3
    · subst e; rw [putAt_at]; simp
    · rw [putAt_ne _ _ e]; omega
  · rcases hg with e | e | e
    · exact .inl e
    · exact .inr (hl.lt g e).1
    · exact .inr (by omega)
  · refine cc.mono (fun q e => ?_)
    rcases e with e | e | e
    · exact .inl e
    · exact .inr (.inl (h.rows 3 (by omega) q e))
    · exact .inr (.inr (hl.lt q e).1)
  · exact ⟨fun j hj => hs.cell j (by omega), hs.frozen⟩

section
variable {W0 w : World} {wb n N : Nat} {z : Nat → Nat} {pa ra : Nat → Addr} {st : Nat → Option St} {T : Nat → List UInt8} {FP FR : Nat → Nat → Prop} {B : Nat → Prop} {r : Nat → Value} {L : Nat → List Value} {vp vr : Value}

/-- The k-th pointers. -/
theorem Wd.at_k (h : Wd W0 w wb n N z pa ra st T FP FR B r L vp vr) {k : Nat} (hk : k < n) :
    ∃ gp cp gr cr, vp = .slice (some ⟨gp, 0, none⟩) n cp ∧ vr = .slice (some ⟨gr, 0, none⟩) n cr ∧ w.cell? ⟨gp, k, none⟩ = some (.pointer (some (pa k))) ∧ w.cell? ⟨gr, k, none⟩ = some (.pointer (some (ra k))) := by
  obtain ⟨gp, cp, e1, _, _, h1⟩ := row_pos h.rp (by omega)
  obtain ⟨gr, cr, e2, _, _, h2⟩ := row_pos h.rr (by omega)
  exact ⟨gp, cp, gr, cr, e1, e2, h1 k _ (ptrs_at _ _ hk), h2 k _ (ptrs_at _ _ hk)⟩

theorem Wd.free (h : Wd W0 w wb n N z pa ra st T FP FR B r L vp vr) {k : Nat} (hk : k < n) : ∀ q, FR k q → ¬ FP k q := fun q h1 h2 => by
  have := h.zP k hk q h2
  have := h.zR k hk q h1
  omega
end

end Go.Proofs.YthedkdbgfdjlkaaGreatDoor

/- culvertlaw: World.told, WALKED: Accept, Close, Answer. -/
namespace Go.Proofs.YthedkdbgfdjlkaaGreatDoor
set_option linter.unusedVariables false
set_option linter.unusedSimpArgs false
open Go.RowKit Go.Lib

/-- A told step's cells in a new block. -/
theorem opd_new (w : World) (o : OpD) : ∀ j u, o.cells[j]? = some u → (w.alloc (.cells o.cells.toArray 82)).cell? ⟨w.heap.size, j, none⟩ = some u := fun j u hu => by
  rw [World.cell?_alloc_new]
  simpa using hu

set_option maxRecDepth 100000 in
set_option maxHeartbeats 4000000 in
theorem told_accept {W0 w : World} {wb n N : Nat} (hx : Wx W0 w wb n N) (hN : N ≤ 10000000) {k : Nat} (hk : k < n) (o : OpD) (hf : o.fits) (hkd : o.kind = 2) :
    Calls Tryz.prog 27 #[.pointer (some ⟨wb, 0, none⟩), .int .i64 k, o.value] w fun e w' => e = .returned (.bool true) ∧ Wx W0 w' wb n (N + 1) := by
  obtain ⟨z, pa, ra, st, T, FP, FR, B, r, L, vp, vr, h⟩ := hx
  obtain ⟨kd, on, ⟨xs, xe, xn, xk, xv⟩, key, num⟩ := o
  simp only at hkd
  subst hkd
  obtain ⟨gp, cp, gr, cr, rfl, rfl, m1, m2⟩ := h.at_k hk
  have hn : n ≤ 10000000 := Nat.le_trans h.many hN
  have hk' : (k : Int) < (n : Int) := by omega
  obtain ⟨W0, hW0⟩ : ∃ W0, W0 = w.alloc (.cells #[.int .i64 2, .int .i64 on, .int .i64 xs, .int .i64 xe, .int .i64 xn, .string xk, .int .i64 xv, .string key, .int .i64 num] 82) := ⟨_, rfl⟩
  have c0 : Chg (fun _ => False) w W0 := by rw [hW0]; exact (Chg.refl _ w).alloc _
  have ho : ∀ j u, (OpD.cells ⟨2, on, ⟨xs, xe, xn, xk, xv⟩, key, num⟩)[j]? = some u → W0.cell? ⟨w.heap.size, j, none⟩ = some u := by rw [hW0]; exact opd_new w _
  have o0 := ho 0 _ rfl
  have o2 := ho 2 _ rfl
  have o3 := ho 3 _ rfl
  have o4 := ho 4 _ rfl
  have o5 := ho 5 _ rfl
  have o6 := ho 6 _ rfl
  have h0 := h.keep c0
  have hal : ∀ (p : Addr) (v : Value), w.cell? p = some v → ∀ ob, (w.alloc ob).cell? p = some v := fun p v hv ob => (World.cell?_alloc_lt w ob p (World.block_lt_of_cell? _ _ hv)).trans hv
  have a0 := hal _ _ h.c0
  have a1 := hal _ _ h.c1
  have n1 := hal _ _ m1
  have n2 := hal _ _ m2
  have hacc := relT_accept ⟨xs, xe, xn, xk, xv⟩ (h0.relP k hk) (by have := h0.lenT k hk; omega) hf.x
  have hnb : ¬ FP k w.heap.size := fun e => by have := relT_lt (h.relP k hk) e; omega
  unfold OpD.value
  unfold Rec.value' at hacc
  simp only at hacc ⊢
  go_enter Tryz.func27, Tryz.ntmps27
  go_wp2_with (go_at_call 22; rw [← hW0]; refine hacc.mono ?_; rintro _ w1 ⟨F', T', rfl, hP, hT, hF, c1⟩; have s2 := c1.cellAt o2 hnb; have s3 := c1.cellAt o3 hnb; have s4 := c1.cellAt o4 hnb; have s5 := c1.cellAt o5 hnb; have s6 := c1.cellAt o6 hnb)
  clear hW0
  have hR1 := ref_stable (h0.relR k hk) (fun q hq => c1.block q (ref_lt (h0.relR k hk) hq) (h0.free hk q hq))
  have hra := ref_accept ⟨xs, xe, xn, xk, xv⟩ hR1 hf.x (by omega)
  unfold Rec.value' at hra
  simp only at hra
  go_wp2_with (first | (go_at_call 46; refine hra.mono ?_; rintro _ w2 ⟨G', rfl, hR, hG, c2⟩) | (go_at_call 47; refine (num_any _ _).mono ?_; rintro _ w9 ⟨rfl, e9⟩; rw [e9]; clear e9 w9))
  go_ret
  refine ⟨by simp, h0.turn hk c1 hP hF c2 (ref_more hR (by omega)) hG ?_⟩
  have := h0.lenT k hk
  rcases hT with ⟨e, _⟩ | ⟨e, _, e2⟩
  · rw [e]; omega
  · rw [e, List.length_append]; omega

end Go.Proofs.YthedkdbgfdjlkaaGreatDoor

/- culvertlaw: World.told, WALKED: Close, Answer. -/
namespace Go.Proofs.YthedkdbgfdjlkaaGreatDoor
set_option linter.unusedVariables false
set_option linter.unusedSimpArgs false
open Go.RowKit Go.Lib

set_option maxRecDepth 100000 in
set_option maxHeartbeats 4000000 in
theorem told_close {W0 w : World} {wb n N : Nat} (hx : Wx W0 w wb n N) (hN : N ≤ 10000000) {k : Nat} (hk : k < n) (o : OpD) (hf : o.fits) (hkd : o.kind = 4) :
    Calls Tryz.prog 27 #[.pointer (some ⟨wb, 0, none⟩), .int .i64 k, o.value] w fun e w' => e = .returned (.bool true) ∧ Wx W0 w' wb n (N + 1) := by
  obtain ⟨z, pa, ra, st, T, FP, FR, B, r, L, vp, vr, h⟩ := hx
  obtain ⟨kd, on, ⟨xs, xe, xn, xk, xv⟩, key, num⟩ := o
  simp only at hkd
  subst hkd
  obtain ⟨gp, cp, gr, cr, rfl, rfl, m1, m2⟩ := h.at_k hk
  have hn : n ≤ 10000000 := Nat.le_trans h.many hN
  have hk' : (k : Int) < (n : Int) := by omega
  obtain ⟨W0, hW0⟩ : ∃ W0, W0 = w.alloc (.cells #[.int .i64 4, .int .i64 on, .int .i64 xs, .int .i64 xe, .int .i64 xn, .string xk, .int .i64 xv, .string key, .int .i64 num] 82) := ⟨_, rfl⟩
  have c0 : Chg (fun _ => False) w W0 := by rw [hW0]; exact (Chg.refl _ w).alloc _
  have ho : ∀ j u, (OpD.cells ⟨4, on, ⟨xs, xe, xn, xk, xv⟩, key, num⟩)[j]? = some u → W0.cell? ⟨w.heap.size, j, none⟩ = some u := by rw [hW0]; exact opd_new w _
  have o0 := ho 0 _ rfl
  have o2 := ho 2 _ rfl
  have o3 := ho 3 _ rfl
  have o4 := ho 4 _ rfl
  have o5 := ho 5 _ rfl
  have o6 := ho 6 _ rfl
  have h0 := h.keep c0
  have hal : ∀ (p : Addr) (v : Value), w.cell? p = some v → ∀ ob, (w.alloc ob).cell? p = some v := fun p v hv ob => (World.cell?_alloc_lt w ob p (World.block_lt_of_cell? _ _ hv)).trans hv
  have a0 := hal _ _ h.c0
  have a1 := hal _ _ h.c1
  have n1 := hal _ _ m1
  have n2 := hal _ _ m2
  have hcl := relT_close (h0.relP k hk)
  unfold OpD.value
  simp only
  go_enter Tryz.func27, Tryz.ntmps27
  go_wp2_with (go_at_call 24; rw [← hW0]; refine hcl.mono ?_; rintro _ w1 ⟨rfl, hP, c1⟩)
  clear hW0
  have hR1 := ref_stable (h0.relR k hk) (fun q hq => c1.block q (ref_lt (h0.relR k hk) hq) (h0.free hk q hq))
  have hra := ref_close hR1
  go_wp2_with (first | (go_at_call 51; refine hra.mono ?_; rintro _ w2 ⟨rfl, hR, c2⟩) | (go_at_call 47; refine (num_any _ _).mono ?_; rintro _ w9 ⟨rfl, e9⟩; rw [e9]; clear e9 w9))
  go_ret
  refine ⟨by simp, h0.turn hk c1 hP (fun g hg => .inl hg) c2 (ref_more hR (by omega)) (fun g hg => .inl hg) ?_⟩
  have := h0.lenT k hk
  omega

set_option maxRecDepth 100000 in
set_option maxHeartbeats 4000000 in
theorem told_answer {W0 w : World} {wb n N : Nat} (hx : Wx W0 w wb n N) (hN : N ≤ 10000000) {k : Nat} (hk : k < n) (o : OpD) (hf : o.fits) (hkd : o.kind = 6) :
    Calls Tryz.prog 27 #[.pointer (some ⟨wb, 0, none⟩), .int .i64 k, o.value] w fun e w' => e = .returned (.bool true) ∧ Wx W0 w' wb n (N + 1) := by
  obtain ⟨z, pa, ra, st, T, FP, FR, B, r, L, vp, vr, h⟩ := hx
  obtain ⟨kd, on, ⟨xs, xe, xn, xk, xv⟩, key, num⟩ := o
  simp only at hkd
  subst hkd
  obtain ⟨gp, cp, gr, cr, rfl, rfl, m1, m2⟩ := h.at_k hk
  have hn : n ≤ 10000000 := Nat.le_trans h.many hN
  have hk' : (k : Int) < (n : Int) := by omega
  obtain ⟨W0, hW0⟩ : ∃ W0, W0 = w.alloc (.cells #[.int .i64 6, .int .i64 on, .int .i64 xs, .int .i64 xe, .int .i64 xn, .string xk, .int .i64 xv, .string key, .int .i64 num] 82) := ⟨_, rfl⟩
  have c0 : Chg (fun _ => False) w W0 := by rw [hW0]; exact (Chg.refl _ w).alloc _
  have ho : ∀ j u, (OpD.cells ⟨6, on, ⟨xs, xe, xn, xk, xv⟩, key, num⟩)[j]? = some u → W0.cell? ⟨w.heap.size, j, none⟩ = some u := by rw [hW0]; exact opd_new w _
  have o0 := ho 0 _ rfl
  have o2 := ho 2 _ rfl
  have o3 := ho 3 _ rfl
  have o4 := ho 4 _ rfl
  have o5 := ho 5 _ rfl
  have o6 := ho 6 _ rfl
  have h0 := h.keep c0
  have hal : ∀ (p : Addr) (v : Value), w.cell? p = some v → ∀ ob, (w.alloc ob).cell? p = some v := fun p v hv ob => (World.cell?_alloc_lt w ob p (World.block_lt_of_cell? _ _ hv)).trans hv
  have a0 := hal _ _ h.c0
  have a1 := hal _ _ h.c1
  have n1 := hal _ _ m1
  have n2 := hal _ _ m2
  have o7 := ho 7 _ rfl
  have o8 := ho 8 _ rfl
  have han := relT_answer key num (h0.relP k hk) (by have := h0.lenT k hk; omega) hf.key hf.num
  have hnb : ¬ FP k w.heap.size := fun e => by have := relT_lt (h.relP k hk) e; omega
  unfold OpD.value
  simp only at han ⊢
  go_enter Tryz.func27, Tryz.ntmps27
  go_wp2_with (go_at_call 23; rw [← hW0]; refine han.mono ?_; rintro _ w1 ⟨F', T', rfl, hP, hT, hF, c1⟩; have s7 := c1.cellAt o7 hnb; have s8 := c1.cellAt o8 hnb)
  clear hW0
  have hR1 := ref_stable (h0.relR k hk) (fun q hq => c1.block q (ref_lt (h0.relR k hk) hq) (h0.free hk q hq))
  have hra := ref_answer key num hR1 hf.key hf.num (by omega)
  go_wp2_with (first | (go_at_call 55; refine hra.mono ?_; rintro _ w2 ⟨G', rfl, hR, hG, c2⟩) | (go_at_call 47; refine (num_any _ _).mono ?_; rintro _ w9 ⟨rfl, e9⟩; rw [e9]; clear e9 w9))
  go_ret
  refine ⟨by simp, h0.turn hk c1 hP hF c2 hR hG ?_⟩
  have := h0.lenT k hk
  rcases hT with ⟨e, _⟩ | ⟨e, _, e2⟩
  · rw [e]; omega
  · rw [e, List.length_append]; omega

end Go.Proofs.YthedkdbgfdjlkaaGreatDoor

/- culvertlaw: World.told, WALKED: State. -/
namespace Go.Proofs.YthedkdbgfdjlkaaGreatDoor
set_option linter.unusedVariables false
set_option linter.unusedSimpArgs false
open Go.RowKit Go.Lib

section
variable {W0 w : World} {wb n N : Nat} {z : Nat → Nat} {pa ra : Nat → Addr} {st : Nat → Option St} {T : Nat → List UInt8} {FP FR : Nat → Nat → Prop} {B : Nat → Prop} {r : Nat → Value} {L : Nat → List Value} {vp vr : Value}

theorem st_ref (h : Wd W0 w wb n N z pa ra st T FP FR B r L vp vr) {k : Nat} (hk : k < n) (hN : N ≤ 10000000) {w1 W1 : World} {v0 v1 : Value} (c1 : Chg (FP k) w w1) (hW1 : W1 = w1.alloc (Obj.cells #[v0, v1] 46)) :
    Chg (fun _ => False) w1 W1 ∧ W1.cell? ⟨w1.heap.size, 0, none⟩ = some v0 ∧ W1.cell? ⟨w1.heap.size, 1, none⟩ = some v1 ∧ Calls Tryz.prog 48 #[.pointer (some (ra k))] W1 fun e w' =>
      ∃ vs vk, e = .returned (.tuple #[.agg #[vs, vk], .int .i64 (errno? (st k))]) ∧ StateAt w' W1.heap.size vs vk (state? (st k)) ∧ RefRel N w' (ra k) (st k) (FR k) ∧ Chg (fun _ => False) W1 w' := by
  subst hW1
  have e1 : Chg (fun _ => False) w1 (w1.alloc (Obj.cells #[v0, v1] 46)) := (Chg.refl _ w1).alloc _
  have hR1 := ref_stable (h.relR k hk) (fun q hq => c1.block q (ref_lt (h.relR k hk) hq) (h.free hk q hq))
  exact ⟨e1, World.cell?_alloc_at _ _ _ _ rfl, World.cell?_alloc_at _ _ _ _ rfl, ref_state (ref_stable hR1 (fun q hq => e1.block q (ref_lt hR1 hq) id)) (by omega)⟩
end

theorem StateOf.chg {w w' : World} {lo : Nat} {vs vk : Value} {s : St} {us : List Value} (h : StateOf w lo vs vk s us) (c : Chg (fun _ => False) w w') : StateOf w' lo vs vk s us :=
  ⟨h.len, c.row' h.sess (fun _ _ => id), fun i l u hl hu => c.row' (h.wait i l u hl hu) (fun _ _ => id), c.row' h.keys (fun _ _ => id), h.apart⟩

theorem st_same {w1 W1 w2 W2 : World} {lo lo2 : Nat} {v0 v1 vs2 vk2 : Value} {s : St} {us : List Value} (hS : StateOf w1 lo v0 v1 s us) (q1 : s.lanes.length ≤ 4) (q2 : s.keys.length ≤ 4) (q3 : ∀ l ∈ s.lanes, l.ws.length ≤ 4) (e1 : Chg (fun _ => False) w1 W1) (y0 : W1.cell? ⟨w1.heap.size, 0, none⟩ = some v0) (y1 : W1.cell? ⟨w1.heap.size, 1, none⟩ = some v1) (c2 : Chg (fun _ => False) W1 w2) (hS2 : StateAt w2 lo2 vs2 vk2 s) (hW2 : W2 = w2.alloc (Obj.cells #[vs2, vk2] 46)) :
    (∀ ob, (w2.alloc ob).cell? ⟨w1.heap.size, 0, none⟩ = some v0) ∧ (∀ ob, (w2.alloc ob).cell? ⟨w1.heap.size, 1, none⟩ = some v1) ∧ Chg (fun _ => False) w1 W2 ∧ Calls Tryz.prog 49 #[.agg #[v0, v1], .agg #[vs2, vk2]] W2 fun e w' => e = .returned (.bool true) ∧ Chg (fun _ => False) W2 w' := by
  subst hW2
  have e2 : Chg (fun _ => False) w2 (w2.alloc (Obj.cells #[vs2, vk2] 46)) := (Chg.refl _ w2).alloc _
  have e12 : Chg (fun _ => False) w1 (w2.alloc (Obj.cells #[vs2, vk2] 46)) := (e1.trans c2 (fun _ _ h => h)).trans e2 (fun _ _ h => h)
  have hal : ∀ (p : Addr) (v : Value), w2.cell? p = some v → ∀ ob, (w2.alloc ob).cell? p = some v := fun p v hv ob => (World.cell?_alloc_lt w2 ob p (World.block_lt_of_cell? _ _ hv)).trans hv
  exact ⟨hal _ _ (c2.cellAt y0 id), hal _ _ (c2.cellAt y1 id), e12, lsameState_eq ((hS.chg e12).stateAt) (hS2.kept e2 (fun _ f => f.elim)) (by omega) (by omega) (fun l hl => by have := q3 l hl; omega)⟩

set_option maxRecDepth 100000 in
set_option maxHeartbeats 4000000 in
theorem told_state {W0 w : World} {wb n N : Nat} (hx : Wx W0 w wb n N) (hN : N ≤ 10000000) {k : Nat} (hk : k < n) (o : OpD) (hf : o.fits) (hkd : o.kind = 3) :
    Calls Tryz.prog 27 #[.pointer (some ⟨wb, 0, none⟩), .int .i64 k, o.value] w fun e w' => e = .returned (.bool true) ∧ Wx W0 w' wb n (N + 1) := by
  obtain ⟨z, pa, ra, st, T, FP, FR, B, r, L, vp, vr, h⟩ := hx
  obtain ⟨kd, on, ⟨xs, xe, xn, xk, xv⟩, key, num⟩ := o
  simp only at hkd
  subst hkd
  obtain ⟨gp, cp, gr, cr, rfl, rfl, m1, m2⟩ := h.at_k hk
  have hn : n ≤ 10000000 := Nat.le_trans h.many hN
  have hk' : (k : Int) < (n : Int) := by omega
  obtain ⟨W0, hW0⟩ : ∃ W0, W0 = w.alloc (.cells #[.int .i64 3, .int .i64 on, .int .i64 xs, .int .i64 xe, .int .i64 xn, .string xk, .int .i64 xv, .string key, .int .i64 num] 82) := ⟨_, rfl⟩
  have c0 : Chg (fun _ => False) w W0 := by rw [hW0]; exact (Chg.refl _ w).alloc _
  have ho : ∀ j u, (OpD.cells ⟨3, on, ⟨xs, xe, xn, xk, xv⟩, key, num⟩)[j]? = some u → W0.cell? ⟨w.heap.size, j, none⟩ = some u := by rw [hW0]; exact opd_new w _
  have o0 := ho 0 _ rfl
  have o2 := ho 2 _ rfl
  have o3 := ho 3 _ rfl
  have o4 := ho 4 _ rfl
  have o5 := ho 5 _ rfl
  have o6 := ho 6 _ rfl
  have h0 := h.keep c0
  have hal : ∀ (p : Addr) (v : Value), w.cell? p = some v → ∀ ob, (w.alloc ob).cell? p = some v := fun p v hv ob => (World.cell?_alloc_lt w ob p (World.block_lt_of_cell? _ _ hv)).trans hv
  have a0 := hal _ _ h.c0
  have a1 := hal _ _ h.c1
  have n1 := hal _ _ m1
  have n2 := hal _ _ m2
  have hst := relT_stateOf (h0.relP k hk)
  obtain ⟨q1, q2, q3⟩ := relT_small (h0.relP k hk)
  unfold OpD.value
  simp only
  have hz0 := c0.size
  have hwl := h.lt
  go_enter Tryz.func27, Tryz.ntmps27
  go_wp2_with (first
    | (go_at_call 16; rw [← hW0]; refine hst.mono ?_; rintro _ w1 ⟨vs, vk, us, rfl, hS, hP, c1⟩; obtain ⟨ps, cs, rfl⟩ := row_any hS.sess; obtain ⟨pk, ck, rfl⟩ := row_any hS.keys; obtain ⟨W1, hW1⟩ : ∃ W1, W1 = w1.alloc (Obj.cells #[.slice ps (state? (st k)).lanes.length cs, .slice pk (state? (st k)).keys.length ck] 46) := ⟨_, rfl⟩; obtain ⟨e1, y0, y1, hrs⟩ := st_ref h0 hk hN c1 hW1)
    | (go_at_call 48; rw [← hW1]; refine hrs.mono ?_; rintro _ w2 ⟨vs2, vk2, rfl, hS2, hR2, c2⟩; obtain ⟨ps2, cs2, rfl⟩ := row_any hS2.sess.choose_spec.2.1; obtain ⟨pk2, ck2, rfl⟩ := row_any hS2.keys; obtain ⟨W2, hW2⟩ : ∃ W2, W2 = w2.alloc (Obj.cells #[.slice ps2 (state? (st k)).lanes.length cs2, .slice pk2 (state? (st k)).keys.length ck2] 46) := ⟨_, rfl⟩; obtain ⟨v0, v1, e2, hsm⟩ := st_same hS q1 q2 q3 e1 y0 y1 c2 hS2 hW2)
    | (go_at_call 49; rw [← hW2]; refine hsm.mono ?_; rintro _ w3 ⟨rfl, c3⟩))
  have e3 : Chg (fun _ => False) w1 w3 := e2.trans c3 (fun _ _ h => h)
  have b0 : W2.cell? ⟨w1.heap.size, 0, none⟩ = some (.slice ps (state? (st k)).lanes.length cs) := by rw [hW2]; exact v0 _
  have b1 : W2.cell? ⟨w1.heap.size, 1, none⟩ = some (.slice pk (state? (st k)).keys.length ck) := by rw [hW2]; exact v1 _
  have d0 := c3.cellAt b0 id
  have d1 := c3.cellAt b1 id
  have e3d : Chg (fun _ => False) w1 w3.drew := e3.trans (Chg.refl _ w3).drew (fun _ _ h => h)
  have ce := c1.trans e3d (fun _ _ f => f.elim)
  have hB3 := h0.book.chg ce (fun g hg => ⟨fun e => by have := h0.zB g e; have := h0.zP k hk g hg; omega, fun e => by have := h0.zP k hk g hg; rw [e, h0.zw] at this; omega⟩)
  have hms := mstate_any hB3 (hS.chg e3d) (fun g hg => (h0.book.own g hg).2) h0.lt ce.size q1 q2 (fun l hl => by have := q3 l hl; omega) (fun x hx => by have := h0.lenL x hx; omega)
  clear hrs hsm hst hW0 hW1 hW2 v0 v1
  go_region_with (go_at_call 50; refine hms.mono ?_; rintro _ w4 ⟨rfl, hI⟩)
  all_goals
    go_wp2_with (go_at_call 47; refine (num_any _ _).mono ?_; rintro _ w9 ⟨rfl, e9⟩; rw [e9]; clear e9 w9)
    go_ret
    exact ⟨by simp, h0.mark hk c1 hP e3d hI⟩

end Go.Proofs.YthedkdbgfdjlkaaGreatDoor

/- culvertlaw: World.told, WALKED: Puts. -/
namespace Go.Proofs.YthedkdbgfdjlkaaGreatDoor
set_option linter.unusedVariables false
set_option linter.unusedSimpArgs false
open Go.RowKit Go.Lib

theorem pt_marks {W0 w : World} {wb n N : Nat} {z : Nat → Nat} {pa ra : Nat → Addr} {st : Nat → Option St} {T : Nat → List UInt8} {FP FR : Nat → Nat → Prop} {B : Nat → Prop} {r : Nat → Value} {L : Nat → List Value} {vp vr : Value} (h : Wd W0 w wb n N z pa ra st T FP FR B r L vp vr) {k : Nat} (hk : k < n) (hN : N ≤ 10000000) {w1 w3 : World} {v : Value} {l : List Pt} (c1 : Chg (FP k) w w1) (e3 : Chg (fun _ => False) w1 w3) (hq : w1.ownsRow w.heap.size 63 3 v l.length (putCells l)) (hl : l.length ≤ 4) :
    Chg (fun _ => False) w1 w3 ∧ Book w3 wb 3 B r L ∧ w3.ownsRow w.heap.size 63 3 v l.length (putCells l) ∧
    Calls Tryz.prog 54 #[.pointer (some ⟨wb, 3, none⟩), v] w3 fun e w' => ∃ vI' v1 v2 v3, e = .returned (.tuple #[]) ∧ w'.cell? ⟨wb, 3 + 3, none⟩ = some vI' ∧ w'.ownsRow 0 56 1 vI' ((L 3).length + 4) (L 3 ++ [v, v1, v2, v3]) ∧
      (∀ u, u = v ∨ u = v1 ∨ u = v2 ∨ u = v3 → Mk w' 3 1 (1000000 + (((L 3).length / 4 : Nat) : Int)) u ∧ Lst w3.heap.size l.length v u) ∧ Wh w3.heap.size (r 3) vI' ∧ Slots wb (fun j => j = 3 + 3) w3 w' ∧ Chg (fun k => k = wb ∨ (r 3).ownBlock = some k ∨ v.ownBlock = some k) w3 w' := by
  have ce := c1.trans e3 (fun _ _ f => f.elim)
  have hB3 := h.book.chg ce (fun g hg => ⟨fun e => by have := h.zB g e; have := h.zP k hk g hg; omega, fun e => by have := h.zP k hk g hg; rw [e, h.zw] at this; omega⟩)
  have hq3 := e3.row' hq (fun _ _ => id)
  have hw := h.lt
  exact ⟨e3, hB3, hq3, mputs_any (hB3.cell 3 (by omega)) hB3.fz (hB3.row 3 (by omega)) (row_lower hq3 (Nat.zero_le _)) (by omega) (by have := h.lenL 3 (by omega); omega) (fun e => (hB3.own wb (hB3.rows 3 (by omega) wb e)).1 rfl) (fun e => by have := (hq3.lt wb e).1; omega) (Nat.zero_le _)⟩

set_option maxRecDepth 100000 in
set_option maxHeartbeats 4000000 in
theorem told_puts {W0 w : World} {wb n N : Nat} (hx : Wx W0 w wb n N) (hN : N ≤ 10000000) {k : Nat} (hk : k < n) (o : OpD) (hf : o.fits) (hkd : o.kind = 5) :
    Calls Tryz.prog 27 #[.pointer (some ⟨wb, 0, none⟩), .int .i64 k, o.value] w fun e w' => e = .returned (.bool true) ∧ Wx W0 w' wb n (N + 1) := by
  obtain ⟨z, pa, ra, st, T, FP, FR, B, r, L, vp, vr, h⟩ := hx
  obtain ⟨kd, on, ⟨xs, xe, xn, xk, xv⟩, key, num⟩ := o
  simp only at hkd
  subst hkd
  obtain ⟨gp, cp, gr, cr, rfl, rfl, m1, m2⟩ := h.at_k hk
  have hn : n ≤ 10000000 := Nat.le_trans h.many hN
  have hk' : (k : Int) < (n : Int) := by omega
  obtain ⟨W0, hW0⟩ : ∃ W0, W0 = w.alloc (.cells #[.int .i64 5, .int .i64 on, .int .i64 xs, .int .i64 xe, .int .i64 xn, .string xk, .int .i64 xv, .string key, .int .i64 num] 82) := ⟨_, rfl⟩
  have c0 : Chg (fun _ => False) w W0 := by rw [hW0]; exact (Chg.refl _ w).alloc _
  have ho : ∀ j u, (OpD.cells ⟨5, on, ⟨xs, xe, xn, xk, xv⟩, key, num⟩)[j]? = some u → W0.cell? ⟨w.heap.size, j, none⟩ = some u := by rw [hW0]; exact opd_new w _
  have o0 := ho 0 _ rfl
  have o2 := ho 2 _ rfl
  have o3 := ho 3 _ rfl
  have o4 := ho 4 _ rfl
  have o5 := ho 5 _ rfl
  have o6 := ho 6 _ rfl
  have h0 := h.keep c0
  have hal : ∀ (p : Addr) (v : Value), w.cell? p = some v → ∀ ob, (w.alloc ob).cell? p = some v := fun p v hv ob => (World.cell?_alloc_lt w ob p (World.block_lt_of_cell? _ _ hv)).trans hv
  have a0 := hal _ _ h.c0
  have a1 := hal _ _ h.c1
  have n1 := hal _ _ m1
  have n2 := hal _ _ m2
  have hpt := relT_puts (h0.relP k hk)
  have q1 := relT_puts_len (h0.relP k hk)
  unfold OpD.value
  simp only
  have hz0 := c0.size
  have hwl := h.lt
  go_enter Tryz.func27, Tryz.ntmps27
  go_wp2_with (first
    | (go_at_call 19; rw [← hW0]; refine hpt.mono ?_; rintro _ w1 ⟨vq, rfl, hq, hP, c1⟩; obtain ⟨pq, cq, rfl⟩ := row_any hq; have hR1 := ref_stable (h0.relR k hk) (fun q hq => c1.block q (ref_lt (h0.relR k hk) hq) (h0.free hk q hq)); have hrp := ref_puts hR1 (by omega))
    | (go_at_call 52; refine hrp.mono ?_; rintro _ w2 ⟨vq2, rfl, hq2, hR2, c2⟩; obtain ⟨pq2, cq2, rfl⟩ := row_any hq2; have hsm := samePuts_eq (c2.row' hq (fun _ _ => id)) hq2 (by omega))
    | (go_at_call 53; refine hsm.mono ?_; rintro _ w3 ⟨rfl, c3⟩; obtain ⟨e3, hB3, hq3, hmp⟩ := pt_marks h0 hk hN c1 (c2.trans c3 (fun _ _ h => h)) hq q1)
    | (go_at_call 54; refine hmp.mono ?_; rintro _ w4 ⟨vI', v1, v2, v3, rfl, g1, g2, g3, g4, g5, g6⟩)
    | (go_at_call 47; refine (num_any _ _).mono ?_; rintro _ w9 ⟨rfl, e9⟩; rw [e9]; clear e9 w9))
  go_ret
  exact ⟨by simp, h0.mark hk c1 hP e3 (hB3.putInks hq3 (c1.trans e3 (fun _ _ f => f.elim)).size (fun g hg => (h0.book.own g hg).2) h0.lt (by omega) g1 g2 g3 g4 g5 g6)⟩

end Go.Proofs.YthedkdbgfdjlkaaGreatDoor
