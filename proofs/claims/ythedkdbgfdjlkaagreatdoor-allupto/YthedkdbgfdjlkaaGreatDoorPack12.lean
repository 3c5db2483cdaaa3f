import Derived.Laws.IdiomStrings
import Derived.Test.YthedkdbgfdjlkaaGreatDoorPack1
import Derived.Test.YthedkdbgfdjlkaaGreatDoorPack2
import Derived.Test.YthedkdbgfdjlkaaGreatDoorPack3
import Derived.Test.YthedkdbgfdjlkaaGreatDoorPack4
import Derived.Test.YthedkdbgfdjlkaaGreatDoorPack5
import Derived.Test.YthedkdbgfdjlkaaGreatDoorPack6
import Derived.Test.YthedkdbgfdjlkaaGreatDoorPack7
import Derived.Test.YthedkdbgfdjlkaaGreatDoorPack8
import Derived.Test.YthedkdbgfdjlkaaGreatDoorPack9
import Derived.Test.YthedkdbgfdjlkaaGreatDoorPack10
import Derived.Test.YthedkdbgfdjlkaaGreatDoorPack11
namespace Go.Proofs.YthedkdbgfdjlkaaGreatDoor
set_option linter.unusedVariables false
set_option linter.unusedSimpArgs false
open Go.RowKit Go.Lib
section
variable {W0 w : World} {wb n N : Nat} {z : Nat → Nat} {pa ra : Nat → Addr} {st : Nat → Option St} {T : Nat → List UInt8} {FP FR : Nat → Nat → Prop} {B : Nat → Prop} {r : Nat → Value} {L : Nat → List Value} {vp vr : Value} {K : KD}
theorem st_ref (h : Wd W0 w wb n N z pa ra st T FP FR B r L vp vr K) {k : Nat} (hk : k < n) (hN : N ≤ 10000000) {w1 W1 : World} {v0 v1 : Value} (c1 : Chg (FP k) w w1) (hW1 : W1 = w1.alloc (Obj.cells #[v0, v1] 46)) :
    Chg (fun _ => False) w1 W1 ∧ W1.cell? ⟨w1.heap.size, 0, none⟩ = some v0 ∧ W1.cell? ⟨w1.heap.size, 1, none⟩ = some v1 ∧ Calls Tryz.prog 48 #[.pointer (some (ra k))] W1 fun e w' =>
      ∃ vs vk, e = .returned (.tuple #[.agg #[vs, vk], .int .i64 (errno? (st k))]) ∧ StateAt w' W1.heap.size vs vk (state? (st k)) ∧ RefRel N w' (ra k) (st k) (FR k) ∧ Chg (fun _ => False) W1 w' := by
  subst hW1
  have e1 : Chg (fun _ => False) w1 (w1.alloc (Obj.cells #[v0, v1] 46)) := (Chg.refl _ w1).alloc _
  have hR1 := ref_stable (h.relR k hk) (fun q hq => c1.block q (ref_lt (h.relR k hk) hq) (h.free hk q hq))
  exact ⟨e1, World.cell?_alloc_at _ _ _ _ rfl, World.cell?_alloc_at _ _ _ _ rfl, ref_state (ref_stable hR1 (fun q hq => e1.block q (ref_lt hR1 hq) id)) (by omega)⟩
end
theorem StateOf.chg {w w' : World} {lo : Nat} {vs vk : Value} {s : St} {us : List Value} (h : StateOf w lo vs vk s us) (c : Chg (fun _ => False) w w') : StateOf w' lo vs vk s us :=
  ⟨h.len, c.row' h.sess (fun _ _ => id), fun i l u hl hu => c.row' (h.wait i l u hl hu) (fun _ _ => id), c.row' h.keys (fun _ _ => id), h.apart⟩
theorem st_same {w1 W1 w2 W2 : World} {lo lo2 : Nat} {v0 v1 vs2 vk2 : Value} {s : St} {us : List Value} (hS : StateOf w1 lo v0 v1 s us) (q1 : s.lanes.length ≤ 4) (q2 : s.keys.length ≤ 4) (q3 : ∀ l ∈ s.lanes, l.ws.length ≤ 4) (e1 : Chg (fun _ => False) w1 W1) (y0 : W1.cell? ⟨w1.heap.size, 0, none⟩ = some v0) (y1 : W1.cell? ⟨w1.heap.size, 1, none⟩ = some v1) (c2 : Chg (fun _ => False) W1 w2) (hS2 : StateAt w2 lo2 vs2 vk2 s) (hW2 : W2 = w2.alloc (Obj.cells #[vs2, vk2] 46)) :
    (∀ ob, (w2.alloc ob).cell? ⟨w1.heap.size, 0, none⟩ = some v0) ∧ (∀ ob, (w2.alloc ob).cell? ⟨w1.heap.size, 1, none⟩ = some v1) ∧ Chg (fun _ => False) w1 W2 ∧ Calls Tryz.prog 49 #[.agg #[v0, v1], .agg #[vs2, vk2]] W2 fun e w' => e = .returned (.bool true) ∧ Chg (fun _ => False) W2 w' := by
  subst hW2
  have e2 : Chg (fun _ => False) w2 (w2.alloc (Obj.cells #[vs2, vk2] 46)) := (Chg.refl _ w2).alloc _
  have e12 : Chg (fun _ => False) w1 (w2.alloc (Obj.cells #[vs2, vk2] 46)) := (e1.trans c2 (fun _ _ h => h)).trans e2 (fun _ _ h => h)
  have hal : ∀ (p : Addr) (v : Value), w2.cell? p = some v → ∀ ob, (w2.alloc ob).cell? p = some v := fun p v hv ob => (World.cell?_alloc_lt w2 ob p (World.block_lt_of_cell? _ _ hv)).trans hv
  exact ⟨hal _ _ (c2.cellAt y0 id), hal _ _ (c2.cellAt y1 id), e12, lsameState_eq ((hS.chg e12).stateAt) (hS2.kept e2 (fun _ f => f.elim)) (by omega) (by omega) (fun l hl => by have := q3 l hl; omega)⟩
set_option maxRecDepth 100000 in
set_option maxHeartbeats 4000000 in
theorem told_state {W0 w : World} {wb n N : Nat} (hx : Wx W0 w wb n N) (hN : N ≤ 10000000) {k : Nat} (hk : k < n) (o : OpD) (hf : o.fits) (hkd : o.kind = 3) :
    Calls Tryz.prog 27 #[.pointer (some ⟨wb, 0, none⟩), .int .i64 k, o.value] w fun e w' => e = .returned (.bool true) ∧ Wx W0 w' wb n (N + 1) := by
  obtain ⟨z, pa, ra, st, T, FP, FR, B, r, L, vp, vr, K, h⟩ := hx
  obtain ⟨kd, on, ⟨xs, xe, xn, xk, xv⟩, key, num⟩ := o
  simp only at hkd
  subst hkd
  obtain ⟨gp, cp, gr, cr, rfl, rfl, m1, m2⟩ := h.at_k hk
  have hn : n ≤ 10000000 := Nat.le_trans h.many hN
  have hk' : (k : Int) < (n : Int) := by omega
  obtain ⟨W0, hW0⟩ : ∃ W0, W0 = w.alloc (.cells #[.int .i64 3, .int .i64 on, .int .i64 xs, .int .i64 xe, .int .i64 xn, .string xk, .int .i64 xv, .string key, .int .i64 num] 82) := ⟨_, rfl⟩
  have c0 : Chg (fun _ => False) w W0 := by rw [hW0]; exact (Chg.refl _ w).alloc _
  have ho : ∀ j u, (OpD.cells ⟨3, on, ⟨xs, xe, xn, xk, xv⟩, key, num⟩)[j]? = some u → W0.cell? ⟨w.heap.size, j, none⟩ = some u := by rw [hW0]; exact opd_new w _
  have o0 := ho 0 _ rfl
  have o2 := ho 2 _ rfl
  have o3 := ho 3 _ rfl
  have o4 := ho 4 _ rfl
  have o5 := ho 5 _ rfl
  have o6 := ho 6 _ rfl
  have h0 := h.keep c0
  have hal : ∀ (p : Addr) (v : Value), w.cell? p = some v → ∀ ob, (w.alloc ob).cell? p = some v := fun p v hv ob => (World.cell?_alloc_lt w ob p (World.block_lt_of_cell? _ _ hv)).trans hv
  have a0 := hal _ _ h.c0
  have a1 := hal _ _ h.c1
  have n1 := hal _ _ m1
  have n2 := hal _ _ m2
  have hst := relT_stateOf (h0.relP k hk)
  obtain ⟨q1, q2, q3⟩ := relT_small (h0.relP k hk)
  unfold OpD.value
  simp only
  have hz0 := c0.size
  have hwl := h.lt
  go_enter Tryz.func27, Tryz.ntmps27
  go_wp2_with (first
    | (go_at_call 16; rw [← hW0]; refine hst.mono ?_; rintro _ w1 ⟨vs, vk, us, rfl, hS, hP, c1⟩; obtain ⟨ps, cs, rfl⟩ := row_any hS.sess; obtain ⟨pk, ck, rfl⟩ := row_any hS.keys; obtain ⟨W1, hW1⟩ : ∃ W1, W1 = w1.alloc (Obj.cells #[.slice ps (state? (st k)).lanes.length cs, .slice pk (state? (st k)).keys.length ck] 46) := ⟨_, rfl⟩; obtain ⟨e1, y0, y1, hrs⟩ := st_ref h0 hk hN c1 hW1)
    | (go_at_call 48; rw [← hW1]; refine hrs.mono ?_; rintro _ w2 ⟨vs2, vk2, rfl, hS2, hR2, c2⟩; obtain ⟨ps2, cs2, rfl⟩ := row_any hS2.sess.choose_spec.2.1; obtain ⟨pk2, ck2, rfl⟩ := row_any hS2.keys; obtain ⟨W2, hW2⟩ : ∃ W2, W2 = w2.alloc (Obj.cells #[.slice ps2 (state? (st k)).lanes.length cs2, .slice pk2 (state? (st k)).keys.length ck2] 46) := ⟨_, rfl⟩; obtain ⟨v0, v1, e2, hsm⟩ := st_same hS q1 q2 q3 e1 y0 y1 c2 hS2 hW2)
    | (go_at_call 49; rw [← hW2]; refine hsm.mono ?_; rintro _ w3 ⟨rfl, c3⟩))
  have e3 : Chg (fun _ => False) w1 w3 := e2.trans c3 (fun _ _ h => h)
  have b0 : W2.cell? ⟨w1.heap.size, 0, none⟩ = some (.slice ps (state? (st k)).lanes.length cs) := by rw [hW2]; exact v0 _
  have b1 : W2.cell? ⟨w1.heap.size, 1, none⟩ = some (.slice pk (state? (st k)).keys.length ck) := by rw [hW2]; exact v1 _
  have d0 := c3.cellAt b0 id
  have d1 := c3.cellAt b1 id
  have e3d : Chg (fun _ => False) w1 w3.drew := e3.trans (Chg.refl _ w3).drew (fun _ _ h => h)
  have ce := c1.trans e3d (fun _ _ f => f.elim)
  have hB3 := h0.book.chg ce (fun g hg => ⟨fun e => by have := h0.zB g e; have := h0.zP k hk g hg; omega, fun e => by have := h0.zP k hk g hg; rw [e, h0.zw] at this; omega⟩)
  have hms := mstate_any hB3 (hS.chg e3d) (fun g hg => (h0.book.own g hg).2) h0.lt ce.size q1 q2 (fun l hl => by have := q3 l hl; omega) (fun x hx => by have := h0.lenL x hx; omega)
  clear hrs hsm hst hW0 hW1 hW2 v0 v1
  go_region_with (go_at_call 50; refine hms.mono ?_; rintro _ w4 ⟨rfl, hI⟩)
  all_goals
    go_wp2_with (go_at_call 47; refine (num_any _ _).mono ?_; rintro _ w9 ⟨rfl, e9⟩; rw [e9]; clear e9 w9)
    go_ret
    exact ⟨by simp, h0.mark hk c1 hP e3d hI⟩
end Go.Proofs.YthedkdbgfdjlkaaGreatDoor

namespace Go.Proofs.YthedkdbgfdjlkaaGreatDoor
set_option linter.unusedVariables false
set_option linter.unusedSimpArgs false
open Go.RowKit Go.Lib
theorem pt_marks {W0 w : World} {wb n N : Nat} {z : Nat → Nat} {pa ra : Nat → Addr} {st : Nat → Option St} {T : Nat → List UInt8} {FP FR : Nat → Nat → Prop} {B : Nat → Prop} {r : Nat → Value} {L : Nat → List Value} {vp vr : Value} {K : KD} (h : Wd W0 w wb n N z pa ra st T FP FR B r L vp vr K) {k : Nat} (hk : k < n) (hN : N ≤ 10000000) {w1 w3 : World} {v : Value} {l : List Pt} (c1 : Chg (FP k) w w1) (e3 : Chg (fun _ => False) w1 w3) (hq : w1.ownsRow w.heap.size 63 3 v l.length (putCells l)) (hl : l.length ≤ 4) :
    Chg (fun _ => False) w1 w3 ∧ Book w3 wb 3 B r L ∧ w3.ownsRow w.heap.size 63 3 v l.length (putCells l) ∧
    Calls Tryz.prog 54 #[.pointer (some ⟨wb, 3, none⟩), v] w3 fun e w' => ∃ vI' v1 v2 v3, e = .returned (.tuple #[]) ∧ w'.cell? ⟨wb, 3 + 3, none⟩ = some vI' ∧ w'.ownsRow 0 56 1 vI' ((L 3).length + 4) (L 3 ++ [v, v1, v2, v3]) ∧
      (∀ u, u = v ∨ u = v1 ∨ u = v2 ∨ u = v3 → Mk w' 3 1 (1000000 + (((L 3).length / 4 : Nat) : Int)) u ∧ Lst w3.heap.size l.length v u) ∧ Wh w3.heap.size (r 3) vI' ∧ Slots wb (fun j => j = 3 + 3) w3 w' ∧ Chg (fun k => k = wb ∨ (r 3).ownBlock = some k ∨ v.ownBlock = some k) w3 w' := by
  have ce := c1.trans e3 (fun _ _ f => f.elim)
  have hB3 := h.book.chg ce (fun g hg => ⟨fun e => by have := h.zB g e; have := h.zP k hk g hg; omega, fun e => by have := h.zP k hk g hg; rw [e, h.zw] at this; omega⟩)
  have hq3 := e3.row' hq (fun _ _ => id)
  have hw := h.lt
  exact ⟨e3, hB3, hq3, mputs_any (hB3.cell 3 (by omega)) hB3.fz (hB3.row 3 (by omega)) (row_lower hq3 (Nat.zero_le _)) (by omega) (by have := h.lenL 3 (by omega); omega) (fun e => (hB3.own wb (hB3.rows 3 (by omega) wb e)).1 rfl) (fun e => by have := (hq3.lt wb e).1; omega) (Nat.zero_le _)⟩
set_option maxRecDepth 100000 in
set_option maxHeartbeats 4000000 in
theorem told_puts {W0 w : World} {wb n N : Nat} (hx : Wx W0 w wb n N) (hN : N ≤ 10000000) {k : Nat} (hk : k < n) (o : OpD) (hf : o.fits) (hkd : o.kind = 5) :
    Calls Tryz.prog 27 #[.pointer (some ⟨wb, 0, none⟩), .int .i64 k, o.value] w fun e w' => e = .returned (.bool true) ∧ Wx W0 w' wb n (N + 1) := by
  obtain ⟨z, pa, ra, st, T, FP, FR, B, r, L, vp, vr, K, h⟩ := hx
  obtain ⟨kd, on, ⟨xs, xe, xn, xk, xv⟩, key, num⟩ := o
  simp only at hkd
  subst hkd
  obtain ⟨gp, cp, gr, cr, rfl, rfl, m1, m2⟩ := h.at_k hk
  have hn : n ≤ 10000000 := Nat.le_trans h.many hN
  have hk' : (k : Int) < (n : Int) := by omega
  obtain ⟨W0, hW0⟩ : ∃ W0, W0 = w.alloc (.cells #[.int .i64 5, .int .i64 on, .int .i64 xs, .int .i64 xe, .int .i64 xn, .string xk, .int .i64 xv, .string key, .int .i64 num] 82) := ⟨_, rfl⟩
  have c0 : Chg (fun _ => False) w W0 := by rw [hW0]; exact (Chg.refl _ w).alloc _
  have ho : ∀ j u, (OpD.cells ⟨5, on, ⟨xs, xe, xn, xk, xv⟩, key, num⟩)[j]? = some u → W0.cell? ⟨w.heap.size, j, none⟩ = some u := by rw [hW0]; exact opd_new w _
  have o0 := ho 0 _ rfl
  have o2 := ho 2 _ rfl
  have o3 := ho 3 _ rfl
  have o4 := ho 4 _ rfl
  have o5 := ho 5 _ rfl
  have o6 := ho 6 _ rfl
  have h0 := h.keep c0
  have hal : ∀ (p : Addr) (v : Value), w.cell? p = some v → ∀ ob, (w.alloc ob).cell? p = some v := fun p v hv ob => (World.cell?_alloc_lt w ob p (World.block_lt_of_cell? _ _ hv)).trans hv
  have a0 := hal _ _ h.c0
  have a1 := hal _ _ h.c1
  have n1 := hal _ _ m1
  have n2 := hal _ _ m2
  have hpt := relT_puts (h0.relP k hk)
  have q1 := relT_puts_len (h0.relP k hk)
  unfold OpD.value
  simp only
  have hz0 := c0.size
  have hwl := h.lt
  go_enter Tryz.func27, Tryz.ntmps27
  go_wp2_with (first
    | (go_at_call 19; rw [← hW0]; refine hpt.mono ?_; rintro _ w1 ⟨vq, rfl, hq, hP, c1⟩; obtain ⟨pq, cq, rfl⟩ := row_any hq; have hR1 := ref_stable (h0.relR k hk) (fun q hq => c1.block q (ref_lt (h0.relR k hk) hq) (h0.free hk q hq)); have hrp := ref_puts hR1 (by omega))
    | (go_at_call 52; refine hrp.mono ?_; rintro _ w2 ⟨vq2, rfl, hq2, hR2, c2⟩; obtain ⟨pq2, cq2, rfl⟩ := row_any hq2; have hsm := samePuts_eq (c2.row' hq (fun _ _ => id)) hq2 (by omega))
    | (go_at_call 53; refine hsm.mono ?_; rintro _ w3 ⟨rfl, c3⟩; obtain ⟨e3, hB3, hq3, hmp⟩ := pt_marks h0 hk hN c1 (c2.trans c3 (fun _ _ h => h)) hq q1)
    | (go_at_call 54; refine hmp.mono ?_; rintro _ w4 ⟨vI', v1, v2, v3, rfl, g1, g2, g3, g4, g5, g6⟩)
    | (go_at_call 47; refine (num_any _ _).mono ?_; rintro _ w9 ⟨rfl, e9⟩; rw [e9]; clear e9 w9))
  go_ret
  exact ⟨by simp, h0.mark hk c1 hP e3 (hB3.putInks hq3 (c1.trans e3 (fun _ _ f => f.elim)).size (fun g hg => (h0.book.own g hg).2) h0.lt (by omega) g1 g2 g3 g4 g5 g6)⟩
end Go.Proofs.YthedkdbgfdjlkaaGreatDoor

namespace Go.Proofs.YthedkdbgfdjlkaaGreatDoor
set_option linter.unusedVariables false
set_option linter.unusedSimpArgs false
open Go.RowKit Go.Lib
theorem ref_nothing {N : Nat} {w : World} {a : Addr} {o : Option St} {F : Nat → Prop} (h : RefRel N w a o F) : Calls Tryz.prog 56 #[.pointer (some a)] w fun e w' =>
    e = .returned (.int .i64 (errno? o)) ∧ Chg (fun _ => False) w w' := by
  obtain ⟨b, rfl, _, _, E, B, V, vt, vh, Q, T, Hs, h2, _⟩ := h
  have hcl := h2.cl
  cases o with
  | none =>
    simp only [Option.isNone] at hcl
    go_enter Tryz.func56, Tryz.ntmps56
    go_wp2_with fail
    go_ret
    exact ⟨rfl, Chg.refl _ _⟩
  | some s =>
    simp only [Option.isNone] at hcl
    go_enter Tryz.func56, Tryz.ntmps56
    go_wp2_with fail
    go_ret
    exact ⟨rfl, Chg.refl _ _⟩
theorem ref_copy {N : Nat} {w : World} {a : Addr} {s : St} {F : Nat → Prop} (h : RefRel N w a (some s) F) (hN : N ≤ 1000000000) : Calls Tryz.prog 57 #[.pointer (some a)] w fun e w' =>
    ∃ a' G, e = .returned (.pointer (some a')) ∧ RefRel N w' a' (some s) G ∧ (∀ k, G k → w.heap.size ≤ k) ∧ Chg (fun _ => False) w w' := by
  obtain ⟨b, rfl, hb, h1, E, B, V, vt, vh, Q, T, Hs, h2, h3, h4, h5⟩ := h
  have hT := h4 s rfl
  refine (copy_any h2 h3.t (by have := h3.h; omega) (fun j hj => by have := hT.short hj; omega)).mono ?_
  rintro e w' ⟨V', vt', vh', rfl, g1, g2⟩
  have lt : w.heap.size < w'.heap.size := World.block_lt_of_cell? _ _ g1.tk
  have hrow : ∀ k, RRows V' vt' vh' k → w.heap.size ≤ k ∧ k < w'.heap.size := fun k hk => by
    rcases hk with ⟨i, hi, e⟩ | e | e
    · exact (g1.rows i hi).lt k e
    · exact g1.taken.lt k e
    · exact g1.held.lt k e
  refine ⟨_, fun k => w.heap.size ≤ k ∧ k < w'.heap.size, rfl, ⟨_, rfl, ⟨Nat.le_refl _, lt⟩, fun k hk => hk.2, E, B, V', vt', vh', Q, T, Hs, ?_, h3, h4, hrow⟩, fun k hk => hk.1, g2⟩
  exact { g1 with
    rows := fun i hi => row_lower (g1.rows i hi) (Nat.zero_le _)
    taken := row_lower g1.taken (Nat.zero_le _)
    held := row_lower g1.held (Nat.zero_le _)
    low := Nat.zero_le _ }
end Go.Proofs.YthedkdbgfdjlkaaGreatDoor

namespace Go.Proofs.YthedkdbgfdjlkaaGreatDoor
set_option linter.unusedVariables false
set_option linter.unusedSimpArgs false
open Go.RowKit Go.Lib
theorem Tryz.infoKept : (Tryz.prog.info? 144).map (fun i => (i.zero, i.size, i.bytes)) = some (some (.agg #[.string { data := #[] }, .pointer none]), 2, 24) := by kernel_rfl
theorem keptCells_put (b : Nat → List UInt8) (a : Nat → Addr) (n : Nat) (x : List UInt8) (y : Addr) : ∀ m, m ≤ n → keptCells (putAt b n x) (putAt a n y) m = keptCells b a m
  | 0, _ => rfl
  | m + 1, h => by
    simp only [keptCells]
    rw [keptCells_put b a n x y m (by omega), putAt_ne _ _ (by omega), putAt_ne _ _ (by omega)]
theorem keptCells_len (b : Nat → List UInt8) (a : Nat → Addr) : ∀ n, (keptCells b a n).length = n * 2
  | 0 => rfl
  | n + 1 => by simp only [keptCells, List.length_append, keptCells_len b a n, List.length_cons, List.length_nil]; omega
theorem keptCells_at (b : Nat → List UInt8) (a : Nat → Addr) : ∀ n i, i < n → (keptCells b a n)[i * 2]? = some (.string ⟨(b i).toArray⟩) ∧ (keptCells b a n)[i * 2 + 1]? = some (.pointer (some (a i)))
  | 0, i, h => by omega
  | n + 1, i, h => by
    have hl := keptCells_len b a n
    simp only [keptCells]
    by_cases e : i = n
    · subst e
      rw [List.getElem?_append_right (by omega), List.getElem?_append_right (by omega), hl]
      simp
    · rw [List.getElem?_append_left (by omega), List.getElem?_append_left (by omega)]
      exact keptCells_at b a n i (by omega)
section
variable {W0 w : World} {wb n N : Nat} {z : Nat → Nat} {pa ra : Nat → Addr} {st : Nat → Option St} {T : Nat → List UInt8} {FP FR : Nat → Nat → Prop} {B : Nat → Prop} {r : Nat → Value} {L : Nat → List Value} {vp vr : Value} {K : KD}
theorem Wd.up (h : Wd W0 w wb n N z pa ra st T FP FR B r L vp vr K) : Wd W0 w wb n (N + 1) z pa ra st T FP FR B r L vp vr K :=
  { h with
    many := Nat.le_succ_of_le h.many
    relR := fun i hi => ref_more (h.relR i hi) (Nat.le_succ _)
    lenT := fun i hi => by have := h.lenT i hi; omega
    lenL := fun x hx => by have := h.lenL x hx; omega
    kept := h.kept.chg (Chg.refl (fun _ => False) w) (fun _ f => f.elim) h.kept.cell (Nat.le_succ _) (fun _ _ => rfl) }
theorem Wd.call (h : Wd W0 w wb n N z pa ra st T FP FR B r L vp vr K) {k : Nat} (hk : k < n) {w1 : World} {T' : List UInt8} {F' : Nat → Prop} (c1 : Chg (FP k) w w1) (hP : RelT T' w1 (pa k) (st k) F') (hF : ∀ g, F' g → FP k g ∨ w.heap.size ≤ g) (hT : T'.length ≤ 512 + 32 * N) (ht : ∀ s, st k = some s → Tells T' s) : ∃ z', Wd W0 w1 wb n N z' pa ra st (putAt T k T') (putAt FP k F') FR B r L vp vr K := by
  have hw := h.lt
  have z1 := c1.size
  have hz : ∀ g, FP k g → z g = 6 + 3 * k := fun g hg => h.zP k hk g hg
  have hvpl : ∀ g, vp.ownBlock = some g → g < w.heap.size := fun g hg => (h.rp.lt g hg).2
  have hvrl : ∀ g, vr.ownBlock = some g → g < w.heap.size := fun g hg => (h.rr.lt g hg).2
  have hnw : ¬ FP k wb := fun f => by have := hz wb f; rw [h.zw] at this; omega
  refine ⟨fun g => if g < w.heap.size then z g else 6 + 3 * k, h.book.chg c1 (fun g hg => ⟨fun e => ?_, fun e => hnw (e ▸ hg)⟩), c1.cellAt h.c0 hnw, c1.cellAt h.c1 hnw, c1.row' h.rp (fun g hg e => ?_), c1.row' h.rr (fun g hg e => ?_), h.many, fun i hi => ?_, fun i hi => ?_, fun i hi => ?_, h.lenL, ?_, fun g hg => ?_, fun g hg => ?_, fun g hg => ?_, fun i hi g hg => ?_, fun i hi g hg => ?_, fun g hg => ?_, h.orig.trans c1 (fun g hg f => ?_), fun i hi s hs => ?_, h.kept.chg c1 (fun g hg => ?_) (c1.cellAt h.kept.cell hnw) (Nat.le_refl _) (fun g hg => ?_)⟩
  · have := h.zB g e; have := hz g hg; omega
  · have := h.zp g hg; have := hz g e; omega
  · have := h.zr g hg; have := hz g e; omega
  · by_cases e : i = k
    · subst e; rw [putAt_at, putAt_at]; exact hP
    · rw [putAt_ne _ _ e, putAt_ne _ _ e]
      exact relT_stable (h.relP i hi) (fun q hq => c1.block q (relT_lt (h.relP i hi) hq) (fun f => by have := h.zP i hi q hq; have := hz q f; omega))
  · exact ref_stable (h.relR i hi) (fun q hq => c1.block q (ref_lt (h.relR i hi) hq) (fun f => by have := h.zR i hi q hq; have := hz q f; omega))
  · by_cases e : i = k
    · subst e; rw [putAt_at]; exact hT
    · rw [putAt_ne _ _ e]; exact h.lenT i hi
  · simp only [hw, if_true]; exact h.zw
  · simp only [hvpl g hg, if_true]; exact h.zp g hg
  · simp only [hvrl g hg, if_true]; exact h.zr g hg
  · simp only [(h.book.own g hg).2, if_true]; exact h.zB g hg
  · by_cases e : i = k
    · subst e
      rw [putAt_at] at hg
      rcases hF g hg with e1 | e1
      · simp only [relT_lt (h.relP _ hi) e1, if_true]; exact h.zP _ hi g e1
      · rw [if_neg (by omega)]
    · rw [putAt_ne _ _ e] at hg
      simp only [relT_lt (h.relP i hi) hg, if_true]; exact h.zP i hi g hg
  · simp only [ref_lt (h.relR i hi) hg, if_true]; exact h.zR i hi g hg
  · have := h.orig.size
    rw [if_pos (by omega)]; exact h.low g hg
  · have := h.low g hg; have := hz g f; omega
  · by_cases e : i = k
    · subst e; rw [putAt_at]; exact ht s hs
    · rw [putAt_ne _ _ e]; exact h.tel i hi s hs
  · have := hz g hg; omega
  · simp only [hg, if_true]
theorem Wd.keeps (h : Wd W0 w wb n N z pa ra st T FP FR B r L vp vr K) {w1 w2 w3 : World} {v' : Value} {b : List UInt8} {s : St} {a2 : Addr} {G : Nat → Prop} (c1 : Chg (fun _ => False) w w1) (hR : RefRel (N + 1) w1 a2 (some s) G) (hG : ∀ g, G g → w.heap.size ≤ g) (ht : Tells b s) (hb : b.length ≤ 512 + 32 * (N + 1))
    (o2 : w2.ownsRow 0 144 2 v' (K.n + 1) (keptCells K.b K.a K.n ++ [.string ⟨b.toArray⟩, .pointer (some a2)])) (c2 : Chg (fun g => K.v.ownBlock = some g) w1 w2) (wh : Wh w1.heap.size K.v v') (hw3 : w3 = w2.setCell ⟨wb, 2, none⟩ v') : Wx W0 w3 wb n (N + 1) := by
  have hw := h.lt
  have z1 := c1.size
  have z2 := c2.size
  have hvpl : ∀ g, vp.ownBlock = some g → g < w.heap.size := fun g hg => (h.rp.lt g hg).2
  have hvrl : ∀ g, vr.ownBlock = some g → g < w.heap.size := fun g hg => (h.rr.lt g hg).2
  have hvkl : ∀ g, K.v.ownBlock = some g → g < w.heap.size := fun g hg => (h.kept.row.lt g hg).2
  have vkw : K.v.ownBlock ≠ some wb := fun e => by have := h.kept.zv wb e; rw [h.zw] at this; omega
  have v'w : v'.ownBlock ≠ some wb := fun e => by
    rcases wh with e1 | e1
    · exact vkw (e1 ▸ e)
    · have := e1 _ e; omega
  have c3 : Chg (fun q => q = wb) w2 w3 := by rw [hw3]; exact (Chg.refl (fun q => q = wb) w2).setCell (p := ⟨wb, 2, none⟩) (fun _ => rfl) _
  have hs3 : w3.heap.size = w2.heap.size := by rw [hw3]; simp [World.setCell]
  have c23 : Chg (fun g => g = wb ∨ K.v.ownBlock = some g) w1 w3 := (c2.mono (fun _ f => .inr f)).trans c3 (fun _ _ f => .inl f)
  have cc : Chg (fun g => g = wb ∨ K.v.ownBlock = some g) w w3 := (c1.mono (fun _ f => f.elim)).trans c23 (fun _ _ f => f)
  have hzc : ∀ g, g = wb ∨ K.v.ownBlock = some g → z g = 1 ∨ z g = 5 := fun g hg => by
    rcases hg with e | e
    · rw [e]; exact .inl h.zw
    · exact .inr (h.kept.zv g e)
  have hsl : Slots wb (fun j => j = 2) w w3 := by
    have s1 : Slots wb (fun j => j = 2) w w2 := (Slots.of_chg _ c1 hw id).trans (Slots.of_chg (fun j => j = 2) c2 (by omega) vkw) (fun _ h => h)
    rw [hw3]; exact s1.setCell (p := ⟨wb, 2, none⟩) _ (fun _ => rfl)
  have hck : w3.cell? ⟨wb, 2, none⟩ = some v' := by
    rw [hw3]; exact World.cell?_setCell_same _ _ _ (c2.cellAt (c1.cellAt h.kept.cell id) vkw)
  refine ⟨fun g => if g < w.heap.size then z g else if g < w1.heap.size then 8 + 3 * K.n else 5, pa, ra, st, T, FP, FR, B, r, L, vp, vr, ⟨K.n + 1, putAt K.b K.n b, putAt K.a K.n a2, putAt K.s K.n s, putAt K.F K.n G, v'⟩, ?_⟩
  refine ⟨⟨fun j => (hsl.frozen j).trans (h.book.fz j), fun x hx => (hsl.cell (3 + x) (by omega)).trans (h.book.cell x hx), fun x hx => cc.row' (h.book.row x hx) (fun g hg e => ?_), h.book.quad, fun x hx i u hu => ⟨(h.book.inked x hx i u hu).1.chg cc (fun g hg e => ?_), (h.book.inked x hx i u hu).2⟩, h.book.rows, h.book.list, fun g hg => ⟨(h.book.own g hg).1, Nat.lt_of_lt_of_le (h.book.own g hg).2 cc.size⟩⟩, (hsl.cell 0 (by omega)).trans h.c0, (hsl.cell 1 (by omega)).trans h.c1, cc.row' h.rp (fun g hg e => ?_), cc.row' h.rr (fun g hg e => ?_), Nat.le_succ_of_le h.many, fun i hi => ?_, fun i hi => ?_, fun i hi => ?_, fun x hx => ?_, ?_, fun g hg => ?_, fun g hg => ?_, fun g hg => ?_, fun i hi g hg => ?_, fun i hi g hg => ?_, fun g hg => ?_, h.orig.trans cc (fun g hg f => ?_), h.tel, ⟨hck, ?_, Nat.succ_le_succ h.kept.many, fun i hi => ?_, fun i hi => ?_, fun i hi => ?_, fun g hg => ?_, fun i hi g hg => ?_⟩⟩
  · have := h.zB g (h.book.rows x hx g hg); have := hzc g e; omega
  · have := h.zB g (h.book.list x hx u (List.mem_of_getElem? hu) g hg).1; have := hzc g e; omega
  · have := h.zp g hg; have := hzc g e; omega
  · have := h.zr g hg; have := hzc g e; omega
  · exact relT_stable (h.relP i hi) (fun q hq => cc.block q (relT_lt (h.relP i hi) hq) (fun f => by have := hzc q f; have := h.zP i hi q hq; omega))
  · exact ref_more (ref_stable (h.relR i hi) (fun q hq => cc.block q (ref_lt (h.relR i hi) hq) (fun f => by have := hzc q f; have := h.zR i hi q hq; omega))) (by omega)
  · have := h.lenT i hi; omega
  · have := h.lenL x hx; omega
  · simp only [hw, if_true]; exact h.zw
  · simp only [hvpl g hg, if_true]; exact h.zp g hg
  · simp only [hvrl g hg, if_true]; exact h.zr g hg
  · simp only [(h.book.own g hg).2, if_true]; exact h.zB g hg
  · simp only [relT_lt (h.relP i hi) hg, if_true]; exact h.zP i hi g hg
  · simp only [ref_lt (h.relR i hi) hg, if_true]; exact h.zR i hi g hg
  · have := h.orig.size
    rw [if_pos (by omega)]; exact h.low g hg
  · have := h.low g hg; have := hzc g f; omega
  · simp only [keptCells]
    rw [keptCells_put _ _ _ _ _ _ (Nat.le_refl _), putAt_at, putAt_at]
    exact c3.row' o2 (fun g hg e => v'w (e ▸ hg))
  · simp only at hi ⊢
    by_cases e : i = K.n
    · subst e
      rw [putAt_at, putAt_at, putAt_at]
      exact ref_stable hR (fun q hq => c23.block q (ref_lt hR hq) (fun f => by
        have := hG q hq
        rcases f with f | f
        · omega
        · have := hvkl q f; omega))
    · rw [putAt_ne _ _ e, putAt_ne _ _ e, putAt_ne _ _ e]
      have hi' : i < K.n := by omega
      exact ref_more (ref_stable (h.kept.rel i hi') (fun q hq => cc.block q (ref_lt (h.kept.rel i hi') hq) (fun f => by have := hzc q f; have := h.kept.zK i hi' q hq; omega))) (by omega)
  · simp only at hi ⊢
    by_cases e : i = K.n
    · subst e; rw [putAt_at, putAt_at]; exact ht
    · rw [putAt_ne _ _ e, putAt_ne _ _ e]; exact h.kept.tel i (by omega)
  · simp only at hi ⊢
    by_cases e : i = K.n
    · subst e; rw [putAt_at]; exact hb
    · rw [putAt_ne _ _ e]; have := h.kept.len i (by omega); omega
  · simp only at hg
    rcases wh with e | e
    · rw [e] at hg
      simp only [hvkl g hg, if_true]; exact h.kept.zv g hg
    · have := e g hg
      rw [if_neg (by omega), if_neg (by omega)]
  · simp only at hi hg ⊢
    by_cases e : i = K.n
    · subst e
      rw [putAt_at] at hg
      have := hG g hg
      have := ref_lt hR hg
      rw [if_neg (by omega), if_pos this]
    · rw [putAt_ne _ _ e] at hg
      have hi' : i < K.n := by omega
      simp only [ref_lt (h.kept.rel i hi') hg, if_true]; exact h.kept.zK i hi' g hg
theorem keeps_run {p : Option Addr} {cap : Nat} (h : Wd W0 w wb n N z pa ra st T FP FR B r L vp vr K) (hN : N ≤ 10000000) (hv : K.v = .slice p K.n cap) {w1 : World} {b : List UInt8} {s : St} {a2 : Addr} {G : Nat → Prop} (c1 : Chg (fun _ => False) w w1) (hR : RefRel N w1 a2 (some s) G) (hG : ∀ g, G g → w.heap.size ≤ g) (ht : Tells b s) (hb : b.length ≤ 512 + 32 * N) :
    ∃ p' cap' w2, (Builtin.append_ #[72, 72] 72 #[.slice p K.n cap, .slice (some ⟨w1.heap.size, 0, none⟩) 1 1]).run Tryz.prog (w1.alloc (Obj.cells #[.string ⟨b.toArray⟩, .pointer (some a2)] 144)) = .ok (.slice p' (K.n + 1) cap') w2 ∧ w1.cell? ⟨wb, 2, none⟩ = some (.slice p K.n cap) ∧ w2.cell? ⟨wb, 2, none⟩ = some (.slice p K.n cap) ∧ w2.frozen? ⟨wb, 2, none⟩ = false ∧ Wx W0 (w2.setCell ⟨wb, 2, none⟩ (.slice p' (K.n + 1) cap')) wb n (N + 1) := by
  obtain ⟨i1, hi1, hy0, hy1, hy2⟩ := info_parts Tryz.infoKept
  have hn := h.kept.many
  have hw := h.lt
  have vkw : K.v.ownBlock ≠ some wb := fun e => by have := h.kept.zv wb e; rw [h.zw] at this; omega
  have d0 := c1.cellAt h.kept.cell id
  have z1 := c1.size
  have hrow := c1.row' h.kept.row (fun _ _ => id)
  obtain ⟨vq, w2, t1, o2, g2, e2⟩ := run_append_where (P := Tryz.prog) (w1.alloc (Obj.cells #[.string ⟨b.toArray⟩, .pointer (some a2)] 144)) 0 72 72 144 i1 _ 2 24 Tryz.underlying72 hi1 hy0 hy1 hy2 rfl (by decide) _ _ _ (hrow.alloc _) ⟨w1.heap.size, 0, none⟩ 1 1 [.string ⟨b.toArray⟩, .pointer (some a2)] rfl (fun j y hj => by rw [add_lit', Nat.zero_add]; rcases j with _ | _ | j <;> simp at hj <;> subst hj <;> exact World.cell?_alloc_at _ _ _ _ rfl) (by simp [Value.oneCell']) (by unfold maxLen; omega) (by omega) (Nat.zero_le _)
  have c2 : Chg (fun g => K.v.ownBlock = some g) w1 w2 := ((Chg.refl (fun g => K.v.ownBlock = some g) w1).alloc _).trans (G := fun g => K.v.ownBlock = some g) ⟨g2.os, g2.tape, g2.output, g2.size, fun k hk hne => g2.block k hk (fun e => hne e.symm)⟩ (fun _ _ h => h)
  have wh2 : Wh w1.heap.size K.v vq := e2.imp id (fun e k hk => by have := e k hk; rw [World.size_alloc] at this; omega)
  obtain ⟨p', cap', rfl⟩ := row_any o2
  have d2 := c2.cellAt d0 vkw
  have f2 : w2.frozen? ⟨wb, 2, none⟩ = false := ((World.frozen?_of_block (c2.block wb (by omega) vkw)).trans (World.frozen?_of_block (c1.block wb hw id))).trans (h.book.fz 2)
  rw [hv] at t1 d0 d2
  exact ⟨p', cap', w2, t1, d0, d2, f2, h.keeps c1 (ref_more hR (Nat.le_succ _)) hG ht (by omega) o2 c2 wh2 rfl⟩
end
end Go.Proofs.YthedkdbgfdjlkaaGreatDoor

namespace Go.Proofs.YthedkdbgfdjlkaaGreatDoor
set_option linter.unusedVariables false
set_option linter.unusedSimpArgs false
open Go.RowKit Go.Lib Go.Conc.Locks
theorem row_string {w : World} {lo : Nat} {v : Value} {T : List UInt8} (h : RowB w lo v T) : (convert 88 9 v).run Tryz.prog w = .ok (.string ⟨T.toArray⟩) w := by
  have key : ∀ (g cap : Nat), (∀ (j : Nat) (u : Value), (bCells T)[j]? = some u → w.cell? ⟨g, j, none⟩ = some u) → (convert 88 9 (.slice (some ⟨g, 0, none⟩) T.length cap)).run Tryz.prog w = .ok (.string ⟨T.toArray⟩) w := fun g cap hc => by
    refine run_convert_bytes_back w 88 9 5 ⟨g, 0, none⟩ cap T Tryz.underlying88 Tryz.underlying5 Tryz.underlying9 (fun j hj => ?_)
    rw [add_lit', Nat.zero_add]
    exact hc j _ (by simp [bCells, hj])
  rcases h with h | ⟨g, cap, rfl, _, _, _, hc, _⟩
  · have hcell := h
    rcases h.2 with ⟨rfl, hn⟩ | ⟨g, cap, cur, rfl, _, _, _⟩
    · obtain rfl : T = [] := List.eq_nil_of_length_eq_zero hn
      rw [run_convert_bytes_string w 88 9 5 none 0 0 Tryz.underlying88 Tryz.underlying5 Tryz.underlying9]
      rfl
    · exact key g cap (fun j u hu => by
        have := World.ownsRow.cells hcell (g := g) rfl j u hu
        rw [add_lit', Nat.zero_add] at this
        exact this)
  · exact key g _ hc
set_option maxHeartbeats 400000 in
theorem bytes_closed (b : Nat) (w : World) (h : Head w b 1 true) :
    Calls Tryz.prog 21 #[.pointer (some ⟨b, 0, none⟩)] w fun e w' => e = .returned (.tuple #[.string ⟨#[]⟩, .int .i64 1]) ∧ Head w' b 1 true ∧ Chg (fun k => k = b) w w' := by
  have hlk := lock_rel b _ h.mu (h.fz 0)
  go_enter_defers Tryz.func21, Tryz.ntmps21
  go_wp2_with (go_at_call 36; refine hlk.mono ?_; rintro _ w1 ⟨rfl, h1⟩; have c5 := (h1.slots.cell 5 (by omega)).trans h.cl)
  refine door (v := .tuple #[.string ⟨#[]⟩, .int .i64 1]) (h1.cell h.mu) ((h1.slots.frozen 0).trans (h.fz 0)) ?_ ⟨rfl, h.back h1.slots (fun j hj => .inl hj) (h1.cell h.mu), h1.chg.setCell (p := ⟨b, 0, none⟩) (fun _ => rfl) _⟩
  simp [results, Tryz.results21, go_sem]
set_option maxRecDepth 100000 in
set_option maxHeartbeats 1000000 in
theorem bytes_open {w : World} {lo b : Nat} {E B : Nat → Int} {V : Nat → Value} {vk vb : Value} {Q : Nat → List Wt} {ks : List Ky} {T : List UInt8} (h : Head w b 0 false) (hF : FlowAt w lo b 6 E B V vk Q ks) (hT : TapeAt w b V vk vb T) :
    Calls Tryz.prog 21 #[.pointer (some ⟨b, 0, none⟩)] w fun e w' => e = .returned (.tuple #[.string ⟨T.toArray⟩, .int .i64 0]) ∧
      Head w' b 0 false ∧ FlowAt w' lo b 6 E B V vk Q ks ∧ TapeAt w' b V vk vb T ∧ Chg (fun k => k = b) w w' := by
  have hbl : b < w.heap.size := World.block_lt_of_cell? _ _ h.mu
  have hlk := lock_rel b _ h.mu (h.fz 0)
  obtain ⟨pv, cv, rfl⟩ := hT.row.any
  go_enter_defers Tryz.func21, Tryz.ntmps21
  go_wp2_with (go_at_call 36; refine hlk.mono ?_; rintro _ w1 ⟨rfl, h1⟩; have c5 := (h1.slots.cell 5 (by omega)).trans h.cl; have hF1 := hF.beside h1.slots (fun j hj => .inl (by omega)) h1.chg; have hT1 := hT.beside h1.slots (by omega) h1.chg; have ct := hT1.cell; have hcv := row_string hT1.row)
  have hz01 := h1.chg.size
  have m1 := h1.cell h.mu
  have z1 := (h1.slots.frozen 0).trans (h.fz 0)
  have s12 : Slots b (fun j => j = 0) w1 (w1.setCell ⟨b, 0, none⟩ (.int .i32 0)) := (Slots.refl b _ w1).setCell (p := ⟨b, 0, none⟩) _ (fun _ => rfl)
  have g2 : Chg (fun k => k = b) w1 (w1.setCell ⟨b, 0, none⟩ (.int .i32 0)) := (Chg.refl (fun k => k = b) w1).setCell (p := ⟨b, 0, none⟩) (fun _ => rfl) _
  refine door (v := .tuple #[.string ⟨T.toArray⟩, .int .i64 0]) m1 z1 ?_ ⟨rfl, h.back h1.slots (fun j hj => .inl hj) m1, hF1.beside s12 (fun j hj => .inl (by omega)) g2, hT1.beside s12 (by omega) g2, h1.chg.trans g2 (fun _ _ h => h)⟩
  simp [results, Tryz.results21, go_sem]
def bytes? (T : List UInt8) : Option St → List UInt8
  | none => []
  | some _ => T
theorem relT_bytes {T : List UInt8} {w : World} {a : Addr} {o : Option St} {F : Nat → Prop} (h : RelT T w a o F) : Calls Tryz.prog 21 #[.pointer (some a)] w fun e w' =>
    e = .returned (.tuple #[.string ⟨(bytes? T o).toArray⟩, .int .i64 (errno? o)]) ∧ RelT T w' a o F ∧ Chg F w w' := by
  obtain ⟨b, rfl, hb, h1, h2⟩ := h
  cases o with
  | none =>
    refine (bytes_closed b w h2).mono ?_
    rintro e w' ⟨rfl, g1, g2⟩
    exact ⟨rfl, ⟨b, rfl, hb, fun k hk => Nat.lt_of_lt_of_le (h1 k hk) g2.size, g1⟩, g2.mono (fun k hk => by rw [hk]; exact hb)⟩
  | some s =>
    obtain ⟨h3, E, B, V, vk, vb, Q, ks, h4, h5, h6, h7, h8, h9, h10⟩ := h2
    refine (bytes_open h3 h4 h8).mono ?_
    rintro e w' ⟨rfl, g1, g2, g3, g4⟩
    exact ⟨rfl, ⟨b, rfl, hb, fun k hk => Nat.lt_of_lt_of_le (h1 k hk) g4.size, g1, E, B, V, vk, vb, Q, ks, g2, h5, h6, h7, g3, h9, h10⟩, g4.mono (fun k hk => by rw [hk]; exact hb)⟩
end Go.Proofs.YthedkdbgfdjlkaaGreatDoor

namespace Go.Proofs.YthedkdbgfdjlkaaGreatDoor
set_option linter.unusedVariables false
set_option linter.unusedSimpArgs false
open Go.RowKit Go.Lib
theorem shr_len {T : List UInt8} {w : World} {a : Addr} {o : Option St} {F : Nat → Prop} {M : Nat} (h : RelT T w a o F) (hT : T.length ≤ 512 + 32 * M) : (tapeShr T o).length ≤ 512 + 32 * M := by
  cases o with
  | none => exact hT
  | some s => have := relT_short h; simp only [tapeShr]; omega
theorem shr_tel {T : List UInt8} {w : World} {a : Addr} {o : Option St} {F : Nat → Prop} (h : RelT T w a o F) : ∀ s, o = some s → Tells (tapeShr T o) s := by
  intro s hs
  subst hs
  exact Tells.head s (relT_tidy h)
set_option maxRecDepth 100000 in
set_option maxHeartbeats 4000000 in
theorem bytesOf_shrink {W0 w : World} {wb n N : Nat} (hx : Wx W0 w wb n N) (hN : N ≤ 10000000) {k : Nat} (hk : k < n) (o : OpD) (hkd : o.kind = 8) :
    Calls Tryz.prog 28 #[.pointer (some ⟨wb, 0, none⟩), .int .i64 k, o.value] w fun e w' => e = .returned (.bool true) ∧ Wx W0 w' wb n (N + 1) := by
  obtain ⟨z, pa, ra, st, T, FP, FR, B, r, L, vp, vr, K, h⟩ := hx
  obtain ⟨kd, on, ⟨xs, xe, xn, xk, xv⟩, key, num⟩ := o
  simp only at hkd
  subst hkd
  obtain ⟨gp, cp, gr, cr, rfl, rfl, m1, m2⟩ := h.at_k hk
  have hn : n ≤ 10000000 := Nat.le_trans h.many hN
  have hk' : (k : Int) < (n : Int) := by omega
  obtain ⟨W1, hW1⟩ : ∃ W1, W1 = w.alloc (.cells #[.int .i64 8, .int .i64 on, .int .i64 xs, .int .i64 xe, .int .i64 xn, .string xk, .int .i64 xv, .string key, .int .i64 num] 82) := ⟨_, rfl⟩
  have c0 : Chg (fun _ => False) w W1 := by rw [hW1]; exact (Chg.refl _ w).alloc _
  have ho : ∀ j u, (OpD.cells ⟨8, on, ⟨xs, xe, xn, xk, xv⟩, key, num⟩)[j]? = some u → W1.cell? ⟨w.heap.size, j, none⟩ = some u := by rw [hW1]; exact opd_new w _
  have o0 := ho 0 _ rfl
  have h0 := h.keep c0
  have hal : ∀ (p : Addr) (v : Value), w.cell? p = some v → ∀ ob, (w.alloc ob).cell? p = some v := fun p v hv ob => (World.cell?_alloc_lt w ob p (World.block_lt_of_cell? _ _ hv)).trans hv
  have a0 := hal _ _ h.c0
  have a1 := hal _ _ h.c1
  have n1 := hal _ _ m1
  have n2 := hal _ _ m2
  have hnt := ref_nothing (h0.relR k hk)
  unfold OpD.value
  simp only
  go_enter Tryz.func28, Tryz.ntmps28
  go_wp2_with (go_at_call 56; rw [← hW1]; refine hnt.mono ?_; rintro _ w1 ⟨rfl, c1⟩; have s0 := c1.cellAt o0 id; have h1 := h0.keep c1; have hsh := relT_shrink (h1.relP k hk))
  clear hW1
  go_wp2_with (first | (go_at_call 20; refine hsh.mono ?_; rintro _ w2 ⟨F', rfl, hP, hF, c2⟩) | (go_at_call 47; refine (num_any _ _).mono ?_; rintro _ w9 ⟨rfl, e9⟩; rw [e9]; clear e9 w9))
  go_ret
  obtain ⟨z', h2⟩ := h1.call hk c2 hP hF (shr_len (h1.relP k hk) (h1.lenT k hk)) (shr_tel (h1.relP k hk))
  exact ⟨by simp, _, _, _, _, _, _, _, _, _, _, _, _, _, h2.up⟩
set_option maxRecDepth 100000 in
set_option maxHeartbeats 4000000 in
theorem bytesOf_bytes {W0 w : World} {wb n N : Nat} (hx : Wx W0 w wb n N) (hN : N ≤ 10000000) {k : Nat} (hk : k < n) (o : OpD) (hkd : o.kind = 7) :
    Calls Tryz.prog 28 #[.pointer (some ⟨wb, 0, none⟩), .int .i64 k, o.value] w fun e w' => e = .returned (.bool true) ∧ Wx W0 w' wb n (N + 1) := by
  obtain ⟨z, pa, ra, st, T, FP, FR, B, r, L, vp, vr, K, h⟩ := hx
  obtain ⟨kd, on, ⟨xs, xe, xn, xk, xv⟩, key, num⟩ := o
  simp only at hkd
  subst hkd
  obtain ⟨gp, cp, gr, cr, rfl, rfl, m1, m2⟩ := h.at_k hk
  have hn : n ≤ 10000000 := Nat.le_trans h.many hN
  have hk' : (k : Int) < (n : Int) := by omega
  obtain ⟨W1, hW1⟩ : ∃ W1, W1 = w.alloc (.cells #[.int .i64 7, .int .i64 on, .int .i64 xs, .int .i64 xe, .int .i64 xn, .string xk, .int .i64 xv, .string key, .int .i64 num] 82) := ⟨_, rfl⟩
  have c0 : Chg (fun _ => False) w W1 := by rw [hW1]; exact (Chg.refl _ w).alloc _
  have ho : ∀ j u, (OpD.cells ⟨7, on, ⟨xs, xe, xn, xk, xv⟩, key, num⟩)[j]? = some u → W1.cell? ⟨w.heap.size, j, none⟩ = some u := by rw [hW1]; exact opd_new w _
  have o0 := ho 0 _ rfl
  have h0 := h.keep c0
  have hal : ∀ (p : Addr) (v : Value), w.cell? p = some v → ∀ ob, (w.alloc ob).cell? p = some v := fun p v hv ob => (World.cell?_alloc_lt w ob p (World.block_lt_of_cell? _ _ hv)).trans hv
  have a0 := hal _ _ h.c0
  have a1 := hal _ _ h.c1
  have n1 := hal _ _ m1
  have n2 := hal _ _ m2
  have hR0 := h0.relR k hk
  have hnt := ref_nothing hR0
  unfold OpD.value
  simp only
  rcases hst : st k with _ | s
  · rw [hst] at hnt
    simp only [errno?] at hnt
    go_enter Tryz.func28, Tryz.ntmps28
    go_wp2_with (go_at_call 56; rw [← hW1]; refine hnt.mono ?_; rintro _ w1 ⟨rfl, c1⟩; have s0 := c1.cellAt o0 id; have h1 := h0.keep c1; have hPk := h1.relP k hk; rw [hst] at hPk; have hby := relT_bytes hPk; simp only [errno?, bytes?] at hby)
    clear hW1
    go_wp2_with (first | (go_at_call 21; refine hby.mono ?_; rintro _ w2 ⟨rfl, hP, c2⟩) | (go_at_call 47; refine (num_any _ _).mono ?_; rintro _ w9 ⟨rfl, e9⟩; rw [e9]; clear e9 w9))
    go_ret
    obtain ⟨z', h2⟩ := h1.call hk c2 (by rw [hst]; exact hP) (fun g hg => .inl hg) (h1.lenT k hk) (h1.tel k hk)
    exact ⟨by simp, _, _, _, _, _, _, _, _, _, _, _, _, _, h2.up⟩
  · rw [hst] at hnt
    simp only [errno?] at hnt
    obtain ⟨pk, ck, hvk⟩ := row_any h0.kept.row
    go_enter Tryz.func28, Tryz.ntmps28
    go_wp2_with (go_at_call 56; rw [← hW1]; refine hnt.mono ?_; rintro _ w1 ⟨rfl, c1⟩; have s0 := c1.cellAt o0 id; have h1 := h0.keep c1; have hPk := h1.relP k hk; rw [hst] at hPk; have hby := relT_bytes hPk; simp only [errno?, bytes?] at hby)
    clear hW1
    go_wp2_with (go_at_call 21; refine hby.mono ?_; rintro _ w2 ⟨rfl, hP, c2⟩)
    obtain ⟨z', h2⟩ := h1.call hk c2 (by rw [hst]; exact hP) (fun g hg => .inl hg) (h1.lenT k hk) (h1.tel k hk)
    have h3 := h2.keep ((Chg.refl (fun _ => False) w2).drew)
    have hRk := h3.relR k hk
    rw [hst] at hRk
    have hcp := ref_copy hRk (by omega)
    have kc := h3.kept.cell
    rw [hvk] at kc
    have htk := h1.tel k hk s hst
    have hlk := h1.lenT k hk
    clear hby hnt a0 a1 n1 n2 hal
    have hentC : ∀ args w, (callFunc 57 args).run Tryz.prog w = .ok (.enter 57 args) w := enters_of Tryz.func57 (by kernel_rfl) rfl
    go_region_law (first
      | (refine step_call rfl 57 _ _ rfl _ (by simp [Act.eval, Act.put]) hentC hcp (fun e' w3 he' => ?_); obtain ⟨a2, G, rfl, hR, hG, c3⟩ := he'; refine ⟨_, rfl, ?_⟩; obtain ⟨p', cap', w4, t1, d0, d2, f2, hfin⟩ := keeps_run h3 hN hvk c3 hR hG htk hlk; have d0' := fun ob => ((Chg.refl (fun _ => False) w3).alloc ob).cellAt d0 id)
      | (refine step_run rfl (.tmp 56) (.tmp 61) 72 72 rfl _ _ (by simp [Act.eval, Act.put]) (by simp [Act.eval, Act.put]) _ _ t1 ?_))
    all_goals
      go_wp2_with (go_at_call 47; refine (num_any _ _).mono ?_; rintro _ w9 ⟨rfl, e9⟩; rw [e9]; clear e9 w9)
      go_ret
      exact ⟨by simp, hfin⟩
end Go.Proofs.YthedkdbgfdjlkaaGreatDoor

namespace Go.Proofs.YthedkdbgfdjlkaaGreatDoor
set_option linter.unusedVariables false
set_option linter.unusedSimpArgs false
open Go.RowKit Go.Lib
set_option maxRecDepth 100000 in
set_option maxHeartbeats 1000000 in
theorem keyCanBe_any (k : Ky) (w : World) (hk : k.name.size ≤ maxLen) : Calls Tryz.prog 158 #[.agg #[.string k.name, .int .i64 k.count, .int .i64 k.fold, .int .i64 k.held]] w fun e w' => e = .returned (.bool (keyCan k)) ∧ Chg (fun _ => False) w w' := by
  obtain ⟨name, count, fold, held⟩ := k
  simp only at hk ⊢
  obtain ⟨W, hW⟩ : ∃ W, W = w.alloc (.cells #[.string name, .int .i64 count, .int .i64 fold, .int .i64 held] 87) := ⟨_, rfl⟩
  have c0 : Chg (fun _ => False) w W := by rw [hW]; exact (Chg.refl _ w).alloc _
  have hik := isKey_any name W hk
  have hiv := isValue_any fold W
  rw [hW] at hik hiv
  cases hok : okKey name with
  | false =>
    rw [hok] at hik
    have e : keyCan ⟨name, count, fold, held⟩ = false := by simp [keyCan, hok]
    rw [e]
    go_enter Tryz.func158, Tryz.ntmps158
    go_wp2_with (go_at_call 78; refine hik.mono ?_; rintro _ w1 ⟨rfl, rfl⟩)
    go_ret
    rw [← hW]
    exact ⟨rfl, c0⟩
  | true =>
    rw [hok] at hik
    by_cases hf : 0 ≤ fold ∧ fold ≤ 4294967295
    · have hfd : decide (0 ≤ fold ∧ fold ≤ 4294967295) = true := by simpa using hf
      rw [hfd] at hiv
      by_cases h1 : 1 ≤ count
      · by_cases h2 : count ≤ 1000
        · by_cases h3 : 0 ≤ held
          · by_cases h4 : held ≤ count
            · have e : keyCan ⟨name, count, fold, held⟩ = true := by simp [keyCan, hok, hf, h1, h2, h3, h4]
              rw [e]
              go_enter Tryz.func158, Tryz.ntmps158
              go_wp2_with (first | (go_at_call 78; refine hik.mono ?_; rintro _ w1 ⟨rfl, rfl⟩) | (go_at_call 110; refine hiv.mono ?_; rintro _ w1 ⟨rfl, rfl⟩))
              go_ret
              rw [← hW]
              exact ⟨rfl, c0⟩
            · have e : keyCan ⟨name, count, fold, held⟩ = false := by simp [keyCan, h4]
              rw [e]
              go_enter Tryz.func158, Tryz.ntmps158
              go_wp2_with (first | (go_at_call 78; refine hik.mono ?_; rintro _ w1 ⟨rfl, rfl⟩) | (go_at_call 110; refine hiv.mono ?_; rintro _ w1 ⟨rfl, rfl⟩))
              go_ret
              rw [← hW]
              exact ⟨by simp [h4], c0⟩
          · have e : keyCan ⟨name, count, fold, held⟩ = false := by simp [keyCan, h3]
            rw [e]
            go_enter Tryz.func158, Tryz.ntmps158
            go_wp2_with (first | (go_at_call 78; refine hik.mono ?_; rintro _ w1 ⟨rfl, rfl⟩) | (go_at_call 110; refine hiv.mono ?_; rintro _ w1 ⟨rfl, rfl⟩))
            go_ret
            rw [← hW]
            exact ⟨rfl, c0⟩
        · have e : keyCan ⟨name, count, fold, held⟩ = false := by simp [keyCan, h2]
          rw [e]
          go_enter Tryz.func158, Tryz.ntmps158
          go_wp2_with (first | (go_at_call 78; refine hik.mono ?_; rintro _ w1 ⟨rfl, rfl⟩) | (go_at_call 110; refine hiv.mono ?_; rintro _ w1 ⟨rfl, rfl⟩))
          go_ret
          rw [← hW]
          exact ⟨rfl, c0⟩
      · have e : keyCan ⟨name, count, fold, held⟩ = false := by simp [keyCan, h1]
        rw [e]
        go_enter Tryz.func158, Tryz.ntmps158
        go_wp2_with (first | (go_at_call 78; refine hik.mono ?_; rintro _ w1 ⟨rfl, rfl⟩) | (go_at_call 110; refine hiv.mono ?_; rintro _ w1 ⟨rfl, rfl⟩))
        go_ret
        rw [← hW]
        exact ⟨rfl, c0⟩
    · have hfd : decide (0 ≤ fold ∧ fold ≤ 4294967295) = false := by simpa using hf
      rw [hfd] at hiv
      have e : keyCan ⟨name, count, fold, held⟩ = false := by
        rcases Classical.not_and_iff_not_or_not.1 hf with h | h <;> simp [keyCan, h]
      rw [e]
      go_enter Tryz.func158, Tryz.ntmps158
      go_wp2_with (first | (go_at_call 78; refine hik.mono ?_; rintro _ w1 ⟨rfl, rfl⟩) | (go_at_call 110; refine hiv.mono ?_; rintro _ w1 ⟨rfl, rfl⟩))
      go_ret
      rw [← hW]
      exact ⟨rfl, c0⟩
theorem bless_leq : ∀ (a b : List UInt8), Op.bytesLess b a = !(Op.bytesLess a b || a == b)
  | [], [] => by simp [Op.bytesLess]
  | [], y :: b => by simp [Op.bytesLess]
  | x :: a, [] => by simp [Op.bytesLess]
  | x :: a, y :: b => by
    have ih := bless_leq a b
    simp only [Op.bytesLess]
    rcases Nat.lt_trichotomy x.toNat y.toNat with h | h | h
    · have h1 : x < y := UInt8.lt_iff_toNat_lt.2 h
      have h2 : ¬ y < x := fun g => by have := UInt8.lt_iff_toNat_lt.1 g; omega
      have h3 : ¬ y = x := fun g => by subst g; omega
      simp [h1, h2, h3]
    · have h0 : x = y := UInt8.toNat_inj.1 h
      subst h0
      have h1 : ¬ x < x := fun g => by have := UInt8.lt_iff_toNat_lt.1 g; omega
      simp only [h1, decide_false, Bool.false_or, beq_self_eq_true, Bool.true_and, ih]
      simp
    · have h1 : y < x := UInt8.lt_iff_toNat_lt.2 h
      have h2 : ¬ x < y := fun g => by have := UInt8.lt_iff_toNat_lt.1 g; omega
      have h3 : ¬ x = y := fun g => by subst g; omega
      simp [h1, h2, h3]
theorem less_leq (a b : ByteArray) : less b a = !(Op.bytesLess a.toList b.toList || a.toList == b.toList) := by
  rw [ByteArray.toList_eq, ByteArray.toList_eq]
  exact bless_leq _ _
theorem of_not {p q : Bool} (h : p = !q) : q = !p := by subst h; simp
theorem keyCan_count {k : Ky} (h : keyCan k = true) : 1 ≤ k.count ∧ k.count ≤ 1000 := by
  simp only [keyCan, Bool.and_eq_true, decide_eq_true_eq] at h
  exact ⟨h.1.1.1.2, h.1.1.2⟩
def sessRow : List (Int × Int) → List Value
  | [] => []
  | s :: r => .int .i64 s.1 :: .int .i64 s.2 :: .slice none 0 0 :: sessRow r
theorem sessRow_append : ∀ a b : List (Int × Int), sessRow (a ++ b) = sessRow a ++ sessRow b
  | [], b => rfl
  | s :: r, b => by simp [sessRow, sessRow_append r b]
theorem sessRow_at : ∀ (l : List (Int × Int)) (i : Nat) (s : Int × Int), l[i]? = some s → (sessRow l)[i * 3]? = some (.int .i64 s.1) ∧ (sessRow l)[i * 3 + 1]? = some (.int .i64 s.2) ∧ (sessRow l)[i * 3 + 2]? = some (.slice none 0 0)
  | [], i, s, h => by simp at h
  | y :: r, 0, s, h => by simp at h; subst h; simp [sessRow]
  | y :: r, i + 1, s, h => by
    have := sessRow_at r i s (by simpa using h)
    rw [show (i + 1) * 3 = i * 3 + 1 + 1 + 1 by omega, show i * 3 + 1 + 1 + 1 + 1 = i * 3 + 1 + 1 + 1 + 1 by omega]
    simp only [sessRow, List.getElem?_cons_succ]
    exact this
theorem counts_step {ks : List Ky} {i : Nat} {k : Ky} (h : ks[i]? = some k) : counts (ks.take (i + 1)) = counts (ks.take i) + k.count := by
  induction ks generalizing i with
  | nil => simp at h
  | cons y r ih =>
    cases i with
    | zero => simp at h; subst h; simp [counts]
    | succ i =>
      have := ih (i := i) (by simpa using h)
      simp [counts, this]; omega
theorem bases_step {ss : List (Int × Int)} {i : Nat} {s : Int × Int} (h : ss[i]? = some s) : basesOf (ss.take (i + 1)) = basesOf (ss.take i) + s.2 := by
  induction ss generalizing i with
  | nil => simp at h
  | cons y r ih =>
    cases i with
    | zero => simp at h; subst h; simp [basesOf]
    | succ i =>
      have := ih (i := i) (by simpa using h)
      simp [basesOf, this]; omega
set_option maxRecDepth 100000 in
set_option maxHeartbeats 4000000 in
theorem canBe_any {w : World} {lo : Nat} {vs vk : Value} {ss : List (Int × Int)} {ks : List Ky} (hs : w.ownsRow lo 121 3 vs ss.length (sessRow ss)) (hk : w.ownsRow lo 87 4 vk ks.length (keyCells ks)) (h4 : ss.length = 4) (hk4 : ks.length ≤ 4) (hkn : ∀ k ∈ ks, k.name.size ≤ maxLen) :
    Calls Tryz.prog 130 #[.agg #[vs, vk]] w fun e w' => e = .returned (.bool (canBe ss ks)) ∧ Chg (fun _ => False) w w' := by
  obtain ⟨ps, cs, rfl⟩ := row_any hs
  obtain ⟨pk, ck, rfl⟩ := row_any hk
  obtain ⟨R, hR⟩ : ∃ R, R = canBe ss ks := ⟨_, rfl⟩
  have HR : Hid (R = (keysCan ⟨#[]⟩ ks && ss.all sessCan && decide (counts ks ≤ 1000) && decide (basesOf ss ≤ counts ks))) := by
    show _ = _
    rw [hR]; simp [canBe, h4, hk4]
  rw [← hR]
  clear hR
  have hk4' : ¬ (4 : Int) < (ks.length : Int) := by omega
  go_enter Tryz.func130, Tryz.ntmps130
  rw [h4] at hs ⊢
  go_wp2_with fail
  obtain ⟨W0, hW0⟩ : ∃ W0, W0 = w.alloc (.cells #[.slice ps 4 cs, .slice pk ks.length ck] 46) := ⟨_, rfl⟩
  have c0 : Chg (fun _ => False) w W0 := by rw [hW0]; exact (Chg.refl _ w).alloc _
  have a0 : W0.cell? ⟨w.heap.size, 0, none⟩ = some (.slice ps 4 cs) := by rw [hW0]; exact World.cell?_alloc_at _ _ _ _ rfl
  rw [← hW0]
  clear hW0
  go_loopw [3, 4, 6, 23] (fun st sl _ si wr => ∃ (i : Nat) (last : ByteArray), si = .int .i64 i ∧ st = .int .i64 (counts (ks.take i)) ∧ sl = .string last ∧ i ≤ ks.length ∧ 0 ≤ counts (ks.take i) ∧ counts (ks.take i) ≤ i * 1000 ∧ Chg (fun _ => False) W0 wr ∧ Hid (keysCan ⟨#[]⟩ ks = keysCan last (ks.drop i))) (fun _ _ _ si _ => ks.length - (intOf si).toNat)
  case atStart => exact ⟨0, ⟨#[]⟩, rfl, by simp [counts], rfl, by omega, by simp [counts], by simp [counts], Chg.refl _ _, rfl⟩
  case round =>
    obtain ⟨i, last, rfl, rfl, rfl, hil, hc0, hc1, hcg, HK⟩ := hrel
    by_cases hlt : i < ks.length
    · have hlt' : (i : Int) < (ks.length : Int) := by omega
      obtain ⟨x, hx⟩ : ∃ x, ks[i]? = some x := ⟨_, List.getElem?_eq_getElem hlt⟩
      have cx := keyCells_at ks i x hx
      obtain ⟨g, cap', hv, hlg, _, hcell⟩ := row_pos hk (by omega)
      simp only [Value.slice.injEq] at hv
      obtain ⟨rfl, _, rfl⟩ := hv
      have b0 := (c0.trans hcg (fun _ _ h => h)).cellAt (hcell _ _ cx.1) id
      have b1 := (c0.trans hcg (fun _ _ h => h)).cellAt (hcell _ _ cx.2.1) id
      have b2 := (c0.trans hcg (fun _ _ h => h)).cellAt (hcell _ _ cx.2.2.1) id
      have b3 := (c0.trans hcg (fun _ _ h => h)).cellAt (hcell _ _ cx.2.2.2) id
      have hxm : x.name.size ≤ maxLen := hkn x (List.mem_of_getElem? hx)
      have hdrop : ks.drop i = x :: ks.drop (i + 1) := by
        rw [List.drop_eq_getElem_cons hlt]
        congr 1
        rw [List.getElem?_eq_getElem hlt] at hx
        exact Option.some.inj hx
      have hcs := counts_step hx
      have HK' : Hid (keysCan ⟨#[]⟩ ks = (keyCan x && less last x.name && keysCan x.name (ks.drop (i + 1)))) := by
        show _ = _
        rw [HK.out, hdrop]; rfl
      clear hdrop HK hcell cx
      obtain ⟨W1, hW1⟩ : ∃ W1, W1 = wr.alloc (.cells #[.string x.name, .int .i64 x.count, .int .i64 x.fold, .int .i64 x.held] 87) := ⟨_, rfl⟩
      have c1 : Chg (fun _ => False) wr W1 := by rw [hW1]; exact (Chg.refl _ wr).alloc _
      have hkc := keyCanBe_any x W1 hxm
      have d0 : W1.cell? ⟨wr.heap.size, 0, none⟩ = some (.string x.name) := by rw [hW1]; exact World.cell?_alloc_at _ _ _ _ rfl
      have d1 : W1.cell? ⟨wr.heap.size, 1, none⟩ = some (.int .i64 x.count) := by rw [hW1]; exact World.cell?_alloc_at _ _ _ _ rfl
      have HW1 : Hid (W1 = wr.alloc (.cells #[.string x.name, .int .i64 x.count, .int .i64 x.fold, .int .i64 x.held] 87)) := hW1
      go_wp2_with fail
      rw [← HW1.out]
      clear hW1
      have hcW : Chg (fun _ => False) W0 W1 := hcg.trans c1 (fun _ _ h => h)
      cases hkx : keyCan x with
      | false =>
        rw [hkx] at hkc
        refine hkc.mono ?_
        rintro _ w2 ⟨rfl, c2⟩
        go_wp2_with fail
        go_ret
        have e : R = false := by rw [HR.out, HK'.out, hkx]; simp
        exact ⟨by rw [e]; rfl, (c0.trans hcW (fun _ _ h => h)).trans c2 (fun _ _ h => h)⟩
      | true =>
        have hx1000 := (keyCan_count hkx)
        rw [hkx] at hkc
        refine hkc.mono ?_
        rintro _ w2 ⟨rfl, c2⟩
        have f0 := c2.cellAt d0 id
        have f1 := c2.cellAt d1 id
        clear d0 d1
        have htri := of_not (less_leq x.name last)
        cases hlx : less last x.name with
        | false =>
          rw [hlx] at htri
          have hor : (Op.bytesLess x.name.toList last.toList || x.name.toList == last.toList) = true := htri
          go_wp2_with fail
          go_ret
          have e : R = false := by rw [HR.out, HK'.out, hlx]; simp
          exact ⟨by rw [e]; rfl, (c0.trans hcW (fun _ _ h => h)).trans c2 (fun _ _ h => h)⟩
        | true =>
          rw [hlx] at htri
          have hor : (Op.bytesLess x.name.toList last.toList || x.name.toList == last.toList) = false := htri
          go_wp2_with fail
          go_quiet (fail)
          have hw1 : wrap64 (counts (ks.take i) + x.count) = counts (ks.take i) + x.count := by unfold wrap64; omega
          go_wp2_with fail
          have cq : Chg (fun _ => False) w2 (w2.drewN nq) := ((Quiet.refl w2).drewN nq).chg _
          go_roundw
          case rel => exact ⟨i + 1, x.name, by go_num, by rw [hcs], rfl, by omega, by rw [hcs]; omega, by rw [hcs]; omega, (hcW.trans c2 (fun _ _ h => h)).trans cq (fun _ _ h => h), by rw [HK'.out, hkx, hlx]; rfl⟩
          case measure => simp [intOf]; omega
    · have hlt' : ¬ (i : Int) < (ks.length : Int) := by omega
      have hi : i = ks.length := by omega
      have HS : Hid (counts (ks.take i) = counts ks) := by show _ = _; rw [hi, List.take_length]
      have HKe : Hid (keysCan ⟨#[]⟩ ks = true) := by
        show _ = _
        rw [HK.out, hi, List.drop_length]; rfl
      have g0 := hcg.cellAt a0 id
      have hc0' : Chg (fun _ => False) w wr := c0.trans hcg (fun _ _ h => h)
      clear HK hi
      generalize counts (ks.take i) = C at hc0 hc1 HS ⊢
      have hC4 : C ≤ 4000 := by omega
      obtain ⟨g, cap', hv, hlg, _, hcell⟩ := row_pos hs (by omega)
      simp only [Value.slice.injEq] at hv
      obtain ⟨rfl, _, rfl⟩ := hv
      go_wp2_with fail
      go_loopw [7, 9, 46] (fun sb _ sj w2 => ∃ (j : Nat), sj = .int .i64 j ∧ sb = .int .i64 (basesOf (ss.take j)) ∧ j ≤ 4 ∧ 0 ≤ basesOf (ss.take j) ∧ basesOf (ss.take j) ≤ j * 1000 ∧ Chg (fun _ => False) wr w2 ∧ Hid (ss.all sessCan = (ss.drop j).all sessCan)) (fun _ _ sj _ => 4 - (intOf sj).toNat)
      case atStart => exact ⟨0, rfl, by simp [basesOf], by omega, by simp [basesOf], by simp [basesOf], Chg.refl _ _, rfl⟩
      case round =>
        obtain ⟨j, rfl, rfl, hj, hb0, hb1, hcj, HA⟩ := hrel
        by_cases hjl : j < 4
        · have hjl' : (j : Int) < 4 := by omega
          obtain ⟨y, hy⟩ : ∃ y, ss[j]? = some y := ⟨_, List.getElem?_eq_getElem (by omega)⟩
          obtain ⟨ye, yb⟩ := y
          have cy := sessRow_at ss j _ hy
          have hcc := hc0'.trans hcj (fun _ _ h => h)
          have p0 := hcc.cellAt (hcell _ _ cy.1) id
          have p1 := hcc.cellAt (hcell _ _ cy.2.1) id
          have p2 := hcc.cellAt (hcell _ _ cy.2.2) id
          have hbs := bases_step hy
          have HA' : Hid (ss.all sessCan = (sessCan (ye, yb) && (ss.drop (j + 1)).all sessCan)) := by
            show _ = _
            rw [HA.out, List.drop_eq_getElem_cons (by omega), List.all_cons]
            rw [List.getElem?_eq_getElem (by omega)] at hy
            rw [Option.some.inj hy]
          clear HA cy hcell
          simp only at p0 p1 hbs
          obtain ⟨W1, hW1⟩ : ∃ W1, W1 = wr.alloc (.cells #[.int .i64 ye, .int .i64 yb, .slice none 0 0] 121) := ⟨_, rfl⟩
          have c1 : Chg (fun _ => False) wr W1 := by rw [hW1]; exact (Chg.refl _ wr).alloc _
          by_cases h1 : ye < 0
          · have e : Hid (R = false) := by
              show _ = _
              rw [HR.out, HA'.out]; simp [sessCan]; omega
            go_wp2_with fail
            go_ret
            exact ⟨by rw [e.out]; rfl, by rw [← hW1]; exact hcc.trans c1 (fun _ _ h => h)⟩
          · by_cases h2 : yb < 0
            · have e : Hid (R = false) := by
                show _ = _
                rw [HR.out, HA'.out]; simp [sessCan]; omega
              go_wp2_with fail
              go_ret
              exact ⟨by rw [e.out]; rfl, by rw [← hW1]; exact hcc.trans c1 (fun _ _ h => h)⟩
            · by_cases h3 : 1000 < yb
              · have e : Hid (R = false) := by
                  show _ = _
                  rw [HR.out, HA'.out]; simp [sessCan]; omega
                go_wp2_with fail
                go_ret
                exact ⟨by rw [e.out]; rfl, by rw [← hW1]; exact hcc.trans c1 (fun _ _ h => h)⟩
              · have hs1 : sessCan (ye, yb) = true := by simp [sessCan]; omega
                have hw1 : wrap64 (basesOf (ss.take j) + yb) = basesOf (ss.take j) + yb := by unfold wrap64; omega
                go_wp2_with fail
                go_roundw
                case rel => exact ⟨j + 1, by go_num, by rw [hbs], by omega, by rw [hbs]; omega, by rw [hbs]; omega, by rw [← hW1]; exact hcj.trans c1 (fun _ _ h => h), by rw [HA'.out, hs1]; rfl⟩
                case measure => simp [intOf]; omega
        · have hj4 : j = 4 := by omega
          subst hj4
          have HB : Hid (basesOf (ss.take 4) = basesOf ss) := by show _ = _; rw [List.take_of_length_le (by omega)]
          have HAe : Hid (ss.all sessCan = true) := by
            show _ = _
            rw [HA.out, List.drop_eq_nil_of_le (by omega)]; rfl
          clear HA
          generalize basesOf (ss.take 4) = D at hb0 hb1 HB ⊢
          have e : Hid (R = (decide (C ≤ 1000) && decide (D ≤ C))) := by
            show _ = _
            rw [HR.out, HKe.out, HAe.out, HS.out, HB.out]; rfl
          by_cases h1 : C ≤ 1000
          · by_cases h2 : D ≤ C
            · go_wp2_with fail
              go_ret
              exact ⟨by rw [e.out]; simp [h1, h2], hc0'.trans hcj (fun _ _ h => h)⟩
            · go_wp2_with fail
              go_ret
              exact ⟨by rw [e.out]; simp [h1, h2], hc0'.trans hcj (fun _ _ h => h)⟩
          · go_wp2_with fail
            go_ret
            exact ⟨by rw [e.out, decide_eq_false (show ¬ C ≤ 1000 by omega)]; simp, hc0'.trans hcj (fun _ _ h => h)⟩
end Go.Proofs.YthedkdbgfdjlkaaGreatDoor

namespace Go.Proofs.YthedkdbgfdjlkaaGreatDoor
set_option linter.unusedVariables false
set_option linter.unusedSimpArgs false
theorem distinct_le_length : ∀ l : List ByteArray, distinct l ≤ l.length
  | [] => by simp [distinct]
  | k :: r => by
    have := distinct_le_length r
    simp only [distinct, List.length_cons]
    split <;> omega
theorem keysCan_all : ∀ {last : ByteArray} {ks : List Ky}, keysCan last ks = true → (∀ k ∈ ks, keyCan k = true ∧ less last k.name = true) ∧ (ks.Pairwise fun a b => less a.name b.name = true)
  | last, [], _ => ⟨by simp, .nil⟩
  | last, k :: r, h => by
    simp only [keysCan, Bool.and_eq_true] at h
    obtain ⟨h1, h2⟩ := keysCan_all h.2
    refine ⟨fun x hx => ?_, List.pairwise_cons.2 ⟨fun x hx => (h1 x hx).2, h2⟩⟩
    rcases List.mem_cons.1 hx with rfl | hx
    · exact ⟨h.1.1, h.1.2⟩
    · exact ⟨(h1 x hx).1, less_trans h.1.2 (h1 x hx).2⟩
structure KeyCan (k : Ky) : Prop where
  name : okKey k.name = true
  fold : 0 ≤ k.fold ∧ k.fold ≤ 4294967295
  count : 1 ≤ k.count ∧ k.count ≤ 1000
  held : 0 ≤ k.held ∧ k.held ≤ k.count
theorem keyCan_out {k : Ky} (h : keyCan k = true) : KeyCan k := by
  simp only [keyCan, Bool.and_eq_true, decide_eq_true_eq] at h
  obtain ⟨⟨⟨⟨⟨⟨h1, h2⟩, h3⟩, h4⟩, h5⟩, h6⟩, h7⟩ := h
  exact ⟨h1, ⟨h2, h3⟩, ⟨h4, h5⟩, h6, h7⟩
structure CanBe (ss : List (Int × Int)) (ks : List Ky) : Prop where
  four : ss.length = 4
  few : ks.length ≤ 4
  key : ∀ k ∈ ks, KeyCan k
  sorted : ks.Pairwise fun a b => less a.name b.name = true
  sess : ∀ s ∈ ss, 0 ≤ s.1 ∧ 0 ≤ s.2 ∧ s.2 ≤ 1000
  total : counts ks ≤ 1000
  based : basesOf ss ≤ counts ks
theorem canBe_out {ss : List (Int × Int)} {ks : List Ky} (h : canBe ss ks = true) : CanBe ss ks := by
  simp only [canBe, Bool.and_eq_true, decide_eq_true_eq, List.all_eq_true] at h
  obtain ⟨⟨⟨⟨⟨h1, h2⟩, h3⟩, h4⟩, h5⟩, h6⟩ := h
  obtain ⟨k1, k2⟩ := keysCan_all h3
  refine ⟨h1, h2, fun k hk => keyCan_out (k1 k hk).1, k2, fun s hs => ?_, h5, h6⟩
  have := h4 s hs
  simp only [sessCan, Bool.and_eq_true, decide_eq_true_eq] at this
  exact ⟨this.1.1, this.1.2, this.2⟩
def epOf (ss : List (Int × Int)) (i : Nat) : Int := match ss[i]? with
  | some s => s.1
  | none => 0
def baOf (ss : List (Int × Int)) (i : Nat) : Int := match ss[i]? with
  | some s => s.2
  | none => 0
theorem epOf_at {ss : List (Int × Int)} {i : Nat} {s : Int × Int} (h : ss[i]? = some s) : epOf ss i = s.1 ∧ baOf ss i = s.2 := by
  simp [epOf, baOf, h]
theorem base_le_sum : ∀ {ss : List (Int × Int)}, (∀ s ∈ ss, 0 ≤ s.2) → 0 ≤ basesOf ss ∧ ∀ s ∈ ss, s.2 ≤ basesOf ss
  | [], _ => by simp [basesOf]
  | y :: r, h => by
    obtain ⟨h1, h2⟩ := base_le_sum (ss := r) (fun s hs => h s (by simp [hs]))
    have h3 := h y (by simp)
    refine ⟨by simp only [basesOf]; omega, fun s hs => ?_⟩
    simp only [basesOf]
    rcases List.mem_cons.1 hs with e | hs
    · subst e; omega
    · have := h2 s hs; omega
theorem bare_base : ∀ ss : List (Int × Int), baseSum (ss.map fun s => (⟨s.1, s.2, []⟩ : Ln)) = basesOf ss
  | [] => rfl
  | s :: r => by simp [basesOf, baseSum, bare_base r]
theorem okKey_first {k : ByteArray} (h : okKey k = true) : ∃ c r, k.data.toList = c :: r ∧ okFirst c = true := by
  unfold okKey at h
  split at h
  · cases h
  · rename_i c r e
    simp only [Bool.and_eq_true] at h
    exact ⟨c, r, e, h.1⟩
theorem bare_fit {ss : List (Int × Int)} {ks : List Ky} (h : CanBe ss ks) (he : ∀ s ∈ ss, s.1 ≤ 9223372036854775807) :
    FlowFit (epOf ss) (baOf ss) (fun _ => []) ks ∧ Ties (epOf ss) (baOf ss) (fun _ => []) ks (bare ss ks) ∧ (bare ss ks).sound := by
  obtain ⟨b1, b2⟩ := base_le_sum (fun s hs => (h.sess s hs).2.1)
  have hat : ∀ i, i < 4 → ∃ s, ss[i]? = some s := fun i hi => ⟨_, List.getElem?_eq_getElem (by rw [h.four]; exact hi)⟩
  have hb := h.based
  refine ⟨⟨fun i _ => by simp, h.few, ⟨h.sorted, fun k hk => okKey_first (h.key k hk).name, fun k hk => (h.key k hk).fold, fun k hk => by have := (h.key k hk).count; omega, by simp [qLens]; exact h.total⟩, fun i hi => ?_, fun i _ x hx => by simp at hx⟩, ⟨rfl, by simp [bare, h.four], fun i hi => ?_, fun i hi => ?_, ?_, fun k hk => ⟨(h.key k hk).count.1, (h.key k hk).held⟩⟩, ⟨fun k hk => (h.key k hk).name, fun l hl y hy => ?_, ?_⟩⟩
  · obtain ⟨s, hs⟩ := hat i hi
    rw [(epOf_at hs).2]
    have := b2 s (List.mem_of_getElem? hs)
    have := h.sess s (List.mem_of_getElem? hs)
    omega
  · obtain ⟨s, hs⟩ := hat i hi
    refine ⟨⟨s.1, s.2, []⟩, by simp [bare, hs], ?_⟩
    rw [(epOf_at hs).1, (epOf_at hs).2]
    exact ⟨rfl, rfl, List.Pairwise.nil, .refl _, trivial, by simp⟩
  · obtain ⟨s, hs⟩ := hat i hi
    rw [(epOf_at hs).1]
    exact ⟨(h.sess s (List.mem_of_getElem? hs)).1, he s (List.mem_of_getElem? hs)⟩
  · have hn : (bare ss ks).names = ks.map (·.name) := by
      unfold St.names bare
      simp only
      have : (ss.map fun s => (⟨s.1, s.2, []⟩ : Ln)).flatMap (fun l => l.ws.map (·.key)) = [] := by
        rw [List.flatMap_eq_nil_iff]
        intro l hl
        obtain ⟨s, _, rfl⟩ := List.mem_map.1 hl
        rfl
      rw [this, List.append_nil]
    rw [hn]
    have := distinct_le_length (ks.map (·.name))
    rw [List.length_map] at this
    have := h.few
    omega
  · obtain ⟨s, _, rfl⟩ := List.mem_map.1 hl
    simp at hy
  · show baseSum (ss.map fun s => (⟨s.1, s.2, []⟩ : Ln)) ≤ counts ks
    rw [bare_base]
    exact hb
theorem rMany_mem {α : Type} (f : Rs → α × Rs) (P : α → Prop) (hP : ∀ r, P (f r).1) (r : Rs) : ∀ k, ∀ x ∈ (rMany f k r).1, P x
  | 0, x, hx => by simp [rMany] at hx
  | k + 1, x, hx => by
    simp only [rMany, List.mem_append, List.mem_singleton] at hx
    rcases hx with hx | rfl
    · exact rMany_mem f P hP r k x hx
    · exact hP _
theorem rText_pos {row : ByteArray} {n : Nat} {r : Rs} (h : (rText row n r).2.err = none) : (rText row n r).2.at_ = r.at_ + n := by
  cases e : r.err with
  | some x => rw [rText_some row n r e] at h; rw [e] at h; cases h
  | none =>
    by_cases hs : row.size < r.at_ + n
    · rw [rText_cut row n r e hs] at h; cases h
    · rw [rText_ok row n r e hs]
theorem on_none {row : ByteArray} {r r' : Rs} (h : Rs.on row r r') (he : r'.err = none) : r.err = none := by
  cases e : r.err with
  | none => rfl
  | some x => rw [h.stuck x e, e] at he; cases he
theorem rMark_pos {row : ByteArray} {r : Rs} (h : (rMark row r).err = none) : (rMark row r).at_ = r.at_ + 8 := by
  unfold rMark at h ⊢
  split at h
  · rename_i e
    rw [if_pos e]
    exact rText_pos h
  · have := on_none (Rs.on.fail row (rText row 8 r).2 2) h
    rw [Rs.fail_none _ _ this] at h
    cases h
theorem rParts_on (row : ByteArray) (r : Rs) : Rs.on row (rMark row r) (rParts row r).2.2.2 :=
  ((((Rs.on.many (Rs.on.pair row) _ 4).trans (Rs.on.upTo row 4 _)).trans (Rs.on.many (Rs.on.ky row) _ _)).trans (Rs.on.upTo row 12 _)).trans (Rs.on.many (Rs.on.rec_ row) _ _)
theorem rParts_pos {row : ByteArray} {r : Rs} (h : (rParts row r).2.2.2.err = none) : 0 < (rParts row r).2.2.2.at_ := by
  have h1 := rParts_on row r
  have h2 := rMark_pos (on_none h1 h)
  have := h1.le
  omega
end Go.Proofs.YthedkdbgfdjlkaaGreatDoor

namespace Go.Proofs.YthedkdbgfdjlkaaGreatDoor
set_option linter.unusedVariables false
set_option linter.unusedSimpArgs false
open Go.RowKit Go.Lib
def FlowIs (w : World) (b o : Nat) (s : St) (F : Nat → Prop) : Prop :=
  F b ∧ (∀ k, F k → k < w.heap.size) ∧ ∃ E B V vk Q ks, FlowAt w 0 b o E B V vk Q ks ∧ FlowFit E B Q ks ∧ Ties E B Q ks s ∧ s.sound ∧ ∀ k, Rows V vk k → F k
theorem FlowIs.fine {w : World} {b o : Nat} {s : St} {F : Nat → Prop} (h : FlowIs w b o s F) : s.fine := by
  obtain ⟨_, _, E, B, V, vk, Q, ks, _, h5, h6, _⟩ := h
  exact h6.fine h5
theorem FlowIs.same {w w' : World} {b o : Nat} {s : St} {F G : Nat → Prop} (h : FlowIs w b o s F) (c : Chg G w w') (hF : ∀ k, F k → ¬ G k) : FlowIs w' b o s F := by
  obtain ⟨hb, hl, E, B, V, vk, Q, ks, h4, h5, h6, h7, h8⟩ := h
  refine ⟨hb, fun k hk => Nat.lt_of_lt_of_le (hl k hk) c.size, E, B, V, vk, Q, ks, ?_, h5, h6, h7, h8⟩
  exact h4.same (c.block b (hl b hb) (hF b hb)) (fun k hk => c.block k (hl k (h8 k hk)) (hF k (h8 k hk)))
theorem flowIs_accept {w : World} {b o : Nat} {s : St} {F : Nat → Prop} (x : Rec) (h : FlowIs w b o s F) (hx : x.fits) : Calls Tryz.prog 40 #[.pointer (some ⟨b, o, none⟩), x.value'] w fun e w' =>
    ∃ ch F', e = .returned (.tuple #[.int .i64 (accept s x).1.1, .bool ch, .int .i64 (accept s x).1.2]) ∧ FlowIs w' b o (accept s x).2 F' ∧ (∀ k, F' k → F k ∨ w.heap.size ≤ k) ∧ Chg F w w' := by
  obtain ⟨hb, hl, E, B, V, vk, Q, ks, h4, h5, h6, h7, h8⟩ := h
  obtain ⟨t1, t2, t3, t4, t5⟩ := accept_tie h6 h5 x hx
  have hsnd := sound_accept h7 (h6.fine h5) x
  refine (flowAccept_any h4 h5 x hx).mono ?_
  rintro e w' ⟨rfl, hp⟩
  refine ⟨_, fun k => F k ∨ (w.heap.size ≤ k ∧ k < w'.heap.size), by rw [t1], ?_, fun k hk => hk.imp id (fun h => h.1), ?_⟩
  · cases hc : (accF E B Q ks x).2 with
    | none =>
      rw [hc] at hp t2 t3
      have c : Chg (fun _ => False) w w' := hp
      refine ⟨.inl hb, fun k hk => ?_, E, B, V, vk, Q, ks, ?_, t3, t2, hsnd, fun k hk => .inl (h8 k hk)⟩
      · rcases hk with hk | hk
        · exact Nat.lt_of_lt_of_le (hl k hk) c.size
        · exact hk.2
      · exact h4.same (c.block b (hl b hb) id) (fun k hk => c.block k (hl k (h8 k hk)) id)
    | some y =>
      obtain ⟨e', b', q', ks'⟩ := y
      rw [hc] at hp t2 t3
      obtain ⟨v', vk', g1, g2, g3, _, g5⟩ := hp
      refine ⟨.inl hb, fun k hk => ?_, _, _, _, vk', _, ks', g1, t3, t2, hsnd, fun k hk => ?_⟩
      · rcases hk with hk | hk
        · exact Nat.lt_of_lt_of_le (hl k hk) g5.size
        · exact hk.2
      · have hlt : k < w'.heap.size := by
          rcases hk with ⟨i, hi, hk⟩ | hk
          · exact ((g1.rows i hi).lt k hk).2
          · exact (g1.keys.lt k hk).2
        rcases hk with ⟨i, hi, hk⟩ | hk
        · unfold upd at hk
          split at hk
          · rename_i ei
            rcases g2 k hk with h | h
            · exact .inl (h8 k (.inl ⟨x.session.toNat, by omega, h⟩))
            · exact .inr ⟨h, hlt⟩
          · exact .inl (h8 k (.inl ⟨i, hi, hk⟩))
        · rcases g3 k hk with h | h
          · exact .inl (h8 k (.inr h))
          · exact .inr ⟨h, hlt⟩
  · cases hc : (accF E B Q ks x).2 with
    | none =>
      rw [hc] at hp
      exact Chg.mono hp (fun k hk => hk.elim)
    | some y =>
      obtain ⟨e', b', q', ks'⟩ := y
      rw [hc] at hp
      obtain ⟨v', vk', g1, g2, g3, _, g5⟩ := hp
      refine g5.mono (fun k hk => ?_)
      rcases hk with rfl | hk | hk
      · exact hb
      · have hs : x.session.toNat < 4 := by
          have : recErr x = 0 := by
            unfold accF at hc
            by_cases hbad : recErr x ≠ 0
            · rw [if_pos hbad] at hc; cases hc
            · simpa using hbad
          unfold recErr at this
          split at this
          · cases this
          · omega
        exact h8 k (.inl ⟨_, hs, hk⟩)
      · exact h8 k (.inr hk)
theorem flowIs_answer {w : World} {b o : Nat} {s : St} {F : Nat → Prop} (key : ByteArray) (n : Int) (h : FlowIs w b o s F) (hkey : key.size ≤ maxLen) (hn : inInt n) : Calls Tryz.prog 42 #[.pointer (some ⟨b, o, none⟩), .string key, .int .i64 n] w fun e w' =>
    ∃ ch, e = .returned (.tuple #[.bool ch, .int .i64 (answer s key n).1]) ∧ FlowIs w' b o (answer s key n).2 F ∧ Chg F w w' := by
  obtain ⟨hb, hl, E, B, V, vk, Q, ks, h4, h5, h6, h7, h8⟩ := h
  obtain ⟨t1, t2, t3⟩ := ansF_fit h6 h5 key n
  have hsnd := sound_answer h7 key n
  have hq0 := qLens_nonneg Q 4
  have htot := h5.led.total
  refine (flowAnswer_any h4 h5.led.sorted h5.kl (fun k hk => ?_) key n hkey hn).mono ?_
  · have h8 := h6.held k hk
    have h9 := (count_le h5.led.count k hk).1
    omega
  · rintro e w' ⟨rfl, g1, g2⟩
    have c : Chg F w w' := g2.mono (fun k hk => h8 k (.inr hk))
    refine ⟨_, by rw [t1], ⟨hb, fun k hk => Nat.lt_of_lt_of_le (hl k hk) c.size, E, B, V, vk, Q, _, ?_, t2, t3, hsnd, h8⟩, c⟩
    have hbn : ¬ vk.ownBlock = some b := h4.ownk
    have eb := g2.block b (hl b hb) hbn
    refine ⟨⟨fun i hi => (World.cell?_of_block (w := w) eb).trans (h4.cells.ep i hi), fun i hi => (World.cell?_of_block (w := w) eb).trans (h4.cells.ba i hi), fun i hi => (World.cell?_of_block (w := w) eb).trans (h4.cells.qu i hi), (World.cell?_of_block (w := w) eb).trans h4.cells.le⟩,
      fun j => (World.frozen?_of_block (w := w) eb).trans (h4.froz j), fun i hi => row_same (h4.rows i hi) (fun k hk => g2.block k (hl k (h8 k (.inl ⟨i, hi, hk⟩))) (fun e => h4.sepk i hi k hk e)), g1, h4.own, h4.ownk, h4.sep, h4.sepk, Nat.zero_le _⟩
end Go.Proofs.YthedkdbgfdjlkaaGreatDoor
