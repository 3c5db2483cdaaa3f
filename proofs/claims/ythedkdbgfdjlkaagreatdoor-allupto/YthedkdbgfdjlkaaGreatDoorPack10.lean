import Derived.Test.YthedkdbgfdjlkaaGreatDoorPack1
import Derived.Test.YthedkdbgfdjlkaaGreatDoorPack2
import Derived.Test.YthedkdbgfdjlkaaGreatDoorPack3
import Derived.Test.YthedkdbgfdjlkaaGreatDoorPack4
import Derived.Test.YthedkdbgfdjlkaaGreatDoorPack5
import Derived.Test.YthedkdbgfdjlkaaGreatDoorPack6
import Derived.Test.YthedkdbgfdjlkaaGreatDoorPack7
import Derived.Test.YthedkdbgfdjlkaaGreatDoorPack8
import Derived.Test.YthedkdbgfdjlkaaGreatDoorPack9
namespace Go.Proofs.YthedkdbgfdjlkaaGreatDoor
set_option linter.unusedVariables false
set_option linter.unusedSimpArgs false
open Go.RowKit Go.Lib
theorem Chg.low {lo : Nat} {w w0 w' : World} (c0 : Chg (fun _ => False) w w0) (c : Chg (fun k => lo ≤ k) w0 w') (h : w.heap.size ≤ lo) : Chg (fun _ => False) w w' := c0.step c (fun k hk => Nat.le_trans h hk)
theorem AccAt.other {F : Nat → Prop} {w w' : World} {lo cb sb i : Nat} {E B : Nat → Int} {V : Nat → Value} {Q : Nat → List Rec} {te tb : Int} {vq vt : Value} {q T : List Rec} (h : AccAt w lo cb sb i E B V Q te tb vq vt q T) (c : Chg F w w') (hF : ∀ k, F k → k < lo) : AccAt w' lo cb sb i E B V Q te tb vq vt q T := by
  have nc : ¬ F cb := fun e => by have := hF _ e; have := h.cl; omega
  have ns : ¬ F sb := fun e => by have := hF _ e; have := h.sl; omega
  have hr : ∀ {v : Value} {L : List Rec}, w.ownsRow lo 53 5 v L.length (recCells L) → w'.ownsRow lo 53 5 v L.length (recCells L) := fun hr => c.row' hr (fun k hk e => by have := (hr.lt k hk).1; have := hF _ e; omega)
  exact { h with
    ep := fun j hj => c.cellAt (h.ep j hj) nc
    ba := fun j hj => c.cellAt (h.ba j hj) nc
    qu := fun j hj => c.cellAt (h.qu j hj) nc
    tk := c.cellAt h.tk nc
    fzc := fun j => (World.frozen?_of_block (w := w) (c.block cb (World.block_lt_of_cell? _ _ h.tk) nc)).trans (h.fzc j)
    s0 := c.cellAt h.s0 ns
    s1 := c.cellAt h.s1 ns
    s2 := c.cellAt h.s2 ns
    fzs := fun j => (World.frozen?_of_block (w := w) (c.block sb (World.block_lt_of_cell? _ _ h.s0) ns)).trans (h.fzs j)
    rows := fun j hj hne => hr (h.rows j hj hne)
    taken := hr h.taken
    row := hr h.row
    low := Nat.le_trans h.low c.size }
theorem RefAt.done {w W w' : World} {lo b l0 sb i : Nat} {E B E1 B1 : Nat → Int} {V V2 : Nat → Value} {vt vh : Value} {Q : Nat → List Rec} {T : List Rec} {Hs : List Hd} {te bb : Int} {vq1 vt2 : Value} {q1 T1 : List Rec}
    (h : RefAt w lo b E B V vt vh Q T Hs false) (hi : i < 4) (hl0 : w.heap.size < l0) (hA : AccAt w' l0 l0 sb i E1 B1 V2 Q te bb vq1 vt2 q1 T1) (hEB : ∀ j, j ≠ i → E1 j = E j ∧ B1 j = B j)
    (hB : ∀ j, j < 4 → j ≠ i → w'.cell? ⟨b, j * 3, none⟩ = some (.int .i64 (E1 j)) ∧ w'.cell? ⟨b, j * 3 + 1, none⟩ = some (.int .i64 (B1 j)) ∧ w'.cell? ⟨b, j * 3 + 2, none⟩ = some (V2 j))
    (b0 : w'.cell? ⟨b, i * 3, none⟩ = some (.int .i64 te)) (b1 : w'.cell? ⟨b, i * 3 + 1, none⟩ = some (.int .i64 bb)) (b2 : w'.cell? ⟨b, i * 3 + 2, none⟩ = some vq1) (b12 : w'.cell? ⟨b, 12, none⟩ = some vt2) (b13 : w'.cell? ⟨b, 13, none⟩ = some vh) (b14 : w'.cell? ⟨b, 14, none⟩ = some (.bool false)) (fz : ∀ j, w'.frozen? ⟨b, j, none⟩ = false) (c : Chg (fun k => k = b) w w') :
    RefAt w' lo b (updF E i te) (updF B i bb) (updF V2 i vq1) vt2 vh (updF Q i q1) T1 Hs false ∧ (∀ k, ((∃ j, j < 4 ∧ (updF V2 i vq1 j).ownBlock = some k) ∨ vt2.ownBlock = some k) → w.heap.size ≤ k) := by
  have hbl : b < w.heap.size := World.block_lt_of_cell? _ _ h.tk
  have hlow := h.low
  have hvh : ∀ g, vh.ownBlock = some g → g < w.heap.size := fun g hg => (h.held.lt g hg).2
  have hVl : ∀ j, j < 4 → ∀ g, (updF V2 i vq1 j).ownBlock = some g → l0 ≤ g := fun j hj g hg => by
    by_cases e : j = i
    · subst e; rw [updF_same] at hg; exact (hA.row.lt g hg).1
    · rw [updF_ne _ _ e] at hg; exact ((hA.rows j hj e).lt g hg).1
  have htl : ∀ g, vt2.ownBlock = some g → l0 ≤ g := fun g hg => (hA.taken.lt g hg).1
  refine ⟨⟨fun j hj => ?_, fun j hj => ?_, fun j hj => ?_, b12, b13, b14, fz, fun j hj => ?_, row_lower hA.taken (by omega), c.row' h.held (fun k hk e => h.ownh (by rw [← e]; exact hk)), fun j hj e => ?_, fun e => ?_, h.ownh, fun j k hj hk hne g hg => ?_, fun j hj g hg => ?_, fun j hj g hg e => ?_, fun g hg e => ?_, Nat.le_trans hlow c.size⟩, fun k hk => ?_⟩
  · by_cases e : j = i
    · subst e; rw [updF_same]; exact b0
    · rw [updF_ne _ _ e, ← (hEB j e).1]; exact (hB j hj e).1
  · by_cases e : j = i
    · subst e; rw [updF_same]; exact b1
    · rw [updF_ne _ _ e, ← (hEB j e).2]; exact (hB j hj e).2.1
  · by_cases e : j = i
    · subst e; rw [updF_same]; exact b2
    · rw [updF_ne _ _ e]; exact (hB j hj e).2.2
  · by_cases e : j = i
    · subst e; rw [updF_same, updF_same]; exact row_lower hA.row (by omega)
    · rw [updF_ne _ _ e, updF_ne _ _ e]; exact row_lower (hA.rows j hj e) (by omega)
  · have := hVl j hj b e; omega
  · have := htl b e; omega
  · by_cases e : j = i
    · subst e
      rw [updF_same] at hg
      rw [updF_ne _ _ (fun e => hne e.symm)]
      exact fun e2 => (hA.vq k hk (fun e => hne e.symm) g e2).1 hg
    · rw [updF_ne _ _ e] at hg
      by_cases e2 : k = i
      · subst e2
        rw [updF_same]
        exact (hA.vq j hj e g hg).1
      · rw [updF_ne _ _ e2]
        exact hA.vv j k hj hk e e2 hne g hg
  · by_cases e : j = i
    · subst e; rw [updF_same] at hg; exact hA.qt g hg
    · rw [updF_ne _ _ e] at hg; exact (hA.vq j hj e g hg).2
  · have := hVl j hj g hg
    have := hvh g e
    omega
  · have := htl g hg
    have := hvh g e
    omega
  · rcases hk with ⟨j, hj, hk⟩ | hk
    · have := hVl j hj k hk; omega
    · have := htl k hk; omega
set_option maxRecDepth 100000 in
set_option maxHeartbeats 8000000 in
theorem racc_main {w : World} {lo b : Nat} {E B : Nat → Int} {V : Nat → Value} {vt vh : Value} {Q : Nat → List Rec} {T : List Rec} {Hs : List Hd} (h : RefAt w lo b E B V vt vh Q T Hs false) (x : Rec) (hx : x.fits) (i : Nat) (hi4 : i < 4) (hxi : x.session = i) (hok : okKey x.key = true) (hv : 0 ≤ x.value ∧ x.value ≤ 4294967295) (hep : ¬ x.epoch < E i)
    (hT : T.length ≤ 1000) (hH : Hs.length ≤ 1000000000) (hq : ∀ j, j < 4 → (Q j).length ≤ 3) (hB : ∀ j, j < 4 → 0 ≤ B j ∧ B j ≤ 1000) :
    Calls Tryz.prog 46 #[.pointer (some ⟨b, 0, none⟩), x.value'] w fun e w' => e = .returned (.tuple #[.int .i64 (accR2 E B Q T i x).1.1, .int .i64 (accR2 E B Q T i x).1.2]) ∧ RaccPost w w' lo b i E B vh Q Hs (accR2 E B Q T i x).2 := by
  obtain ⟨i0, hi0, hz0, hz1, hz2⟩ := info_parts Tryz.infoR
  obtain ⟨W0, hW0⟩ : ∃ W0, W0 = w.alloc (Obj.cells #[.int .i64 i, .int .i64 x.epoch, .int .i64 x.number, .string x.key, .int .i64 x.value] 53) := ⟨_, rfl⟩
  have c0 : Chg (fun _ => False) w W0 := by rw [hW0]; exact (Chg.refl _ w).alloc _
  have hs0 : W0.heap.size = w.heap.size + 1 := by rw [hW0]; simp
  have x0 : W0.cell? ⟨w.heap.size, 0, none⟩ = some (.int .i64 i) := by rw [hW0]; exact World.cell?_alloc_at _ _ _ _ rfl
  have x1 : W0.cell? ⟨w.heap.size, 1, none⟩ = some (.int .i64 x.epoch) := by rw [hW0]; exact World.cell?_alloc_at _ _ _ _ rfl
  have x2 : W0.cell? ⟨w.heap.size, 2, none⟩ = some (.int .i64 x.number) := by rw [hW0]; exact World.cell?_alloc_at _ _ _ _ rfl
  have x3 : W0.cell? ⟨w.heap.size, 3, none⟩ = some (.string x.key) := by rw [hW0]; exact World.cell?_alloc_at _ _ _ _ rfl
  have x4 : W0.cell? ⟨w.heap.size, 4, none⟩ = some (.int .i64 x.value) := by rw [hW0]; exact World.cell?_alloc_at _ _ _ _ rfl
  obtain ⟨l0, hl0⟩ : ∃ l0, l0 = W0.heap.size := ⟨_, rfl⟩
  have HL0 : Hid (l0 = w.heap.size + 1) := hl0.trans hs0
  have HLW : Hid (l0 = W0.heap.size) := hl0
  have hcl := c0.cellAt h.cl id
  have xe := c0.cellAt (h.ep i hi4) id
  have hik := risKey_any x.key W0 hx.key
  rw [hok] at hik
  have hcp : ∀ n, Calls Tryz.prog 57 #[.pointer (some ⟨b, 0, none⟩)] (W0.drewN n) fun e w' => ∃ V' vt' vh', e = .returned (.pointer (some ⟨l0, 0, none⟩)) ∧ RefAt w' l0 l0 E B V' vt' vh' Q T Hs false ∧ Chg (fun _ => False) W0 w' := fun n => by
    refine (copy_any (h.keep (c0.trans (((Quiet.refl W0).drewN n).chg _) (fun _ _ h => h))) hT hH (fun j hj => by have := hq j hj; omega)).mono ?_
    rintro e w' ⟨V', vt', vh', h1, h2, h3⟩
    have e0 : (W0.drewN n).heap.size = l0 := HLW.out.symm
    rw [e0] at h1 h2
    exact ⟨V', vt', vh', h1, h2, (((Quiet.refl W0).drewN n).chg _).trans h3 (fun _ _ h => h)⟩
  obtain ⟨f1, f2, f3, f4, f5⟩ := hx
  unfold inInt at f1 f2 f3 f4
  have hi4' : (i : Int) < 4 := by omega
  have hv0 : ¬ x.value < 0 := by omega
  have hv1 : ¬ 4294967295 < x.value := by omega
  have HXV : Hid (x.value' = .agg #[.int .i64 i, .int .i64 x.epoch, .int .i64 x.number, .string x.key, .int .i64 x.value]) := by show _ = _; unfold Rec.value'; rw [hxi]
  have hbl : b < w.heap.size := World.block_lt_of_cell? _ _ h.tk
  rw [HXV.out]
  go_enter Tryz.func46, Tryz.ntmps46
  go_wp2_with fail
  rw [← hW0]
  refine hik.mono ?_
  rintro _ w1 ⟨rfl, ew⟩
  rw [ew]
  clear ew w1 hW0 hik hs0 hl0
  go_wp2_with fail
  go_quiet (fail)
  go_wp2_with fail
  refine (hcp _).mono ?_
  rintro _ w1 ⟨V1, vt1, vh1, rfl, hR1, c1⟩
  clear hcp hcl xe
  have y0 := c1.cellAt x0 id
  have z0 := hR1.ep i hi4
  have z1 := hR1.ba i hi4
  have z2 := hR1.qu i hi4
  obtain ⟨pq, cq, hpq⟩ := row_any (hR1.rows i hi4)
  rw [hpq] at z2
  have HPQ : Hid (V1 i = .slice pq (Q i).length cq) := hpq
  have ya0 : ∀ ob, (w1.alloc ob).cell? ⟨w.heap.size, 0, none⟩ = some (.int .i64 i) := fun ob => (World.cell?_alloc_lt w1 ob _ (World.block_lt_of_cell? _ _ y0)).trans y0
  have za0 : ∀ ob, (w1.alloc ob).cell? ⟨l0, i * 3, none⟩ = some (.int .i64 (E i)) := fun ob => (World.cell?_alloc_lt w1 ob _ (World.block_lt_of_cell? _ _ z0)).trans z0
  have za1 : ∀ ob, (w1.alloc ob).cell? ⟨l0, i * 3 + 1, none⟩ = some (.int .i64 (B i)) := fun ob => (World.cell?_alloc_lt w1 ob _ (World.block_lt_of_cell? _ _ z1)).trans z1
  have za2 : ∀ ob, (w1.alloc ob).cell? ⟨l0, i * 3 + 2, none⟩ = some (.slice pq (Q i).length cq) := fun ob => (World.cell?_alloc_lt w1 ob _ (World.block_lt_of_cell? _ _ z2)).trans z2
  clear hpq
  go_upto_region 11 with fail
  go_region
  obtain ⟨W2, hW2⟩ : ∃ W2, W2 = (w1.alloc (Obj.cells #[.int .i64 (E i), .int .i64 (B i), .slice pq (Q i).length cq] 133)).drew := ⟨_, rfl⟩
  rw [← hW2]
  have c2 : Chg (fun _ => False) w1 W2 := by rw [hW2]; exact ((Chg.refl _ w1).alloc _).drew
  have hA0 : AccAt W2 l0 l0 w1.heap.size i E B V1 Q (E i) (B i) (V1 i) vt1 (Q i) T := by
    refine AccAt.first hR1 hi4 (Nat.le_refl _) c2 (Nat.le_refl _) ?_ ?_ ?_ (fun j => ?_)
    · rw [hW2, World.cell?_drew]; exact World.cell?_alloc_at _ _ _ _ rfl
    · rw [hW2, World.cell?_drew]; exact World.cell?_alloc_at _ _ _ _ rfl
    · rw [hW2, World.cell?_drew, HPQ.out]; exact World.cell?_alloc_at _ _ _ _ rfl
    · rw [hW2]; exact World.frozen?_alloc_at _ _ _ _ rfl
  obtain ⟨sb, hsb⟩ : ∃ sb, sb = w1.heap.size := ⟨_, rfl⟩
  rw [← hsb] at hA0 ⊢
  have cX0 : Chg (fun k => l0 ≤ k) W0 W2 := (c1.trans c2 (fun _ _ h => h)).mono (fun _ h => h.elim)
  clear hW2 c2 c1 y0 z0 z1 z2 ya0 za0 za1 za2 hsb hR1
  have hlw : w.heap.size < l0 := by have := HL0.out; omega
  have y1 := cX0.cellAt x1 (by omega)
  have t0 := hA0.s0
  go_upto_if 67 with fail
  obtain ⟨te, hte⟩ : ∃ te, te = teR E i x := ⟨_, rfl⟩
  obtain ⟨tb, htb⟩ : ∃ tb, tb = tbR E B i x := ⟨_, rfl⟩
  obtain ⟨tq, htq⟩ : ∃ tq, tq = tqR E Q i x := ⟨_, rfl⟩
  have HTE : Hid (te = teR E i x) := hte
  have HTB : Hid (tb = tbR E B i x) := htb
  have HTQ : Hid (tq = tqR E Q i x) := htq
  have htbr : 0 ≤ tb ∧ tb ≤ 1000 := by rw [htb]; unfold tbR; have := hB i hi4; split <;> omega
  have htql : tq.length ≤ 3 := by rw [htq]; unfold tqR; have := hq i hi4; split <;> simp <;> omega
  clear hte htb htq
  go_cut [] from 67 to 77 (fun wc => ∃ (E1 B1 : Nat → Int) (V2 : Nat → Value) (vq : Value), AccAt wc l0 l0 sb i E1 B1 V2 Q te tb vq vt1 tq T ∧ V2 i = vq ∧ (∀ j, j ≠ i → E1 j = E j ∧ B1 j = B j) ∧ Chg (fun k => l0 ≤ k) W0 wc)
  case first =>
    by_cases hlt : E i < x.epoch
    · have e1 : te = x.epoch := by rw [HTE.out]; unfold teR; rw [if_pos hlt]
      have e2 : tb = 0 := by rw [HTB.out]; unfold tbR; rw [if_pos hlt]
      have e3 : tq = [] := by rw [HTQ.out]; unfold tqR; rw [if_pos hlt]
      have HE : Hid (te = x.epoch ∧ tb = 0 ∧ tq = []) := ⟨e1, e2, e3⟩
      clear e1 e2 e3
      have t1 := hA0.s1
      have t2 := hA0.s2
      rw [HPQ.out] at t2
      have g0 := hA0.fzs 0
      have g1 := hA0.fzs 1
      have g2 := hA0.fzs 2
      have y0 := cX0.cellAt x0 (by omega)
      have hcs := hA0.cs
      have hcs' : ¬ sb = l0 := fun e => hcs e.symm
      have hsl := hA0.sl
      have nsw : ¬ sb = w.heap.size := by omega
      have nws : ¬ w.heap.size = sb := by omega
      have nlw : ¬ l0 = w.heap.size := by omega
      have d0 := hA0.ep i hi4
      have d1 := hA0.ba i hi4
      have d2 := hA0.qu i hi4
      have k0 := hA0.fzc (i * 3)
      have k1 := hA0.fzc (i * 3 + 1)
      have k2 := hA0.fzc (i * 3 + 2)
      go_wp2_with fail
      go_region
      go_wp2_with fail
      go_meet
      case rel =>
        obtain ⟨hA1, cA1⟩ := hA0.turn hi4 x.epoch rfl rfl
        refine ⟨updF E i x.epoch, updF B i 0, updF V1 i (.slice none 0 0), .slice none 0 0, ?_, updF_same _ _ _, fun j hj => ⟨updF_ne _ _ hj, updF_ne _ _ hj⟩, ?_⟩
        · obtain ⟨e1, e2, e3⟩ := HE.out
          rw [e1, e2, e3]
          exact hA1.keep (((Quiet.refl _).drew).chg _)
        · exact (cX0.trans cA1 (fun _ _ h => h)).trans (((Quiet.refl _).drew).chg (fun _ => False)) (fun _ _ h => h.elim)
    · have e1 : te = E i := by rw [HTE.out]; unfold teR; rw [if_neg hlt]
      have e2 : tb = B i := by rw [HTB.out]; unfold tbR; rw [if_neg hlt]
      have e3 : tq = Q i := by rw [HTQ.out]; unfold tqR; rw [if_neg hlt]
      have HE : Hid (te = E i ∧ tb = B i ∧ tq = Q i) := ⟨e1, e2, e3⟩
      clear e1 e2 e3
      go_wp2_with fail
      go_meet
      case rel =>
        obtain ⟨e1, e2, e3⟩ := HE.out
        exact ⟨E, B, V1, V1 i, by rw [e1, e2, e3]; exact hA0, rfl, fun j _ => ⟨rfl, rfl⟩, cX0⟩
  case rest =>
    clear hA0 cX0 y1 t0 HPQ
    obtain ⟨E1, B1, V2, vq, hA, hVi, hEB, cX⟩ := hcut
    have HVI : Hid (V2 i = vq) := hVi
    have HVS : Hid (∀ j, j < 4 → ∃ p n k, V2 j = .slice p n k) := fun j hj => by
      by_cases e : j = i
      · subst e
        obtain ⟨p, k, e2⟩ := row_any hA.row
        exact ⟨p, _, k, hVi.trans e2⟩
      · obtain ⟨p, k, e2⟩ := row_any (hA.rows j hj e)
        exact ⟨p, _, k, e2⟩
    have HR : Hid (accR2 E B Q T i x = if x.number < 0 ∨ tb + 4 ≤ x.number then ((0, 5), none) else if x.number < tb ∨ 0 ≤ idxR x.number tq 0 then ((tb, 0), none) else if fullR T (updF Q i tq) x.key ≠ 0 then ((0, fullR T (updF Q i tq) x.key), none) else (((drainR (tq.length + 2) tb (tq ++ [x]) T).1, 0), some (te, drainR (tq.length + 2) tb (tq ++ [x]) T))) := by
      show _ = _
      rw [HTE.out, HTB.out, HTQ.out]
      rfl
    have hlw' : w.heap.size ≤ l0 := by omega
    clear hVi HTE HTB HTQ
    have y2 := cX.cellAt x2 (by omega)
    have s1 := hA.s1
    by_cases hn0 : x.number < 0
    · have HR' : Hid (accR2 E B Q T i x = ((0, 5), none)) := by show _ = _; rw [HR.out, if_pos (.inl hn0)]
      clear HR
      go_wp2_with fail
      go_ret2
      exact ⟨by rw [HR'.out]; rfl, by rw [HR'.out]; exact c0.low cX hlw'⟩
    · by_cases hn4 : tb + 4 ≤ x.number
      · have HR' : Hid (accR2 E B Q T i x = ((0, 5), none)) := by show _ = _; rw [HR.out, if_pos (.inr hn4)]
        clear HR
        go_wp2_with fail
        go_ret2
        exact ⟨by rw [HR'.out]; rfl, by rw [HR'.out]; exact c0.low cX hlw'⟩
      · have hwt := waits_any x.number (o := 0) hA.s2 hA.row (by omega)
        have HR1 : Hid (accR2 E B Q T i x = if x.number < tb ∨ 0 ≤ idxR x.number tq 0 then ((tb, 0), none) else if fullR T (updF Q i tq) x.key ≠ 0 then ((0, fullR T (updF Q i tq) x.key), none) else (((drainR (tq.length + 2) tb (tq ++ [x]) T).1, 0), some (te, drainR (tq.length + 2) tb (tq ++ [x]) T))) := by
          show _ = _
          rw [HR.out, if_neg (fun e => e.elim hn0 hn4)]
        have hidx := idxR_lt x.number tq 0
        obtain ⟨ix, hix⟩ : ∃ ix, ix = idxR x.number tq 0 := ⟨_, rfl⟩
        rw [← hix] at hwt hidx HR1
        have hixr : -1 ≤ ix ∧ ix ≤ 10 := by
          rcases hidx with e | ⟨j, e1, e2⟩ <;> omega
        clear HR hix hidx
        go_wp2_with fail
        refine hwt.mono ?_
        rintro _ w3 ⟨rfl, ew⟩
        rw [ew]
        clear ew w3 hwt
        by_cases hold : x.number < tb ∨ 0 ≤ ix
        · have HR' : Hid (accR2 E B Q T i x = ((tb, 0), none)) := by show _ = _; rw [HR1.out, if_pos hold]
          clear HR1
          by_cases ho : x.number < tb
          · clear hold
            go_wp2_with fail
            go_ret2
            exact ⟨by rw [HR'.out]; rfl, by rw [HR'.out]; exact c0.low cX hlw'⟩
          · have ho2 : 0 ≤ ix := hold.resolve_left ho
            clear hold
            go_wp2_with fail
            go_ret2
            exact ⟨by rw [HR'.out]; rfl, by rw [HR'.out]; exact c0.low cX hlw'⟩
        · have ho1 : ¬ x.number < tb := fun e => hold (.inl e)
          have ho2 : ¬ 0 ≤ ix := fun e => hold (.inr e)
          have HR2 : Hid (accR2 E B Q T i x = if fullR T (updF Q i tq) x.key ≠ 0 then ((0, fullR T (updF Q i tq) x.key), none) else (((drainR (tq.length + 2) tb (tq ++ [x]) T).1, 0), some (te, drainR (tq.length + 2) tb (tq ++ [x]) T))) := by
            show _ = _
            rw [HR1.out, if_neg hold]
          clear HR1 hold
          have y0 := cX.cellAt x0 (by omega)
          have y1 := cX.cellAt x1 (by omega)
          have y3 := cX.cellAt x3 (by omega)
          have y4 := cX.cellAt x4 (by omega)
          have hfl := rfull_any (Q := updF Q i tq) x hA.tk hA.taken hT hA.qu (fun j hj => by
            by_cases e : j = i
            · subst e; rw [updF_same, HVI.out]; exact hA.row
            · rw [updF_ne _ _ e]; exact hA.rows j hj e) (fun j hj => by
            by_cases e : j = i
            · subst e; rw [updF_same]; omega
            · rw [updF_ne _ _ e]; have := hq j hj; omega)
          rw [HXV.out] at hfl
          obtain ⟨fr, hfr⟩ : ∃ fr, fr = fullR T (updF Q i tq) x.key := ⟨_, rfl⟩
          rw [← hfr] at hfl HR2
          clear hfr
          go_wp2_with fail
          refine hfl.mono ?_
          rintro _ w4 ⟨rfl, c4⟩
          clear hfl
          have hA4 := hA.keep c4
          have cX4 : Chg (fun k => l0 ≤ k) W0 w4 := cX.trans c4 (fun _ _ h => h.elim)
          by_cases hf0 : fr = 0
          · have HR3 : Hid (accR2 E B Q T i x = (((drainR (tq.length + 2) tb (tq ++ [x]) T).1, 0), some (te, drainR (tq.length + 2) tb (tq ++ [x]) T))) := by show _ = _; rw [HR2.out, if_neg (by simpa using hf0)]
            rw [hf0]
            clear HR2 hf0 hA cX y0 y1 y2 y3 y4 s1
            have y0 := cX4.cellAt x0 (by omega)
            have y1 := cX4.cellAt x1 (by omega)
            have y2 := cX4.cellAt x2 (by omega)
            have y3 := cX4.cellAt x3 (by omega)
            have y4 := cX4.cellAt x4 (by omega)
            have HXC : Hid (x.cells = [.int .i64 i, .int .i64 x.epoch, .int .i64 x.number, .string x.key, .int .i64 x.value]) := by show _ = _; unfold Rec.cells; rw [hxi]
            obtain ⟨v5, w5, hrun, o5, g5, e5⟩ := run_append_where (P := Tryz.prog) (w4.alloc (Obj.cells #[.int .i64 i, .int .i64 x.epoch, .int .i64 x.number, .string x.key, .int .i64 x.value] 53)) l0 131 131 53 i0 _ 5 48 Tryz.underlying131 hi0 hz0 hz1 hz2 rfl (by decide) _ tq.length _ (hA4.row.alloc _) ⟨w4.heap.size, 0, none⟩ 1 1 x.cells rfl (fun j y hj => by rw [add_lit', Nat.zero_add]; rw [HXC.out] at hj; rcases j with _ | _ | _ | _ | _ | j <;> simp at hj <;> subst hj <;> exact World.cell?_alloc_at _ _ _ _ rfl) (fun y hy => by rw [HXC.out] at hy; simp at hy; rcases hy with rfl | rfl | rfl | rfl | rfl <;> rfl) (by unfold maxLen; omega) (by omega) (by have := hA4.low; simp; omega)
            have c5 : Chg (fun g => vq.ownBlock = some g) w4 w5 := ((Chg.refl (fun g => vq.ownBlock = some g) w4).alloc _).trans (G := fun g => vq.ownBlock = some g) ⟨g5.os, g5.tape, g5.output, g5.size, fun k hk hne => g5.block k hk (fun e => hne e.symm)⟩ (fun _ _ h => h)
            have hwh : Wh w4.heap.size vq v5 := e5.imp id (fun e k hk => by have := e k hk; rw [World.size_alloc] at this; omega)
            obtain ⟨q5, hq5⟩ : ∃ q5, q5 = tq ++ [x] := ⟨_, rfl⟩
            have hq5l : q5.length = tq.length + 1 := by rw [hq5]; simp
            have hq54 : 1 ≤ q5.length ∧ q5.length ≤ 4 := by omega
            have o5' : w5.ownsRow l0 53 5 v5 q5.length (recCells q5) := by
              rw [hq5, recCells_append, List.length_append]
              simpa [recCells] using o5
            have HR4 : Hid (accR2 E B Q T i x = (((drainR (q5.length + 1) tb q5 T).1, 0), some (te, drainR (q5.length + 1) tb q5 T))) := by show _ = _; rw [HR3.out, hq5l, hq5]
            clear HR3 hq5 hq5l o5
            obtain ⟨hA5, cA5⟩ := hA4.wait c5 o5' hwh
            have cX5 := cX4.trans cA5 (fun _ _ h => h)
            have u2 := c5.cellAt hA4.s2 hA4.oq.2
            have uf : w5.frozen? ⟨sb, 2, none⟩ = false := (World.frozen?_of_block (w := w4) (c5.block sb (World.block_lt_of_cell? _ _ hA4.s0) hA4.oq.2)).trans (hA4.fzs 2)
            have t2 := hA4.s2
            obtain ⟨p5, k5, rfl⟩ := row_any o5'
            have hwt := waits_any tb (o := 0) hA5.s2 hA5.row (by omega)
            have u1 : w5.cell? ⟨sb, 1, none⟩ = some (.int .i64 tb) := c5.cellAt hA4.s1 hA4.oq.2
            go_wp2_with (at_builtin; refine Lib.wpList_append_run _ rfl (.tmp 110) (.tmp 112) 131 131 rfl _ _ rfl rfl (.slice p5 q5.length k5) w5 hrun ?_)
            refine hwt.mono ?_
            rintro _ w6 ⟨rfl, ew⟩
            rw [ew]
            clear ew w6 hwt
            go_wp2_with fail
            go_loopg [9, 11] (q5.length + 1) (fun f s9 _ wr => ∃ (bb : Int) (q1 T1 : List Rec) (vq1 vt2 : Value), s9 = .int .i64 (idxR bb q1 0) ∧ AccAt wr l0 l0 sb i E1 B1 V2 Q te bb vq1 vt2 q1 T1 ∧ 0 ≤ bb ∧ bb + q1.length ≤ 1010 ∧ q1.length < f ∧ q1.length ≤ 4 ∧ T1.length + q1.length ≤ 1010 ∧ Hid (drainR (q5.length + 1) tb q5 T = drainR f bb q1 T1) ∧ Chg (fun k => l0 ≤ k) W0 wr)
            case atStart => exact ⟨tb, q5, T, _, vt1, rfl, hA5, by omega, by omega, by omega, by omega, by omega, (show _ = _ from rfl), cX5⟩
            case round =>
              clear hA5 cX5 u1 u2 uf t2 y0 y1 y2 y3 y4 hA4 cX4 hrun o5' g5 e5 c5 hwh cA5
              obtain ⟨bb, q1, T1, vq1, vt2, rfl, hA, hbb, hbq, hqf, hq4, hTq, HD, cX⟩ := hrel
              rcases idxR_lt bb q1 0 with hix | ⟨jx, hjl, hix⟩
              · have HD' : Hid (drainR (q5.length + 1) tb q5 T = (bb, q1, T1)) := by show _ = _; rw [HD.out, drainR_stop _ (by omega)]
                rw [hix]
                clear HD hix
                have HR5 : Hid (accR2 E B Q T i x = ((bb, 0), some (te, bb, q1, T1))) := by show _ = _; rw [HR4.out, HD'.out]
                clear HR4 HD'
                obtain ⟨p0, n0, k0, V0⟩ := HVS.out 0 (by omega)
                obtain ⟨p1, n1, k1, V1'⟩ := HVS.out 1 (by omega)
                obtain ⟨p2, n2, k2, V2'⟩ := HVS.out 2 (by omega)
                obtain ⟨p3, n3, k3, V3'⟩ := HVS.out 3 (by omega)
                have a0 := hA.ep 0 (by omega); have a1 := hA.ba 0 (by omega); have a2 := hA.qu 0 (by omega)
                have a3 := hA.ep 1 (by omega); have a4 := hA.ba 1 (by omega); have a5 := hA.qu 1 (by omega)
                have a6 := hA.ep 2 (by omega); have a7 := hA.ba 2 (by omega); have a8 := hA.qu 2 (by omega)
                have a9 := hA.ep 3 (by omega); have a10 := hA.ba 3 (by omega); have a11 := hA.qu 3 (by omega)
                rw [V0] at a2
                rw [V1'] at a5
                rw [V2'] at a8
                rw [V3'] at a11
                simp only [Nat.zero_mul, Nat.one_mul, Nat.zero_add, Nat.reduceMul, Nat.reduceAdd] at a0 a1 a2 a3 a4 a5 a6 a7 a8 a9 a10 a11
                have hRw : RefAt W0 lo b E B V vt vh Q T Hs false := h.keep c0
                have hbl0 : ¬ l0 ≤ b := by omega
                have e0 := cX.cellAt (hRw.ep 0 (by omega)) hbl0; have e1 := cX.cellAt (hRw.ba 0 (by omega)) hbl0; have e2 := cX.cellAt (hRw.qu 0 (by omega)) hbl0
                have e3 := cX.cellAt (hRw.ep 1 (by omega)) hbl0; have e4 := cX.cellAt (hRw.ba 1 (by omega)) hbl0; have e5 := cX.cellAt (hRw.qu 1 (by omega)) hbl0
                have e6 := cX.cellAt (hRw.ep 2 (by omega)) hbl0; have e7 := cX.cellAt (hRw.ba 2 (by omega)) hbl0; have e8 := cX.cellAt (hRw.qu 2 (by omega)) hbl0
                have e9 := cX.cellAt (hRw.ep 3 (by omega)) hbl0; have e10 := cX.cellAt (hRw.ba 3 (by omega)) hbl0; have e11 := cX.cellAt (hRw.qu 3 (by omega)) hbl0
                simp only [Nat.zero_mul, Nat.one_mul, Nat.zero_add, Nat.reduceMul, Nat.reduceAdd] at e0 e1 e2 e3 e4 e5 e6 e7 e8 e9 e10 e11
                have ff : ∀ j, wr.frozen? ⟨b, j, none⟩ = false := fun j => (World.frozen?_of_block (w := W0) (cX.block b (World.block_lt_of_cell? _ _ hRw.tk) hbl0)).trans (hRw.fz j)
                have f0 := ff 0; have f1' := ff 1; have f2' := ff 2; have f3' := ff 3; have f4' := ff 4; have f5' := ff 5; have f6 := ff 6; have f7 := ff 7; have f8 := ff 8; have f9 := ff 9; have f10 := ff 10; have f11 := ff 11
                obtain ⟨pv1, kv1, hpv⟩ := row_any hA.row
                subst hpv
                obtain ⟨pt1, kt1, hpt⟩ := row_any hA.taken
                subst hpt
                obtain ⟨W9, hW9⟩ : ∃ W9, W9 = (((((((((((wr.setCell ⟨b, 0, none⟩ (.int .i64 (E1 0))).setCell ⟨b, 1, none⟩ (.int .i64 (B1 0))).setCell ⟨b, 2, none⟩ (.slice p0 n0 k0)).setCell ⟨b, 3, none⟩ (.int .i64 (E1 1))).setCell ⟨b, 4, none⟩ (.int .i64 (B1 1))).setCell ⟨b, 5, none⟩ (.slice p1 n1 k1)).setCell ⟨b, 6, none⟩ (.int .i64 (E1 2))).setCell ⟨b, 7, none⟩ (.int .i64 (B1 2))).setCell ⟨b, 8, none⟩ (.slice p2 n2 k2)).setCell ⟨b, 9, none⟩ (.int .i64 (E1 3))).setCell ⟨b, 10, none⟩ (.int .i64 (B1 3))).setCell ⟨b, 11, none⟩ (.slice p3 n3 k3) := ⟨_, rfl⟩
                have hBb : Blk wr b 15 (fun j => if j < 12 then (if j % 3 = 0 then .int .i64 (E (j / 3)) else if j % 3 = 1 then .int .i64 (B (j / 3)) else V (j / 3)) else if j = 12 then vt else if j = 13 then vh else .bool false) := by
                  refine ⟨fun j hj => ?_, ff⟩
                  by_cases h12 : j < 12
                  · rcases (by omega : j % 3 = 0 ∨ j % 3 = 1 ∨ j % 3 = 2) with h3 | h3 | h3
                    · simp only [h12, h3, if_true]
                      have := cX.cellAt (hRw.ep (j / 3) (by omega)) hbl0
                      rw [show j / 3 * 3 = j by omega] at this
                      exact this
                    · simp only [h12, h3, if_true]
                      have := cX.cellAt (hRw.ba (j / 3) (by omega)) hbl0
                      rw [show j / 3 * 3 + 1 = j by omega] at this
                      simpa using this
                    · simp only [h12, h3, if_true]
                      have := cX.cellAt (hRw.qu (j / 3) (by omega)) hbl0
                      rw [show j / 3 * 3 + 2 = j by omega] at this
                      simpa using this
                  · rcases (by omega : j = 12 ∨ j = 13 ∨ j = 14) with rfl | rfl | rfl
                    · simpa using cX.cellAt hRw.tk hbl0
                    · simpa using cX.cellAt hRw.hd hbl0
                    · simpa using cX.cellAt hRw.cl hbl0
                have hB9 := (((((((((((hBb.set 0 (.int .i64 (E1 0))).set 1 (.int .i64 (B1 0))).set 2 (.slice p0 n0 k0)).set 3 (.int .i64 (E1 1))).set 4 (.int .i64 (B1 1))).set 5 (.slice p1 n1 k1)).set 6 (.int .i64 (E1 2))).set 7 (.int .i64 (B1 2))).set 8 (.slice p2 n2 k2)).set 9 (.int .i64 (E1 3))).set 10 (.int .i64 (B1 3))).set 11 (.slice p3 n3 k3)
                rw [← hW9] at hB9
                have q9 : ∀ j, j < 4 → W9.cell? ⟨b, j * 3, none⟩ = some (.int .i64 (E1 j)) ∧ W9.cell? ⟨b, j * 3 + 1, none⟩ = some (.int .i64 (B1 j)) ∧ W9.cell? ⟨b, j * 3 + 2, none⟩ = some (V2 j) := fun j hj => by
                  rcases (by omega : j = 0 ∨ j = 1 ∨ j = 2 ∨ j = 3) with rfl | rfl | rfl | rfl
                  · rw [V0]; exact ⟨hB9.cell 0 (by omega), hB9.cell 1 (by omega), hB9.cell 2 (by omega)⟩
                  · rw [V1']; exact ⟨hB9.cell 3 (by omega), hB9.cell 4 (by omega), hB9.cell 5 (by omega)⟩
                  · rw [V2']; exact ⟨hB9.cell 6 (by omega), hB9.cell 7 (by omega), hB9.cell 8 (by omega)⟩
                  · rw [V3']; exact ⟨hB9.cell 9 (by omega), hB9.cell 10 (by omega), hB9.cell 11 (by omega)⟩
                have q12 : W9.cell? ⟨b, 12, none⟩ = some vt := hB9.cell 12 (by omega)
                have q13 : W9.cell? ⟨b, 13, none⟩ = some vh := hB9.cell 13 (by omega)
                have q14 : W9.cell? ⟨b, 14, none⟩ = some (.bool false) := hB9.cell 14 (by omega)
                have fz9 := hB9.fz
                have c9 : Chg (fun k => k = b) wr W9 := by
                  rw [hW9]
                  exact ((((((((((((Chg.refl (fun k => k = b) wr).setCell (p := ⟨b, 0, none⟩) (fun _ => rfl) _).setCell (p := ⟨b, 1, none⟩) (fun _ => rfl) _).setCell (p := ⟨b, 2, none⟩) (fun _ => rfl) _).setCell (p := ⟨b, 3, none⟩) (fun _ => rfl) _).setCell (p := ⟨b, 4, none⟩) (fun _ => rfl) _).setCell (p := ⟨b, 5, none⟩) (fun _ => rfl) _).setCell (p := ⟨b, 6, none⟩) (fun _ => rfl) _).setCell (p := ⟨b, 7, none⟩) (fun _ => rfl) _).setCell (p := ⟨b, 8, none⟩) (fun _ => rfl) _).setCell (p := ⟨b, 9, none⟩) (fun _ => rfl) _).setCell (p := ⟨b, 10, none⟩) (fun _ => rfl) _).setCell (p := ⟨b, 11, none⟩) (fun _ => rfl) _
                have hA9 := hA.other c9 (fun k hk => by omega)
                have y0 := c9.cellAt (cX.cellAt x0 (by omega)) (by omega)
                have s0 := hA9.s0
                have s1 := hA9.s1
                have s2 := hA9.s2
                have tk := hA9.tk
                obtain ⟨r0, r1, r2⟩ := q9 i hi4
                have g0 := fz9 (i * 3)
                have g1 := fz9 (i * 3 + 1)
                have g2 := fz9 (i * 3 + 2)
                have g12 := fz9 12
                have hsl := hA9.sl
                have n1' : ¬ sb = b := by omega
                have n2' : ¬ b = sb := by omega
                have n3' : ¬ l0 = b := by omega
                have n4' : ¬ b = l0 := by omega
                have n5' : ¬ i * 3 = 12 := by omega
                have n6' : ¬ i * 3 + 1 = 12 := by omega
                have n7' : ¬ i * 3 + 2 = 12 := by omega
                go_wp2_with fail
                rw [← hW9]
                clear hW9 hBb hB9 a0 a1 a2 a3 a4 a5 a6 a7 a8 a9 a10 a11 e0 e1 e2 e3 e4 e5 e6 e7 e8 e9 e10 e11 f0 f1' f2' f3' f4' f5' f6 f7 f8 f9 f10 f11 ff V0 V1' V2' V3'
                go_region
                go_wp2_with fail
                go_ret2
                obtain ⟨WF, hWF⟩ : ∃ WF, WF = ((((W9.setCell ⟨b, i * 3, none⟩ (.int .i64 te)).setCell ⟨b, i * 3 + 1, none⟩ (.int .i64 bb)).setCell ⟨b, i * 3 + 2, none⟩ (.slice pv1 q1.length kv1)).setCell ⟨b, 12, none⟩ (.slice pt1 T1.length kt1)).drew := ⟨_, rfl⟩
                rw [← hWF]
                have cF : Chg (fun k => k = b) W9 WF := by rw [hWF]; exact (((((Chg.refl (fun k => k = b) W9).setCell (p := ⟨b, i * 3, none⟩) (fun _ => rfl) _).setCell (p := ⟨b, i * 3 + 1, none⟩) (fun _ => rfl) _).setCell (p := ⟨b, i * 3 + 2, none⟩) (fun _ => rfl) _).setCell (p := ⟨b, 12, none⟩) (fun _ => rfl) _).drew
                have oth : ∀ o v, o ≠ i * 3 → o ≠ i * 3 + 1 → o ≠ i * 3 + 2 → o ≠ 12 → W9.cell? ⟨b, o, none⟩ = some v → WF.cell? ⟨b, o, none⟩ = some v := fun o v o1 o2 o3 o4 ho => by
                  rw [hWF, World.cell?_drew]
                  exact (World.cell?_setCell_other _ _ _ _ (by simp [o4])).trans ((World.cell?_setCell_other _ _ _ _ (by simp [o3])).trans ((World.cell?_setCell_other _ _ _ _ (by simp [o2])).trans ((World.cell?_setCell_other _ _ _ _ (by simp [o1])).trans ho)))
                have cw : Chg (fun k => k = b) w WF := (((c0.low cX hlw').mono (fun _ h => h.elim)).trans c9 (fun _ _ h => h)).trans cF (fun _ _ h => h)
                have hd := RefAt.done (W := W9) h hi4 hlw (hA9.other cF (fun k hk => by omega)) hEB (fun j hj hne => by
                  obtain ⟨j0, j1, j2⟩ := q9 j hj
                  exact ⟨oth _ _ (by omega) (by omega) (by omega) (by omega) j0, oth _ _ (by omega) (by omega) (by omega) (by omega) j1, oth _ _ (by omega) (by omega) (by omega) (by omega) j2⟩) (by
                  rw [hWF, World.cell?_drew]
                  exact (World.cell?_setCell_other _ _ _ _ (by simp <;> omega)).trans ((World.cell?_setCell_other _ _ _ _ (by simp)).trans ((World.cell?_setCell_other _ _ _ _ (by simp)).trans (World.cell?_setCell_same _ _ _ r0)))) (by
                  rw [hWF, World.cell?_drew]
                  exact (World.cell?_setCell_other _ _ _ _ (by simp <;> omega)).trans ((World.cell?_setCell_other _ _ _ _ (by simp)).trans (World.cell?_setCell_same _ _ _ ((World.cell?_setCell_other _ _ _ _ (by simp)).trans r1)))) (by
                  rw [hWF, World.cell?_drew]
                  exact (World.cell?_setCell_other _ _ _ _ (by simp <;> omega)).trans (World.cell?_setCell_same _ _ _ ((World.cell?_setCell_other _ _ _ _ (by simp)).trans ((World.cell?_setCell_other _ _ _ _ (by simp)).trans r2)))) (by
                  rw [hWF, World.cell?_drew]
                  exact World.cell?_setCell_same _ _ _ ((World.cell?_setCell_other _ _ _ _ (by simp <;> omega)).trans ((World.cell?_setCell_other _ _ _ _ (by simp <;> omega)).trans ((World.cell?_setCell_other _ _ _ _ (by simp <;> omega)).trans q12)))) (oth _ _ (by omega) (by omega) (by omega) (by omega) q13) (oth _ _ (by omega) (by omega) (by omega) (by omega) q14) (fun j => by rw [hWF]; simpa using fz9 j) cw
                refine ⟨by rw [HR5.out]; rfl, ?_⟩
                rw [HR5.out]
                exact ⟨_, _, hd.1, hd.2, cw⟩
              · rw [Nat.zero_add] at hix
                obtain ⟨y, hy⟩ : ∃ y, q1[jx]? = some y := ⟨_, List.getElem?_eq_getElem hjl⟩
                obtain ⟨g', rfl⟩ : ∃ g', gk = g' + 1 := ⟨gk - 1, by omega⟩
                have HD' : Hid (drainR (q5.length + 1) tb q5 T = drainR g' (bb + 1) (q1.take jx ++ q1.drop (jx + 1)) (T1 ++ [y])) := by show _ = _; rw [HD.out, drainR_step _ hix hy]
                rw [hix]
                clear HD hix
                have hjl' : (jx : Int) < (q1.length : Int) := by omega
                obtain ⟨gq, cq1, hvq, _, hcapq, hcell⟩ := row_pos hA.row (by omega)
                subst hvq
                have cx := recCells_at q1 jx y hy
                have m0 := hcell _ _ cx.1
                have m1 := hcell _ _ cx.2.1
                have m2 := hcell _ _ cx.2.2.1
                have m3 := hcell _ _ cx.2.2.2.1
                have m4 := hcell _ _ cx.2.2.2.2
                have s2 := hA.s2
                have tk := hA.tk
                obtain ⟨pt2, ct2, hpt⟩ := row_any hA.taken
                subst hpt
                clear hcell cx
                go_wp2_with fail
                go_cut [] from 123 to 136 (fun wd => ∃ vt3, AccAt wd l0 l0 sb i E1 B1 V2 Q te bb (.slice (some ⟨gq, 0, none⟩) q1.length cq1) vt3 q1 (T1 ++ [y]) ∧ Chg (fun k => l0 ≤ k) W0 wd)
                case first =>
                  have hcb := World.block_lt_of_cell? _ _ hA.tk
                  have s1 : Hid (∀ j u, y.cells[j]? = some u → ((wr.alloc (.cells #[.int .i64 y.session, .int .i64 y.epoch, .int .i64 y.number, .string y.key, .int .i64 y.value] 53)).drew).cell? ((⟨wr.heap.size, 0, none⟩ : Addr).add j) = some u) := by
                    intro j u hj
                    match j, hj with
                    | 0, hj => simp [Rec.cells] at hj; subst hj; simp [Addr.add]
                    | 1, hj => simp [Rec.cells] at hj; subst hj; simp [Addr.add]
                    | 2, hj => simp [Rec.cells] at hj; subst hj; simp [Addr.add]
                    | 3, hj => simp [Rec.cells] at hj; subst hj; simp [Addr.add]
                    | 4, hj => simp [Rec.cells] at hj; subst hj; simp [Addr.add]
                    | k + 5, hj => simp [Rec.cells] at hj
                  have s3 : Hid (∀ u ∈ y.cells, u.oneCell' = true) := by
                    intro u hu
                    simp [Rec.cells] at hu
                    rcases hu with rfl | rfl | rfl | rfl | rfl <;> rfl
                  have s4 : Hid (T1.length + 1 ≤ maxLen) := by show _ ≤ maxLen; unfold maxLen; omega
                  have s5 : Hid ((T1.length + 1) * 48 ≤ 140737488355328) := by show _ ≤ _; omega
                  have s7 : Hid (l0 ≤ ((wr.alloc (.cells #[.int .i64 y.session, .int .i64 y.epoch, .int .i64 y.number, .string y.key, .int .i64 y.value] 53)).drew).heap.size) := by show l0 ≤ (wr.alloc _).heap.size; rw [World.size_alloc]; have := hA.low; omega
                  have s6 : Hid (∀ (v' : Value) (w1 : World), w1.ownsRow l0 53 5 v' (T1.length + 1) (recCells T1 ++ y.cells) → (wr.alloc (.cells #[.int .i64 y.session, .int .i64 y.epoch, .int .i64 y.number, .string y.key, .int .i64 y.value] 53)).drew.grownBy w1 (Value.slice pt2 T1.length ct2).ownBlock → (v'.ownBlock = (Value.slice pt2 T1.length ct2).ownBlock ∨ ∀ k, v'.ownBlock = some k → (wr.alloc (.cells #[.int .i64 y.session, .int .i64 y.epoch, .int .i64 y.number, .string y.key, .int .i64 y.value] 53)).drew.heap.size ≤ k) → w1.cell? ⟨l0, 12, none⟩ = some (.slice pt2 T1.length ct2) ∧ w1.frozen? ⟨l0, 12, none⟩ = false ∧ Hid (AccAt (w1.setCell ⟨l0, 12, none⟩ v') l0 l0 sb i E1 B1 V2 Q te bb (.slice (some ⟨gq, 0, none⟩) q1.length cq1) v' q1 (T1 ++ [y]) ∧ Chg (fun k => l0 ≤ k) wr (w1.setCell ⟨l0, 12, none⟩ v'))) := by
                    intro v' w1 hown hg hw
                    have cg : Chg (fun k => (Value.slice pt2 T1.length ct2).ownBlock = some k) wr w1 := ((Chg.refl (fun k => (Value.slice pt2 T1.length ct2).ownBlock = some k) wr).alloc _).trans (G := fun k => (Value.slice pt2 T1.length ct2).ownBlock = some k) ⟨hg.os, hg.tape, hg.output, hg.size, fun k hk hne' => hg.block k hk (fun h => hne' h.symm)⟩ (fun _ _ h => h)
                    have hr' : w1.ownsRow l0 53 5 v' (T1 ++ [y]).length (recCells (T1 ++ [y])) := by
                      rw [recCells_append, List.length_append]
                      simpa [recCells] using hown
                    have hwh' : Wh wr.heap.size (.slice pt2 T1.length ct2) v' := hw.imp id (fun e k hk => by
                      have := e k hk
                      have e2 : ((wr.alloc (.cells #[.int .i64 y.session, .int .i64 y.epoch, .int .i64 y.number, .string y.key, .int .i64 y.value] 53)).drew).heap.size = wr.heap.size + 1 := World.size_alloc _ _
                      omega)
                    exact ⟨cg.cellAt hA.tk hA.ot.1, (World.frozen?_of_block (w := wr) (cg.block l0 hcb hA.ot.1)).trans (hA.fzc 12), hA.take cg hr' hwh'⟩
                  have hta : (wr.alloc (.cells #[.int .i64 y.session, .int .i64 y.epoch, .int .i64 y.number, .string y.key, .int .i64 y.value] 53)).cell? ⟨l0, 12, none⟩ = some (.slice pt2 T1.length ct2) := (World.cell?_alloc_lt wr _ _ hcb).trans hA.tk
                  go_region_law (refine step_append_own rfl (.tmp 127) (.tmp 133) 131 rfl l0 53 i0 _ 5 48 Tryz.underlying131 hi0 hz0 hz1 hz2 rfl (by decide) _ T1.length (recCells T1) (by simp [Act.eval, Act.put]) (hA.taken.alloc _) ⟨wr.heap.size, 0, none⟩ 1 1 y.cells (by simp [Act.eval, Act.put]) rfl s1.out s3.out s4.out s5.out s7.out ?_; intro v' w1 hown hgrow hwhere; obtain ⟨q', cap', rfl⟩ := row_any hown; obtain ⟨hp1, hz1', hh⟩ := s6.out (.slice q' (T1.length + 1) cap') w1 hown hgrow hwhere)
                  all_goals
                    go_wp2_with fail
                    go_meet
                    case rel => exact ⟨_, hh.out.1, cX.trans hh.out.2 (fun _ _ h => h)⟩
                case rest =>
                  clear hA cX m0 m1 m2 m3 m4 s2 tk
                  obtain ⟨vt3, hA, cX⟩ := hcut
                  obtain ⟨v7, w7, r7, o7, c7⟩ := run_fill (P := Tryz.prog) wc 131 131 53 i0 _ 5 48 Tryz.underlying131 hi0 hz0 hz1 hz2 rfl (by decide) (.slice (some ⟨gq, 0, none⟩) jx cq1) jx (recCells (q1.take jx)) (by have := SrcAt.first hA.row jx cq1; rw [recCells_tk] at this; exact this) (by rw [recCells_len]; simp; omega) (recCells_one _) (by unfold maxLen; omega) (by omega)
                  have hwl := hA.low
                  have key8 : ∀ x3, SrcAt w7 x3 (q1.length - (jx + 1)) (recCells (q1.drop (jx + 1))) → ∃ p8 k8 w8 q8, (Builtin.append_ #[131, 131] 131 #[v7, x3]).run Tryz.prog w7 = .ok (.slice p8 (List.length q8) k8) w8 ∧ w8.cell? ⟨sb, 2, none⟩ = some (.slice (some ⟨gq, 0, none⟩) q1.length cq1) ∧ w8.frozen? ⟨sb, 2, none⟩ = false ∧ w8.cell? ⟨sb, 1, none⟩ = some (.int .i64 bb) ∧ w8.frozen? ⟨sb, 1, none⟩ = false ∧ Hid (q8 = q1.take jx ++ q1.drop (jx + 1)) ∧ AccAt (w8.setCell ⟨sb, 2, none⟩ (.slice p8 q8.length k8)) l0 l0 sb i E1 B1 V2 Q te bb (.slice p8 q8.length k8) vt3 q8 (T1 ++ [y]) ∧ Chg (fun k => l0 ≤ k) W0 (w8.setCell ⟨sb, 2, none⟩ (.slice p8 q8.length k8)) := by
                    intro x3 hs3
                    obtain ⟨v8, w8, r8, o8, g8, e8⟩ := run_append_src (P := Tryz.prog) w7 wc.heap.size 131 131 53 i0 _ 5 48 Tryz.underlying131 hi0 hz0 hz1 hz2 rfl (by decide) _ _ _ o7 x3 (q1.length - (jx + 1)) _ hs3 (by rw [recCells_len]; simp) (recCells_one _) (by unfold maxLen; omega) (by omega) c7.size
                    have c8 : Chg (fun _ => False) wc w8 := c7.trans (G := fun g => v7.ownBlock = some g) ⟨g8.os, g8.tape, g8.output, g8.size, fun k hk hne => g8.block k hk (fun e => hne e.symm)⟩ (fun n hn h => by have := (o7.lt n h).1; omega)
                    obtain ⟨q8, hq8⟩ : ∃ q8, q8 = q1.take jx ++ q1.drop (jx + 1) := ⟨_, rfl⟩
                    have o8' : w8.ownsRow wc.heap.size 53 5 v8 q8.length (recCells q8) := by
                      have el : q8.length = jx + (q1.length - (jx + 1)) := by rw [hq8]; simp; omega
                      rw [el, hq8, recCells_append]
                      exact o8
                    obtain ⟨p8, k8, rfl⟩ := row_any o8'
                    obtain ⟨hA8, cA8⟩ := hA.wait (c8.mono (fun _ h => h.elim)) (row_lower o8' hwl) (.inr fun k hk => (o8'.lt k hk).1)
                    have hsl : sb < wc.heap.size := World.block_lt_of_cell? _ _ hA.s0
                    exact ⟨p8, k8, w8, q8, r8, c8.cellAt hA.s2 id, (World.frozen?_of_block (w := wc) (c8.block sb hsl id)).trans (hA.fzs 2), c8.cellAt hA.s1 id, (World.frozen?_of_block (w := wc) (c8.block sb hsl id)).trans (hA.fzs 1), hq8, hA8, cX.trans cA8 (fun _ _ h => h)⟩
                  have s2c := hA.s2
                  have s27 := c7.cellAt hA.s2 id
                  have hjc : (jx : Int) ≤ (cq1 : Int) := by omega
                  have hj1 : (jx : Int) + 1 ≤ (q1.length : Int) := by omega
                  have hqc : (q1.length : Int) ≤ (cq1 : Int) := by omega
                  by_cases hca : cq1 = jx + 1
                  · have hql : q1.length = jx + 1 := by omega
                    subst hca
                    obtain ⟨p8, k8, w8, q8, r8, d2, df2, d1, df1, HQ8, hA8, cX8⟩ := key8 (.slice (some ⟨gq, 0, none⟩) 0 0) (by
                      have e1 : q1.length - (jx + 1) = 0 := by omega
                      have e2 : q1.drop (jx + 1) = [] := List.drop_of_length_le (by omega)
                      rw [e1, e2]
                      exact SrcAt.none_at _ _)
                    clear key8
                    obtain ⟨hA9, cA9⟩ := hA8.base (bb + 1)
                    have hl8 : q8.length + 1 = q1.length := by rw [HQ8.out]; simp; omega
                    have hwt := waits_any (bb + 1) (o := 0) hA9.s2 hA9.row (by omega)
                    have HQL : Hid (q1.length = jx + 1) := hql
                    rw [hql] at s2c s27 d2
                    clear hql
                    go_wp2_with (first | (at_builtin; refine Lib.wpList_append_run _ rfl (.tmp 137) (.tmp 141) 131 131 rfl _ _ rfl rfl v7 w7 r7 ?_) | (at_builtin; refine Lib.wpList_append_run _ rfl (.tmp 143) (.tmp 148) 131 131 rfl _ _ rfl rfl (.slice p8 q8.length k8) w8 r8 ?_))
                    refine hwt.mono ?_
                    rintro _ w6 ⟨rfl, ew⟩
                    rw [ew]
                    clear ew w6 hwt
                    go_wp2_with fail
                    go_roundg g'
                    case measure => omega
                    case rel => exact ⟨bb + 1, q8, T1 ++ [y], _, vt3, rfl, hA9, by omega, by omega, by omega, by omega, by simp; omega, (show _ = _ by rw [HQ8.out]; exact HD'.out), cX8.trans cA9 (fun _ _ h => h)⟩
                  · obtain ⟨p8, k8, w8, q8, r8, d2, df2, d1, df1, HQ8, hA8, cX8⟩ := key8 (.slice (some ⟨gq, (jx + 1) * 5, none⟩) (q1.length - (jx + 1)) (cq1 - (jx + 1))) (by have := SrcAt.last (c7.row' hA.row (fun _ _ h => h)) (jx + 1) (q1.length - (jx + 1)) (cq1 - (jx + 1)); rw [recCells_dp] at this; exact this)
                    clear key8
                    obtain ⟨hA9, cA9⟩ := hA8.base (bb + 1)
                    have hl8 : q8.length + 1 = q1.length := by rw [HQ8.out]; simp; omega
                    have hwt := waits_any (bb + 1) (o := 0) hA9.s2 hA9.row (by omega)
                    go_wp2_with (first | (at_builtin; refine Lib.wpList_append_run _ rfl (.tmp 137) (.tmp 141) 131 131 rfl _ _ rfl rfl v7 w7 r7 ?_) | (at_builtin; refine Lib.wpList_append_run _ rfl (.tmp 143) (.tmp 148) 131 131 rfl _ _ rfl rfl (.slice p8 q8.length k8) w8 r8 ?_))
                    refine hwt.mono ?_
                    rintro _ w6 ⟨rfl, ew⟩
                    rw [ew]
                    clear ew w6 hwt
                    go_wp2_with fail
                    go_roundg g'
                    case measure => omega
                    case rel => exact ⟨bb + 1, q8, T1 ++ [y], _, vt3, rfl, hA9, by omega, by omega, by omega, by omega, by simp; omega, (show _ = _ by rw [HQ8.out]; exact HD'.out), cX8.trans cA9 (fun _ _ h => h)⟩
          · have HR' : Hid (accR2 E B Q T i x = ((0, fr), none)) := by show _ = _; rw [HR2.out, if_pos hf0]
            have hf0' : (fr == 0) = false := by simpa using hf0
            clear HR2 hf0
            go_wp2_with fail
            go_ret2
            exact ⟨by rw [HR'.out]; rfl, by rw [HR'.out]; exact c0.low cX4 hlw'⟩
end Go.Proofs.YthedkdbgfdjlkaaGreatDoor

namespace Go.Proofs.YthedkdbgfdjlkaaGreatDoor
set_option linter.unusedVariables false
set_option linter.unusedSimpArgs false
open Go.RowKit Go.Lib
theorem rdistinct_list : ∀ L : List ByteArray, ∃ N : List ByteArray, N.Nodup ∧ (∀ x, x ∈ N ↔ x ∈ L) ∧ N.length = distinct L
  | [] => ⟨[], by simp, by simp, rfl⟩
  | k :: r => by
    obtain ⟨N, h1, h2, h3⟩ := rdistinct_list r
    by_cases h : isIn k r = true
    · refine ⟨N, h1, fun x => ?_, by simp [distinct, h, h3]⟩
      rw [h2, List.mem_cons]
      constructor
      · exact .inr
      · rintro (rfl | hx)
        · exact (isIn_mem _ _).1 h
        · exact hx
    · refine ⟨k :: N, List.nodup_cons.2 ⟨fun hk => h ((isIn_mem _ _).2 ((h2 k).1 hk)), h1⟩, fun x => ?_, by simp [distinct, h, h3]⟩
      rw [List.mem_cons, List.mem_cons, h2]
theorem rdistinct_of {N L : List ByteArray} (hn : N.Nodup) (hm : ∀ x, x ∈ N ↔ x ∈ L) : N.length = distinct L := by
  obtain ⟨M, h1, h2, h3⟩ := rdistinct_list L
  rw [← h3]
  exact Nat.le_antisymm (hn.length_le_of_subset fun x hx => (h2 x).2 ((hm x).1 hx)) (h1.length_le_of_subset fun x hx => (hm x).2 ((h2 x).1 hx))
theorem UpN.nodup {l : List ByteArray} (h : UpN l) : l.Nodup := by
  unfold UpN at h
  unfold List.Nodup
  refine h.imp fun {a b} hab e => ?_
  rw [e, less_irrefl] at hab
  cases hab
theorem rputW_perm (x : Wt) : ∀ l : List Wt, (putW x l).Perm (x :: l)
  | [] => .refl _
  | y :: r => by
    unfold putW
    split
    · exact .refl _
    · exact ((rputW_perm x r).cons y).trans (.swap x y r)
theorem allR_mem (T : List Rec) (Q : Nat → List Rec) (k : ByteArray) : ∀ n, k ∈ allR T Q n ↔ (∃ x ∈ T, x.key = k) ∨ ∃ i, i < n ∧ ∃ x ∈ Q i, x.key = k
  | 0 => by
    simp only [allR, namesR_mem]
    simp
  | n + 1 => by
    simp only [allR, namesR_mem, allR_mem T Q k n]
    constructor
    · rintro ((h | ⟨i, hi, h⟩) | h)
      · exact .inl h
      · exact .inr ⟨i, by omega, h⟩
      · exact .inr ⟨n, by omega, h⟩
    · rintro (h | ⟨i, hi, h⟩)
      · exact .inl (.inl h)
      · by_cases e : i = n
        · subst e; exact .inr h
        · exact .inl (.inr ⟨i, by omega, h⟩)
structure RTie (E B : Nat → Int) (Q : Nat → List Rec) (T : List Rec) (Hs : List Hd) (s : St) : Prop where
  four : s.lanes.length = 4
  lane : ∀ i, i < 4 → ∃ l, s.lanes[i]? = some l ∧ l.epoch = E i ∧ l.base = B i ∧ ((Q i).map Rec.wt).Perm l.ws ∧ (l.ws.Pairwise fun a b => a.num < b.num) ∧ ∀ y ∈ l.ws, B i < y.num ∧ y.num < B i + 4
  keys : s.keys = (keysOf T []).map (withHeld Hs)
  held : HeldIn T Hs
  tok : ∀ p ∈ Hs, 0 ≤ p.token ∧ p.token ≤ (tally p.key T).1
  val : ∀ x ∈ T, (0 ≤ x.value ∧ x.value ≤ 4294967295) ∧ okKey x.key = true
  wal : ∀ i, i < 4 → ∀ x ∈ Q i, (0 ≤ x.value ∧ x.value ≤ 4294967295) ∧ okKey x.key = true
  ep : ∀ i, i < 4 → 0 ≤ E i ∧ E i ≤ 9223372036854775807
  ba : ∀ i, i < 4 → 0 ≤ B i ∧ B i ≤ T.length
  tot : T.length + waitsR Q 4 ≤ 1000
theorem RTie.short {E B : Nat → Int} {Q : Nat → List Rec} {T : List Rec} {Hs : List Hd} {s : St} (h : RTie E B Q T Hs s) {i : Nat} (hi : i < 4) : (Q i).length ≤ 3 := by
  obtain ⟨l, _, _, _, h1, h2, h3⟩ := h.lane i hi
  have hl : (Q i).length = l.ws.length := by simpa using h1.length_eq
  rcases up_len l.ws (B i + 1) (B i + 4) h2 (fun y hy => by have := h3 y hy; omega) with e | e
  · rw [hl, e]; simp
  · omega
theorem counts_held (Hs : List Hd) : ∀ ks : List Ky, counts (ks.map (withHeld Hs)) = counts ks
  | [] => rfl
  | k :: r => by simp [counts, counts_held Hs r, withHeld]
theorem keys_count (T : List Rec) (Hs : List Hd) : counts ((keysOf T []).map (withHeld Hs)) = T.length := by
  rw [counts_held, counts_keysOf]; simp [counts]
theorem keys_mem (T : List Rec) (Hs : List Hd) (k : ByteArray) : k ∈ ((keysOf T []).map (withHeld Hs)).map (·.name) ↔ ∃ x ∈ T, x.key = k := by
  have e : ((keysOf T []).map (withHeld Hs)).map (·.name) = (keysOf T []).map (·.name) := by rw [List.map_map]; rfl
  rw [e, keysOf_namesR]
  simp only [List.map_nil, namesR_mem]
  simp
theorem waits_both {Q : Nat → List Rec} : ∀ (ls : List Ln) (n : Nat), (∀ i, i < ls.length → ∃ l, ls[i]? = some l ∧ ((Q (n + i)).map Rec.wt).Perm l.ws) → waits ls = waitsR Q (n + ls.length) - waitsR Q n
  | [], n, _ => by simp [waits]
  | l :: r, n, h => by
    obtain ⟨l0, e0, p0⟩ := h 0 (by simp)
    simp at e0
    subst e0
    have ih := waits_both r (n + 1) (fun i hi => by
      obtain ⟨l', e', p'⟩ := h (i + 1) (by simp; omega)
      exact ⟨l', by simpa using e', by rw [show n + 1 + i = n + (i + 1) by omega]; exact p'⟩)
    have hl : (Q n).length = l.ws.length := by simpa using p0.length_eq
    simp only [waits, ih, List.length_cons]
    rw [show n + (r.length + 1) = n + 1 + r.length by omega]
    simp only [waitsR]
    omega
def Lanes (Q : Nat → List Rec) (ls : List Ln) : Prop := ls.length = 4 ∧ ∀ i, i < 4 → ∃ l, ls[i]? = some l ∧ ((Q i).map Rec.wt).Perm l.ws
theorem Lanes.mem {Q : Nat → List Rec} {ls : List Ln} (h : Lanes Q ls) (k : ByteArray) : k ∈ ls.flatMap (fun l => l.ws.map (·.key)) ↔ ∃ i, i < 4 ∧ ∃ x ∈ Q i, x.key = k := by
  rw [List.mem_flatMap]
  constructor
  · rintro ⟨l, hl, hk⟩
    obtain ⟨i, hi, e⟩ := List.getElem_of_mem hl
    obtain ⟨l', h1, h2⟩ := h.2 i (by rw [← h.1]; exact hi)
    rw [List.getElem?_eq_getElem hi, e] at h1
    have := Option.some.inj h1
    subst this
    obtain ⟨y, hy, ey⟩ := List.mem_map.1 hk
    obtain ⟨x, hx, ex⟩ := List.mem_map.1 (h2.mem_iff.2 hy)
    exact ⟨i, by rw [← h.1]; exact hi, x, hx, by rw [← ey, ← ex]; rfl⟩
  · rintro ⟨i, hi, x, hx, e⟩
    obtain ⟨l, h1, h2⟩ := h.2 i hi
    exact ⟨l, List.mem_of_getElem? h1, List.mem_map.2 ⟨x.wt, h2.mem_iff.1 (List.mem_map.2 ⟨x, hx, rfl⟩), e⟩⟩
theorem Lanes.waits {Q : Nat → List Rec} {ls : List Ln} (h : Lanes Q ls) : Go.Proofs.YthedkdbgfdjlkaaGreatDoor.waits ls = waitsR Q 4 := by
  have := waits_both (Q := Q) ls 0 (fun i hi => by
    obtain ⟨l, h1, h2⟩ := h.2 i (by rw [← h.1]; exact hi)
    exact ⟨l, h1, by rw [Nat.zero_add]; exact h2⟩)
  rw [this, h.1]
  simp [waitsR]
theorem full_both {Q : Nat → List Rec} {ls : List Ln} {T : List Rec} {Hs : List Hd} (h : Lanes Q ls) (key : ByteArray) :
    fullR T Q key = if isIn key (⟨ls, (keysOf T []).map (withHeld Hs)⟩ : St).names = false ∧ 4 ≤ distinct (⟨ls, (keysOf T []).map (withHeld Hs)⟩ : St).names then 6 else if 1000 ≤ (⟨ls, (keysOf T []).map (withHeld Hs)⟩ : St).records then 7 else 0 := by
  have hm : ∀ k, k ∈ allR T Q 4 ↔ k ∈ (⟨ls, (keysOf T []).map (withHeld Hs)⟩ : St).names := fun k => by
    unfold St.names
    rw [allR_mem, List.mem_append, h.mem, keys_mem]
  have hd := rdistinct_of (allR_up T Q 4).nodup hm
  have hin : isIn key (⟨ls, (keysOf T []).map (withHeld Hs)⟩ : St).names = false ↔ (allR T Q 4).length < (insN key (allR T Q 4)).length := by
    by_cases hk : key ∈ allR T Q 4
    · rw [insN_in key hk (allR_up T Q 4)]
      have : isIn key (⟨ls, (keysOf T []).map (withHeld Hs)⟩ : St).names = true := (isIn_mem _ _).2 ((hm key).1 hk)
      rw [this]
      simp
    · rw [insN_new key hk]
      have hlow := lowN_le key (allR T Q 4)
      have : isIn key (⟨ls, (keysOf T []).map (withHeld Hs)⟩ : St).names = false := by
        cases e : isIn key (⟨ls, (keysOf T []).map (withHeld Hs)⟩ : St).names with
        | false => rfl
        | true => exact absurd ((hm key).2 ((isIn_mem _ _).1 e)) hk
      rw [this]
      simp
      omega
  have hr : (⟨ls, (keysOf T []).map (withHeld Hs)⟩ : St).records = T.length + waitsR Q 4 := by
    unfold St.records
    simp only [keys_count, h.waits]
  unfold fullR
  rw [hr, ← hd]
  by_cases h1 : (allR T Q 4).length < (insN key (allR T Q 4)).length ∧ 4 ≤ (allR T Q 4).length
  · rw [if_pos h1, if_pos ⟨hin.2 h1.1, h1.2⟩]
  · rw [if_neg h1, if_neg (c := isIn key (⟨ls, (keysOf T []).map (withHeld Hs)⟩ : St).names = false ∧ 4 ≤ (allR T Q 4).length) (fun e => h1 ⟨hin.1 e.1, e.2⟩)]
section
variable {E B : Nat → Int} {Q : Nat → List Rec} {T : List Rec} {Hs : List Hd} {s : St}
theorem RTie.turn (h : RTie E B Q T Hs s) {i : Nat} (hi : i < 4) {l : Ln} (hl : s.lanes[i]? = some l) (x : Rec) :
    l.turned x.epoch = ⟨teR E i x, tbR E B i x, (l.turned x.epoch).ws⟩ ∧ ((tqR E Q i x).map Rec.wt).Perm (l.turned x.epoch).ws ∧ ((l.turned x.epoch).ws.Pairwise fun a b => a.num < b.num) ∧ ∀ y ∈ (l.turned x.epoch).ws, tbR E B i x < y.num ∧ y.num < tbR E B i x + 4 := by
  obtain ⟨l', h1, h2, h3, h4, h5, h6⟩ := h.lane i hi
  rw [hl] at h1
  have := Option.some.inj h1
  subst this
  unfold Ln.turned teR tbR tqR
  rw [h2]
  by_cases e : E i < x.epoch
  · simp only [if_pos e]
    exact ⟨trivial, .refl _, List.Pairwise.nil, by simp⟩
  · simp only [if_neg e]
    refine ⟨?_, h4, h5, h6⟩
    rw [← h2, ← h3]
theorem RTie.lanes (h : RTie E B Q T Hs s) {i : Nat} (hi : i < 4) {c : Ln} {q : List Rec} (hq : (q.map Rec.wt).Perm c.ws) : Lanes (updF Q i q) (s.lanes.set i c) := by
  refine ⟨by simpa using h.four, fun j hj => ?_⟩
  by_cases e : j = i
  · subst e
    exact ⟨c, List.getElem?_set_self (by rw [h.four]; exact hi), by rw [updF_same]; exact hq⟩
  · obtain ⟨l, h1, _, _, h2, _⟩ := h.lane j hj
    exact ⟨l, by rw [List.getElem?_set_ne (fun e2 => e e2.symm)]; exact h1, by rw [updF_ne _ _ e]; exact h2⟩
def RNext (E B : Nat → Int) (Q : Nat → List Rec) (T : List Rec) (Hs : List Hd) (i : Nat) (s s' : St) : Option (Int × Int × List Rec × List Rec) → Prop
  | none => s' = s
  | some r => RTie (updF E i r.1) (updF B i r.2.1) (updF Q i r.2.2.1) r.2.2.2 Hs s'
theorem waitsR_upd (Q : Nat → List Rec) (i : Nat) (q : List Rec) : ∀ n, waitsR (updF Q i q) n = if i < n then waitsR Q n - (Q i).length + q.length else waitsR Q n
  | 0 => by simp [waitsR]
  | n + 1 => by
    simp only [waitsR, waitsR_upd Q i q n]
    by_cases e : n = i
    · subst e
      rw [updF_same, if_neg (by omega), if_pos (by omega)]
      omega
    · rw [updF_ne _ _ e]
      by_cases h : i < n
      · rw [if_pos h, if_pos (by omega)]; omega
      · rw [if_neg h, if_neg (by omega)]
theorem tally_more (name : ByteArray) (T L : List Rec) : (tally name T).1 ≤ (tally name (T ++ L)).1 := by
  have := (tally_take_le name (T ++ L) T.length).2.1
  rw [List.take_left] at this
  exact this
theorem racc_tie (h : RTie E B Q T Hs s) (x : Rec) (hx : x.fits) : (accept s x).1 = (accX E B Q T false x).1 ∧ RNext E B Q T Hs x.session.toNat s (accept s x).2 (accX E B Q T false x).2 := by
  unfold accept accX
  rw [if_neg (show ¬ false = true by simp)]
  by_cases hs : x.session < 0 ∨ 4 ≤ x.session
  · rw [if_pos hs, if_pos hs]; exact ⟨rfl, rfl⟩
  · rw [if_neg hs, if_neg hs]
    by_cases hk : okKey x.key = false ∨ x.value < 0 ∨ 4294967295 < x.value
    · rw [if_pos hk, if_pos hk]; exact ⟨rfl, rfl⟩
    · rw [if_neg hk, if_neg hk]
      obtain ⟨i, hi⟩ : ∃ i, x.session.toNat = i := ⟨_, rfl⟩
      have hi4 : i < 4 := by omega
      rw [hi]
      obtain ⟨l, hl, he, hb, hp, hu, hw⟩ := h.lane i hi4
      rw [hl]
      simp only
      unfold acceptIn
      rw [he]
      by_cases hep : x.epoch < E i
      · rw [if_pos hep, if_pos hep]; exact ⟨rfl, rfl⟩
      · rw [if_neg hep, if_neg hep]
        obtain ⟨t1, t2, t3, t4⟩ := h.turn hi4 hl x
        obtain ⟨ws, hws⟩ : ∃ ws, ws = (l.turned x.epoch).ws := ⟨_, rfl⟩
        rw [← hws] at t1 t2 t3 t4
        simp only [t1]
        unfold accR2
        have hfour := h.four
        have hxv : (0 ≤ x.value ∧ x.value ≤ 4294967295) ∧ okKey x.key = true := by
          refine ⟨by omega, ?_⟩
          cases hh : okKey x.key
          · exact absurd (.inl hh) hk
          · rfl
        by_cases hfar : x.number < 0 ∨ tbR E B i x + 4 ≤ x.number
        · rw [if_pos hfar, if_pos hfar]; exact ⟨rfl, rfl⟩
        · rw [if_neg hfar, if_neg hfar]
          have hany : ws.any (fun y => y.num == x.number) = true ↔ 0 ≤ idxR x.number (tqR E Q i x) 0 := by
            constructor
            · intro ha
              obtain ⟨y, hy, ey⟩ := List.any_eq_true.1 ha
              obtain ⟨z, hz, ez⟩ := List.mem_map.1 (t2.mem_iff.2 hy)
              rcases idxR_lt x.number (tqR E Q i x) 0 with e | ⟨j, _, e⟩
              · have := idxR_none.1 e z hz
                have e1 : y.num = x.number := by simpa using ey
                exact absurd (show z.number = x.number by rw [← e1, ← ez]; rfl) this
              · omega
            · intro h0
              rcases idxR_lt x.number (tqR E Q i x) 0 with e | ⟨j, _, e⟩
              · omega
              · obtain ⟨z, hz, ez⟩ := idxR_some e
                exact List.any_eq_true.2 ⟨z.wt, t2.mem_iff.1 (List.mem_map.2 ⟨z, List.mem_of_getElem? hz, rfl⟩), by simp [Rec.wt, ez]⟩
          by_cases hold : x.number < tbR E B i x ∨ 0 ≤ idxR x.number (tqR E Q i x) 0
          · rw [if_pos (hold.imp id hany.2), if_pos hold]; exact ⟨rfl, rfl⟩
          · rw [if_neg (fun e => hold (e.imp id hany.1)), if_neg hold]
            have hfl := full_both (T := T) (Hs := Hs) (h.lanes hi4 (c := ⟨teR E i x, tbR E B i x, ws⟩) t2) x.key
            rw [← h.keys] at hfl
            by_cases hm : isIn x.key (⟨s.lanes.set i ⟨teR E i x, tbR E B i x, ws⟩, s.keys⟩ : St).names = false ∧ 4 ≤ distinct (⟨s.lanes.set i ⟨teR E i x, tbR E B i x, ws⟩, s.keys⟩ : St).names
            · rw [if_pos hm] at hfl ⊢
              rw [hfl, if_pos (by omega)]
              exact ⟨rfl, rfl⟩
            · rw [if_neg hm] at hfl ⊢
              by_cases hf : 1000 ≤ (⟨s.lanes.set i ⟨teR E i x, tbR E B i x, ws⟩, s.keys⟩ : St).records
              · rw [if_pos hf] at hfl ⊢
                rw [hfl, if_pos (by omega)]
                exact ⟨rfl, rfl⟩
              · rw [if_neg hf] at hfl ⊢
                rw [hfl, if_neg (by omega)]
                have hnw : ∀ y ∈ ws, y.num ≠ x.number := fun y hy e => hold (.inr (hany.1 (List.any_eq_true.2 ⟨y, hy, by simp [e]⟩)))
                have hnb : tbR E B i x ≤ x.number := by
                  rcases Int.lt_or_le x.number (tbR E B i x) with e | e
                  · exact absurd (.inl e) hold
                  · exact e
                have hW : Waits (tbR E B i x) (tqR E Q i x ++ [x]) (putW x.wt ws) := by
                  refine ⟨?_, putW_up _ t3 hnw, fun y hy => ?_⟩
                  · rw [List.map_append]
                    refine (List.perm_append_comm).trans ?_
                    exact (t2.cons x.wt).trans (rputW_perm x.wt ws).symm
                  · rcases (mem_putW _ _ _).1 hy with rfl | hy
                    · exact hnb
                    · have := t4 y hy; omega
                have hql : (tqR E Q i x).length ≤ 3 := by
                  unfold tqR
                  split
                  · simp
                  · exact h.short hi4
                obtain ⟨b', q', T', ws', d1, d2, d3, d4, d5, d6, d7, d8, d9, d10, d11, d12, L, d13⟩ := drain_both Hs ((tqR E Q i x).length + 2) (tbR E B i x) (tqR E Q i x ++ [x]) T (putW x.wt ws) (by simp) hW h.held
                rw [d1]
                have hrec : (⟨s.lanes.set i ⟨teR E i x, tbR E B i x, ws⟩, s.keys⟩ : St).records = T.length + waitsR (updF Q i (tqR E Q i x)) 4 := by
                  unfold St.records
                  rw [h.keys]
                  simp only [keys_count, (h.lanes hi4 (c := ⟨teR E i x, tbR E B i x, ws⟩) t2).waits]
                have e2 : drainW (tbR E B i x) (putW ⟨x.number, x.key, x.value⟩ ws) s.keys = (b', ws', (keysOf T' []).map (withHeld Hs)) := by
                  rw [h.keys]; exact d2
                rw [e2]
                refine ⟨rfl, ?_, fun j hj => ?_, rfl, d6, fun p hp => ?_, fun z hz => ?_, fun j hj z hz => ?_, fun j hj => ?_, fun j hj => ?_, ?_⟩
                · simpa using h.four
                · by_cases e : j = i
                  · subst e
                    refine ⟨⟨teR E j x, b', ws'⟩, List.getElem?_set_self (by rw [h.four]; exact hj), by rw [updF_same], by rw [updF_same], by rw [updF_same]; exact d3, d4, fun y hy => ?_⟩
                    rw [updF_same]
                    refine ⟨d5 y hy, ?_⟩
                    rcases (mem_putW _ _ _).1 (d12 y hy) with rfl | hy2
                    · show x.number < b' + 4; omega
                    · have := t4 y hy2; show y.num < b' + 4; omega
                  · obtain ⟨l2, g1, g2, g3, g4, g5, g6⟩ := h.lane j hj
                    exact ⟨l2, by simp only; rw [List.getElem?_set_ne (fun e2 => e e2.symm)]; exact g1, by rw [updF_ne _ _ e]; exact g2, by rw [updF_ne _ _ e]; exact g3, by rw [updF_ne _ _ e]; exact g4, g5, by rw [updF_ne _ _ e]; exact g6⟩
                · have h1 := h.tok p hp
                  have h2 := tally_more p.key T L
                  simp only
                  rw [d13]
                  omega
                · rcases d10 z hz with h1 | h1
                  · exact h.val z h1
                  · rcases List.mem_append.1 h1 with h1 | h1
                    · unfold tqR at h1
                      split at h1
                      · simp at h1
                      · exact h.wal i hi4 z h1
                    · simp at h1; subst h1; exact hxv
                · by_cases e : j = i
                  · subst e
                    simp only [updF_same] at hz
                    rcases List.mem_append.1 (d11 z hz) with h1 | h1
                    · unfold tqR at h1
                      split at h1
                      · simp at h1
                      · exact h.wal j hj z h1
                    · simp at h1; subst h1; exact hxv
                  · simp only [updF_ne _ _ e] at hz
                    exact h.wal j hj z hz
                · by_cases e : j = i
                  · subst e
                    simp only [updF_same]
                    have h1 := h.ep j hj
                    have h2 := hx.epoch
                    unfold inInt at h2
                    unfold teR
                    split <;> omega
                  · simp only [updF_ne _ _ e]; exact h.ep j hj
                · have hTl : T'.length = T.length + L.length := by rw [d13]; simp
                  by_cases e : j = i
                  · subst e
                    simp only [updF_same]
                    have h1 := h.ba j hj
                    have h2 : 0 ≤ tbR E B j x ∧ tbR E B j x ≤ T.length := by unfold tbR; split <;> omega
                    omega
                  · simp only [updF_ne _ _ e]
                    have h1 := h.ba j hj
                    omega
                · simp only
                  rw [waitsR_upd, if_pos (by omega)]
                  rw [hrec, waitsR_upd, if_pos (by omega)] at hf
                  simp at d8
                  omega
end
end Go.Proofs.YthedkdbgfdjlkaaGreatDoor

namespace Go.Proofs.YthedkdbgfdjlkaaGreatDoor
set_option linter.unusedVariables false
set_option linter.unusedSimpArgs false
open Go.RowKit Go.Lib
theorem sorted_ext : ∀ {a b : List Int}, (a.Pairwise fun x y => x < y) → (b.Pairwise fun x y => x < y) → (∀ x, x ∈ a ↔ x ∈ b) → a = b
  | [], [], _, _, _ => rfl
  | [], y :: r, _, _, h => by have := (h y).2 (by simp); simp at this
  | x :: r, [], _, _, h => by have := (h x).1 (by simp); simp at this
  | x :: r, y :: t, ha, hb, h => by
    obtain ⟨a1, a2⟩ := List.pairwise_cons.1 ha
    obtain ⟨b1, b2⟩ := List.pairwise_cons.1 hb
    have hxy : x = y := by
      have h1 := (h x).1 (by simp)
      have h2 := (h y).2 (by simp)
      rcases List.mem_cons.1 h1 with e | e
      · exact e
      · rcases List.mem_cons.1 h2 with e2 | e2
        · exact e2.symm
        · have := b1 x e
          have := a1 y e2
          omega
    subst hxy
    congr 1
    refine sorted_ext a2 b2 (fun z => ?_)
    constructor
    · intro hz
      rcases List.mem_cons.1 ((h z).1 (by simp [hz])) with e | e
      · have := a1 z hz; omega
      · exact e
    · intro hz
      rcases List.mem_cons.1 ((h z).2 (by simp [hz])) with e | e
      · have := b1 z hz; omega
      · exact e
theorem numsR_mem (q : List Rec) (b : Int) (m : Int) : ∀ n, m ∈ numsR q b n ↔ b ≤ m ∧ m < b + n ∧ ∃ x ∈ q, x.number = m
  | 0 => by simp [numsR]; omega
  | n + 1 => by
    have hi : 0 ≤ idxR (b + n) q 0 ↔ ∃ x ∈ q, x.number = b + n := by
      rcases idxR_lt (b + n) q 0 with e | ⟨j, hj, e⟩
      · constructor
        · intro h; omega
        · rintro ⟨x, hx, ex⟩
          exact absurd ex (idxR_none.1 e x hx)
      · constructor
        · intro _
          obtain ⟨x, hx, ex⟩ := idxR_some e
          exact ⟨x, List.mem_of_getElem? hx, ex⟩
        · intro _; omega
    simp only [numsR, List.mem_append, numsR_mem q b m n]
    by_cases h : 0 ≤ idxR (b + n) q 0
    · rw [if_pos h]
      constructor
      · rintro (⟨h1, h2, h3⟩ | h1)
        · exact ⟨h1, by omega, h3⟩
        · simp at h1
          subst h1
          exact ⟨by omega, by omega, hi.1 h⟩
      · rintro ⟨h1, h2, h3⟩
        by_cases e : m = b + n
        · right; simp [e]
        · left; exact ⟨h1, by omega, h3⟩
    · rw [if_neg h]
      constructor
      · rintro (⟨h1, h2, h3⟩ | h1)
        · exact ⟨h1, by omega, h3⟩
        · simp at h1
      · rintro ⟨h1, h2, h3⟩
        left
        refine ⟨h1, ?_, h3⟩
        by_cases e : m = b + n
        · subst e; exact absurd (hi.2 h3) h
        · omega
theorem numsR_up (q : List Rec) (b : Int) : ∀ n, (numsR q b n).Pairwise fun x y => x < y
  | 0 => List.Pairwise.nil
  | n + 1 => by
    simp only [numsR]
    rw [List.pairwise_append]
    refine ⟨numsR_up q b n, by split <;> simp, fun x hx y hy => ?_⟩
    have := (numsR_mem q b x n).1 hx
    split at hy
    · simp at hy; omega
    · simp at hy
theorem nums_both {q : List Rec} {ws : List Wt} {b : Int} (hp : (q.map Rec.wt).Perm ws) (hu : ws.Pairwise fun a b => a.num < b.num) (hw : ∀ y ∈ ws, b < y.num ∧ y.num < b + 4) : numsR q b 4 = ws.map (·.num) := by
  refine sorted_ext (numsR_up q b 4) (by rw [List.pairwise_map]; exact hu) (fun m => ?_)
  rw [numsR_mem]
  constructor
  · rintro ⟨_, _, x, hx, e⟩
    exact List.mem_map.2 ⟨x.wt, hp.mem_iff.1 (List.mem_map.2 ⟨x, hx, rfl⟩), e⟩
  · intro h
    obtain ⟨y, hy, e⟩ := List.mem_map.1 h
    have h1 := hw y hy
    obtain ⟨x, hx, ex⟩ := List.mem_map.1 (hp.mem_iff.2 hy)
    exact ⟨by omega, by omega, x, hx, by rw [← e, ← ex]; rfl⟩
def RRows (V : Nat → Value) (vt vh : Value) (k : Nat) : Prop := (∃ i, i < 4 ∧ (V i).ownBlock = some k) ∨ vt.ownBlock = some k ∨ vh.ownBlock = some k
structure RFit (T : List Rec) (Hs : List Hd) (N : Nat) : Prop where
  t : T.length ≤ 1000
  h : Hs.length ≤ N
  val : ∀ x ∈ T, (0 ≤ x.value ∧ x.value ≤ 4294967295) ∧ okKey x.key = true
  tok : ∀ p ∈ Hs, 0 ≤ p.token ∧ p.token ≤ 1000
def RefCase (N : Nat) (w : World) (b : Nat) (F : Nat → Prop) (o : Option St) : Prop :=
  ∃ (E B : Nat → Int) (V : Nat → Value) (vt vh : Value) (Q : Nat → List Rec) (T : List Rec) (Hs : List Hd), RefAt w 0 b E B V vt vh Q T Hs o.isNone ∧ RFit T Hs N ∧ (∀ s, o = some s → RTie E B Q T Hs s) ∧ ∀ k, RRows V vt vh k → F k
def RefRel (N : Nat) (w : World) (a : Addr) (o : Option St) (F : Nat → Prop) : Prop := ∃ b, a = ⟨b, 0, none⟩ ∧ F b ∧ (∀ k, F k → k < w.heap.size) ∧ RefCase N w b F o
theorem RTie.fit {E B : Nat → Int} {Q : Nat → List Rec} {T : List Rec} {Hs : List Hd} {s : St} (h : RTie E B Q T Hs s) {N : Nat} (hN : Hs.length ≤ N) : RFit T Hs N := by
  have hw := (waitsR_range Q (fun i hi => by have := h.short hi; omega) 4 (by omega)).1
  have ht := h.tot
  refine ⟨by omega, hN, h.val, fun p hp => ?_⟩
  have h1 := h.tok p hp
  have h2 := tally_take_le p.key T T.length
  omega
theorem RefAt.same {w w' : World} {b : Nat} {E B : Nat → Int} {V : Nat → Value} {vt vh : Value} {Q : Nat → List Rec} {T : List Rec} {Hs : List Hd} {c : Bool} (h : RefAt w 0 b E B V vt vh Q T Hs c) (hb : w'.heap[b]? = w.heap[b]?) (hr : ∀ k, RRows V vt vh k → w'.heap[k]? = w.heap[k]?) : RefAt w' 0 b E B V vt vh Q T Hs c := by
  have row : ∀ {e : TypeId} {n m : Nat} {v : Value} {xs : List Value}, w.ownsRow 0 e n v m xs → (∀ k, v.ownBlock = some k → w'.heap[k]? = w.heap[k]?) → w'.ownsRow 0 e n v m xs := fun hr h => by
    refine ⟨hr.1, ?_⟩
    rcases hr.2 with hn | ⟨g, cap, cur, hv, hb, hg, r⟩
    · exact .inl hn
    · exact .inr ⟨g, cap, cur, hv, hb, (h g (by rw [hv]; rfl)).trans hg, r⟩
  exact { h with
    ep := fun j hj => (World.cell?_of_block (w := w) hb).trans (h.ep j hj)
    ba := fun j hj => (World.cell?_of_block (w := w) hb).trans (h.ba j hj)
    qu := fun j hj => (World.cell?_of_block (w := w) hb).trans (h.qu j hj)
    tk := (World.cell?_of_block (w := w) hb).trans h.tk
    hd := (World.cell?_of_block (w := w) hb).trans h.hd
    cl := (World.cell?_of_block (w := w) hb).trans h.cl
    fz := fun j => (World.frozen?_of_block (w := w) hb).trans (h.fz j)
    rows := fun j hj => row (h.rows j hj) (fun k hk => hr k (.inl ⟨j, hj, hk⟩))
    taken := row h.taken (fun k hk => hr k (.inr (.inl hk)))
    held := row h.held (fun k hk => hr k (.inr (.inr hk)))
    low := Nat.zero_le _ }
theorem ref_lt {N : Nat} {w : World} {a : Addr} {o : Option St} {F : Nat → Prop} {k : Nat} (h : RefRel N w a o F) (hk : F k) : k < w.heap.size := by
  obtain ⟨b, _, _, h1, _⟩ := h
  exact h1 k hk
theorem ref_stable {N : Nat} {w w' : World} {a : Addr} {o : Option St} {F : Nat → Prop} (h : RefRel N w a o F) (hs : ∀ k, F k → w'.heap[k]? = w.heap[k]?) : RefRel N w' a o F := by
  obtain ⟨b, rfl, hb, h1, E, B, V, vt, vh, Q, T, Hs, h2, h3, h4, h5⟩ := h
  refine ⟨b, rfl, hb, fun k hk => ?_, E, B, V, vt, vh, Q, T, Hs, h2.same (hs b hb) (fun k hk => hs k (h5 k hk)), h3, h4, h5⟩
  have e := hs k hk
  rw [Array.getElem?_eq_getElem (h1 k hk)] at e
  exact (Array.getElem?_eq_some_iff.1 e).1
theorem ref_more {N M : Nat} {w : World} {a : Addr} {o : Option St} {F : Nat → Prop} (h : RefRel N w a o F) (hN : N ≤ M) : RefRel M w a o F := by
  obtain ⟨b, rfl, hb, h1, E, B, V, vt, vh, Q, T, Hs, h2, h3, h4, h5⟩ := h
  exact ⟨b, rfl, hb, h1, E, B, V, vt, vh, Q, T, Hs, h2, ⟨h3.t, Nat.le_trans h3.h hN, h3.val, h3.tok⟩, h4, h5⟩
theorem ref_accept {N : Nat} {w : World} {a : Addr} {o : Option St} {F : Nat → Prop} (x : Rec) (h : RefRel N w a o F) (hx : x.fits) (hN : N ≤ 1000000000) : Calls Tryz.prog 46 #[.pointer (some a), x.value'] w fun e w' =>
    ∃ F', e = .returned (.tuple #[.int .i64 (accept? o x).1.1, .int .i64 (accept? o x).1.2]) ∧ RefRel N w' a (accept? o x).2 F' ∧ (∀ k, F' k → F k ∨ w.heap.size ≤ k) ∧ Chg F w w' := by
  obtain ⟨b, rfl, hb, h1, E, B, V, vt, vh, Q, T, Hs, h2, h3, h4, h5⟩ := h
  have keep : ∀ w', Chg (fun _ => False) w w' → RefRel N w' ⟨b, 0, none⟩ o F := fun w' c => ref_stable ⟨b, rfl, hb, h1, E, B, V, vt, vh, Q, T, Hs, h2, h3, h4, h5⟩ (fun k hk => c.block k (h1 k hk) id)
  cases o with
  | none =>
    refine (racc_early h2 x hx (.inl rfl)).mono ?_
    rintro e w' ⟨rfl, _, g2⟩
    have e1 : accX E B Q T true x = ((0, 1), none) := by unfold accX; rw [if_pos rfl]
    exact ⟨F, by show _ = _; simp only [Option.isNone, e1, accept?], keep w' g2, fun k hk => .inl hk, g2.mono (fun _ h => h.elim)⟩
  | some s =>
    have hT := h4 s rfl
    obtain ⟨t1, t2⟩ := racc_tie hT x hx
    have h2' : RefAt w 0 b E B V vt vh Q T Hs false := h2
    by_cases hbad : (x.session < 0 ∨ 4 ≤ x.session) ∨ (okKey x.key = false ∨ x.value < 0 ∨ 4294967295 < x.value) ∨ x.epoch < E x.session.toNat
    · refine (racc_early h2' x hx (.inr hbad)).mono ?_
      rintro e w' ⟨rfl, g1, g2⟩
      rw [g1] at t2
      have t2' : (accept s x).2 = s := t2
      exact ⟨F, by simp only [accept?]; rw [t1], by simp only [accept?]; rw [t2']; exact keep w' g2, fun k hk => .inl hk, g2.mono (fun _ h => h.elim)⟩
    · have hs : ¬ (x.session < 0 ∨ 4 ≤ x.session) := fun e => hbad (.inl e)
      have hk : ¬ (okKey x.key = false ∨ x.value < 0 ∨ 4294967295 < x.value) := fun e => hbad (.inr (.inl e))
      have he : ¬ x.epoch < E x.session.toNat := fun e => hbad (.inr (.inr e))
      obtain ⟨i, hi⟩ : ∃ i : Nat, x.session = i := ⟨x.session.toNat, by omega⟩
      have hin : x.session.toNat = i := by omega
      have e1 : accX E B Q T false x = accR2 E B Q T i x := by unfold accX; rw [if_neg (by simp), if_neg hs, if_neg hk, if_neg he, hin]
      rw [hin] at he t2
      rw [e1] at t1 t2
      have hok : okKey x.key = true := by
        cases hh : okKey x.key
        · exact absurd (.inl hh) hk
        · rfl
      have hw := (waitsR_range Q (fun i hi => by have := hT.short hi; omega) 4 (by omega)).1
      have htot := hT.tot
      refine (racc_main h2' x hx i (by omega) hi hok (by omega) he h3.t (by have := h3.h; omega) (fun j hj => hT.short hj) (fun j hj => by have := hT.ba j hj; have := h3.t; omega)).mono ?_
      rintro e w' ⟨rfl, g1⟩
      obtain ⟨r, hr⟩ : ∃ r, r = (accR2 E B Q T i x).2 := ⟨_, rfl⟩
      rw [← hr] at g1 t2
      cases r with
      | none =>
        have t2' : (accept s x).2 = s := t2
        have g1' : Chg (fun _ => False) w w' := g1
        exact ⟨F, by simp only [accept?]; rw [t1], by simp only [accept?]; rw [t2']; exact keep w' g1', fun k hk => .inl hk, g1'.mono (fun _ h => h.elim)⟩
      | some r =>
        obtain ⟨V', vt', r1, r2, r3⟩ := g1
        have t2' : RTie (updF E i r.1) (updF B i r.2.1) (updF Q i r.2.2.1) r.2.2.2 Hs (accept s x).2 := t2
        refine ⟨fun k => F k ∨ (w.heap.size ≤ k ∧ k < w'.heap.size), by simp only [accept?]; rw [t1], ⟨b, rfl, .inl hb, fun k hk => ?_, _, _, V', vt', vh, _, _, Hs, r1, t2'.fit h3.h, fun s' hs' => ?_, fun k hk => ?_⟩, fun k hk => hk.imp id (fun h => h.1), r3.mono (fun k hk => by rw [hk]; exact hb)⟩
        · rcases hk with hk | hk
          · exact Nat.lt_of_lt_of_le (h1 k hk) r3.size
          · exact hk.2
        · simp only [accept?, Option.some.injEq] at hs'
          subst hs'
          exact t2'
        · rcases hk with ⟨j, hj, hk⟩ | hk | hk
          · exact .inr ⟨r2 k (.inl ⟨j, hj, hk⟩), ((r1.rows j hj).lt k hk).2⟩
          · exact .inr ⟨r2 k (.inr hk), (r1.taken.lt k hk).2⟩
          · exact .inl (h5 k (.inr (.inr hk)))
end Go.Proofs.YthedkdbgfdjlkaaGreatDoor

namespace Go.Proofs.YthedkdbgfdjlkaaGreatDoor
set_option linter.unusedVariables false
set_option linter.unusedSimpArgs false
open Go.RowKit Go.Lib
theorem ref_state {N : Nat} {w : World} {a : Addr} {o : Option St} {F : Nat → Prop} (h : RefRel N w a o F) (hN : N ≤ 1000000000) : Calls Tryz.prog 48 #[.pointer (some a)] w fun e w' =>
    ∃ vs vk, e = .returned (.tuple #[.agg #[vs, vk], .int .i64 (errno? o)]) ∧ StateAt w' w.heap.size vs vk (state? o) ∧ RefRel N w' a o F ∧ Chg (fun _ => False) w w' := by
  have h0 := h
  obtain ⟨b, rfl, hb, h1, E, B, V, vt, vh, Q, T, Hs, h2, h3, h4, h5⟩ := h
  have keep : ∀ w', Chg (fun _ => False) w w' → RefRel N w' ⟨b, 0, none⟩ o F := fun w' c => ref_stable h0 (fun k hk => c.block k (h1 k hk) id)
  cases o with
  | none =>
    refine (rstate_closed h2).mono ?_
    rintro e w' ⟨rfl, g2⟩
    exact ⟨_, _, rfl, ⟨⟨[], rfl, World.ownsRow_nil _ _ _ _, fun i l u hl => by simp [state?] at hl⟩, World.ownsRow_nil _ _ _ _⟩, keep w' g2, g2⟩
  | some s =>
    have hT := h4 s rfl
    have h2' : RefAt w 0 b E B V vt vh Q T Hs false := h2
    refine (rstate_open h2' h3.t (by have := h3.h; omega) (fun j hj => by have := hT.short hj; omega) (fun j hj => by have := hT.ba j hj; have := h3.t; omega) h3.val h3.tok).mono ?_
    rintro e w' ⟨vs, vk, U, rfl, g1, g2, g3, g4⟩
    refine ⟨vs, vk, rfl, ⟨⟨[U 0, U 1, U 2, U 3], ?_, ?_, fun i l u hl hu => ?_⟩, ?_⟩, keep w' g4, g4⟩
    · simp [state?, hT.four]
    · obtain ⟨l0, c0, a0, b0, _⟩ := hT.lane 0 (by omega)
      obtain ⟨l1, c1, a1, b1, _⟩ := hT.lane 1 (by omega)
      obtain ⟨l2, c2, a2, b2, _⟩ := hT.lane 2 (by omega)
      obtain ⟨l3, c3, a3, b3, _⟩ := hT.lane 3 (by omega)
      have h4' := hT.four
      simp only [state?]
      match hs : s.lanes, h4' with
      | [x0, x1, x2, x3], _ =>
        rw [hs] at c0 c1 c2 c3
        simp at c0 c1 c2 c3
        subst c0 c1 c2 c3
        simpa [sessCells, sessR, a0, b0, a1, b1, a2, b2, a3, b3] using g1
    · have hi : i < 4 := by
        have := (List.getElem?_eq_some_iff.1 hl).1
        simp only [state?] at this
        rw [hT.four] at this
        exact this
      have hu' : u = U i := by
        rcases (by omega : i = 0 ∨ i = 1 ∨ i = 2 ∨ i = 3) with rfl | rfl | rfl | rfl <;> simp at hu <;> exact hu.symm
      obtain ⟨l', c, e1, e2, e3, e4, e5⟩ := hT.lane i hi
      have : l' = l := by simp only [state?] at hl; rw [hl] at c; exact (Option.some.inj c).symm
      subst this
      have hn := nums_both e3 e4 e5
      have hg := g2 i hi
      rw [hn] at hg
      rw [hu']
      unfold intCells at hg
      rw [List.map_map, List.length_map] at hg
      exact hg
    · simp only [state?]
      rw [hT.keys, ← keysR_eq]
      exact g3
theorem ref_puts {N : Nat} {w : World} {a : Addr} {o : Option St} {F : Nat → Prop} (h : RefRel N w a o F) (hN : N ≤ 1000000000) : Calls Tryz.prog 52 #[.pointer (some a)] w fun e w' =>
    ∃ vp, e = .returned (.tuple #[vp, .int .i64 (errno? o)]) ∧ w'.ownsRow w.heap.size 63 3 vp (puts? o).length (putCells (puts? o)) ∧ RefRel N w' a o F ∧ Chg (fun _ => False) w w' := by
  have h0 := h
  obtain ⟨b, rfl, hb, h1, E, B, V, vt, vh, Q, T, Hs, h2, h3, h4, h5⟩ := h
  have keep : ∀ w', Chg (fun _ => False) w w' → RefRel N w' ⟨b, 0, none⟩ o F := fun w' c => ref_stable h0 (fun k hk => c.block k (h1 k hk) id)
  cases o with
  | none =>
    refine (rputs_closed h2).mono ?_
    rintro e w' ⟨rfl, g2⟩
    exact ⟨_, rfl, World.ownsRow_nil _ _ _ _, keep w' g2, g2⟩
  | some s =>
    have hT := h4 s rfl
    have h2' : RefAt w 0 b E B V vt vh Q T Hs false := h2
    refine (rputs_open h2' h3.t (by have := h3.h; omega) h3.val h3.tok).mono ?_
    rintro e w' ⟨vp, rfl, g1, g2⟩
    refine ⟨vp, rfl, ?_, keep w' g2, g2⟩
    simp only [puts?]
    rw [hT.keys, ← keysR_eq]
    exact g1
theorem ref_close {N : Nat} {w : World} {a : Addr} {o : Option St} {F : Nat → Prop} (h : RefRel N w a o F) : Calls Tryz.prog 51 #[.pointer (some a)] w fun e w' =>
    e = .returned (.int .i64 (errno? o)) ∧ RefRel N w' a none F ∧ Chg F w w' := by
  obtain ⟨b, rfl, hb, h1, E, B, V, vt, vh, Q, T, Hs, h2, h3, h4, h5⟩ := h
  refine (rclose_any h2).mono ?_
  rintro e w' ⟨rfl, g1, g2⟩
  refine ⟨?_, ⟨b, rfl, hb, fun k hk => Nat.lt_of_lt_of_le (h1 k hk) g2.size, E, B, V, vt, vh, Q, T, Hs, g1, h3, fun s hs => (by cases hs), h5⟩, g2.mono (fun k hk => by rw [hk]; exact hb)⟩
  cases o <;> rfl
theorem findKy_held (Hs : List Hd) (key : ByteArray) : ∀ ks : List Ky, findKy key (ks.map (withHeld Hs)) = (findKy key ks).map (withHeld Hs)
  | [] => rfl
  | k :: r => by
    have ih := findKy_held Hs key r
    simp only [List.map_cons, findKy]
    have e : (withHeld Hs k).name = k.name := rfl
    rw [e]
    split
    · rfl
    · exact ih
theorem findKy_tally (T : List Rec) (key : ByteArray) : (∀ k, findKy key (keysOf T []) = some k → k.name = key ∧ k.count = (tally key T).1 ∧ 1 ≤ (tally key T).1) ∧ (findKy key (keysOf T []) = none → (tally key T).1 = 0) := by
  have hin : ∀ ks : List Ky, (∀ k, findKy key ks = some k → k ∈ ks ∧ k.name = key) ∧ (findKy key ks = none → ∀ k ∈ ks, k.name ≠ key) := by
    intro ks
    induction ks with
    | nil => exact ⟨fun k h => by simp [findKy] at h, fun _ k hk => by simp at hk⟩
    | cons y r ih =>
      refine ⟨fun k h => ?_, fun h k hk => ?_⟩
      · unfold findKy at h
        split at h
        · rename_i e
          have := Option.some.inj h
          subst this
          exact ⟨by simp, e⟩
        · have := ih.1 k h
          exact ⟨by simp [this.1], this.2⟩
      · unfold findKy at h
        split at h
        · cases h
        · rename_i e
          rcases List.mem_cons.1 hk with rfl | hk
          · exact e
          · exact ih.2 h k hk
  obtain ⟨k1, k2, k3⟩ := keysOf_tally T
  refine ⟨fun k hk => ?_, fun hn => ?_⟩
  · obtain ⟨h1, h2⟩ := (hin _).1 k hk
    have h3 := k2 k h1
    rw [h2] at h3
    have e : k.count = (tally key T).1 := by rw [← h3]
    refine ⟨h2, e, ?_⟩
    -- the key is of some record
    rcases keysOf_names T [] k h1 with ⟨y, hy, _⟩ | ⟨x, hx, ex⟩
    · simp at hy
    · rw [h2] at ex
      obtain ⟨i, hi, ei⟩ := List.getElem_of_mem hx
      have hxi : T[i]? = some x := by rw [List.getElem?_eq_getElem hi, ei]
      have h4 := tally_take_next key T i x hxi
      have h5 := tally_take_le key T i
      have h6 := tally_take_le key T (i + 1)
      rw [h4] at h6
      unfold tallyOne at h6
      rw [if_pos ex] at h6
      simp only at h6
      omega
  · have := (hin _).2 hn
    have h0 : tally key T = (0, 0) := tally_none _ _ _ (fun x hx e => by
      obtain ⟨k, hk, ek⟩ := k3 x hx
      exact this k hk (ek.trans e))
    rw [h0]
theorem hold_both {T : List Rec} {Hs : List Hd} {key : ByteArray} {n : Int} : ∀ ks : List Ky, (ks.map (·.name)).Nodup → holdKy key n (ks.map (withHeld Hs)) = ks.map (withHeld (Hs ++ [⟨key, n⟩]))
  | [], _ => rfl
  | k :: r, hn => by
    simp only [List.map_cons, List.nodup_cons] at hn
    have ih := hold_both (T := T) (Hs := Hs) (key := key) (n := n) r hn.2
    have hh : ∀ name, heldOf name (Hs ++ [⟨key, n⟩]) = if key = name then max (heldOf name Hs) n else heldOf name Hs := fun name => by
      unfold heldOf
      rw [List.foldl_append]
      rfl
    simp only [List.map_cons, holdKy]
    have e : (withHeld Hs k).name = k.name := rfl
    rw [e]
    by_cases hk : k.name = key
    · rw [if_pos hk]
      have h1 : withHeld (Hs ++ [⟨key, n⟩]) k = ⟨(withHeld Hs k).name, (withHeld Hs k).count, (withHeld Hs k).fold, max (withHeld Hs k).held n⟩ := by
        unfold withHeld
        rw [hh, if_pos hk.symm]
      have h2 : r.map (withHeld (Hs ++ [⟨key, n⟩])) = r.map (withHeld Hs) := List.map_congr_left fun y hy => by
        unfold withHeld
        rw [hh, if_neg (fun e2 => hn.1 (List.mem_map.2 ⟨y, hy, by rw [hk]; exact e2.symm⟩))]
      rw [h1, h2]
      rfl
    · rw [if_neg hk, ih]
      have h1 : withHeld (Hs ++ [⟨key, n⟩]) k = withHeld Hs k := by
        unfold withHeld
        rw [hh, if_neg (fun e2 => hk e2.symm)]
      rw [h1]
theorem rans_tie {E B : Nat → Int} {Q : Nat → List Rec} {T : List Rec} {Hs : List Hd} {s : St} (h : RTie E B Q T Hs s) (key : ByteArray) (n : Int) :
    (answer s key n).1 = (ansX T false key n).1 ∧ ((ansX T false key n).2 = none → (answer s key n).2 = s) ∧ (∀ p, (ansX T false key n).2 = some p → RTie E B Q T (Hs ++ [p]) (answer s key n).2) := by
  unfold answer ansX
  rw [if_neg (show ¬ false = true by simp)]
  by_cases hok : okKey key = false
  · rw [if_pos hok, if_pos hok]
    exact ⟨rfl, fun _ => rfl, fun p hp => by cases hp⟩
  · rw [if_neg hok, if_neg hok, h.keys, findKy_held]
    obtain ⟨f1, f2⟩ := findKy_tally T key
    cases hf : findKy key (keysOf T []) with
    | none =>
      rw [if_pos (f2 hf)]
      exact ⟨rfl, fun _ => rfl, fun p hp => by cases hp⟩
    | some k =>
      obtain ⟨k1, k2, k3⟩ := f1 k hf
      rw [if_neg (by omega)]
      have ec : (withHeld Hs k).count = (tally key T).1 := k2
      simp only [Option.map_some, ec]
      by_cases hb : n < 0 ∨ (tally key T).1 < n
      · rw [if_pos hb, if_pos hb]
        exact ⟨rfl, fun _ => rfl, fun p hp => by cases hp⟩
      · rw [if_neg hb, if_neg hb]
        refine ⟨rfl, fun hp => (by cases hp), fun p hp => ?_⟩
        simp only [Option.some.injEq] at hp
        subst hp
        have hnd : ((keysOf T []).map (·.name)).Nodup := by
          unfold List.Nodup
          rw [List.pairwise_map]
          refine (keysOf_tally T).1.imp fun {a b} hab e => ?_
          rw [e, less_irrefl] at hab
          cases hab
        refine ⟨h.four, h.lane, hold_both (T := T) _ hnd, fun q hq => ?_, fun q hq => ?_, h.val, h.wal, h.ep, h.ba, h.tot⟩
        · rcases List.mem_append.1 hq with hq | hq
          · exact h.held q hq
          · simp at hq
            subst hq
            by_cases hx : ∃ x ∈ T, x.key = key
            · exact hx
            · have h0 : tally key T = (0, 0) := tally_none _ _ _ (fun x hx' e => hx ⟨x, hx', e⟩)
              rw [h0] at k3
              simp at k3
        · rcases List.mem_append.1 hq with hq | hq
          · exact h.tok q hq
          · simp at hq
            subst hq
            simp only
            omega
theorem ref_answer {N : Nat} {w : World} {a : Addr} {o : Option St} {F : Nat → Prop} (key : ByteArray) (n : Int) (h : RefRel N w a o F) (hkey : key.size ≤ maxLen) (hn : inInt n) (hN : N < 1000000000) : Calls Tryz.prog 55 #[.pointer (some a), .string key, .int .i64 n] w fun e w' =>
    ∃ F', e = .returned (.int .i64 (answer? o key n).1) ∧ RefRel (N + 1) w' a (answer? o key n).2 F' ∧ (∀ k, F' k → F k ∨ w.heap.size ≤ k) ∧ Chg F w w' := by
  have h0 := h
  obtain ⟨b, rfl, hb, h1, E, B, V, vt, vh, Q, T, Hs, h2, h3, h4, h5⟩ := h
  have keep : ∀ w', Chg (fun _ => False) w w' → RefRel (N + 1) w' ⟨b, 0, none⟩ o F := fun w' c => ref_more (ref_stable h0 (fun k hk => c.block k (h1 k hk) id)) (by omega)
  refine (ranswer_any h2 key n hkey hn h3.t (by have := h3.h; omega) (fun x hx => (h3.val x hx).1) h3.tok).mono ?_
  rintro e w' ⟨rfl, g1⟩
  cases o with
  | none =>
    have e1 : ansX T true key n = (1, none) := by unfold ansX; rw [if_pos rfl]
    have g1' : Chg (fun _ => False) w w' := by
      have : RansPost w w' 0 b E B V vt vh Q T Hs (ansX T true key n).2 := g1
      rw [e1] at this
      exact this
    exact ⟨F, by show _ = _; simp only [Option.isNone, e1, answer?], keep w' g1', fun k hk => .inl hk, g1'.mono (fun _ h => h.elim)⟩
  | some s =>
    have hT := h4 s rfl
    obtain ⟨t1, t2, t3⟩ := rans_tie hT key n
    have g2 : RansPost w w' 0 b E B V vt vh Q T Hs (ansX T false key n).2 := g1
    obtain ⟨r, hr⟩ : ∃ r, r = (ansX T false key n).2 := ⟨_, rfl⟩
    rw [← hr] at g2 t2 t3
    cases r with
    | none =>
      have g2' : Chg (fun _ => False) w w' := g2
      exact ⟨F, by simp only [answer?]; rw [t1]; rfl, by simp only [answer?]; rw [t2 rfl]; exact keep w' g2', fun k hk => .inl hk, g2'.mono (fun _ h => h.elim)⟩
    | some p =>
      obtain ⟨vh', r1, r2, r3⟩ := g2
      have hT' := t3 p rfl
      refine ⟨fun k => F k ∨ (w.heap.size ≤ k ∧ k < w'.heap.size), by simp only [answer?]; rw [t1]; rfl, ⟨b, rfl, .inl hb, fun k hk => ?_, E, B, V, vt, vh', Q, T, _, r1, hT'.fit (by have := h3.h; simp; omega), fun s' hs' => ?_, fun k hk => ?_⟩, fun k hk => hk.imp id (fun h => h.1), r3.mono (fun k hk => ?_)⟩
      · rcases hk with hk | hk
        · exact Nat.lt_of_lt_of_le (h1 k hk) r3.size
        · exact hk.2
      · simp only [answer?, Option.some.injEq] at hs'
        subst hs'
        exact hT'
      · rcases hk with ⟨j, hj, hk⟩ | hk | hk
        · exact .inl (h5 k (.inl ⟨j, hj, hk⟩))
        · exact .inl (h5 k (.inr (.inl hk)))
        · rcases r2 with e | e
          · exact .inl (h5 k (.inr (.inr (by rw [← e]; exact hk))))
          · exact .inr ⟨e k hk, (r1.held.lt k hk).2⟩
      · rcases hk with rfl | hk
        · exact hb
        · exact h5 k (.inr (.inr hk))
theorem ref_blank {w : World} {b : Nat} (hB : Blk w b 15 (blank false)) : RefRel 0 w ⟨b, 0, none⟩ (some St.init) (fun k => k = b) := by
  have hbl : b < w.heap.size := World.block_lt_of_cell? _ _ (hB.cell 0 (by omega))
  refine ⟨b, rfl, rfl, fun k hk => by omega, fun _ => 0, fun _ => 0, fun _ => .slice none 0 0, .slice none 0 0, .slice none 0 0, fun _ => [], [], [], ⟨fun i hi => ?_, fun i hi => ?_, fun i hi => ?_, hB.cell 12 (by omega), hB.cell 13 (by omega), hB.cell 14 (by omega), hB.fz, fun i hi => World.ownsRow_nil _ _ _ _, World.ownsRow_nil _ _ _ _, World.ownsRow_nil _ _ _ _, fun i hi => by simp [Value.ownBlock], by simp [Value.ownBlock], by simp [Value.ownBlock], fun i j _ _ _ g hg => by simp [Value.ownBlock] at hg, fun i _ g hg => by simp [Value.ownBlock] at hg, fun i _ g hg => by simp [Value.ownBlock] at hg, fun g hg => by simp [Value.ownBlock] at hg, Nat.zero_le _⟩, ⟨by simp, by simp, by simp, by simp⟩, fun s hs => ?_, fun k hk => ?_⟩
  · rcases (by omega : i = 0 ∨ i = 1 ∨ i = 2 ∨ i = 3) with rfl | rfl | rfl | rfl
    · exact hB.cell 0 (by omega)
    · exact hB.cell 3 (by omega)
    · exact hB.cell 6 (by omega)
    · exact hB.cell 9 (by omega)
  · rcases (by omega : i = 0 ∨ i = 1 ∨ i = 2 ∨ i = 3) with rfl | rfl | rfl | rfl
    · exact hB.cell 1 (by omega)
    · exact hB.cell 4 (by omega)
    · exact hB.cell 7 (by omega)
    · exact hB.cell 10 (by omega)
  · rcases (by omega : i = 0 ∨ i = 1 ∨ i = 2 ∨ i = 3) with rfl | rfl | rfl | rfl
    · exact hB.cell 2 (by omega)
    · exact hB.cell 5 (by omega)
    · exact hB.cell 8 (by omega)
    · exact hB.cell 11 (by omega)
  · simp only [Option.some.injEq] at hs
    subst hs
    refine ⟨rfl, fun i hi => ⟨Ln.init, ?_, rfl, rfl, .refl _, List.Pairwise.nil, by simp [Ln.init]⟩, rfl, fun p hp => by simp at hp, fun p hp => by simp at hp, fun x hx => by simp at hx, fun i _ x hx => by simp at hx, fun i _ => by omega, fun i _ => by simp, by simp [waitsR]⟩
    rcases (by omega : i = 0 ∨ i = 1 ∨ i = 2 ∨ i = 3) with rfl | rfl | rfl | rfl <;> rfl
  · rcases hk with ⟨i, _, hk⟩ | hk | hk <;> simp [Value.ownBlock] at hk
end Go.Proofs.YthedkdbgfdjlkaaGreatDoor

namespace Go.Proofs.YthedkdbgfdjlkaaGreatDoor
set_option linter.unusedVariables false
set_option linter.unusedSimpArgs false
structure Rs where
  at_ : Nat
  err : Option (Nat × Int)
def Rs.fail (r : Rs) (f : Int) : Rs := match r.err with
  | none => ⟨r.at_, some (r.at_, f)⟩
  | some _ => r
def rText (row : ByteArray) (n : Nat) (r : Rs) : ByteArray × Rs := match r.err with
  | some _ => (⟨#[]⟩, r)
  | none => if row.size < r.at_ + n then (⟨#[]⟩, ⟨r.at_, some (r.at_, 1)⟩) else (row.extract r.at_ (r.at_ + n), ⟨r.at_ + n, none⟩)
def rNumFrom (row : ByteArray) : Nat → Nat → Nat → Rs → Nat × Rs
  | 0, _, _, r => (0, r.fail 2)
  | k + 1, sh, sum, r => match (rText row 1 r).1.data.toList with
    | [] => (0, (rText row 1 r).2)
    | c :: _ => if c.toNat < 128 then (sum + c.toNat % 128 * 2 ^ sh, (rText row 1 r).2) else rNumFrom row k (sh + 7) (sum + c.toNat % 128 * 2 ^ sh) (rText row 1 r).2
def rNum (row : ByteArray) (r : Rs) : Nat × Rs := rNumFrom row 9 0 0 r
def rUpTo (row : ByteArray) (limit : Nat) (r : Rs) : Nat × Rs := if limit < (rNum row r).1 then (0, (rNum row r).2.fail 2) else rNum row r
def rKey (row : ByteArray) (r : Rs) : ByteArray × Rs := rText row (rUpTo row 6 r).1 (rUpTo row 6 r).2
def rPair (row : ByteArray) (r : Rs) : (Int × Int) × Rs := (((rNum row r).1, (rNum row (rNum row r).2).1), (rNum row (rNum row r).2).2)
def rRec (row : ByteArray) (r : Rs) : Rec × Rs :=
  let a := rNum row r
  let b := rNum row a.2
  let c := rNum row b.2
  let d := rKey row c.2
  let e := rNum row d.2
  (⟨a.1, b.1, c.1, d.1, e.1⟩, e.2)
def rKy (row : ByteArray) (r : Rs) : Ky × Rs :=
  let a := rKey row r
  let b := rNum row a.2
  let c := rNum row b.2
  let d := rNum row c.2
  (⟨a.1, b.1, c.1, d.1⟩, d.2)
def rMany {α : Type} (f : Rs → α × Rs) : Nat → Rs → List α × Rs
  | 0, r => ([], r)
  | k + 1, r => ((rMany f k r).1 ++ [(f (rMany f k r).2).1], (f (rMany f k r).2).2)
def keyCan (k : Ky) : Bool := okKey k.name && decide (0 ≤ k.fold) && decide (k.fold ≤ 4294967295) && decide (1 ≤ k.count) && decide (k.count ≤ 1000) && decide (0 ≤ k.held) && decide (k.held ≤ k.count)
def keysCan : ByteArray → List Ky → Bool
  | _, [] => true
  | last, k :: r => keyCan k && less last k.name && keysCan k.name r
def sessCan (s : Int × Int) : Bool := decide (0 ≤ s.1) && decide (0 ≤ s.2) && decide (s.2 ≤ 1000)
def basesOf : List (Int × Int) → Int
  | [] => 0
  | s :: r => s.2 + basesOf r
def canBe (ss : List (Int × Int)) (ks : List Ky) : Bool :=
  decide (ss.length = 4) && decide (ks.length ≤ 4) && keysCan ⟨#[]⟩ ks && ss.all sessCan && decide (counts ks ≤ 1000) && decide (basesOf ss ≤ counts ks)
def acceptAll : St → List Rec → Option St
  | s, [] => some s
  | s, x :: r => if (accept s x).1.2 = 0 then acceptAll (accept s x).2 r else none
def bare (ss : List (Int × Int)) (ks : List Ky) : St := ⟨ss.map fun s => (⟨s.1, s.2, []⟩ : Ln), ks⟩
def restore (ss : List (Int × Int)) (ks : List Ky) (xs : List Rec) : Option St := if canBe ss ks then acceptAll (bare ss ks) xs else none
def markA : ByteArray := ⟨#[99, 117, 108, 118, 101, 114, 116, 49]⟩
def rMark (row : ByteArray) (r : Rs) : Rs := if (rText row 8 r).1 = markA then (rText row 8 r).2 else (rText row 8 r).2.fail 2
def rParts (row : ByteArray) (r : Rs) : List (Int × Int) × List Ky × List Rec × Rs :=
  let a := rMany (rPair row) 4 (rMark row r)
  let n := rUpTo row 4 a.2
  let b := rMany (rKy row) n.1 n.2
  let m := rUpTo row 12 b.2
  let c := rMany (rRec row) m.1 m.2
  (a.1, b.1, c.1, c.2)
def rHead (row : ByteArray) (r : Rs) : Option St × Rs :=
  match (rParts row r).2.2.2.err with
  | some _ => (none, (rParts row r).2.2.2)
  | none => match restore (rParts row r).1 (rParts row r).2.1 (rParts row r).2.2.1 with
    | none => (none, (rParts row r).2.2.2.fail 2)
    | some s => (some s, (rParts row r).2.2.2)
def accR : ByteArray := ⟨#[114]⟩
def ansR : ByteArray := ⟨#[97]⟩
def rEntry (row : ByteArray) (s : St) (r : Rs) : St × Rs :=
  let t := rText row 1 r
  if t.1 = accR then
    let x := rRec row t.2
    match x.2.err with
    | some _ => (s, x.2)
    | none => ((accept s x.1).2, if (accept s x.1).1.2 = 0 then x.2 else x.2.fail 2)
  else if t.1 = ansR then
    let k := rKey row t.2
    let n := rNum row k.2
    match n.2.err with
    | some _ => (s, n.2)
    | none => ((answer s k.1 n.1).2, if (answer s k.1 n.1).1 = 0 then n.2 else n.2.fail 2)
  else (s, t.2.fail 2)
def rLoop (row : ByteArray) : Nat → St → Rs → Nat → St × Nat × Rs
  | 0, s, r, c => (s, c, r)
  | f + 1, s, r, c => match r.err with
    | some _ => (s, c, r)
    | none => if r.at_ = row.size then (s, r.at_, r) else rLoop row f (rEntry row s r).1 (rEntry row s r).2 r.at_
def opens (row : ByteArray) : Option (St × Nat) :=
  match (rHead row ⟨0, none⟩).1 with
  | none => none
  | some s =>
    let q := rLoop row (row.size + 1) s (rHead row ⟨0, none⟩).2 0
    match q.2.2.err with
    | none => some (q.1, q.2.1)
    | some (_, f) => if f = 1 then some (q.1, q.2.1) else none
theorem Rs.fail_none (r : Rs) (f : Int) (h : r.err = none) : r.fail f = ⟨r.at_, some (r.at_, f)⟩ := by unfold Rs.fail; rw [h]
theorem Rs.fail_some (r : Rs) (f : Int) {e} (h : r.err = some e) : r.fail f = r := by unfold Rs.fail; rw [h]
theorem rText_some (row : ByteArray) (n : Nat) (r : Rs) {e} (h : r.err = some e) : rText row n r = (⟨#[]⟩, r) := by unfold rText; rw [h]
theorem rText_cut (row : ByteArray) (n : Nat) (r : Rs) (h : r.err = none) (hs : row.size < r.at_ + n) : rText row n r = (⟨#[]⟩, ⟨r.at_, some (r.at_, 1)⟩) := by unfold rText; rw [h]; simp [hs]
theorem rText_ok (row : ByteArray) (n : Nat) (r : Rs) (h : r.err = none) (hs : ¬ row.size < r.at_ + n) : rText row n r = (row.extract r.at_ (r.at_ + n), ⟨r.at_ + n, none⟩) := by unfold rText; rw [h]; simp [hs]
structure Rs.on (row : ByteArray) (r r' : Rs) : Prop where
  le : r.at_ ≤ r'.at_
  fits : r.at_ ≤ row.size → r'.at_ ≤ row.size
  stuck : ∀ e, r.err = some e → r' = r
theorem Rs.on.refl (row : ByteArray) (r : Rs) : Rs.on row r r := ⟨Nat.le_refl _, id, fun _ _ => rfl⟩
theorem Rs.on.trans {row : ByteArray} {a b c : Rs} (h : Rs.on row a b) (g : Rs.on row b c) : Rs.on row a c :=
  ⟨Nat.le_trans h.le g.le, fun x => g.fits (h.fits x), fun e he => by have := h.stuck e he; subst this; exact g.stuck e he⟩
theorem Rs.on.fail (row : ByteArray) (r : Rs) (f : Int) : Rs.on row r (r.fail f) := by
  cases h : r.err with
  | none => rw [r.fail_none f h]; exact ⟨Nat.le_refl _, id, fun e he => by rw [h] at he; cases he⟩
  | some e => rw [r.fail_some f h]; exact Rs.on.refl _ _
theorem Rs.on.text (row : ByteArray) (n : Nat) (r : Rs) : Rs.on row r (rText row n r).2 := by
  cases h : r.err with
  | some e => rw [rText_some row n r h]; exact Rs.on.refl _ _
  | none =>
    by_cases hs : row.size < r.at_ + n
    · rw [rText_cut row n r h hs]; exact ⟨Nat.le_refl _, id, fun e he => by rw [h] at he; cases he⟩
    · rw [rText_ok row n r h hs]; exact ⟨Nat.le_add_right _ _, fun _ => by simp only; omega, fun e he => by rw [h] at he; cases he⟩
theorem Rs.on.numFrom (row : ByteArray) : ∀ (k sh sum : Nat) (r : Rs), Rs.on row r (rNumFrom row k sh sum r).2
  | 0, sh, sum, r => Rs.on.fail row r 2
  | k + 1, sh, sum, r => by
    unfold rNumFrom
    split
    · exact Rs.on.text row 1 r
    · split
      · exact Rs.on.text row 1 r
      · exact (Rs.on.text row 1 r).trans (Rs.on.numFrom row k _ _ _)
theorem Rs.on.num (row : ByteArray) (r : Rs) : Rs.on row r (rNum row r).2 := Rs.on.numFrom row 9 0 0 r
theorem Rs.on.upTo (row : ByteArray) (n : Nat) (r : Rs) : Rs.on row r (rUpTo row n r).2 := by
  unfold rUpTo
  split
  · exact (Rs.on.num row r).trans (Rs.on.fail row _ 2)
  · exact Rs.on.num row r
theorem Rs.on.key (row : ByteArray) (r : Rs) : Rs.on row r (rKey row r).2 := (Rs.on.upTo row 6 r).trans (Rs.on.text row _ _)
theorem Rs.on.pair (row : ByteArray) (r : Rs) : Rs.on row r (rPair row r).2 := (Rs.on.num row r).trans (Rs.on.num row _)
theorem Rs.on.rec_ (row : ByteArray) (r : Rs) : Rs.on row r (rRec row r).2 := ((((Rs.on.num row r).trans (Rs.on.num row _)).trans (Rs.on.num row _)).trans (Rs.on.key row _)).trans (Rs.on.num row _)
theorem Rs.on.ky (row : ByteArray) (r : Rs) : Rs.on row r (rKy row r).2 := (((Rs.on.key row r).trans (Rs.on.num row _)).trans (Rs.on.num row _)).trans (Rs.on.num row _)
theorem Rs.on.many {α : Type} {row : ByteArray} {f : Rs → α × Rs} (hf : ∀ r, Rs.on row r (f r).2) (r : Rs) : ∀ k, Rs.on row r (rMany f k r).2
  | 0 => Rs.on.refl _ _
  | k + 1 => (Rs.on.many hf r k).trans (hf _)
theorem Rs.on.mark (row : ByteArray) (r : Rs) : Rs.on row r (rMark row r) := by
  unfold rMark
  split
  · exact Rs.on.text row 8 r
  · exact (Rs.on.text row 8 r).trans (Rs.on.fail row _ 2)
theorem rNumFrom_lt (row : ByteArray) : ∀ (k sh sum : Nat) (r : Rs), sum < 2 ^ sh → (rNumFrom row k sh sum r).1 < 2 ^ (sh + 7 * k)
  | 0, sh, sum, r, h => by simp only [rNumFrom]; exact Nat.two_pow_pos _
  | k + 1, sh, sum, r, h => by
    have hp : 2 ^ (sh + 7) = 128 * 2 ^ sh := by rw [Nat.pow_add]; omega
    have hsum : ∀ c : UInt8, sum + c.toNat % 128 * 2 ^ sh < 2 ^ (sh + 7) := fun c => by
      have h1 : c.toNat % 128 ≤ 127 := by omega
      have h2 : c.toNat % 128 * 2 ^ sh ≤ 127 * 2 ^ sh := Nat.mul_le_mul_right _ h1
      omega
    unfold rNumFrom
    split
    · exact Nat.two_pow_pos _
    · rename_i c _ _
      split
      · exact Nat.lt_of_lt_of_le (hsum c) (Nat.pow_le_pow_right (by omega) (by omega))
      · have := rNumFrom_lt row k (sh + 7) _ (rText row 1 r).2 (hsum c)
        rw [show sh + 7 * (k + 1) = sh + 7 + 7 * k by omega]
        exact this
theorem rNum_lt (row : ByteArray) (r : Rs) : (rNum row r).1 < 9223372036854775808 := rNumFrom_lt row 9 0 0 r (by omega)
theorem rUpTo_le (row : ByteArray) (n : Nat) (r : Rs) : (rUpTo row n r).1 ≤ n := by
  unfold rUpTo
  split
  · exact Nat.zero_le _
  · omega
theorem rText_size (row : ByteArray) (n : Nat) (r : Rs) : (rText row n r).1.size ≤ n := by
  cases h : r.err with
  | some e => rw [rText_some row n r h]; exact Nat.zero_le _
  | none =>
    by_cases hs : row.size < r.at_ + n
    · rw [rText_cut row n r h hs]; exact Nat.zero_le _
    · rw [rText_ok row n r h hs]; simp only [ByteArray.size_extract]; omega
theorem rKey_size (row : ByteArray) (r : Rs) : (rKey row r).1.size ≤ 6 := Nat.le_trans (rText_size row _ _) (rUpTo_le row 6 r)
end Go.Proofs.YthedkdbgfdjlkaaGreatDoor
