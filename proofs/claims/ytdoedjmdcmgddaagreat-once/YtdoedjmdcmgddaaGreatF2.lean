/- Steps of the flow's Accept, as steps of a flow in memory. -/
import Derived.Test.YtdoedjmdcmgddaaGreatF1
namespace Go.Proofs.YtdoedjmdcmgddaaGreat
set_option linter.unusedVariables false
set_option linter.unusedSimpArgs false
open Go.RowKit Go.Lib

theorem upd_same {α : Type} (f : Nat → α) (i : Nat) (x : α) : upd f i x i = x := by simp [upd]
theorem upd_ne {α : Type} (f : Nat → α) {i j : Nat} (x : α) (h : j ≠ i) : upd f i x j = f j := by simp [upd, h]

theorem FlowAt.update {w w' : World} {lo b o s : Nat} {E B : Nat → Int} {V : Nat → Value} {vk : Value} {Q : Nat → List Wt} {ks : List Ky} (h : FlowAt w lo b o E B V vk Q ks) (hs : s < 4) (hb : b < w.heap.size) {e' b' : Int} {v' vk' : Value} {q' : List Wt} {ks' : List Ky}
    (c0 : w'.cell? ⟨b, o + s * 3, none⟩ = some (.int .i64 e')) (c1 : w'.cell? ⟨b, o + s * 3 + 1, none⟩ = some (.int .i64 b')) (c2 : w'.cell? ⟨b, o + s * 3 + 2, none⟩ = some v') (c3 : w'.cell? ⟨b, o + 12, none⟩ = some vk')
    (sl : Slots b (fun j => j = o + s * 3 ∨ j = o + s * 3 + 1 ∨ j = o + s * 3 + 2 ∨ j = o + 12) w w') (cg : Chg (fun k => k = b ∨ (V s).ownBlock = some k ∨ vk.ownBlock = some k) w w')
    (r1 : w'.ownsRow lo 144 3 v' q'.length (wtCells q')) (r2 : w'.ownsRow lo 60 4 vk' ks'.length (keyCells ks'))
    (wv : v'.ownBlock = none ∨ v'.ownBlock = (V s).ownBlock ∨ ∀ k, v'.ownBlock = some k → w.heap.size ≤ k) (wk : vk'.ownBlock = vk.ownBlock ∨ ∀ k, vk'.ownBlock = some k → w.heap.size ≤ k)
    (dis : ∀ g, v'.ownBlock = some g → vk'.ownBlock ≠ some g) : FlowAt w' lo b o (upd E s e') (upd B s b') (upd V s v') vk' (upd Q s q') ks' := by
  have hlt : ∀ i, i < 4 → ∀ g, (V i).ownBlock = some g → g < w.heap.size := fun i hi g hg => ((h.rows i hi).lt g hg).2
  have hltk : ∀ g, vk.ownBlock = some g → g < w.heap.size := fun g hg => (h.keys.lt g hg).2
  refine ⟨⟨fun i hi => ?_, fun i hi => ?_, fun i hi => ?_, c3⟩, fun j => (sl.frozen j).trans (h.froz j), fun i hi => ?_, r2, fun i hi => ?_, ?_, fun i j hi hj hij g hg => ?_, fun i hi g hg => ?_, Nat.le_trans h.low cg.size⟩
  · by_cases e : i = s
    · subst e; rw [upd_same]; exact c0
    · rw [upd_ne _ _ e]; exact (sl.cell _ (by omega)).trans (h.cells.ep i hi)
  · by_cases e : i = s
    · subst e; rw [upd_same]; exact c1
    · rw [upd_ne _ _ e]; exact (sl.cell _ (by omega)).trans (h.cells.ba i hi)
  · by_cases e : i = s
    · subst e; rw [upd_same]; exact c2
    · rw [upd_ne _ _ e]; exact (sl.cell _ (by omega)).trans (h.cells.qu i hi)
  · by_cases e : i = s
    · subst e; rw [upd_same, upd_same]; exact r1
    · rw [upd_ne _ _ e, upd_ne _ _ e]
      refine cg.row' (h.rows i hi) (fun k hk hf => ?_)
      rcases hf with rfl | hf | hf
      · exact h.own i hi hk
      · exact h.sep i s hi hs e k hk hf
      · exact h.sepk i hi k hk hf
  · by_cases e : i = s
    · subst e; rw [upd_same]
      rcases wv with h' | h' | h'
      · rw [h']; simp
      · rw [h']; exact h.own i hi
      · intro hb'; have := h' b hb'; omega
    · rw [upd_ne _ _ e]; exact h.own i hi
  · rcases wk with h' | h'
    · rw [h']; exact h.ownk
    · intro hb'; have := h' b hb'; omega
  · by_cases e : i = s
    · subst e
      rw [upd_same] at hg
      rw [upd_ne _ _ (fun e => hij e.symm)]
      rcases wv with h' | h' | h'
      · rw [h'] at hg; cases hg
      · rw [h'] at hg; exact h.sep i j hi hj hij g hg
      · intro hj'; have := h' g hg; have := hlt j hj g hj'; omega
    · rw [upd_ne _ _ e] at hg
      by_cases e' : j = s
      · subst e'
        rw [upd_same]
        rcases wv with h' | h' | h'
        · rw [h']; simp
        · rw [h']; exact h.sep i j hi hj hij g hg
        · intro hj'; have := h' g hj'; have := hlt i hi g hg; omega
      · rw [upd_ne _ _ e']; exact h.sep i j hi hj hij g hg
  · by_cases e : i = s
    · subst e; rw [upd_same] at hg; exact dis g hg
    · rw [upd_ne _ _ e] at hg
      rcases wk with h' | h'
      · rw [h']; exact h.sepk i hi g hg
      · intro hj'; have := h' g hj'; have := hlt i hi g hg; omega

theorem FlowAt.chg {F : Nat → Prop} {w w' : World} {lo b o : Nat} {E B : Nat → Int} {V : Nat → Value} {vk : Value} {Q : Nat → List Wt} {ks : List Ky} (h : FlowAt w lo b o E B V vk Q ks) (hb : b < w.heap.size) (hc : Chg F w w') (hF : ¬ F b) (hV : ∀ i, i < 4 → ∀ k, (V i).ownBlock = some k → ¬ F k) (hK : ∀ k, vk.ownBlock = some k → ¬ F k) : FlowAt w' lo b o E B V vk Q ks :=
  ⟨h.cells.chg hc hF, fun j => (World.frozen?_of_block (w := w) (hc.block b hb hF)).trans (h.froz j), fun i hi => hc.row' (h.rows i hi) (hV i hi), hc.row' h.keys hK, h.own, h.ownk, h.sep, h.sepk, Nat.le_trans h.low hc.size⟩

def tV (E : Nat → Int) (V : Nat → Value) (s : Nat) (ep : Int) : Value := if E s < ep then .slice none 0 0 else V s

theorem turn_any {w : World} {lo b o s : Nat} {E B : Nat → Int} {V : Nat → Value} {vk : Value} {Q : Nat → List Wt} {ks : List Ky} (h : FlowAt w lo b o E B V vk Q ks) (hs : s < 4) (ep : Int) :
    Calls Tryz.prog 54 #[.pointer (some ⟨b, o + s * 3, none⟩), .int .i64 ep] w fun e w' => e = .returned (.tuple #[]) ∧
      FlowAt w' lo b o (upd E s (tE E s ep)) (upd B s (tB E B s ep)) (upd V s (tV E V s ep)) vk (upd Q s (tQ E Q s ep)) ks ∧ Chg (fun k => k = b) w w' := by
  have h0 := h.cells.ep s hs
  have h1 := h.cells.ba s hs
  have h2 := h.cells.qu s hs
  have hb : b < w.heap.size := World.block_lt_of_cell? _ _ h0
  by_cases hlt : E s < ep
  · refine (turn_new b (o + s * 3) (E s) ep (B s) (V s) w h0 h1 h2 (h.froz _) (h.froz _) (h.froz _) hlt).mono ?_
    rintro e w' ⟨rfl, rfl⟩
    have cg : Chg (fun k => k = b) w (((w.setCell ⟨b, o + s * 3, none⟩ (.int .i64 ep)).setCell ⟨b, o + s * 3 + 1, none⟩ (.int .i64 0)).setCell ⟨b, o + s * 3 + 2, none⟩ (.slice none 0 0)) :=
      (((Chg.refl (fun k => k = b) w).setCell (p := ⟨b, o + s * 3, none⟩) (fun _ => rfl) _).setCell (p := ⟨b, o + s * 3 + 1, none⟩) (fun _ => rfl) _).setCell (p := ⟨b, o + s * 3 + 2, none⟩) (fun _ => rfl) _
    have sl : Slots b (fun j => j = o + s * 3 ∨ j = o + s * 3 + 1 ∨ j = o + s * 3 + 2 ∨ j = o + 12) w (((w.setCell ⟨b, o + s * 3, none⟩ (.int .i64 ep)).setCell ⟨b, o + s * 3 + 1, none⟩ (.int .i64 0)).setCell ⟨b, o + s * 3 + 2, none⟩ (.slice none 0 0)) :=
      (((Slots.refl b _ w).setCell (p := ⟨b, o + s * 3, none⟩) _ (fun _ => Or.inl rfl)).setCell (p := ⟨b, o + s * 3 + 1, none⟩) _ (fun _ => Or.inr (Or.inl rfl))).setCell (p := ⟨b, o + s * 3 + 2, none⟩) _ (fun _ => Or.inr (Or.inr (Or.inl rfl)))
    have k0 : (w.setCell ⟨b, o + s * 3, none⟩ (.int .i64 ep)).cell? ⟨b, o + s * 3, none⟩ = some (.int .i64 ep) := World.cell?_setCell_same _ _ _ h0
    have k1 : (w.setCell ⟨b, o + s * 3, none⟩ (.int .i64 ep)).cell? ⟨b, o + s * 3 + 1, none⟩ = some (.int .i64 (B s)) := (World.cell?_setCell_other _ _ _ _ (by simp)).trans h1
    have k2 : ((w.setCell ⟨b, o + s * 3, none⟩ (.int .i64 ep)).setCell ⟨b, o + s * 3 + 1, none⟩ (.int .i64 0)).cell? ⟨b, o + s * 3 + 2, none⟩ = some (V s) := (World.cell?_setCell_other _ _ _ _ (by simp)).trans ((World.cell?_setCell_other _ _ _ _ (by simp)).trans h2)
    refine ⟨rfl, ?_, cg⟩
    have eE : tE E s ep = ep := by simp [tE, hlt]
    have eB : tB E B s ep = 0 := by simp [tB, hlt]
    have eV : tV E V s ep = .slice none 0 0 := by simp [tV, hlt]
    have eQ : tQ E Q s ep = [] := by simp [tQ, hlt]
    rw [eE, eB, eV, eQ]
    refine h.update hs hb ?_ ?_ (World.cell?_setCell_same _ _ _ k2) ?_ sl (cg.mono (fun k hk => .inl hk)) (World.ownsRow_nil _ _ _ _) (cg.row' h.keys (fun k hk e => h.ownk (by rw [← e]; exact hk))) (.inl rfl) (.inl rfl) (fun g hg => by simp [Value.ownBlock] at hg)
    · exact (World.cell?_setCell_other _ _ _ _ (by simp)).trans ((World.cell?_setCell_other _ _ _ _ (by simp)).trans k0)
    · exact (World.cell?_setCell_other _ _ _ _ (by simp)).trans (World.cell?_setCell_same _ _ _ k1)
    · have n1 : (⟨b, o + s * 3 + 2, none⟩ : Addr) ≠ ⟨b, o + 12, none⟩ := fun e => by have := congrArg Addr.off e; simp at this; omega
      have n2 : (⟨b, o + s * 3 + 1, none⟩ : Addr) ≠ ⟨b, o + 12, none⟩ := fun e => by have := congrArg Addr.off e; simp at this; omega
      have n3 : (⟨b, o + s * 3, none⟩ : Addr) ≠ ⟨b, o + 12, none⟩ := fun e => by have := congrArg Addr.off e; simp at this; omega
      exact (World.cell?_setCell_other _ _ _ _ n1).trans ((World.cell?_setCell_other _ _ _ _ n2).trans ((World.cell?_setCell_other _ _ _ _ n3).trans h.cells.le))
  · refine (turn_same b (o + s * 3) (E s) ep w h0 hlt).mono ?_
    rintro e w' ⟨rfl, rfl⟩
    have eE : tE E s ep = E s := by simp [tE, hlt]
    have eB : tB E B s ep = B s := by simp [tB, hlt]
    have eV : tV E V s ep = V s := by simp [tV, hlt]
    have eQ : tQ E Q s ep = Q s := by simp [tQ, hlt]
    rw [eE, eB, eV, eQ]
    have hu : ∀ {α : Type} (f : Nat → α), upd f s (f s) = f := fun f => funext fun j => by by_cases e : j = s <;> simp [upd, e]
    rw [hu, hu, hu, hu]
    exact ⟨rfl, h, Chg.refl _ _⟩

theorem addf_any {w : World} {lo b o s : Nat} {E B : Nat → Int} {V : Nat → Value} {vk : Value} {Q : Nat → List Wt} {ks : List Ky} (h : FlowAt w lo b o E B V vk Q ks) (hs : s < 4) (x : Wt) (hn : (Q s).length < 1000) :
    Calls Tryz.prog 58 #[.pointer (some ⟨b, o + s * 3, none⟩), x.agg] w fun e w' => ∃ v', e = .returned (.tuple #[]) ∧
      FlowAt w' lo b o E B (upd V s v') vk (upd Q s (upFn ((Q s).length + 1) (Q s ++ [x]) (Q s).length)) ks ∧ (v'.ownBlock = (V s).ownBlock ∨ ∀ k, v'.ownBlock = some k → w.heap.size ≤ k) ∧ Chg (fun k => k = b ∨ (V s).ownBlock = some k) w w' := by
  have h0 := h.cells.ep s hs
  have h1 := h.cells.ba s hs
  have h2 := h.cells.qu s hs
  have hb : b < w.heap.size := World.block_lt_of_cell? _ _ h0
  refine (add_any lo b (o + s * 3) (Q s).length (V s) (Q s) x w h2 (h.froz _) (h.rows s hs) rfl (h.own s hs) h.low hn).mono ?_
  rintro e w' ⟨g, cap, rfl, hq, hw, hsl, hcg⟩
  have hw' : (Value.slice (some ⟨g, 0, none⟩) ((Q s).length + 1) cap).ownBlock = (V s).ownBlock ∨ ∀ k, (Value.slice (some ⟨g, 0, none⟩) ((Q s).length + 1) cap).ownBlock = some k → w.heap.size ≤ k := by
    rcases hw with hw | hw
    · exact .inl hw.symm
    · exact .inr (fun k hk => by simp [Value.ownBlock] at hk; omega)
  refine ⟨_, rfl, ?_, hw', hcg⟩
  have hu : ∀ {α : Type} (f : Nat → α), upd f s (f s) = f := fun f => funext fun j => by by_cases e : j = s <;> simp [upd, e]
  have hkeys : w'.ownsRow lo 60 4 vk ks.length (keyCells ks) := hcg.row' h.keys (fun k hk hf => by
    rcases hf with rfl | hf
    · exact h.ownk hk
    · exact h.sepk s hs k hf hk)
  have hrow : w'.ownsRow lo 144 3 (.slice (some ⟨g, 0, none⟩) ((Q s).length + 1) cap) (upFn ((Q s).length + 1) (Q s ++ [x]) (Q s).length).length (wtCells (upFn ((Q s).length + 1) (Q s ++ [x]) (Q s).length)) := by
    rw [hq.len]; exact hq.row
  have := h.update (e' := E s) (b' := B s) (v' := .slice (some ⟨g, 0, none⟩) ((Q s).length + 1) cap) (vk' := vk) hs hb ((hsl.cell _ (by omega)).trans h0) ((hsl.cell _ (by omega)).trans h1) hq.var ((hsl.cell _ (by omega)).trans h.cells.le)
    (hsl.mono (fun j hj => by simp [hj])) (hcg.mono (fun k hk => by rcases hk with hk | hk <;> simp [hk])) hrow hkeys (.inr hw') (.inl rfl) (fun g' hg' => by
      rcases hw' with hw' | hw'
      · rw [hw'] at hg'; exact h.sepk s hs g' hg'
      · intro hk
        have := hw' g' hg'
        have := (h.keys.lt g' hk).2
        omega)
  rw [hu, hu] at this
  exact this

theorem drainf_any {w : World} {lo b o s : Nat} {E B : Nat → Int} {V : Nat → Value} {vk : Value} {Q : Nat → List Wt} {ks : List Ky} (h : FlowAt w lo b o E B V vk Q ks) (hs : s < 4)
    (hqn : (Q s).length ≤ 4) (hkn : ks.length ≤ 100) (hb0 : 0 ≤ B s ∧ B s + (Q s).length ≤ 1000) (hL : Led ks (Q s).length) (hq : ∀ x ∈ Q s, x.ok) :
    Calls Tryz.prog 60 #[.pointer (some ⟨b, o, none⟩), .int .i64 s] w fun e w' => ∃ v' vk', e = .returned (.tuple #[]) ∧
      FlowAt w' lo b o E (upd B s (drainH 5 (B s) (Q s) ks).1) (upd V s v') vk' (upd Q s (drainH 5 (B s) (Q s) ks).2.1) (drainH 5 (B s) (Q s) ks).2.2 ∧ v'.ownBlock = (V s).ownBlock ∧ (vk'.ownBlock = vk.ownBlock ∨ ∀ k, vk'.ownBlock = some k → w.heap.size ≤ k) ∧
      Chg (fun k => k = b ∨ (V s).ownBlock = some k ∨ vk.ownBlock = some k) w w' := by
  have h0 := h.cells.ep s hs
  have hb : b < w.heap.size := World.block_lt_of_cell? _ _ h0
  refine (drain_any lo b o s (B s) (V s) vk (Q s) ks w hs (h.cells.ba s hs) (h.cells.qu s hs) h.cells.le h.froz (h.rows s hs) h.keys h.low (h.own s hs) h.ownk (h.sepk s hs) hqn hkn hb0 hL hq).mono ?_
  rintro e w' ⟨v', vk', rfl, c1, c2, c3, r1, r2, wv, wk, sl, cg⟩
  have hu : ∀ {α : Type} (f : Nat → α), upd f s (f s) = f := fun f => funext fun j => by by_cases e : j = s <;> simp [upd, e]
  refine ⟨v', vk', rfl, ?_, wv, wk, cg⟩
  have := h.update (e' := E s) hs hb ((sl.cell _ (by omega)).trans h0) c1 c2 c3 (sl.mono (fun j hj => by rcases hj with hj | hj | hj <;> simp [hj])) cg r1 r2 (.inr (.inl wv)) wk (fun g hg => by
    rw [wv] at hg
    rcases wk with wk | wk
    · rw [wk]; exact h.sepk s hs g hg
    · intro hk
      have := wk g hk
      have := ((h.rows s hs).lt g hg).2
      omega)
  rw [hu] at this
  exact this

end Go.Proofs.YtdoedjmdcmgddaaGreat
