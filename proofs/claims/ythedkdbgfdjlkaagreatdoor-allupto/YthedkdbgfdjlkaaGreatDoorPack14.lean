import Derived.Deep.CutRange
import Derived.Deep.RegionLaw
import Derived.LaidEql
import Derived.Stop.Asserts
import Derived.RowKitTokens
import Derived.Test.YthedkdbgfdjlkaaGreatDoorPack1
import Derived.Test.YthedkdbgfdjlkaaGreatDoorPack2
import Derived.Test.YthedkdbgfdjlkaaGreatDoorPack3
import Derived.Test.YthedkdbgfdjlkaaGreatDoorPack4
import Derived.Test.YthedkdbgfdjlkaaGreatDoorPack5
import Derived.Test.YthedkdbgfdjlkaaGreatDoorPack6
import Derived.Test.YthedkdbgfdjlkaaGreatDoorPack7
import Derived.Test.YthedkdbgfdjlkaaGreatDoorPack8
import Derived.Test.YthedkdbgfdjlkaaGreatDoorPack9
import Derived.Test.YthedkdbgfdjlkaaGreatDoorPack10
import Derived.Test.YthedkdbgfdjlkaaGreatDoorPack11
import Derived.Test.YthedkdbgfdjlkaaGreatDoorPack12
import Derived.Test.YthedkdbgfdjlkaaGreatDoorPack13
namespace Go.Proofs.YthedkdbgfdjlkaaGreatDoor
set_option linter.unusedVariables false
set_option linter.unusedSimpArgs false
open Go.RowKit Go.Lib
theorem RdAt.beside {w w' : World} {b : Nat} {row : ByteArray} {r : Rs} {v : Value} (h : RdAt w b row r) (c : Chg (fun k => v.ownBlock = some k) w w') (hb : v.ownBlock ≠ some b) (h1 : ∀ g, v.ownBlock = some g → ∃ n, w.cell? ⟨g, 1, none⟩ = some (.int .i64 n)) : RdAt w' b row r :=
  h.chgE c hb (fun g f hg hF => by obtain ⟨n, hn⟩ := h1 g hF; rw [hn] at hg; cases hg)
def HeadRes (w w' : World) (e : Ending) : Option St → Prop
  | none => e = .returned flowZero
  | some s => ∃ E B V vk Q ks, e = .returned (flowVal E B V vk) ∧ FlowV w' w.heap.size E B V vk Q ks s
theorem Tryz.infoSs : (Tryz.prog.info? 121).map (fun i => (i.zero, i.size, i.bytes)) = some (some (.agg #[.int .i64 0, .int .i64 0, .slice none 0 0]), 3, 40) := by kernel_rfl
theorem grown_chg {w w5 : World} {ob : Obj} {v : Value} (h : (w.alloc ob).grownBy w5 v.ownBlock) : Chg (fun k => v.ownBlock = some k) w w5 :=
  ((Chg.refl (fun k => v.ownBlock = some k) w).alloc ob).trans (G := fun k => v.ownBlock = some k) ⟨h.os, h.tape, h.output, h.size, fun k hk hne => h.block k hk (fun e => hne e.symm)⟩ (fun _ _ h => h)
structure GrowStep (wr w4 w5 : World) (b st so lo : Nat) (row : ByteArray) (r2 : Rs) (v v' : Value) : Prop where
  chg : Chg (fun k => k = b ∨ k = st ∨ lo ≤ k) wr (w5.setCell ⟨st, so, none⟩ v')
  rd : RdAt (w5.setCell ⟨st, so, none⟩ v') b row r2
  fz : ∀ i, (w5.setCell ⟨st, so, none⟩ v').frozen? ⟨st, i, none⟩ = false
  other : ∀ i u, i ≠ so → wr.cell? ⟨st, i, none⟩ = some u → (w5.setCell ⟨st, so, none⟩ v').cell? ⟨st, i, none⟩ = some u
  here : (w5.setCell ⟨st, so, none⟩ v').cell? ⟨st, so, none⟩ = some v'
  row : ∀ {e : TypeId} {size n : Nat} {v1 : Value} {xs : List Value}, w5.ownsRow lo e size v1 n xs → (w5.setCell ⟨st, so, none⟩ v').ownsRow lo e size v1 n xs
theorem grow_step {wr w4 w5 : World} {b st so lo size n : Nat} {e : TypeId} {row : ByteArray} {r2 : Rs} {v : Value} {xs : List Value} {ob : Obj} (v' : Value)
    (hb : b < lo) (hst : st < lo) (hbst : b ≠ st) (hcr : Chg (fun k => k = b) wr w4) (hown : wr.ownsRow lo e size v n xs) (hrd : RdAt w4 b row r2) (hu : wr.cell? ⟨st, so, none⟩ = some v)
    (hty : ∀ g, v.ownBlock = some g → ∃ z, wr.cell? ⟨g, 1, none⟩ = some (.int .i64 z)) (hf : ∀ i, wr.frozen? ⟨st, i, none⟩ = false) (hst1 : ∃ p n c, wr.cell? ⟨st, 1, none⟩ = some (.slice p n c)) (hg : (w4.alloc ob).grownBy w5 v.ownBlock) :
    w5.cell? ⟨st, so, none⟩ = some v ∧ w5.frozen? ⟨st, so, none⟩ = false ∧ Hid (GrowStep wr w4 w5 b st so lo row r2 v v') := by
  have hlo : ∀ g, v.ownBlock = some g → lo ≤ g := fun g hg => (hown.lt g hg).1
  have c45 := grown_chg hg
  have nst : ¬ v.ownBlock = some st := fun e => by have := hlo st e; omega
  have nb : ¬ v.ownBlock = some b := fun e => by have := hlo b e; omega
  have hstl : st < wr.heap.size := World.block_lt_of_cell? _ _ hu
  have nsb : ¬ st = b := fun e => hbst e.symm
  have u4 := hcr.cellAt hu nsb
  have u5 := c45.cellAt u4 nst
  have f4 : ∀ i, w4.frozen? ⟨st, i, none⟩ = false := fun i => (World.frozen?_of_block (w := wr) (hcr.block st hstl nsb)).trans (hf i)
  have hst4 : st < w4.heap.size := World.block_lt_of_cell? _ _ u4
  have f5 : ∀ i, w5.frozen? ⟨st, i, none⟩ = false := fun i => (World.frozen?_of_block (w := w4) (c45.block st hst4 nst)).trans (f4 i)
  obtain ⟨p1, n1, c1, hst1⟩ := hst1
  have s4 := hcr.cellAt hst1 nsb
  have s5 := c45.cellAt s4 nst
  have r5 : RdAt w5 b row r2 := hrd.beside c45 nb (fun g hgv => by
    obtain ⟨z, hz⟩ := hty g hgv
    exact ⟨z, hcr.cellAt hz (fun e => by have e' : g = b := e; have := hlo g hgv; omega)⟩)
  have c5 : Chg (fun k => k = st) w5 (w5.setCell ⟨st, so, none⟩ v') := (Chg.refl (fun k => k = st) w5).setCell (p := ⟨st, so, none⟩) (fun _ => rfl) v'
  refine ⟨u5, f5 so, ⟨?_, ?_, ?_, ?_, ?_, ?_⟩⟩
  · refine ((hcr.mono (fun k hk => .inl hk)).trans c45 (fun k _ hk => .inr (.inr (hlo k hk)))).trans c5 (fun k _ hk => .inr (.inl hk))
  · refine r5.chgE c5 hbst (fun g f hgf e => ?_)
    have e' : g = st := e
    subst e'
    rw [s5] at hgf
    cases hgf
  · exact fun i => (((Slots.refl st (fun _ => True) w5).setCell (p := ⟨st, so, none⟩) v' (fun _ => trivial)).frozen i).trans (f5 i)
  · intro i u hi hu'
    exact (World.cell?_setCell_other _ _ _ _ (by simp [hi])).trans (c45.cellAt (hcr.cellAt hu' nsb) nst)
  · exact World.cell?_setCell_same _ _ _ u5
  · intro e size n v1 xs h
    exact c5.row' h (fun k hk e => by have e' : k = st := e; have := (h.lt k hk).1; omega)
set_option maxRecDepth 100000 in
set_option maxHeartbeats 8000000 in
theorem head_any {w : World} {b : Nat} {row : ByteArray} {r : Rs} (h : RdAt w b row r) : Calls Tryz.prog 63 #[.pointer (some ⟨b, 0, none⟩)] w fun e w' =>
    HeadRes w w' e (rHead row r).1 ∧ RdAt w' b row (rHead row r).2 ∧ Chg (fun k => k = b) w w' := by
  have hb : b < w.heap.size := World.block_lt_of_cell? _ _ h.src
  obtain ⟨R, hR⟩ : ∃ R, R = rHead row r := ⟨_, rfl⟩
  have HR : Hid (R = rHead row r) := hR
  rw [← hR]
  clear hR
  obtain ⟨W0, hW0⟩ : ∃ W0, W0 = w.alloc (.cells #[.int .i64 0, .int .i64 0, .slice none 0 0, .int .i64 0, .int .i64 0, .slice none 0 0, .int .i64 0, .int .i64 0, .slice none 0 0, .int .i64 0, .int .i64 0, .slice none 0 0, .slice none 0 0] 98) := ⟨_, rfl⟩
  have c0 : Chg (fun _ => False) w W0 := by rw [hW0]; exact (Chg.refl _ w).alloc _
  have hs0 : W0.heap.size = w.heap.size + 1 := by rw [hW0]; simp
  have z0 : FlowCells W0 w.heap.size 0 (fun _ => 0) (fun _ => 0) (fun _ => .slice none 0 0) (.slice none 0 0) := by rw [hW0]; exact flow_alloc w 98 (fun _ => 0) (fun _ => 0) (fun _ => .slice none 0 0) (.slice none 0 0)
  have zf : ∀ j, W0.frozen? ⟨w.heap.size, j, none⟩ = false := fun j => by rw [hW0]; exact World.frozen?_alloc_at _ _ _ _ rfl
  have h0 := h.chg c0 id (.inr fun _ => id)
  have ht := rtext_any h0 8 (by omega)
  go_enter Tryz.func63, Tryz.ntmps63
  go_wp2_with fail
  rw [← hW0]
  refine ht.mono ?_
  rintro _ w1 ⟨rfl, h1, c1⟩
  clear ht hW0
  have hmark : rMark row r = if (rText row 8 r).1 = markA then (rText row 8 r).2 else (rText row 8 r).2.fail 2 := rfl
  have HM : Hid (rMark row r = if (rText row 8 r).1 = markA then (rText row 8 r).2 else (rText row 8 r).2.fail 2) := hmark
  clear hmark
  generalize rText row 8 r = q at h1 HM ⊢
  obtain ⟨t, r1⟩ := q
  simp only at h1 HM ⊢
  obtain ⟨rm, hrm⟩ : ∃ rm, rm = rMark row r := ⟨_, rfl⟩
  have HRM : Hid (rm = rMark row r) := hrm
  rw [← hrm] at HM
  clear hrm
  go_upto_if 9 with fail
  go_cut [] from 9 to 11 (fun wc => RdAt wc b row rm ∧ Chg (fun k => k = b) w1 wc)
  case first =>
    by_cases hm : t = markA
    · have HM1 : Hid (rm = r1) := by show _ = _; rw [HM.out, if_pos hm]
      have heq : (t.toList == [99, 117, 108, 118, 101, 114, 116, 49]) = true := by rw [hm, ByteArray.toList_eq]; rfl
      clear HM hm
      rw [heq, Bool.not_true]
      go_wp2_with fail
      go_meet
      exact ⟨by rw [HM1.out]; exact h1, Chg.refl _ _⟩
    · have hf := rfail_any h1 2
      have hne : (t.toList == [99, 117, 108, 118, 101, 114, 116, 49]) = false := by
        rw [ByteArray.toList_eq]
        simp
        exact fun e => hm (ByteArray.ext (by rw [← Array.toList_inj, e]; rfl))
      have HM1 : Hid (rm = r1.fail 2) := by show _ = _; rw [HM.out, if_neg hm]
      clear HM
      rw [hne, Bool.not_false]
      go_wp2_with (go_at_call 92; refine hf.mono ?_; rintro _ w2 ⟨rfl, h2, c2⟩)
      go_meet
      exact ⟨by rw [HM1.out]; exact h2, c2⟩
  case rest =>
    obtain ⟨hm, cm⟩ := hcut
    have hsz1 : w.heap.size < w1.heap.size := by have := c1.size; omega
    have c1w : Chg (fun k => k = b) w w1 := (c0.mono (fun _ h => h.elim)).trans c1 (fun _ _ h => h)
    have hsz2 : w1.heap.size ≤ wc.heap.size := cm.size
    have c0m : Chg (fun k => k = b) W0 wc := c1.trans cm (fun _ _ h => h)
    have cw : Chg (fun k => k = b) w wc := c1w.trans cm (fun _ _ h => h)
    have zc := z0.chg c0m (by omega)
    have zfc : ∀ j, wc.frozen? ⟨w.heap.size, j, none⟩ = false := fun j => (World.frozen?_of_block (w := W0) (c0m.block w.heap.size (by omega) (fun e => by have e' : w.heap.size = b := e; omega))).trans (zf j)
    clear HM h0 h1 c1 cm c1w z0 zf c0m
    obtain ⟨q, hq⟩ : ∃ q, q = w.heap.size := ⟨_, rfl⟩
    obtain ⟨i0, hin, hz0, hz1, hz2⟩ := info_parts Tryz.infoSs
    obtain ⟨W2, hW2⟩ : ∃ W2, W2 = wc.alloc (.cells #[.slice none 0 0, .slice none 0 0] 46) := ⟨_, rfl⟩
    have c2 : Chg (fun _ => False) wc W2 := by rw [hW2]; exact (Chg.refl _ wc).alloc _
    have hs2 : W2.heap.size = wc.heap.size + 1 := by rw [hW2]; simp
    have s0 : W2.cell? ⟨wc.heap.size, 0, none⟩ = some (.slice none 0 0) := by rw [hW2]; exact World.cell?_alloc_at _ _ _ _ rfl
    have s1 : W2.cell? ⟨wc.heap.size, 1, none⟩ = some (.slice none 0 0) := by rw [hW2]; exact World.cell?_alloc_at _ _ _ _ rfl
    have sf : ∀ j, W2.frozen? ⟨wc.heap.size, j, none⟩ = false := fun j => by rw [hW2]; exact World.frozen?_alloc_at _ _ _ _ rfl
    have hm2 := hm.chg c2 id (.inr fun _ => id)
    have HW2 : Hid (W2 = wc.alloc (.cells #[.slice none 0 0, .slice none 0 0] 46)) := hW2
    have HS2 : Hid (W2.heap.size = wc.heap.size + 1) := hs2
    clear hW2 hs2
    go_wp2_with fail
    rw [← HW2.out]
    have hent93 : ∀ args w, (callFunc 93 args).run Tryz.prog w = .ok (.enter 93 args) w := enters_of Tryz.func93 (by kernel_rfl) rfl
    have HN : Hid (∀ (W : World) (r' : Rs), RdAt W b row r' → Calls Tryz.prog 93 #[.pointer (some ⟨b, 0, none⟩)] W fun e w' => e = .returned (.int .i64 (rNum row r').1) ∧ RdAt w' b row (rNum row r').2 ∧ Chg (fun k => k = b) W w') := fun W r' hr' => rnum_any hr'
    go_loopw [12] (fun sj wr => ∃ (j : Nat) (l : List (Int × Int)) (r' : Rs) (vs : Value), sj = .int .i64 j ∧ j ≤ 4 ∧ l.length = j ∧ RdAt wr b row r' ∧ wr.cell? ⟨wc.heap.size, 0, none⟩ = some vs ∧ wr.cell? ⟨wc.heap.size, 1, none⟩ = some (.slice none 0 0) ∧ (∀ i, wr.frozen? ⟨wc.heap.size, i, none⟩ = false) ∧ wr.ownsRow W2.heap.size 121 3 vs j (sessRow l) ∧ (j = 0 → vs = .slice none 0 0) ∧ Chg (fun k => k = b ∨ k = wc.heap.size) W2 wr ∧ Hid (rMany (rPair row) j rm = (l, r'))) (fun sj _ => 4 - (intOf sj).toNat)
    case atStart => exact ⟨0, [], rm, _, rfl, by omega, rfl, hm2, s0, s1, sf, World.ownsRow_nil _ _ _ _, fun _ => rfl, Chg.refl _ _, rfl⟩
    case round =>
      obtain ⟨j, l, r', vs, rfl, hj4, hl, hr, u0, u1, uf, hown, hnil, hcr, HMY⟩ := hrel
      by_cases hlt : j < 4
      · have hlt' : (j : Int) < 4 := by omega
        obtain ⟨pv, cv, rfl⟩ := row_any hown
        obtain ⟨⟨n1, r1'⟩, e1⟩ : ∃ p, rNum row r' = p := ⟨_, rfl⟩
        obtain ⟨⟨n2, r2'⟩, e2⟩ : ∃ p, rNum row r1' = p := ⟨_, rfl⟩
        have hn1 := HN.out wr.drew r' (hr.chg (Chg.refl (fun _ => False) wr).drew id (.inr fun _ => id))
        have HN2 : Hid (∀ W, RdAt W b row r1' → Calls Tryz.prog 93 #[.pointer (some ⟨b, 0, none⟩)] W fun e w' => e = .returned (.int .i64 n2) ∧ RdAt w' b row r2' ∧ Chg (fun k => k = b) W w') := fun W hW => by
          have := HN.out W r1' hW
          rw [e2] at this
          exact this
        rw [e1] at hn1
        have HP : Hid (rMany (rPair row) (j + 1) rm = (l ++ [((n1 : Int), (n2 : Int))], r2')) := by
          show _ = _
          simp only [rMany, HMY.out, rPair, e1, e2]
        clear e1 e2 HMY
        simp only at hn1
        have hbn : ¬ wc.heap.size = b := by omega
        have hbW : b < W2.heap.size := by rw [HS2.out]; have := cw.size; omega
        have hstW : wc.heap.size < W2.heap.size := by rw [HS2.out]; omega
        have hszr : W2.heap.size ≤ wr.heap.size := hcr.size
        have HROW : Hid (∀ (w4 : World) (ob : Obj), Chg (fun k => k = b) wr w4 → (w4.alloc ob).ownsRow W2.heap.size 121 3 (.slice pv j cv) j (sessRow l)) := fun w4 ob c => (c.row' hown (fun k hk e => by have e' : k = b := e; have := (hown.lt k hk).1; omega)).alloc ob
        have HCELL : Hid (∀ (W : World) (i : Nat) (u : Value), [Value.int .i64 n1, .int .i64 n2, .slice none 0 0][i]? = some u → (W.alloc (.cells #[.int .i64 n1, .int .i64 n2, .slice none 0 0] 121)).cell? ((⟨W.heap.size, 0, none⟩ : Addr).add i) = some u) := fun W i u hu => by
          rw [add_lit', Nat.zero_add]
          rcases i with _ | _ | _ | i <;> simp at hu <;> subst hu <;> exact World.cell?_alloc_at _ _ _ _ rfl
        have HONE : Hid (∀ u ∈ [Value.int .i64 n1, .int .i64 n2, .slice none 0 0], u.oneCell' = true) := fun u hu => by
          simp at hu
          rcases hu with rfl | rfl | rfl <;> rfl
        have HLEN : Hid (j + 1 ≤ maxLen) := by show _ ≤ maxLen; unfold maxLen; omega
        have HBYT : Hid ((j + 1) * 40 ≤ 140737488355328) := by show _ ≤ _; omega
        have HTY : Hid (∀ g, (Value.slice pv j cv).ownBlock = some g → ∃ z, wr.cell? ⟨g, 1, none⟩ = some (.int .i64 z)) := fun g hg => by
          by_cases h0 : j = 0
          · rw [hnil h0] at hg; simp [Value.ownBlock] at hg
          · obtain ⟨g', cap', hv, _, _, hcell⟩ := row_pos hown (by omega)
            rw [hv] at hg
            simp [Value.ownBlock] at hg
            subst hg
            obtain ⟨y, hy⟩ : ∃ y, l[0]? = some y := ⟨_, List.getElem?_eq_getElem (by omega)⟩
            have := (sessRow_at l 0 y hy).2.1
            exact ⟨_, hcell 1 _ (by simpa using this)⟩
        have HCD : Hid (∀ {w3 w4 : World}, Chg (fun k => k = b) wr.drew w3 → Chg (fun k => k = b) w3 w4 → Chg (fun k => k = b) wr w4) := fun {w3 w4} k1 k2 => ((Chg.refl (fun k => k = b) wr).drew.trans k1 (fun _ _ h => h)).trans k2 (fun _ _ h => h)
        go_upto_region 6 with fail
        go_region_law (first
          | (refine step_call rfl 93 _ _ rfl _ (by simp [Act.eval, Act.put]) hent93 hn1 (fun e w3 he => ?_); obtain ⟨rfl, g1, k1⟩ := he; refine ⟨_, rfl, ?_⟩; have v0 := k1.cellAt (show wr.drew.cell? _ = _ from u0) hbn)
          | (refine step_call rfl 93 _ _ rfl _ (by simp [Act.eval, Act.put]) hent93 (HN2.out _ g1) (fun e w4 he => ?_); obtain ⟨rfl, g2, k2⟩ := he; refine ⟨_, rfl, ?_⟩; have v0' := k2.cellAt v0 hbn; have v0'' := fun ob => ((Chg.refl (fun _ => False) w4).alloc ob).cellAt v0' id)
          | (refine step_append_own rfl (.tmp 15) (.tmp 21) 43 rfl W2.heap.size 121 i0 _ 3 40 Tryz.underlying43 hin hz0 hz1 hz2 rfl (by decide) _ j (sessRow l) (by simp [Act.eval, Act.put]) (HROW.out w4 _ (HCD.out k1 k2)) ⟨w4.heap.size, 0, none⟩ 1 1 [.int .i64 n1, .int .i64 n2, .slice none 0 0] (by simp [Act.eval, Act.put]) rfl (HCELL.out w4) HONE.out HLEN.out HBYT.out ?_ ?_; (have := k1.size; have := k2.size; have : wr.drew.heap.size = wr.heap.size := rfl; simp; omega); intro v' w5 hown5 hgrow hwhere; obtain ⟨pv', cv', rfl⟩ := row_any hown5; obtain ⟨x0, x1, HG⟩ := grow_step (.slice pv' (j + 1) cv') hbW hstW (fun e => hbn e.symm) (HCD.out k1 k2) hown g2 u0 HTY.out uf ⟨_, _, _, u1⟩ hgrow))
        all_goals
          go_wp2_with fail
          go_roundw
          case rel =>
            refine ⟨j + 1, l ++ [((n1 : Int), (n2 : Int))], r2', _, by go_num, by omega, by simp [hl], HG.out.rd, HG.out.here, HG.out.other 1 _ (by omega) u1, HG.out.fz, ?_, fun h => by omega, hcr.trans HG.out.chg (fun k hk h => h.elim .inl (fun h => h.elim .inr (fun h => by omega))), HP⟩
            rw [sessRow_append]
            exact HG.out.row hown5
          case measure => simp [intOf]; omega
      · have hj : j = 4 := by omega
        subst hj
        have EA : Hid (rMany (rPair row) 4 rm = (l, r')) := HMY
        have hup := rupTo_any hr 4
        have hle := rUpTo_le row 4 r'
        obtain ⟨⟨nk, rk⟩, ek⟩ : ∃ p, rUpTo row 4 r' = p := ⟨_, rfl⟩
        have EK : Hid (rUpTo row 4 r' = (nk, rk)) := ek
        rw [ek] at hup hle
        clear ek HMY
        simp only at hup hle
        obtain ⟨pv, cv, rfl⟩ := row_any hown
        have hbn : ¬ wc.heap.size = b := by omega
        have hbW : b < W2.heap.size := by rw [HS2.out]; have := cw.size; omega
        have hszr : W2.heap.size ≤ wr.heap.size := hcr.size
        go_wp2_with (go_at_call 94; refine hup.mono ?_; rintro _ w6 ⟨rfl, hr6, c6⟩)
        have x0 := c6.cellAt u0 hbn
        have x1 := c6.cellAt u1 hbn
        have hst : wc.heap.size < wr.heap.size := World.block_lt_of_cell? _ _ u0
        have xf : ∀ i, w6.frozen? ⟨wc.heap.size, i, none⟩ = false := fun i => (World.frozen?_of_block (w := wr) (c6.block wc.heap.size hst hbn)).trans (uf i)
        have hown6 := c6.row' hown (fun k hk e => by have e' : k = b := e; have := (hown.lt k hk).1; omega)
        have hvl : ∀ g, (Value.slice pv 4 cv).ownBlock = some g → W2.heap.size ≤ g ∧ g < w6.heap.size := fun g hg => ⟨(hown.lt g hg).1, (hown6.lt g hg).2⟩
        have hcr6 : Chg (fun k => k = b ∨ k = wc.heap.size) W2 w6 := hcr.trans c6 (fun k _ h => .inl h)
        have hsz6 : W2.heap.size ≤ w6.heap.size := hcr6.size
        clear hup hown u0 u1 uf hr hcr c6 hnil hszr hst
        obtain ⟨iK, hinK, hzK0, hzK1, hzK2⟩ := info_parts Tryz.infoK
        have hent95 : ∀ args w, (callFunc 95 args).run Tryz.prog w = .ok (.enter 95 args) w := enters_of Tryz.func95 (by kernel_rfl) rfl
        go_loopw [27] (fun sj wr => ∃ (j : Nat) (lk : List Ky) (r2 : Rs) (vk : Value), sj = .int .i64 j ∧ j ≤ nk ∧ lk.length = j ∧ RdAt wr b row r2 ∧ wr.cell? ⟨wc.heap.size, 0, none⟩ = some (.slice pv 4 cv) ∧ wr.cell? ⟨wc.heap.size, 1, none⟩ = some vk ∧ (∀ i, wr.frozen? ⟨wc.heap.size, i, none⟩ = false) ∧ wr.ownsRow W2.heap.size 121 3 (.slice pv 4 cv) 4 (sessRow l) ∧ wr.ownsRow w6.heap.size 87 4 vk j (keyCells lk) ∧ (j = 0 → vk = .slice none 0 0) ∧ Chg (fun k => k = b ∨ k = wc.heap.size) W2 wr ∧ w6.heap.size ≤ wr.heap.size ∧ Hid (rMany (rKy row) j rk = (lk, r2))) (fun sj _ => nk - (intOf sj).toNat)
        case atStart => exact ⟨0, [], rk, _, rfl, by omega, rfl, hr6, x0, x1, xf, hown6, World.ownsRow_nil _ _ _ _, fun _ => rfl, hcr6, Nat.le_refl _, rfl⟩
        case round =>
          obtain ⟨j, lk, r2, vk, rfl, hjn, hlk, hr, u0, u1, uf, hown, hownk, hnil, hcr, hszr, HMY⟩ := hrel
          clear x0 x1 xf hown6 hr6 hcr6
          obtain ⟨pk, ck, rfl⟩ := row_any hownk
          by_cases hlt : j < nk
          · have hlt' : (j : Int) < (nk : Int) := by omega
            obtain ⟨⟨ky, r1'⟩, e1⟩ : ∃ p, rKey row r2 = p := ⟨_, rfl⟩
            obtain ⟨⟨n1, r2'⟩, e2⟩ : ∃ p, rNum row r1' = p := ⟨_, rfl⟩
            obtain ⟨⟨n2, r3'⟩, e3⟩ : ∃ p, rNum row r2' = p := ⟨_, rfl⟩
            obtain ⟨⟨n3, r4'⟩, e4⟩ : ∃ p, rNum row r3' = p := ⟨_, rfl⟩
            have hk1 := rkey_any (hr.chg (Chg.refl (fun _ => False) wr).drew id (.inr fun _ => id))
            rw [e1] at hk1
            have HN2 : Hid (∀ W, RdAt W b row r1' → Calls Tryz.prog 93 #[.pointer (some ⟨b, 0, none⟩)] W fun e w' => e = .returned (.int .i64 n1) ∧ RdAt w' b row r2' ∧ Chg (fun k => k = b) W w') := fun W hW => by
              have := HN.out W r1' hW
              rw [e2] at this
              exact this
            have HN3 : Hid (∀ W, RdAt W b row r2' → Calls Tryz.prog 93 #[.pointer (some ⟨b, 0, none⟩)] W fun e w' => e = .returned (.int .i64 n2) ∧ RdAt w' b row r3' ∧ Chg (fun k => k = b) W w') := fun W hW => by
              have := HN.out W r2' hW
              rw [e3] at this
              exact this
            have HN4 : Hid (∀ W, RdAt W b row r3' → Calls Tryz.prog 93 #[.pointer (some ⟨b, 0, none⟩)] W fun e w' => e = .returned (.int .i64 n3) ∧ RdAt w' b row r4' ∧ Chg (fun k => k = b) W w') := fun W hW => by
              have := HN.out W r3' hW
              rw [e4] at this
              exact this
            have HP : Hid (rMany (rKy row) (j + 1) rk = (lk ++ [⟨ky, n1, n2, n3⟩], r4')) := by
              show _ = _
              simp only [rMany, HMY.out, rKy, e1, e2, e3, e4]
            clear e1 e2 e3 e4 HMY
            simp only at hk1
            have HCD : Hid (∀ {w3 w4 w5 w7 : World}, Chg (fun k => k = b) wr.drew w3 → Chg (fun k => k = b) w3 w4 → Chg (fun k => k = b) w4 w5 → Chg (fun k => k = b) w5 w7 → Chg (fun k => k = b) wr w7) := fun {w3 w4 w5 w7} k1 k2 k3 k4 => ((((Chg.refl (fun k => k = b) wr).drew.trans k1 (fun _ _ h => h)).trans k2 (fun _ _ h => h)).trans k3 (fun _ _ h => h)).trans k4 (fun _ _ h => h)
            have HROW : Hid (∀ (w4 : World) (ob : Obj), Chg (fun k => k = b) wr w4 → (w4.alloc ob).ownsRow w6.heap.size 87 4 (.slice pk j ck) j (keyCells lk)) := fun w4 ob c => (c.row' hownk (fun k hk e => by have e' : k = b := e; have := (hownk.lt k hk).1; omega)).alloc ob
            have HCELL : Hid (∀ (W : World) (i : Nat) (u : Value), (⟨ky, n1, n2, n3⟩ : Ky).cells[i]? = some u → (W.alloc (.cells #[.string ky, .int .i64 n1, .int .i64 n2, .int .i64 n3] 87)).cell? ((⟨W.heap.size, 0, none⟩ : Addr).add i) = some u) := fun W i u hu => by
              rw [add_lit', Nat.zero_add]
              rcases i with _ | _ | _ | _ | i <;> simp [Ky.cells] at hu <;> subst hu <;> exact World.cell?_alloc_at _ _ _ _ rfl
            have HONE : Hid (∀ u ∈ (⟨ky, n1, n2, n3⟩ : Ky).cells, u.oneCell' = true) := fun u hu => by
              simp [Ky.cells] at hu
              rcases hu with rfl | rfl | rfl | rfl <;> rfl
            have HLEN : Hid (j + 1 ≤ maxLen) := by show _ ≤ maxLen; unfold maxLen; omega
            have HBYT : Hid ((j + 1) * 40 ≤ 140737488355328) := by show _ ≤ _; omega
            have HTY : Hid (∀ g, (Value.slice pk j ck).ownBlock = some g → ∃ z, wr.cell? ⟨g, 1, none⟩ = some (.int .i64 z)) := fun g hg => by
              by_cases h0 : j = 0
              · rw [hnil h0] at hg; simp [Value.ownBlock] at hg
              · obtain ⟨g', cap', hv, _, _, hcell⟩ := row_pos hownk (by omega)
                rw [hv] at hg
                simp [Value.ownBlock] at hg
                subst hg
                obtain ⟨y, hy⟩ : ∃ y, lk[0]? = some y := ⟨_, List.getElem?_eq_getElem (by omega)⟩
                have := (keyCells_at lk 0 y hy).2.1
                exact ⟨_, hcell 1 _ (by simpa using this)⟩
            have hb6 : b < w6.heap.size := by omega
            have hst6 : wc.heap.size < w6.heap.size := by rw [HS2.out] at hsz6; omega
            go_upto_region 10 with fail
            go_region_law (first
              | (refine step_call rfl 95 _ _ rfl _ (by simp [Act.eval, Act.put]) hent95 hk1 (fun e w3 he => ?_); obtain ⟨rfl, g1, k1⟩ := he; refine ⟨_, rfl, ?_⟩; have v0 := k1.cellAt (show wr.drew.cell? _ = _ from u1) hbn)
              | (refine step_call rfl 93 _ _ rfl _ (by simp [Act.eval, Act.put]) hent93 (HN2.out _ g1) (fun e w4 he => ?_); obtain ⟨rfl, g2, k2⟩ := he; refine ⟨_, rfl, ?_⟩; have v2 := k2.cellAt v0 hbn)
              | (refine step_call rfl 93 _ _ rfl _ (by simp [Act.eval, Act.put]) hent93 (HN3.out _ g2) (fun e w5 he => ?_); obtain ⟨rfl, g3, k3⟩ := he; refine ⟨_, rfl, ?_⟩; have v3 := k3.cellAt v2 hbn)
              | (refine step_call rfl 93 _ _ rfl _ (by simp [Act.eval, Act.put]) hent93 (HN4.out _ g3) (fun e w7 he => ?_); obtain ⟨rfl, g4, k4⟩ := he; refine ⟨_, rfl, ?_⟩; have v4 := k4.cellAt v3 hbn; have v4' := fun ob => ((Chg.refl (fun _ => False) w7).alloc ob).cellAt v4 id)
              | (refine step_append_own rfl (.tmp 30) (.tmp 40) 44 rfl w6.heap.size 87 iK _ 4 40 Tryz.underlying44 hinK hzK0 hzK1 hzK2 rfl (by decide) _ j (keyCells lk) (by simp [Act.eval, Act.put]) (HROW.out w7 _ (HCD.out k1 k2 k3 k4)) ⟨w7.heap.size, 0, none⟩ 1 1 (⟨ky, n1, n2, n3⟩ : Ky).cells (by simp [Act.eval, Act.put]) rfl (HCELL.out w7) HONE.out HLEN.out HBYT.out ?_ ?_; (have := (HCD.out k1 k2 k3 k4).size; simp; omega); intro v' w8 hown8 hgrow hwhere; obtain ⟨pv', cv', rfl⟩ := row_any hown8; obtain ⟨y0, y1, HG⟩ := grow_step (.slice pv' (j + 1) cv') hb6 hst6 (fun e => hbn e.symm) (HCD.out k1 k2 k3 k4) hownk g4 u1 HTY.out uf ⟨_, _, _, u1⟩ hgrow))
            all_goals
              go_wp2_with fail
              go_roundw
              case rel =>
                refine ⟨j + 1, lk ++ [⟨ky, n1, n2, n3⟩], r4', _, by go_num, by omega, by simp [hlk], HG.out.rd, HG.out.other 0 _ (by omega) u0, HG.out.here, HG.out.fz, ?_, ?_, fun h => by omega, hcr.trans HG.out.chg (fun k hk h => h.elim .inl (fun h => h.elim .inr (fun h => by omega))), Nat.le_trans hszr HG.out.chg.size, HP⟩
                · refine HG.out.chg.row' hown (fun k hk h => ?_)
                  have := hvl k hk
                  rcases h with h | h | h
                  · omega
                  · rw [HS2.out] at this; omega
                  · omega
                · rw [keyCells_snoc]
                  exact HG.out.row hown8
              case measure => simp [intOf]; omega
          · have hj : j = nk := by omega
            subst hj
            have EB : Hid (rMany (rKy row) j rk = (lk, r2)) := HMY
            have hup2 := rupTo_any hr 12
            have hle2 := rUpTo_le row 12 r2
            obtain ⟨⟨nm, rx⟩, ek2⟩ : ∃ p, rUpTo row 12 r2 = p := ⟨_, rfl⟩
            have EM : Hid (rUpTo row 12 r2 = (nm, rx)) := ek2
            rw [ek2] at hup2 hle2
            clear ek2 HMY
            simp only at hup2 hle2
            have hst6 : wc.heap.size < w6.heap.size := by rw [HS2.out] at hsz6; omega
            have hstr : wc.heap.size < wr.heap.size := by omega
            go_wp2_with (go_at_call 94; refine hup2.mono ?_; rintro _ w7 ⟨rfl, hr7, c7⟩)
            have x0 := c7.cellAt u0 hbn
            have x1 := c7.cellAt u1 hbn
            have hown7 := c7.row' hown (fun k hk e => by have e' : k = b := e; have := (hown.lt k hk).1; omega)
            have hownk7 := c7.row' hownk (fun k hk e => by have e' : k = b := e; have := (hownk.lt k hk).1; omega)
            have hcr7 : Chg (fun k => k = b ∨ k = wc.heap.size) W2 w7 := hcr.trans c7 (fun k _ h => .inl h)
            have hsz7 : w6.heap.size ≤ w7.heap.size := Nat.le_trans hszr c7.size
            have hvl7 : ∀ g, (Value.slice pv 4 cv).ownBlock = some g → W2.heap.size ≤ g ∧ g < w7.heap.size := fun g hg => ⟨(hown.lt g hg).1, (hown7.lt g hg).2⟩
            have hkl7 : ∀ g, (Value.slice pk j ck).ownBlock = some g → w6.heap.size ≤ g ∧ g < w7.heap.size := fun g hg => ⟨(hownk.lt g hg).1, (hownk7.lt g hg).2⟩
            clear hup2 hown hownk u0 u1 uf hr hcr c7 hnil hszr hvl
            obtain ⟨iR, hinR, hzR0, hzR1, hzR2⟩ := info_parts Tryz.infoR
            go_loopw [4, 46] (fun sv sj wr => ∃ (j3 : Nat) (lx : List Rec) (r3 : Rs), sj = .int .i64 j3 ∧ j3 ≤ nm ∧ lx.length = j3 ∧ RdAt wr b row r3 ∧ wr.cell? ⟨wc.heap.size, 0, none⟩ = some (.slice pv 4 cv) ∧ wr.cell? ⟨wc.heap.size, 1, none⟩ = some (.slice pk j ck) ∧ wr.ownsRow W2.heap.size 121 3 (.slice pv 4 cv) 4 (sessRow l) ∧ wr.ownsRow w6.heap.size 87 4 (.slice pk j ck) j (keyCells lk) ∧ wr.ownsRow w7.heap.size 53 5 sv j3 (recCells lx) ∧ (j3 = 0 → sv = .slice none 0 0) ∧ Chg (fun k => k = b ∨ k = wc.heap.size) W2 wr ∧ w7.heap.size ≤ wr.heap.size ∧ Hid (rMany (rRec row) j3 rx = (lx, r3))) (fun _ sj _ => nm - (intOf sj).toNat)
            case atStart => exact ⟨0, [], rx, rfl, by omega, rfl, hr7, x0, x1, hown7, hownk7, World.ownsRow_nil _ _ _ _, fun _ => rfl, hcr7, Nat.le_refl _, rfl⟩
            case round =>
              obtain ⟨j3, lx, r3, rfl, hjm, hlx, hr, u0, u1, hown, hownk, hownx, hnil, hcr, hszr, HMY⟩ := hrel
              clear x0 x1 hown7 hownk7 hr7 hcr7
              obtain ⟨px, cx, rfl⟩ := row_any hownx
              by_cases hlt : j3 < nm
              · have hlt' : (j3 : Int) < (nm : Int) := by omega
                have hrec := rrec_any hr
                obtain ⟨⟨x, r4⟩, e1⟩ : ∃ p, rRec row r3 = p := ⟨_, rfl⟩
                rw [e1] at hrec
                have HP : Hid (rMany (rRec row) (j3 + 1) rx = (lx ++ [x], r4)) := by
                  show _ = _
                  simp only [rMany, HMY.out, e1]
                clear e1 HMY
                simp only at hrec
                obtain ⟨xa, xe, xn, xk, xv⟩ := x
                unfold Rec.value' at hrec
                simp only at hrec
                have HAPP : Hid (∀ w8, Chg (fun k => k = b) wr w8 → ∃ v9 w9, (Builtin.append_ #[131, 131] 131 #[.slice px j3 cx, .slice (some ⟨w8.heap.size, 0, none⟩) 1 1]).run Tryz.prog (w8.alloc (.cells #[.int .i64 xa, .int .i64 xe, .int .i64 xn, .string xk, .int .i64 xv] 53)) = .ok v9 w9 ∧ w9.ownsRow w7.heap.size 53 5 v9 (j3 + 1) (recCells lx ++ (⟨xa, xe, xn, xk, xv⟩ : Rec).cells) ∧ Chg (fun k => (Value.slice px j3 cx).ownBlock = some k) w8 w9) := fun w8 c8 => by
                  have hown8 := c8.row' hownx (fun k hk e => by have e' : k = b := e; have := (hownx.lt k hk).1; omega)
                  obtain ⟨v9, w9, q0, q1, q2, _⟩ := run_append_where (P := Tryz.prog) (w8.alloc (.cells #[.int .i64 xa, .int .i64 xe, .int .i64 xn, .string xk, .int .i64 xv] 53)) w7.heap.size 131 131 53 iR _ 5 48 Tryz.underlying131 hinR hzR0 hzR1 hzR2 rfl (by decide) (.slice px j3 cx) j3 _ (hown8.alloc _) ⟨w8.heap.size, 0, none⟩ 1 1 (⟨xa, xe, xn, xk, xv⟩ : Rec).cells rfl
                    (fun i y hy => by rw [add_lit', Nat.zero_add]; rcases i with _ | _ | _ | _ | _ | i <;> simp [Rec.cells] at hy <;> subst hy <;> exact World.cell?_alloc_at _ _ _ _ rfl)
                    (fun y hy => by simp [Rec.cells] at hy; rcases hy with rfl | rfl | rfl | rfl | rfl <;> rfl) (by unfold maxLen; omega) (by omega) (by have := c8.size; simp; omega)
                  exact ⟨v9, w9, q0, q1, grown_chg q2⟩
                have HTY : Hid (∀ g, (Value.slice px j3 cx).ownBlock = some g → ∃ z, wr.cell? ⟨g, 1, none⟩ = some (.int .i64 z)) := fun g hg => by
                  by_cases h0 : j3 = 0
                  · rw [hnil h0] at hg; simp [Value.ownBlock] at hg
                  · obtain ⟨g', cap', hv, _, _, hcell⟩ := row_pos hownx (by omega)
                    rw [hv] at hg
                    simp [Value.ownBlock] at hg
                    subst hg
                    obtain ⟨y, hy⟩ : ∃ y, lx[0]? = some y := ⟨_, List.getElem?_eq_getElem (by omega)⟩
                    have := (recCells_at lx 0 y hy).2.1
                    exact ⟨_, hcell 1 _ (by simpa using this)⟩
                go_wp2_with (first | (go_at_call 96; refine hrec.mono ?_; rintro _ w8 ⟨rfl, hr8, c8⟩; obtain ⟨v9, w9, hrun, q1, q2⟩ := HAPP.out w8 c8) | (at_builtin; refine Lib.wpList_append_run _ rfl _ _ 131 131 rfl _ _ rfl rfl v9 w9 hrun ?_))
                have hxl : ∀ g, (Value.slice px j3 cx).ownBlock = some g → w7.heap.size ≤ g := fun g hg => (hownx.lt g hg).1
                go_roundw
                case rel =>
                  refine ⟨j3 + 1, lx ++ [⟨xa, xe, xn, xk, xv⟩], r4, by go_num, by omega, by simp [hlx], ?_, ?_, ?_, ?_, ?_, ?_, fun h => by omega, ?_, ?_, HP⟩
                  · exact hr8.beside q2 (fun e => by have := hxl b e; omega) (fun g hg => by
                      obtain ⟨z, hz⟩ := HTY.out g hg
                      exact ⟨z, c8.cellAt hz (fun e => by have e' : g = b := e; have := hxl g hg; omega)⟩)
                  · exact q2.cellAt (c8.cellAt u0 hbn) (fun e => by have := hxl _ e; omega)
                  · exact q2.cellAt (c8.cellAt u1 hbn) (fun e => by have := hxl _ e; omega)
                  · exact q2.row' (c8.row' hown (fun k hk e => by have e' : k = b := e; have := hvl7 k hk; omega)) (fun k hk e => by have := hvl7 k hk; have := hxl k e; omega)
                  · exact q2.row' (c8.row' hownk (fun k hk e => by have e' : k = b := e; have := hkl7 k hk; omega)) (fun k hk e => by have := hkl7 k hk; have := hxl k e; omega)
                  · rw [recCells_append]
                    simpa [recCells] using q1
                  · exact (hcr.trans c8 (fun k _ h => .inl h)).trans q2 (fun k hk h => by have := hxl k h; omega)
                  · exact Nat.le_trans hszr (Nat.le_trans c8.size q2.size)
                case measure => simp [intOf]; omega
              · have hj3 : j3 = nm := by omega
                subst hj3
                have HPARTS : Hid (rParts row r = (l, lk, lx, r3)) := by
                  show _ = _
                  simp only [rParts, ← HRM.out, EA.out, EK.out, EB.out, EM.out, HMY.out]
                have hqb : ¬ w.heap.size = b := by omega
                have hqs : ¬ w.heap.size = wc.heap.size := by omega
                have nq : ¬ (w.heap.size = b ∨ w.heap.size = wc.heap.size) := fun h => h.elim hqb hqs
                have hqW : w.heap.size < W2.heap.size := by rw [HS2.out]; omega
                have zq := (zc.chg c2 id).chg hcr nq
                have zfq : ∀ i, wr.frozen? ⟨w.heap.size, i, none⟩ = false := fun i => (World.frozen?_of_block (w := W2) (hcr.block w.heap.size hqW nq)).trans ((World.frozen?_of_block (w := wc) (c2.block w.heap.size (by omega) id)).trans (zfc i))
                have cwr : Chg (fun k => k = b) w wr := (cw.trans c2 (fun _ _ h => h.elim)).trans hcr (fun k hk h => h.elim id (fun h => by omega))
                have hrE := hr.err
                have hlen : l.length = 4 := hl
                cases hre : r3.err with
                | some ee =>
                  obtain ⟨ep, ef⟩ := ee
                  rw [hre] at hrE
                  obtain ⟨gp, e2, _, _, _⟩ := hrE
                  have HRe : Hid (R = (none, r3)) := by
                    show _ = _
                    rw [HR.out]
                    unfold rHead
                    rw [HPARTS.out]
                    simp only [hre]
                  have o0 := zq.ep 0 (by omega)
                  have o1 := zq.ba 0 (by omega)
                  have o2 := zq.qu 0 (by omega)
                  have o3 := zq.ep 1 (by omega)
                  have o4 := zq.ba 1 (by omega)
                  have o5 := zq.qu 1 (by omega)
                  have o6 := zq.ep 2 (by omega)
                  have o7 := zq.ba 2 (by omega)
                  have o8 := zq.qu 2 (by omega)
                  have o9 := zq.ep 3 (by omega)
                  have o10 := zq.ba 3 (by omega)
                  have o11 := zq.qu 3 (by omega)
                  have o12 := zq.le
                  simp only [Nat.zero_mul, Nat.one_mul, Nat.add_zero, Nat.zero_add, Nat.reduceMul, Nat.reduceAdd] at o0 o1 o2 o3 o4 o5 o6 o7 o8 o9 o10 o11 o12
                  have f0 := zfq 0
                  have f1 := zfq 1
                  have f2 := zfq 2
                  have f3 := zfq 3
                  have f4 := zfq 4
                  have f5 := zfq 5
                  have f6 := zfq 6
                  have f7 := zfq 7
                  have f8 := zfq 8
                  have f9 := zfq 9
                  have f10 := zfq 10
                  have f11 := zfq 11
                  have f12 := zfq 12
                  go_wp2_with fail
                  obtain ⟨W9, hW9⟩ : ∃ W9, W9 = (((((((((((((wr.setCell ⟨w.heap.size, 0, none⟩ (.int .i64 0)).setCell ⟨w.heap.size, 1, none⟩ (.int .i64 0)).setCell ⟨w.heap.size, 2, none⟩ (.slice none 0 0)).setCell ⟨w.heap.size, 3, none⟩ (.int .i64 0)).setCell ⟨w.heap.size, 4, none⟩ (.int .i64 0)).setCell ⟨w.heap.size, 5, none⟩ (.slice none 0 0)).setCell ⟨w.heap.size, 6, none⟩ (.int .i64 0)).setCell ⟨w.heap.size, 7, none⟩ (.int .i64 0)).setCell ⟨w.heap.size, 8, none⟩ (.slice none 0 0)).setCell ⟨w.heap.size, 9, none⟩ (.int .i64 0)).setCell ⟨w.heap.size, 10, none⟩ (.int .i64 0)).setCell ⟨w.heap.size, 11, none⟩ (.slice none 0 0)).setCell ⟨w.heap.size, 12, none⟩ (.slice none 0 0)) := ⟨_, rfl⟩
                  have hput : FlowCells W9 w.heap.size 0 (fun _ => 0) (fun _ => 0) (fun _ => .slice none 0 0) (.slice none 0 0) := by rw [hW9]; exact flow_put (fun _ => 0) (fun _ => 0) (fun _ => .slice none 0 0) (.slice none 0 0) (flowCells_some zq)
                  have c19 : Chg (fun k => k = w.heap.size) wr W9 := by rw [hW9]; exact (setCells_slots w.heap.size (cells13 (fun _ => 0) (fun _ => 0) (fun _ => .slice none 0 0) (.slice none 0 0)) 0 wr).2
                  have r9 : RdAt W9 b row r3 := hr.chgE c19 (fun e => hqb e.symm) (fun g f hg e => by
                    have e' : g = w.heap.size := e
                    subst e'
                    rw [o1] at hg
                    cases hg)
                  rw [← hW9]
                  clear hW9 o0 f0 o1 f1 o2 f2 o3 f3 o4 f4 o5 f5 o6 f6 o7 f7 o8 f8 o9 f9 o10 f10 o11 f11 o12 f12
                  have d0 := hput.ep 0 (by omega)
                  have d1 := hput.ba 0 (by omega)
                  have d2 := hput.qu 0 (by omega)
                  have d3 := hput.ep 1 (by omega)
                  have d4 := hput.ba 1 (by omega)
                  have d5 := hput.qu 1 (by omega)
                  have d6 := hput.ep 2 (by omega)
                  have d7 := hput.ba 2 (by omega)
                  have d8 := hput.qu 2 (by omega)
                  have d9 := hput.ep 3 (by omega)
                  have d10 := hput.ba 3 (by omega)
                  have d11 := hput.qu 3 (by omega)
                  have d12 := hput.le
                  simp only [Nat.zero_mul, Nat.one_mul, Nat.add_zero, Nat.zero_add, Nat.reduceMul, Nat.reduceAdd] at d0 d1 d2 d3 d4 d5 d6 d7 d8 d9 d10 d11 d12
                  refine bodyPost_ret (v := flowZero) ?_ rfl ⟨by rw [HRe.out]; rfl, by rw [HRe.out]; exact r9, cwr.trans c19 (fun k hk e => by omega)⟩
                  simp [results, Tryz.results63, go_sem, d0, d1, d2, d3, d4, d5, d6, d7, d8, d9, d10, d11, d12, flowZero]
                | none =>
                  rw [hre] at hrE
                  have e2 : wr.cell? ⟨b, 2, none⟩ = some .nilIface := hrE
                  have hl4 : l = (rMany (rPair row) 4 rm).1 := by rw [EA.out]
                  have hlk' : lk = (rMany (rKy row) j rk).1 := by rw [EB.out]
                  have hlx' : lx = (rMany (rRec row) j3 rx).1 := by rw [HMY.out]
                  have hres := restore_any (ss := l) (ks := lk) (xs := lx) (row_lower (lo' := 0) (by rw [hlen]; exact hown) (Nat.zero_le _)) (row_lower (lo' := 0) (by rw [hlk]; exact hownk) (Nat.zero_le _)) (row_lower (lo' := 0) (by rw [hlx]; exact hownx) (Nat.zero_le _)) hlen (by omega) (by omega)
                    (fun x hx => by rw [hlx'] at hx; exact rMany_mem (rRec row) Rec.fits (fun r => rRec_fits row r) rx j3 x hx)
                    (fun x hx => by rw [hlk'] at hx; exact rMany_mem (rKy row) (fun y => y.name.size ≤ maxLen) (fun r => by have := rKey_size row r; show (rKey row r).1.size ≤ maxLen; unfold maxLen; omega) rk j x hx)
                    (fun x hx => by rw [hl4] at hx; exact rMany_mem (rPair row) (fun y => y.1 ≤ 9223372036854775807) (fun r => by have := rNum_lt row r; show (((rNum row r).1 : Nat) : Int) ≤ _; omega) rm 4 x hx)
                  clear hl4 hlk' hlx'
                  have HRn : Hid (R = match restore l lk lx with | none => (none, r3.fail 2) | some s => (some s, r3)) := by
                    show _ = _
                    rw [HR.out]
                    unfold rHead
                    rw [HPARTS.out]
                    simp only [hre]
                    cases restore l lk lx <;> rfl
                  have hstr2 : wc.heap.size < wr.heap.size := World.block_lt_of_cell? _ _ u0
                  have hq0 : w.heap.size < wr.heap.size := by omega
                  cases hrs : restore l lk lx with
                  | none =>
                    rw [hrs] at hres HRn
                    simp only [RestoreRes] at hres
                    unfold flowZero at hres
                    go_upto_if 67 with (go_at_call 97; refine hres.mono ?_; rintro _ w8 ⟨rfl, c8⟩)
                    obtain ⟨W9, hW9⟩ : ∃ W9, W9 = w8.alloc (.cells #[.int .i64 0, .int .i64 0, .slice none 0 0, .int .i64 0, .int .i64 0, .slice none 0 0, .int .i64 0, .int .i64 0, .slice none 0 0, .int .i64 0, .int .i64 0, .slice none 0 0, .slice none 0 0] 98) := ⟨_, rfl⟩
                    have c89 : Chg (fun _ => False) w8 W9 := by rw [hW9]; exact (Chg.refl _ w8).alloc _
                    have fy9 : FlowCells W9 w8.heap.size 0 (fun _ => 0) (fun _ => 0) (fun _ => .slice none 0 0) (.slice none 0 0) := by rw [hW9]; exact flow_alloc w8 98 (fun _ => 0) (fun _ => 0) (fun _ => .slice none 0 0) (.slice none 0 0)
                    rw [← hW9]
                    clear hW9
                    have cr9 : Chg (fun _ => False) wr W9 := c8.trans c89 (fun _ _ h => h)
                    have r9 := hr.chg cr9 id (.inr fun _ => id)
                    have hf := rfail_any r9 2
                    have hs8 := c8.size
                    go_upto_region 22 with (go_at_call 92; refine hf.mono ?_; rintro _ w10 ⟨rfl, r10, c10⟩)
                    have hb8 : b < wr.heap.size := by have := cwr.size; omega
                    have n8b : ¬ w8.heap.size = b := by omega
                    have fy10 := fy9.chg c10 n8b
                    have z10 := (zq.chg cr9 id).chg c10 hqb
                    have hq9 : w.heap.size < W9.heap.size := Nat.lt_of_lt_of_le hq0 cr9.size
                    have zf10 : ∀ i, w10.frozen? ⟨w.heap.size, i, none⟩ = false := fun i => (World.frozen?_of_block (w := W9) (c10.block w.heap.size hq9 hqb)).trans ((World.frozen?_of_block (w := wr) (cr9.block w.heap.size hq0 id)).trans (zfq i))
                    have o0 := z10.ep 0 (by omega)
                    have o1 := z10.ba 0 (by omega)
                    have o2 := z10.qu 0 (by omega)
                    have o3 := z10.ep 1 (by omega)
                    have o4 := z10.ba 1 (by omega)
                    have o5 := z10.qu 1 (by omega)
                    have o6 := z10.ep 2 (by omega)
                    have o7 := z10.ba 2 (by omega)
                    have o8 := z10.qu 2 (by omega)
                    have o9 := z10.ep 3 (by omega)
                    have o10 := z10.ba 3 (by omega)
                    have o11 := z10.qu 3 (by omega)
                    have o12 := z10.le
                    simp only [Nat.zero_mul, Nat.one_mul, Nat.add_zero, Nat.zero_add, Nat.reduceMul, Nat.reduceAdd] at o0 o1 o2 o3 o4 o5 o6 o7 o8 o9 o10 o11 o12
                    have f0 := zf10 0
                    have f1 := zf10 1
                    have f2 := zf10 2
                    have f3 := zf10 3
                    have f4 := zf10 4
                    have f5 := zf10 5
                    have f6 := zf10 6
                    have f7 := zf10 7
                    have f8 := zf10 8
                    have f9 := zf10 9
                    have f10 := zf10 10
                    have f11 := zf10 11
                    have f12 := zf10 12
                    have y0 := fy10.ep 0 (by omega)
                    have y1 := fy10.ba 0 (by omega)
                    have y2 := fy10.qu 0 (by omega)
                    have y3 := fy10.ep 1 (by omega)
                    have y4 := fy10.ba 1 (by omega)
                    have y5 := fy10.qu 1 (by omega)
                    have y6 := fy10.ep 2 (by omega)
                    have y7 := fy10.ba 2 (by omega)
                    have y8 := fy10.qu 2 (by omega)
                    have y9 := fy10.ep 3 (by omega)
                    have y10 := fy10.ba 3 (by omega)
                    have y11 := fy10.qu 3 (by omega)
                    have y12 := fy10.le
                    simp only [Nat.zero_mul, Nat.one_mul, Nat.add_zero, Nat.zero_add, Nat.reduceMul, Nat.reduceAdd] at y0 y1 y2 y3 y4 y5 y6 y7 y8 y9 y10 y11 y12
                    go_wp2_with fail
                    obtain ⟨WW, hWW⟩ : ∃ WW, WW = (((((((((((((w10.setCell ⟨w.heap.size, 0, none⟩ (.int .i64 0)).setCell ⟨w.heap.size, 1, none⟩ (.int .i64 0)).setCell ⟨w.heap.size, 2, none⟩ (.slice none 0 0)).setCell ⟨w.heap.size, 3, none⟩ (.int .i64 0)).setCell ⟨w.heap.size, 4, none⟩ (.int .i64 0)).setCell ⟨w.heap.size, 5, none⟩ (.slice none 0 0)).setCell ⟨w.heap.size, 6, none⟩ (.int .i64 0)).setCell ⟨w.heap.size, 7, none⟩ (.int .i64 0)).setCell ⟨w.heap.size, 8, none⟩ (.slice none 0 0)).setCell ⟨w.heap.size, 9, none⟩ (.int .i64 0)).setCell ⟨w.heap.size, 10, none⟩ (.int .i64 0)).setCell ⟨w.heap.size, 11, none⟩ (.slice none 0 0)).setCell ⟨w.heap.size, 12, none⟩ (.slice none 0 0)) := ⟨_, rfl⟩
                    have hput : FlowCells WW w.heap.size 0 (fun _ => 0) (fun _ => 0) (fun _ => .slice none 0 0) (.slice none 0 0) := by rw [hWW]; exact flow_put (fun _ => 0) (fun _ => 0) (fun _ => .slice none 0 0) (.slice none 0 0) (flowCells_some z10)
                    have c19 : Chg (fun k => k = w.heap.size) w10 WW := by rw [hWW]; exact (setCells_slots w.heap.size (cells13 (fun _ => 0) (fun _ => 0) (fun _ => .slice none 0 0) (.slice none 0 0)) 0 w10).2
                    have rW : RdAt WW b row (r3.fail 2) := r10.chgE c19 (fun e => hqb e.symm) (fun g f hg e => by
                      have e' : g = w.heap.size := e
                      subst e'
                      rw [o1] at hg
                      cases hg)
                    rw [← hWW]
                    clear hWW o0 f0 y0 o1 f1 y1 o2 f2 y2 o3 f3 y3 o4 f4 y4 o5 f5 y5 o6 f6 y6 o7 f7 y7 o8 f8 y8 o9 f9 y9 o10 f10 y10 o11 f11 y11 o12 f12 y12
                    have d0 := hput.ep 0 (by omega)
                    have d1 := hput.ba 0 (by omega)
                    have d2 := hput.qu 0 (by omega)
                    have d3 := hput.ep 1 (by omega)
                    have d4 := hput.ba 1 (by omega)
                    have d5 := hput.qu 1 (by omega)
                    have d6 := hput.ep 2 (by omega)
                    have d7 := hput.ba 2 (by omega)
                    have d8 := hput.qu 2 (by omega)
                    have d9 := hput.ep 3 (by omega)
                    have d10 := hput.ba 3 (by omega)
                    have d11 := hput.qu 3 (by omega)
                    have d12 := hput.le
                    simp only [Nat.zero_mul, Nat.one_mul, Nat.add_zero, Nat.zero_add, Nat.reduceMul, Nat.reduceAdd] at d0 d1 d2 d3 d4 d5 d6 d7 d8 d9 d10 d11 d12
                    refine bodyPost_ret (v := flowZero) ?_ rfl ⟨by rw [HRn.out]; rfl, by rw [HRn.out]; exact rW, ((cwr.trans cr9 (fun _ _ h => h.elim)).trans c10 (fun _ _ h => h)).trans c19 (fun k hk e => by omega)⟩
                    simp [results, Tryz.results63, go_sem, d0, d1, d2, d3, d4, d5, d6, d7, d8, d9, d10, d11, d12, flowZero]
                  | some s =>
                    rw [hrs] at hres HRn
                    simp only [RestoreRes] at hres
                    unfold flowVal at hres
                    go_upto_if 67 with (go_at_call 97; refine hres.mono ?_; rintro _ w8 ⟨⟨E, B, V, vk, Q, ks', rfl, hV⟩, c8⟩; obtain ⟨p0, n0, hV0⟩ := row_any (hV.rows 0 (by omega)); obtain ⟨p1, n1, hV1⟩ := row_any (hV.rows 1 (by omega)); obtain ⟨p2, n2, hV2⟩ := row_any (hV.rows 2 (by omega)); obtain ⟨p3, n3, hV3⟩ := row_any (hV.rows 3 (by omega)); obtain ⟨pk2, nk2, hvk⟩ := row_any hV.keys; have HV0 : Hid (V 0 = .slice p0 (Q 0).length n0) := hV0; have HV1 : Hid (V 1 = .slice p1 (Q 1).length n1) := hV1; have HV2 : Hid (V 2 = .slice p2 (Q 2).length n2) := hV2; have HV3 : Hid (V 3 = .slice p3 (Q 3).length n3) := hV3; have HVK : Hid (vk = .slice pk2 ks'.length nk2) := hvk; rw [hV0, hV1, hV2, hV3, hvk]; clear hV0 hV1 hV2 hV3 hvk)
                    obtain ⟨W9, hW9⟩ : ∃ W9, W9 = w8.alloc (.cells #[.int .i64 (E 0), .int .i64 (B 0), .slice p0 (Q 0).length n0, .int .i64 (E 1), .int .i64 (B 1), .slice p1 (Q 1).length n1, .int .i64 (E 2), .int .i64 (B 2), .slice p2 (Q 2).length n2, .int .i64 (E 3), .int .i64 (B 3), .slice p3 (Q 3).length n3, .slice pk2 ks'.length nk2] 98) := ⟨_, rfl⟩
                    have c89 : Chg (fun _ => False) w8 W9 := by rw [hW9]; exact (Chg.refl _ w8).alloc _
                    have fy9 : FlowCells W9 w8.heap.size 0 E B V vk := by
                      rw [hW9, ← HV0.out, ← HV1.out, ← HV2.out, ← HV3.out, ← HVK.out]
                      exact flow_alloc w8 98 E B V vk
                    rw [← hW9]
                    clear hW9
                    have cr9 : Chg (fun _ => False) wr W9 := c8.trans c89 (fun _ _ h => h)
                    have r9 := hr.chg cr9 id (.inr fun _ => id)
                    have z9 := zq.chg cr9 id
                    have zf9 : ∀ i, W9.frozen? ⟨w.heap.size, i, none⟩ = false := fun i => (World.frozen?_of_block (w := wr) (cr9.block w.heap.size hq0 id)).trans (zfq i)
                    have o0 := z9.ep 0 (by omega)
                    have o1 := z9.ba 0 (by omega)
                    have o2 := z9.qu 0 (by omega)
                    have o3 := z9.ep 1 (by omega)
                    have o4 := z9.ba 1 (by omega)
                    have o5 := z9.qu 1 (by omega)
                    have o6 := z9.ep 2 (by omega)
                    have o7 := z9.ba 2 (by omega)
                    have o8 := z9.qu 2 (by omega)
                    have o9 := z9.ep 3 (by omega)
                    have o10 := z9.ba 3 (by omega)
                    have o11 := z9.qu 3 (by omega)
                    have o12 := z9.le
                    simp only [Nat.zero_mul, Nat.one_mul, Nat.add_zero, Nat.zero_add, Nat.reduceMul, Nat.reduceAdd] at o0 o1 o2 o3 o4 o5 o6 o7 o8 o9 o10 o11 o12
                    have f0 := zf9 0
                    have f1 := zf9 1
                    have f2 := zf9 2
                    have f3 := zf9 3
                    have f4 := zf9 4
                    have f5 := zf9 5
                    have f6 := zf9 6
                    have f7 := zf9 7
                    have f8 := zf9 8
                    have f9 := zf9 9
                    have f10 := zf9 10
                    have f11 := zf9 11
                    have f12 := zf9 12
                    have y0 := fy9.ep 0 (by omega)
                    have y1 := fy9.ba 0 (by omega)
                    have y2 := fy9.qu 0 (by omega)
                    have y3 := fy9.ep 1 (by omega)
                    have y4 := fy9.ba 1 (by omega)
                    have y5 := fy9.qu 1 (by omega)
                    have y6 := fy9.ep 2 (by omega)
                    have y7 := fy9.ba 2 (by omega)
                    have y8 := fy9.qu 2 (by omega)
                    have y9 := fy9.ep 3 (by omega)
                    have y10 := fy9.ba 3 (by omega)
                    have y11 := fy9.qu 3 (by omega)
                    have y12 := fy9.le
                    simp only [Nat.zero_mul, Nat.one_mul, Nat.add_zero, Nat.zero_add, Nat.reduceMul, Nat.reduceAdd] at y0 y1 y2 y3 y4 y5 y6 y7 y8 y9 y10 y11 y12
                    rw [HV0.out] at y2
                    rw [HV1.out] at y5
                    rw [HV2.out] at y8
                    rw [HV3.out] at y11
                    rw [HVK.out] at y12
                    go_wp2_with fail
                    obtain ⟨WW, hWW⟩ : ∃ WW, WW = (((((((((((((W9.setCell ⟨w.heap.size, 0, none⟩ (.int .i64 (E 0))).setCell ⟨w.heap.size, 1, none⟩ (.int .i64 (B 0))).setCell ⟨w.heap.size, 2, none⟩ (.slice p0 (Q 0).length n0)).setCell ⟨w.heap.size, 3, none⟩ (.int .i64 (E 1))).setCell ⟨w.heap.size, 4, none⟩ (.int .i64 (B 1))).setCell ⟨w.heap.size, 5, none⟩ (.slice p1 (Q 1).length n1)).setCell ⟨w.heap.size, 6, none⟩ (.int .i64 (E 2))).setCell ⟨w.heap.size, 7, none⟩ (.int .i64 (B 2))).setCell ⟨w.heap.size, 8, none⟩ (.slice p2 (Q 2).length n2)).setCell ⟨w.heap.size, 9, none⟩ (.int .i64 (E 3))).setCell ⟨w.heap.size, 10, none⟩ (.int .i64 (B 3))).setCell ⟨w.heap.size, 11, none⟩ (.slice p3 (Q 3).length n3)).setCell ⟨w.heap.size, 12, none⟩ (.slice pk2 ks'.length nk2)) := ⟨_, rfl⟩
                    have hWW' : WW = W9.setCells w.heap.size 0 (cells13 E B V vk) := by rw [hWW]; unfold cells13; rw [HV0.out, HV1.out, HV2.out, HV3.out, HVK.out]; rfl
                    have hput : FlowCells WW w.heap.size 0 E B V vk := by rw [hWW']; exact flow_put E B V vk (flowCells_some z9)
                    have c19 : Chg (fun k => k = w.heap.size) W9 WW := by rw [hWW']; exact (setCells_slots w.heap.size (cells13 E B V vk) 0 W9).2
                    have rW : RdAt WW b row r3 := r9.chgE c19 (fun e => hqb e.symm) (fun g f hg e => by
                      have e' : g = w.heap.size := e
                      subst e'
                      rw [o1] at hg
                      cases hg)
                    rw [← hWW]
                    clear hWW hWW' o0 f0 y0 o1 f1 y1 o2 f2 y2 o3 f3 y3 o4 f4 y4 o5 f5 y5 o6 f6 y6 o7 f7 y7 o8 f8 y8 o9 f9 y9 o10 f10 y10 o11 f11 y11 o12 f12 y12
                    have d0 := hput.ep 0 (by omega)
                    have d1 := hput.ba 0 (by omega)
                    have d2 := hput.qu 0 (by omega)
                    have d3 := hput.ep 1 (by omega)
                    have d4 := hput.ba 1 (by omega)
                    have d5 := hput.qu 1 (by omega)
                    have d6 := hput.ep 2 (by omega)
                    have d7 := hput.ba 2 (by omega)
                    have d8 := hput.qu 2 (by omega)
                    have d9 := hput.ep 3 (by omega)
                    have d10 := hput.ba 3 (by omega)
                    have d11 := hput.qu 3 (by omega)
                    have d12 := hput.le
                    simp only [Nat.zero_mul, Nat.one_mul, Nat.add_zero, Nat.zero_add, Nat.reduceMul, Nat.reduceAdd] at d0 d1 d2 d3 d4 d5 d6 d7 d8 d9 d10 d11 d12
                    refine bodyPost_ret (v := flowVal E B V vk) ?_ rfl ⟨?_, by rw [HRn.out]; exact rW, (cwr.trans cr9 (fun _ _ h => h.elim)).trans c19 (fun k hk e => by omega)⟩
                    · simp [results, Tryz.results63, go_sem, d0, d1, d2, d3, d4, d5, d6, d7, d8, d9, d10, d11, d12, flowVal]
                    · rw [HRn.out]
                      refine ⟨E, B, V, vk, Q, ks', rfl, ((hV.older (by omega)).chg c89 (fun _ _ h => h)).chg c19 (fun k hk e => ?_)⟩
                      have e' : k = w.heap.size := e
                      have := hV.young k hk
                      omega
end Go.Proofs.YthedkdbgfdjlkaaGreatDoor

namespace Go.Proofs.YthedkdbgfdjlkaaGreatDoor
set_option linter.unusedVariables false
set_option linter.unusedSimpArgs false
open Go.RowKit Go.Lib
theorem eq_of_toList {t : ByteArray} {l : List UInt8} : (t.toList == l) = decide (t = ⟨l.toArray⟩) := by
  rw [ByteArray.toList_eq]
  by_cases h : t = ⟨l.toArray⟩
  · rw [decide_eq_true h, h]; simp
  · rw [decide_eq_false h]
    simp
    exact fun e => h (ByteArray.ext (by rw [← Array.toList_inj, e]))
set_option maxRecDepth 100000 in
set_option maxHeartbeats 4000000 in
theorem entry_any {w : World} {b fb : Nat} {row : ByteArray} {r : Rs} {s : St} {F : Nat → Prop} (h : RdAt w b row r) (hf : FlowIs w fb 0 s F) (hbF : ¬ F b) (hr0 : r.err = none) : Calls Tryz.prog 64 #[.pointer (some ⟨b, 0, none⟩), .pointer (some ⟨fb, 0, none⟩)] w fun e w' =>
    ∃ F', e = .returned (.tuple #[]) ∧ RdAt w' b row (rEntry row s r).2 ∧ FlowIs w' fb 0 (rEntry row s r).1 F' ∧ (∀ k, F' k → F k ∨ w.heap.size ≤ k) ∧ Chg (fun k => k = b ∨ F k) w w' := by
  have hb : b < w.heap.size := World.block_lt_of_cell? _ _ h.src
  have ht := rtext_any h 1 (by omega)
  obtain ⟨R, hR⟩ : ∃ R, R = rEntry row s r := ⟨_, rfl⟩
  have HR : Hid (R = rEntry row s r) := hR
  rw [← hR]
  clear hR
  obtain ⟨⟨t, r1⟩, et⟩ : ∃ p, rText row 1 r = p := ⟨_, rfl⟩
  have ET : Hid (rText row 1 r = (t, r1)) := et
  rw [et] at ht
  simp only at ht
  clear et
  have he114 : (t.toList == [114]) = decide (t = accR) := eq_of_toList
  have he97 : (t.toList == [97]) = decide (t = ansR) := eq_of_toList
  have hb0 : ∀ k, F k → ¬ k = b := fun k hk e => hbF (e ▸ hk)
  by_cases h1 : t = accR
  · have q1 : (t.toList == [114]) = true := by rw [he114]; exact decide_eq_true h1
    have HRa : Hid (R = match (rRec row r1).2.err with
        | some _ => (s, (rRec row r1).2)
        | none => ((accept s (rRec row r1).1).2, if (accept s (rRec row r1).1).1.2 = 0 then (rRec row r1).2 else (rRec row r1).2.fail 2)) := by
      show _ = _
      rw [HR.out]
      simp only [rEntry, ET.out]
      rw [if_pos h1]
      cases (rRec row r1).2.err <;> rfl
    clear he114 he97 h1 HR ET
    have hxf := rRec_fits row r1
    obtain ⟨⟨x, r2⟩, ex⟩ : ∃ p, rRec row r1 = p := ⟨_, rfl⟩
    have EX : Hid (rRec row r1 = (x, r2)) := ex
    rw [ex] at HRa hxf
    clear ex
    simp only at HRa hxf
    go_enter Tryz.func64, Tryz.ntmps64
    go_upto_region 3 with (go_at_call 91; refine ht.mono ?_; rintro _ w1 ⟨rfl, h1', c1⟩)
    have hrec := rrec_any h1'
    rw [EX.out] at hrec
    simp only at hrec
    unfold Rec.value' at hrec
    go_upto_region 5 with (go_at_call 96; refine hrec.mono ?_; rintro _ w2 ⟨rfl, h2, c2⟩)
    obtain ⟨W3, hW3⟩ : ∃ W3, W3 = w2.alloc (.cells #[.int .i64 x.session, .int .i64 x.epoch, .int .i64 x.number, .string x.key, .int .i64 x.value] 53) := ⟨_, rfl⟩
    have c3 : Chg (fun _ => False) w2 W3 := by rw [hW3]; exact (Chg.refl _ w2).alloc _
    have x0 : W3.cell? ⟨w2.heap.size, 0, none⟩ = some (.int .i64 x.session) := by rw [hW3]; exact World.cell?_alloc_at _ _ _ _ rfl
    have x1 : W3.cell? ⟨w2.heap.size, 1, none⟩ = some (.int .i64 x.epoch) := by rw [hW3]; exact World.cell?_alloc_at _ _ _ _ rfl
    have x2 : W3.cell? ⟨w2.heap.size, 2, none⟩ = some (.int .i64 x.number) := by rw [hW3]; exact World.cell?_alloc_at _ _ _ _ rfl
    have x3 : W3.cell? ⟨w2.heap.size, 3, none⟩ = some (.string x.key) := by rw [hW3]; exact World.cell?_alloc_at _ _ _ _ rfl
    have x4 : W3.cell? ⟨w2.heap.size, 4, none⟩ = some (.int .i64 x.value) := by rw [hW3]; exact World.cell?_alloc_at _ _ _ _ rfl
    rw [← hW3]
    clear hW3
    have c03 : Chg (fun k => k = b) w W3 := (c1.trans c2 (fun _ _ h => h)).trans c3 (fun _ _ h => h.elim)
    have h3 := h2.chg c3 id (.inr fun _ => id)
    have hf3 := hf.same c03 hb0
    have hE := h3.err
    cases hre : r2.err with
    | some ee =>
      obtain ⟨ep, ef⟩ := ee
      rw [hre] at hE
      obtain ⟨gp, e2, _, _, _⟩ := hE
      have e : Hid (R = (s, r2)) := by show _ = _; rw [HRa.out, hre]
      clear HRa
      go_wp2_with fail
      go_end0
      rw [e.out]
      exact ⟨F, rfl, h3, hf3, fun k hk => .inl hk, c03.mono (fun k hk => .inl hk)⟩
    | none =>
      rw [hre] at hE
      have e2 : W3.cell? ⟨b, 2, none⟩ = some .nilIface := hE
      have e : Hid (R = ((accept s x).2, if (accept s x).1.2 = 0 then r2 else r2.fail 2)) := by show _ = _; rw [HRa.out, hre]
      clear HRa
      have hacc := flowIs_accept x hf3 hxf
      generalize accept s x = A at hacc e
      obtain ⟨⟨ab, ae⟩, s'⟩ := A
      simp only at hacc e
      unfold Rec.value' at hacc
      have hs3 : w.heap.size ≤ W3.heap.size := c03.size
      by_cases h0 : ae = 0
      · subst h0
        go_wp2_with (go_at_call 40; refine hacc.mono ?_; rintro _ w4 ⟨ch, F', rfl, hF', hFF, c4⟩)
        go_end0
        rw [e.out]
        refine ⟨F', rfl, by simp; exact h3.chg c4 hbF (.inl hre), hF', fun k hk => (hFF k hk).imp id (fun h => Nat.le_trans hs3 h), ?_⟩
        exact (c03.mono (fun k hk => .inl hk)).trans c4 (fun k _ h => .inr h)
      · have h0' : (ae == 0) = false := by simpa using h0
        go_upto_if 47 with (go_at_call 40; refine hacc.mono ?_; rintro _ w4 ⟨ch, F', rfl, hF', hFF, c4⟩)
        have h4 := h3.chg c4 hbF (.inl hre)
        have hfl := rfail_any h4 2
        have hbF' : ∀ k, F' k → ¬ k = b := fun k hk e => by
          rcases hFF k hk with h | h
          · exact hb0 k h e
          · omega
        go_wp2_with (go_at_call 92; refine hfl.mono ?_; rintro _ w5 ⟨rfl, h5, c5⟩)
        go_end0
        rw [e.out]
        refine ⟨F', rfl, by rw [if_neg h0]; exact h5, hF'.same c5 hbF', fun k hk => (hFF k hk).imp id (fun h => Nat.le_trans hs3 h), ?_⟩
        exact ((c03.mono (fun k hk => .inl hk)).trans c4 (fun k _ h => .inr h)).trans c5 (fun k _ h => .inl h)
  · by_cases h2 : t = ansR
    · have q1 : (t.toList == [114]) = false := by rw [he114]; exact decide_eq_false h1
      have q2 : (t.toList == [97]) = true := by rw [he97]; exact decide_eq_true h2
      have HRa : Hid (R = match (rNum row (rKey row r1).2).2.err with
          | some _ => (s, (rNum row (rKey row r1).2).2)
          | none => ((answer s (rKey row r1).1 (rNum row (rKey row r1).2).1).2, if (answer s (rKey row r1).1 (rNum row (rKey row r1).2).1).1 = 0 then (rNum row (rKey row r1).2).2 else (rNum row (rKey row r1).2).2.fail 2)) := by
        show _ = _
        rw [HR.out]
        simp only [rEntry, ET.out]
        rw [if_neg h1, if_pos h2]
        cases (rNum row (rKey row r1).2).2.err <;> rfl
      have hks := rKey_size row r1
      have hnl := rNum_lt row (rKey row r1).2
      clear he114 he97 h1 h2 HR ET
      obtain ⟨⟨ky, r2⟩, ex⟩ : ∃ p, rKey row r1 = p := ⟨_, rfl⟩
      have EX : Hid (rKey row r1 = (ky, r2)) := ex
      rw [ex] at HRa hks hnl
      clear ex
      simp only at HRa hks hnl
      obtain ⟨⟨n, r3⟩, en⟩ : ∃ p, rNum row r2 = p := ⟨_, rfl⟩
      have EN : Hid (rNum row r2 = (n, r3)) := en
      rw [en] at HRa hnl
      clear en
      simp only at HRa hnl
      go_enter Tryz.func64, Tryz.ntmps64
      go_upto_region 3 with (go_at_call 91; refine ht.mono ?_; rintro _ w1 ⟨rfl, h1', c1⟩)
      have hkey := rkey_any h1'
      rw [EX.out] at hkey
      simp only at hkey
      have HNUM : Hid (∀ W, RdAt W b row r2 → Calls Tryz.prog 93 #[.pointer (some ⟨b, 0, none⟩)] W fun e w' => e = .returned (.int .i64 n) ∧ RdAt w' b row r3 ∧ Chg (fun k => k = b) W w') := fun W hW => by
        have := rnum_any hW
        rw [EN.out] at this
        exact this
      go_upto_region 9 with (first | (go_at_call 95; refine hkey.mono ?_; rintro _ w2 ⟨rfl, h2, c2⟩) | (go_at_call 93; refine (HNUM.out w2 h2).mono ?_; rintro _ w3 ⟨rfl, h3, c3⟩))
      have c03 : Chg (fun k => k = b) w w3 := (c1.trans c2 (fun _ _ h => h)).trans c3 (fun _ _ h => h)
      have hf3 := hf.same c03 hb0
      have hE := h3.err
      cases hre : r3.err with
      | some ee =>
        obtain ⟨ep, ef⟩ := ee
        rw [hre] at hE
        obtain ⟨gp, e2, _, _, _⟩ := hE
        have e : Hid (R = (s, r3)) := by show _ = _; rw [HRa.out, hre]
        clear HRa
        go_wp2_with fail
        go_end0
        rw [e.out]
        exact ⟨F, rfl, h3, hf3, fun k hk => .inl hk, c03.mono (fun k hk => .inl hk)⟩
      | none =>
        rw [hre] at hE
        have e2 : w3.cell? ⟨b, 2, none⟩ = some .nilIface := hE
        have e : Hid (R = ((answer s ky n).2, if (answer s ky n).1 = 0 then r3 else r3.fail 2)) := by show _ = _; rw [HRa.out, hre]
        clear HRa
        have hans := flowIs_answer ky (n : Int) hf3 (by unfold maxLen; omega) (by unfold inInt; omega)
        generalize answer s ky n = A at hans e
        obtain ⟨ae, s'⟩ := A
        simp only at hans e
        by_cases h0 : ae = 0
        · subst h0
          go_wp2_with (go_at_call 42; refine hans.mono ?_; rintro _ w4 ⟨ch, rfl, hF', c4⟩)
          go_end0
          rw [e.out]
          refine ⟨F, rfl, by simp; exact h3.chg c4 hbF (.inl hre), hF', fun k hk => .inl hk, ?_⟩
          exact (c03.mono (fun k hk => .inl hk)).trans c4 (fun k _ h => .inr h)
        · have h0' : (ae == 0) = false := by simpa using h0
          go_upto_if 47 with (go_at_call 42; refine hans.mono ?_; rintro _ w4 ⟨ch, rfl, hF', c4⟩)
          have h4 := h3.chg c4 hbF (.inl hre)
          have hfl := rfail_any h4 2
          go_wp2_with (go_at_call 92; refine hfl.mono ?_; rintro _ w5 ⟨rfl, h5, c5⟩)
          go_end0
          rw [e.out]
          refine ⟨F, rfl, by rw [if_neg h0]; exact h5, hF'.same c5 hb0, fun k hk => .inl hk, ?_⟩
          exact ((c03.mono (fun k hk => .inl hk)).trans c4 (fun k _ h => .inr h)).trans c5 (fun k _ h => .inl h)
    · have q1 : (t.toList == [114]) = false := by rw [he114]; exact decide_eq_false h1
      have q2 : (t.toList == [97]) = false := by rw [he97]; exact decide_eq_false h2
      have e : Hid (R = (s, r1.fail 2)) := by
        show _ = _
        rw [HR.out]
        simp only [rEntry, ET.out]
        rw [if_neg h1, if_neg h2]
      clear he114 he97 h1 h2 HR ET
      go_enter Tryz.func64, Tryz.ntmps64
      go_upto_region 3 with (go_at_call 91; refine ht.mono ?_; rintro _ w1 ⟨rfl, h1', c1⟩)
      have hfl := rfail_any h1' 2
      go_wp2_with (go_at_call 92; refine hfl.mono ?_; rintro _ w5 ⟨rfl, h5, c5⟩)
      go_end0
      rw [e.out]
      refine ⟨F, rfl, h5, (hf.same c1 hb0).same c5 hb0, fun k hk => .inl hk, (c1.mono (fun k hk => .inl hk)).trans c5 (fun k _ h => .inl h)⟩
end Go.Proofs.YthedkdbgfdjlkaaGreatDoor

namespace Go.Proofs.YthedkdbgfdjlkaaGreatDoor
set_option linter.unusedVariables false
set_option linter.unusedSimpArgs false
open Go.RowKit Go.Lib
theorem flowV_zero (w : World) (lo : Nat) : FlowV w lo (fun _ => 0) (fun _ => 0) (fun _ => .slice none 0 0) (.slice none 0 0) (fun _ => []) [] St.init := by
  refine ⟨fun i _ => World.ownsRow_nil _ _ _ _, World.ownsRow_nil _ _ _ _, fun i j _ _ _ g hg => by simp [Value.ownBlock] at hg, fun i _ g hg => by simp [Value.ownBlock] at hg, ⟨fun i hi => by simp, by simp, ⟨List.Pairwise.nil, by simp, by simp, by simp, by simp [counts, qLens]⟩, fun i hi => by simp [counts], fun i hi x hx => by simp at hx⟩, ⟨rfl, rfl, fun i hi => ⟨Ln.init, ?_, rfl, rfl, List.Pairwise.nil, .refl _, trivial, by simp [Ln.init]⟩, fun i hi => by simp, by simp [St.names, St.init, Ln.init, distinct], by simp⟩, sound_init, fun k hk => ?_⟩
  · rcases (by omega : i = 0 ∨ i = 1 ∨ i = 2 ∨ i = 3) with rfl | rfl | rfl | rfl <;> rfl
  · rcases hk with ⟨i, _, hk⟩ | hk <;> simp [Value.ownBlock] at hk
theorem headRes_flow {w w' : World} {e : Ending} {o : Option St} (h : HeadRes w w' e o) : ∃ E B V vk Q ks, e = .returned (flowVal E B V vk) ∧ FlowV w' w.heap.size E B V vk Q ks (o.getD St.init) := by
  cases o with
  | none => exact ⟨fun _ => 0, fun _ => 0, fun _ => .slice none 0 0, .slice none 0 0, fun _ => [], [], h, flowV_zero w' _⟩
  | some s => exact h
theorem rEntry_on (row : ByteArray) (s : St) (r : Rs) : Rs.on row (rText row 1 r).2 (rEntry row s r).2 := by
  unfold rEntry
  simp only
  split
  · have h := Rs.on.rec_ row (rText row 1 r).2
    split
    · exact h
    · split
      · exact h
      · exact h.trans (Rs.on.fail row _ 2)
  · split
    · have h := (Rs.on.key row (rText row 1 r).2).trans (Rs.on.num row _)
      split
      · exact h
      · split
        · exact h
        · exact h.trans (Rs.on.fail row _ 2)
    · exact Rs.on.fail row _ 2
theorem rEntry_next {row : ByteArray} {s : St} {r : Rs} (h : (rEntry row s r).2.err = none) : r.at_ + 1 ≤ (rEntry row s r).2.at_ := by
  have h1 := rEntry_on row s r
  have h2 := rText_pos (on_none h1 h)
  have := h1.le
  omega
theorem rEntry_fits {row : ByteArray} {s : St} {r : Rs} (h : r.at_ ≤ row.size) : (rEntry row s r).2.at_ ≤ row.size := ((Rs.on.text row 1 r).trans (rEntry_on row s r)).fits h
theorem rEntry_le (row : ByteArray) (s : St) (r : Rs) : r.at_ ≤ (rEntry row s r).2.at_ := ((Rs.on.text row 1 r).trans (rEntry_on row s r)).le
theorem rLoop_err (row : ByteArray) (f : Nat) (s : St) (r : Rs) (c : Nat) {e} (h : r.err = some e) : rLoop row f s r c = (s, c, r) := by
  cases f with
  | zero => rfl
  | succ f => simp [rLoop, h]
theorem rLoop_pos (row : ByteArray) : ∀ (f : Nat) (s : St) (r : Rs) (c : Nat), 0 < r.at_ → (0 < c ∨ (r.err = none ∧ 0 < f)) → 0 < (rLoop row f s r c).2.1
  | 0, s, r, c, _, h => by
    rcases h with h | h
    · exact h
    · omega
  | f + 1, s, r, c, ha, h => by
    cases e : r.err with
    | some x =>
      rw [rLoop_err row _ s r c e]
      rcases h with h | h
      · exact h
      · rw [e] at h; cases h.1
    | none =>
      simp only [rLoop, e]
      split
      · exact ha
      · exact rLoop_pos row f _ _ _ (Nat.lt_of_lt_of_le ha (rEntry_le row s r)) (.inl ha)
theorem rLoop_le (row : ByteArray) : ∀ (f : Nat) (s : St) (r : Rs) (c : Nat), r.at_ ≤ row.size → c ≤ row.size → (rLoop row f s r c).2.1 ≤ row.size
  | 0, s, r, c, _, h => h
  | f + 1, s, r, c, ha, h => by
    cases e : r.err with
    | some x => rw [rLoop_err row _ s r c e]; exact h
    | none =>
      simp only [rLoop, e]
      split
      · exact ha
      · exact rLoop_le row f _ _ _ (rEntry_fits ha) ha
def ErrV (w : World) (v : Value) : Option (Nat × Int) → Prop
  | none => v = .nilIface
  | some (_, f) => ∃ g, v = .iface 231 (.pointer (some ⟨g, 0, none⟩)) ∧ w.cell? ⟨g, 1, none⟩ = some (.iface 154 (.int .i64 f))
def rdM (row : ByteArray) (rb : Nat) (w : World) : Nat := match w.cell? ⟨rb, 2, none⟩ with
  | some .nilIface => row.size + 1 - (match w.cell? ⟨rb, 1, none⟩ with | some v => (intOf v).toNat | none => 0)
  | _ => 0
theorem rdM_none {w : World} {rb : Nat} {row : ByteArray} {r : Rs} (h : RdAt w rb row r) (he : r.err = none) : rdM row rb w = row.size + 1 - r.at_ := by
  have hE := h.err
  rw [he] at hE
  unfold rdM
  rw [show w.cell? ⟨rb, 2, none⟩ = some .nilIface from hE, h.pos]
  simp [intOf]
theorem rdM_some {w : World} {rb : Nat} {row : ByteArray} {r : Rs} (h : RdAt w rb row r) {x} (he : r.err = some x) : rdM row rb w = 0 := by
  have hE := h.err
  rw [he] at hE
  obtain ⟨p, f⟩ := x
  obtain ⟨g, h1, _⟩ := hE
  unfold rdM
  rw [h1]
def readR (row : ByteArray) : St × Nat × Rs := rLoop row (row.size + 1) ((rHead row ⟨0, none⟩).1.getD St.init) (rHead row ⟨0, none⟩).2 0
set_option maxRecDepth 100000 in
set_option maxHeartbeats 4000000 in
theorem read_any (w : World) (row : ByteArray) (hrow : row.size ≤ maxLen) : Calls Tryz.prog 34 #[.string row] w fun e w' =>
    ∃ E B V vk Q ks ev, e = .returned (.tuple #[flowVal E B V vk, .int .i64 (readR row).2.1, ev]) ∧ FlowV w' w.heap.size E B V vk Q ks (readR row).1 ∧ ErrV w' ev (readR row).2.2.err ∧ Chg (fun _ => False) w w' := by
  obtain ⟨R, hR⟩ : ∃ R, R = readR row := ⟨_, rfl⟩
  have HR : Hid (R = readR row) := hR
  rw [← hR]
  clear hR
  obtain ⟨W0, hW0⟩ : ∃ W0, W0 = (w.alloc (.cells #[.int .i64 0, .int .i64 0, .slice none 0 0, .int .i64 0, .int .i64 0, .slice none 0 0, .int .i64 0, .int .i64 0, .slice none 0 0, .int .i64 0, .int .i64 0, .slice none 0 0, .slice none 0 0] 98)).alloc (.cells #[.string row, .int .i64 0, .nilIface] 151) := ⟨_, rfl⟩
  have c0 : Chg (fun _ => False) w W0 := by rw [hW0]; exact ((Chg.refl _ w).alloc _).alloc _
  have hs0 : W0.heap.size = w.heap.size + 2 := by rw [hW0]; simp
  have z0 : FlowCells W0 w.heap.size 0 (fun _ => 0) (fun _ => 0) (fun _ => .slice none 0 0) (.slice none 0 0) := by
    rw [hW0]
    exact (flow_alloc w 98 (fun _ => 0) (fun _ => 0) (fun _ => .slice none 0 0) (.slice none 0 0)).chg ((Chg.refl (fun _ => False) _).alloc _) id
  have zf : ∀ j, W0.frozen? ⟨w.heap.size, j, none⟩ = false := fun j => by
    rw [hW0]
    exact (World.frozen?_alloc_old _ _ ⟨w.heap.size, j, none⟩ (by simp)).trans (World.frozen?_alloc_at _ _ _ _ rfl)
  have h0 : RdAt W0 (w.heap.size + 1) row ⟨0, none⟩ := by
    rw [hW0]
    refine ⟨World.cell?_alloc_at _ _ _ _ (by simp), World.cell?_alloc_at _ _ _ _ (by simp), World.cell?_alloc_at _ _ _ _ (by simp), fun j => World.frozen?_alloc_at _ _ _ _ (by simp), Nat.zero_le _, hrow⟩
  have hh := head_any h0
  go_enter Tryz.func34, Tryz.ntmps34
  go_wp2_with fail
  rw [← hW0]
  refine hh.mono ?_
  rintro _ w1 ⟨hres, h1, c1⟩
  obtain ⟨E, B, V, vk, Q, ks, rfl, hV⟩ := headRes_flow hres
  clear hh hres hW0
  have HRL : Hid (R = rLoop row (row.size + 1) ((rHead row ⟨0, none⟩).1.getD St.init) (rHead row ⟨0, none⟩).2 0) := by show _ = _; rw [HR.out]; rfl
  clear HR
  generalize rHead row ⟨0, none⟩ = hd at h1 hV HRL
  obtain ⟨o, r1⟩ := hd
  simp only at h1 hV HRL
  generalize o.getD St.init = s0 at hV HRL
  have c01 : Chg (fun _ => False) w w1 := c0.trans c1 (fun k hk e => by omega)
  have hqb : ¬ w.heap.size = w.heap.size + 1 := by omega
  have z1 := z0.chg c1 hqb
  have zf1 : ∀ j, w1.frozen? ⟨w.heap.size, j, none⟩ = false := fun j => (World.frozen?_of_block (w := W0) (c1.block w.heap.size (by omega) hqb)).trans (zf j)
  have hs1 : w.heap.size + 2 ≤ w1.heap.size := by have := c1.size; omega
  rw [hs0] at hV
  clear z0 zf c0 c1 h0 hs0
  obtain ⟨p0, n0, hV0⟩ := row_any (hV.rows 0 (by omega))
  obtain ⟨p1, n1, hV1⟩ := row_any (hV.rows 1 (by omega))
  obtain ⟨p2, n2, hV2⟩ := row_any (hV.rows 2 (by omega))
  obtain ⟨p3, n3, hV3⟩ := row_any (hV.rows 3 (by omega))
  obtain ⟨pk2, nk2, hvk⟩ := row_any hV.keys
  have HV0 : Hid (V 0 = .slice p0 (Q 0).length n0) := hV0
  have HV1 : Hid (V 1 = .slice p1 (Q 1).length n1) := hV1
  have HV2 : Hid (V 2 = .slice p2 (Q 2).length n2) := hV2
  have HV3 : Hid (V 3 = .slice p3 (Q 3).length n3) := hV3
  have HVK : Hid (vk = .slice pk2 ks.length nk2) := hvk
  unfold flowVal
  rw [hV0, hV1, hV2, hV3, hvk]
  clear hV0 hV1 hV2 hV3 hvk
  obtain ⟨W3, hW3⟩ : ∃ W3, W3 = w1.alloc (.cells #[.int .i64 (E 0), .int .i64 (B 0), .slice p0 (Q 0).length n0, .int .i64 (E 1), .int .i64 (B 1), .slice p1 (Q 1).length n1, .int .i64 (E 2), .int .i64 (B 2), .slice p2 (Q 2).length n2, .int .i64 (E 3), .int .i64 (B 3), .slice p3 (Q 3).length n3, .slice pk2 ks.length nk2] 98) := ⟨_, rfl⟩
  have c3 : Chg (fun _ => False) w1 W3 := by rw [hW3]; exact (Chg.refl _ w1).alloc _
  have hs3 : W3.heap.size = w1.heap.size + 1 := by rw [hW3]; simp
  have fy3 : FlowCells W3 w1.heap.size 0 E B V vk := by
    rw [hW3, ← HV0.out, ← HV1.out, ← HV2.out, ← HV3.out, ← HVK.out]
    exact flow_alloc w1 98 E B V vk
  have fz3 : ∀ j, W3.frozen? ⟨w1.heap.size, j, none⟩ = false := fun j => by rw [hW3]; exact World.frozen?_alloc_at _ _ _ _ rfl
  have hF3 := (hV.chg c3 (fun _ _ h => h)).laid fy3 fz3 (fun hk => by have := hV.lt _ hk; omega)
  have hy3 : ∀ k, (k = w1.heap.size ∨ Rows V vk k) → w.heap.size + 2 ≤ k := fun k hk => by
    rcases hk with rfl | hk
    · exact hs1
    · exact hV.young k hk
  obtain ⟨F0, hF0e⟩ : ∃ F0 : Nat → Prop, F0 = fun k => k = w1.heap.size ∨ Rows V vk k := ⟨_, rfl⟩
  rw [← hF0e] at hF3
  have hy0 : ∀ k, F0 k → w.heap.size + 2 ≤ k := by rw [hF0e]; exact hy3
  have h3 := h1.chg c3 id (.inr fun _ => id)
  have c13 : Chg (fun k => w.heap.size < k) w1 W3 := c3.mono (fun _ h => h.elim)
  have HW3 : Hid (W3 = w1.alloc (.cells #[.int .i64 (E 0), .int .i64 (B 0), .slice p0 (Q 0).length n0, .int .i64 (E 1), .int .i64 (B 1), .slice p1 (Q 1).length n1, .int .i64 (E 2), .int .i64 (B 2), .slice p2 (Q 2).length n2, .int .i64 (E 3), .int .i64 (B 3), .slice p3 (Q 3).length n3, .slice pk2 ks.length nk2] 98)) := hW3
  clear hW3 hy3 hF0e fy3 fz3 hs3
  go_wp2_with fail
  rw [← HW3.out]
  go_loopw [7] (fun sc wr => ∃ (c f : Nat) (s : St) (r : Rs) (F : Nat → Prop), sc = .int .i64 c ∧ RdAt wr (w.heap.size + 1) row r ∧ FlowIs wr w1.heap.size 0 s F ∧ (∀ k, F k → w.heap.size + 2 ≤ k) ∧ (r.err = none → row.size + 1 ≤ f + r.at_) ∧ Chg (fun k => w.heap.size < k) w1 wr ∧ Hid (R = rLoop row f s r c)) (fun _ wr => rdM row (w.heap.size + 1) wr)
  case atStart => exact ⟨0, row.size + 1, s0, r1, F0, rfl, h3, hF3, hy0, fun _ => by omega, c13, HRL⟩
  case round =>
    obtain ⟨c, f, s, r, F, rfl, hr, hF, hy, hfuel, hc, HRs⟩ := hrel
    have hrE := hr.err
    have zr := z1.chg hc (by omega)
    have zfr : ∀ j, wr.frozen? ⟨w.heap.size, j, none⟩ = false := fun j => (World.frozen?_of_block (w := w1) (hc.block w.heap.size (by omega) (by omega))).trans (zf1 j)
    have hcw : Chg (fun _ => False) w wr := c01.trans hc (fun k hk h => by omega)
    cases hre : r.err with
    | some x =>
      obtain ⟨ep, ef⟩ := x
      rw [hre] at hrE
      obtain ⟨gp, e2, _, _, eg⟩ := hrE
      have HRe : Hid (R = (s, c, r)) := by show _ = _; rw [HRs.out]; exact rLoop_err row f s r c hre
      clear HRs
      have ngq : ¬ gp = w.heap.size := fun e => by
        subst e
        have := zr.ba 0 (by omega)
        rw [show 0 + 0 * 3 + 1 = 1 from rfl] at this
        rw [this] at eg
        cases eg
      obtain ⟨E2, B2, V2, vk2, Q2, ks2, hFc, hVV⟩ := hF.taken (lo := w.heap.size + 2) (fun k hk => .inr (hy k hk))
      obtain ⟨a0, m0, hV0⟩ := row_any (hVV.rows 0 (by omega))
      obtain ⟨a1, m1, hV1⟩ := row_any (hVV.rows 1 (by omega))
      obtain ⟨a2, m2, hV2⟩ := row_any (hVV.rows 2 (by omega))
      obtain ⟨a3, m3, hV3⟩ := row_any (hVV.rows 3 (by omega))
      obtain ⟨ak, mk, hvk⟩ := row_any hVV.keys
      have HU0 : Hid (V2 0 = .slice a0 (Q2 0).length m0) := hV0
      have HU1 : Hid (V2 1 = .slice a1 (Q2 1).length m1) := hV1
      have HU2 : Hid (V2 2 = .slice a2 (Q2 2).length m2) := hV2
      have HU3 : Hid (V2 3 = .slice a3 (Q2 3).length m3) := hV3
      have HUK : Hid (vk2 = .slice ak ks2.length mk) := hvk
      clear hV0 hV1 hV2 hV3 hvk
      have o0 := zr.ep 0 (by omega)
      have o1 := zr.ba 0 (by omega)
      have o2 := zr.qu 0 (by omega)
      have o3 := zr.ep 1 (by omega)
      have o4 := zr.ba 1 (by omega)
      have o5 := zr.qu 1 (by omega)
      have o6 := zr.ep 2 (by omega)
      have o7 := zr.ba 2 (by omega)
      have o8 := zr.qu 2 (by omega)
      have o9 := zr.ep 3 (by omega)
      have o10 := zr.ba 3 (by omega)
      have o11 := zr.qu 3 (by omega)
      have o12 := zr.le
      simp only [Nat.zero_mul, Nat.one_mul, Nat.add_zero, Nat.zero_add, Nat.reduceMul, Nat.reduceAdd] at o0 o1 o2 o3 o4 o5 o6 o7 o8 o9 o10 o11 o12
      have f0 := zfr 0
      have f1 := zfr 1
      have f2 := zfr 2
      have f3 := zfr 3
      have f4 := zfr 4
      have f5 := zfr 5
      have f6 := zfr 6
      have f7 := zfr 7
      have f8 := zfr 8
      have f9 := zfr 9
      have f10 := zfr 10
      have f11 := zfr 11
      have f12 := zfr 12
      have y0 := hFc.ep 0 (by omega)
      have y1 := hFc.ba 0 (by omega)
      have y2 := hFc.qu 0 (by omega)
      have y3 := hFc.ep 1 (by omega)
      have y4 := hFc.ba 1 (by omega)
      have y5 := hFc.qu 1 (by omega)
      have y6 := hFc.ep 2 (by omega)
      have y7 := hFc.ba 2 (by omega)
      have y8 := hFc.qu 2 (by omega)
      have y9 := hFc.ep 3 (by omega)
      have y10 := hFc.ba 3 (by omega)
      have y11 := hFc.qu 3 (by omega)
      have y12 := hFc.le
      simp only [Nat.zero_mul, Nat.one_mul, Nat.add_zero, Nat.zero_add, Nat.reduceMul, Nat.reduceAdd] at y0 y1 y2 y3 y4 y5 y6 y7 y8 y9 y10 y11 y12
      rw [HU0.out] at y2
      rw [HU1.out] at y5
      rw [HU2.out] at y8
      rw [HU3.out] at y11
      rw [HUK.out] at y12
      go_upto_region 8 with fail
      go_region
      all_goals
        go_wp2_with fail
        obtain ⟨WX, hWX⟩ : ∃ WX, WX = (((((((((((((wr.setCell ⟨w.heap.size, 0, none⟩ (.int .i64 (E2 0))).setCell ⟨w.heap.size, 1, none⟩ (.int .i64 (B2 0))).setCell ⟨w.heap.size, 2, none⟩ (.slice a0 (Q2 0).length m0)).setCell ⟨w.heap.size, 3, none⟩ (.int .i64 (E2 1))).setCell ⟨w.heap.size, 4, none⟩ (.int .i64 (B2 1))).setCell ⟨w.heap.size, 5, none⟩ (.slice a1 (Q2 1).length m1)).setCell ⟨w.heap.size, 6, none⟩ (.int .i64 (E2 2))).setCell ⟨w.heap.size, 7, none⟩ (.int .i64 (B2 2))).setCell ⟨w.heap.size, 8, none⟩ (.slice a2 (Q2 2).length m2)).setCell ⟨w.heap.size, 9, none⟩ (.int .i64 (E2 3))).setCell ⟨w.heap.size, 10, none⟩ (.int .i64 (B2 3))).setCell ⟨w.heap.size, 11, none⟩ (.slice a3 (Q2 3).length m3)).setCell ⟨w.heap.size, 12, none⟩ (.slice ak ks2.length mk)) := ⟨_, rfl⟩
        have hWX' : WX = wr.setCells w.heap.size 0 (cells13 E2 B2 V2 vk2) := by rw [hWX]; unfold cells13; rw [HU0.out, HU1.out, HU2.out, HU3.out, HUK.out]; rfl
        have hputX : FlowCells WX w.heap.size 0 E2 B2 V2 vk2 := by rw [hWX']; exact flow_put E2 B2 V2 vk2 (flowCells_some zr)
        have c19X : Chg (fun k => k = w.heap.size) wr WX := by rw [hWX']; exact (setCells_slots w.heap.size (cells13 E2 B2 V2 vk2) 0 wr).2
        rw [← hWX]
        obtain ⟨WW, hWW⟩ : ∃ WW, WW = WX.drew := ⟨_, rfl⟩
        have hput : FlowCells WW w.heap.size 0 E2 B2 V2 vk2 := by rw [hWW]; exact hputX.chg (Chg.refl (fun _ => False) WX).drew id
        have c19 : Chg (fun k => k = w.heap.size) wr WW := by rw [hWW]; exact c19X.drew
        rw [← hWW]
        clear hWX hWX' hWW hputX c19X o0 f0 y0 o1 f1 y1 o2 f2 y2 o3 f3 y3 o4 f4 y4 o5 f5 y5 o6 f6 y6 o7 f7 y7 o8 f8 y8 o9 f9 y9 o10 f10 y10 o11 f11 y11 o12 f12 y12
        have d0 := hput.ep 0 (by omega)
        have d1 := hput.ba 0 (by omega)
        have d2 := hput.qu 0 (by omega)
        have d3 := hput.ep 1 (by omega)
        have d4 := hput.ba 1 (by omega)
        have d5 := hput.qu 1 (by omega)
        have d6 := hput.ep 2 (by omega)
        have d7 := hput.ba 2 (by omega)
        have d8 := hput.qu 2 (by omega)
        have d9 := hput.ep 3 (by omega)
        have d10 := hput.ba 3 (by omega)
        have d11 := hput.qu 3 (by omega)
        have d12 := hput.le
        simp only [Nat.zero_mul, Nat.one_mul, Nat.add_zero, Nat.zero_add, Nat.reduceMul, Nat.reduceAdd] at d0 d1 d2 d3 d4 d5 d6 d7 d8 d9 d10 d11 d12
        refine bodyPost_ret (v := .tuple #[flowVal E2 B2 V2 vk2, .int .i64 c, (.iface 231 (.pointer (some ⟨gp, 0, none⟩)))]) ?_ rfl ⟨E2, B2, V2, vk2, Q2, ks2, (.iface 231 (.pointer (some ⟨gp, 0, none⟩))), by rw [HRe.out], ?_, by rw [HRe.out]; simp only [hre]; exact ⟨gp, rfl, c19.cellAt eg (fun e => ngq e)⟩, hcw.trans c19 (fun k hk e => by omega)⟩
        · simp [results, Tryz.results34, go_sem, d0, d1, d2, d3, d4, d5, d6, d7, d8, d9, d10, d11, d12, flowVal]
        · rw [HRe.out]
          exact (hVV.older (by omega)).chg c19 (fun k hk e => by have e' : k = w.heap.size := e; have := hVV.young k hk; omega)
    | none =>
      rw [hre] at hrE
      have e2 : wr.cell? ⟨w.heap.size + 1, 2, none⟩ = some .nilIface := hrE
      have p1' := hr.pos
      have hfit := hr.fits
      have hmax := hr.max
      have hf1 := hfuel hre
      obtain ⟨f', rfl⟩ : ∃ f', f = f' + 1 := ⟨f - 1, by omega⟩
      by_cases hend : r.at_ = row.size
      · have hend' : ((r.at_ : Int) == (row.size : Int)) = true := by simp [hend]
        have hend2 : (r.at_ : Int) = (row.size : Int) := by omega
        have HRe : Hid (R = (s, r.at_, r)) := by show _ = _; rw [HRs.out]; simp [rLoop, hre, hend]
        clear HRs
        have HEQ : Hid (r.at_ = row.size) := hend
        clear hend
        obtain ⟨E2, B2, V2, vk2, Q2, ks2, hFc, hVV⟩ := hF.taken (lo := w.heap.size + 2) (fun k hk => .inr (hy k hk))
        obtain ⟨a0, m0, hV0⟩ := row_any (hVV.rows 0 (by omega))
        obtain ⟨a1, m1, hV1⟩ := row_any (hVV.rows 1 (by omega))
        obtain ⟨a2, m2, hV2⟩ := row_any (hVV.rows 2 (by omega))
        obtain ⟨a3, m3, hV3⟩ := row_any (hVV.rows 3 (by omega))
        obtain ⟨ak, mk, hvk⟩ := row_any hVV.keys
        have HU0 : Hid (V2 0 = .slice a0 (Q2 0).length m0) := hV0
        have HU1 : Hid (V2 1 = .slice a1 (Q2 1).length m1) := hV1
        have HU2 : Hid (V2 2 = .slice a2 (Q2 2).length m2) := hV2
        have HU3 : Hid (V2 3 = .slice a3 (Q2 3).length m3) := hV3
        have HUK : Hid (vk2 = .slice ak ks2.length mk) := hvk
        clear hV0 hV1 hV2 hV3 hvk
        have o0 := zr.ep 0 (by omega)
        have o1 := zr.ba 0 (by omega)
        have o2 := zr.qu 0 (by omega)
        have o3 := zr.ep 1 (by omega)
        have o4 := zr.ba 1 (by omega)
        have o5 := zr.qu 1 (by omega)
        have o6 := zr.ep 2 (by omega)
        have o7 := zr.ba 2 (by omega)
        have o8 := zr.qu 2 (by omega)
        have o9 := zr.ep 3 (by omega)
        have o10 := zr.ba 3 (by omega)
        have o11 := zr.qu 3 (by omega)
        have o12 := zr.le
        simp only [Nat.zero_mul, Nat.one_mul, Nat.add_zero, Nat.zero_add, Nat.reduceMul, Nat.reduceAdd] at o0 o1 o2 o3 o4 o5 o6 o7 o8 o9 o10 o11 o12
        have f0 := zfr 0
        have f1 := zfr 1
        have f2 := zfr 2
        have f3 := zfr 3
        have f4 := zfr 4
        have f5 := zfr 5
        have f6 := zfr 6
        have f7 := zfr 7
        have f8 := zfr 8
        have f9 := zfr 9
        have f10 := zfr 10
        have f11 := zfr 11
        have f12 := zfr 12
        have y0 := hFc.ep 0 (by omega)
        have y1 := hFc.ba 0 (by omega)
        have y2 := hFc.qu 0 (by omega)
        have y3 := hFc.ep 1 (by omega)
        have y4 := hFc.ba 1 (by omega)
        have y5 := hFc.qu 1 (by omega)
        have y6 := hFc.ep 2 (by omega)
        have y7 := hFc.ba 2 (by omega)
        have y8 := hFc.qu 2 (by omega)
        have y9 := hFc.ep 3 (by omega)
        have y10 := hFc.ba 3 (by omega)
        have y11 := hFc.qu 3 (by omega)
        have y12 := hFc.le
        simp only [Nat.zero_mul, Nat.one_mul, Nat.add_zero, Nat.zero_add, Nat.reduceMul, Nat.reduceAdd] at y0 y1 y2 y3 y4 y5 y6 y7 y8 y9 y10 y11 y12
        rw [HU0.out] at y2
        rw [HU1.out] at y5
        rw [HU2.out] at y8
        rw [HU3.out] at y11
        rw [HUK.out] at y12
        go_upto_region 8 with fail
        go_region
        all_goals
          go_wp2_with fail
          obtain ⟨WX, hWX⟩ : ∃ WX, WX = (((((((((((((wr.setCell ⟨w.heap.size, 0, none⟩ (.int .i64 (E2 0))).setCell ⟨w.heap.size, 1, none⟩ (.int .i64 (B2 0))).setCell ⟨w.heap.size, 2, none⟩ (.slice a0 (Q2 0).length m0)).setCell ⟨w.heap.size, 3, none⟩ (.int .i64 (E2 1))).setCell ⟨w.heap.size, 4, none⟩ (.int .i64 (B2 1))).setCell ⟨w.heap.size, 5, none⟩ (.slice a1 (Q2 1).length m1)).setCell ⟨w.heap.size, 6, none⟩ (.int .i64 (E2 2))).setCell ⟨w.heap.size, 7, none⟩ (.int .i64 (B2 2))).setCell ⟨w.heap.size, 8, none⟩ (.slice a2 (Q2 2).length m2)).setCell ⟨w.heap.size, 9, none⟩ (.int .i64 (E2 3))).setCell ⟨w.heap.size, 10, none⟩ (.int .i64 (B2 3))).setCell ⟨w.heap.size, 11, none⟩ (.slice a3 (Q2 3).length m3)).setCell ⟨w.heap.size, 12, none⟩ (.slice ak ks2.length mk)) := ⟨_, rfl⟩
          have hWX' : WX = wr.setCells w.heap.size 0 (cells13 E2 B2 V2 vk2) := by rw [hWX]; unfold cells13; rw [HU0.out, HU1.out, HU2.out, HU3.out, HUK.out]; rfl
          have hputX : FlowCells WX w.heap.size 0 E2 B2 V2 vk2 := by rw [hWX']; exact flow_put E2 B2 V2 vk2 (flowCells_some zr)
          have c19X : Chg (fun k => k = w.heap.size) wr WX := by rw [hWX']; exact (setCells_slots w.heap.size (cells13 E2 B2 V2 vk2) 0 wr).2
          rw [← hWX]
          obtain ⟨WW, hWW⟩ : ∃ WW, WW = WX.drew := ⟨_, rfl⟩
          have hput : FlowCells WW w.heap.size 0 E2 B2 V2 vk2 := by rw [hWW]; exact hputX.chg (Chg.refl (fun _ => False) WX).drew id
          have c19 : Chg (fun k => k = w.heap.size) wr WW := by rw [hWW]; exact c19X.drew
          rw [← hWW]
          clear hWX hWX' hWW hputX c19X o0 f0 y0 o1 f1 y1 o2 f2 y2 o3 f3 y3 o4 f4 y4 o5 f5 y5 o6 f6 y6 o7 f7 y7 o8 f8 y8 o9 f9 y9 o10 f10 y10 o11 f11 y11 o12 f12 y12
          have d0 := hput.ep 0 (by omega)
          have d1 := hput.ba 0 (by omega)
          have d2 := hput.qu 0 (by omega)
          have d3 := hput.ep 1 (by omega)
          have d4 := hput.ba 1 (by omega)
          have d5 := hput.qu 1 (by omega)
          have d6 := hput.ep 2 (by omega)
          have d7 := hput.ba 2 (by omega)
          have d8 := hput.qu 2 (by omega)
          have d9 := hput.ep 3 (by omega)
          have d10 := hput.ba 3 (by omega)
          have d11 := hput.qu 3 (by omega)
          have d12 := hput.le
          simp only [Nat.zero_mul, Nat.one_mul, Nat.add_zero, Nat.zero_add, Nat.reduceMul, Nat.reduceAdd] at d0 d1 d2 d3 d4 d5 d6 d7 d8 d9 d10 d11 d12
          refine bodyPost_ret (v := .tuple #[flowVal E2 B2 V2 vk2, .int .i64 r.at_, .nilIface]) ?_ rfl ⟨E2, B2, V2, vk2, Q2, ks2, .nilIface, by rw [HRe.out], ?_, by rw [HRe.out]; simp only [hre]; rfl, hcw.trans c19 (fun k hk e => by omega)⟩
          · simp [results, Tryz.results34, go_sem, d0, d1, d2, d3, d4, d5, d6, d7, d8, d9, d10, d11, d12, flowVal, HEQ.out]
          · rw [HRe.out]
            exact (hVV.older (by omega)).chg c19 (fun k hk e => by have e' : k = w.heap.size := e; have := hVV.young k hk; omega)
      · have hend' : ((r.at_ : Int) == (row.size : Int)) = false := by simp; omega
        have hlt : r.at_ < row.size := by omega
        have HRn : Hid (R = rLoop row f' (rEntry row s r).1 (rEntry row s r).2 r.at_) := by show _ = _; rw [HRs.out]; simp [rLoop, hre, hend]
        clear HRs
        have hen := entry_any hr hF (fun h => by have := hy _ h; omega) hre
        have hnx := rEntry_next (row := row) (s := s) (r := r)
        generalize rEntry row s r = q at hen hnx HRn
        obtain ⟨s', r'⟩ := q
        simp only at hen hnx HRn
        have hM := rdM_none hr hre
        go_wp2_with (go_at_call 64; refine hen.mono ?_; rintro _ w4 ⟨F', rfl, hr4, hF4, hFF, c4⟩)
        go_roundw
        case rel =>
          refine ⟨r.at_, f', s', r', F', rfl, hr4, hF4, fun k hk => ?_, fun he => by have := hnx he; omega, hc.trans c4 (fun k hk h => ?_), HRn⟩
          · rcases hFF k hk with h | h
            · exact hy k h
            · have := hcw.size; have := hc.size; omega
          · rcases h with h | h
            · omega
            · have := hy k h; omega
        case measure =>
          rw [hM]
          cases he : r'.err with
          | none => rw [rdM_none hr4 he]; have := hnx he; have := hr4.fits; omega
          | some x => rw [rdM_some hr4 he]; omega
end Go.Proofs.YthedkdbgfdjlkaaGreatDoor

namespace Go.Proofs.YthedkdbgfdjlkaaGreatDoor
set_option linter.unusedVariables false
set_option linter.unusedSimpArgs false
open Go.RowKit Go.Extern.Stop Go.Stop Go.Extern
abbrev tyh (t : Nat) : Value := .pointer (some ⟨2, t, none⟩)
theorem Tryz.valueOfPF (t : Addr) (w : World) : (ReflectliteValue.unpack (.iface 156 (.pointer (some t)))).run Tryz.prog w
    = .ok (.agg #[tyh 156, .pointer (some ⟨w.heap.size, 0, none⟩), .int .u64 150]) (w.alloc (.cells #[.pointer (some t)] 156)) := by kernel_rfl
theorem Tryz.typePF (a : Addr) (w : World) : (ReflectliteValue.methodAny (ReflectliteValue.valueError "reflectlite.Value.Type" 0) (fun t _ _ _ => ReflectliteType.toType t) #[.agg #[tyh 156, .pointer (some a), .int .u64 150]]).run Tryz.prog w
    = .ok (.iface 236 (.agg #[tyh 156])) w := by kernel_rfl
theorem Tryz.methodKind (h : Value) (w : World) : (Go.method 438 236 (.agg #[h]) "Kind").run Tryz.prog w = .ok (215, h) w := by kernel_rfl
theorem Tryz.kindPF (w : World) : ((ReflectliteType.abiMethod fun t => (fun a : Nat => Value.int IntKind.u8 (a : Int)) <$> Rtype.kind t) #[tyh 156]).run Tryz.prog w = .ok (.int .u8 22) w := by kernel_rfl
theorem Tryz.kindF (w : World) : ((ReflectliteType.abiMethod fun t => (fun a : Nat => Value.int IntKind.u8 (a : Int)) <$> Rtype.kind t) #[tyh 154]).run Tryz.prog w = .ok (.int .u8 2) w := by kernel_rfl
theorem Tryz.isNilPF0 (a : Addr) (W : World) : (ReflectliteValue.method (ReflectliteValue.valueError "reflectlite.Value.IsNil" 0) ReflectliteValue.isNil #[.agg #[tyh 156, .pointer (some a), .int .u64 150]]).run Tryz.prog W = (ReflectliteValue.isNil 156 a 150 22).run Tryz.prog W := by kernel_rfl
theorem Tryz.isNilPF (a p : Addr) (W : World) (ha : W.cell? a = some (.pointer (some p))) :
    (ReflectliteValue.method (ReflectliteValue.valueError "reflectlite.Value.IsNil" 0) ReflectliteValue.isNil #[.agg #[tyh 156, .pointer (some a), .int .u64 150]]).run Tryz.prog W = .ok (.bool false) W := by
  rw [Tryz.isNilPF0]
  simp [ReflectliteValue.isNil, loadVar, isAgg, underlying, Tryz.underlying156, ha, Result.andThen]
theorem Tryz.methodElem (h : Value) (w : World) : (Go.method 438 236 (.agg #[h]) "Elem").run Tryz.prog w = .ok (236, .agg #[h]) w := by kernel_rfl
theorem Tryz.methodImplements (h : Value) (w : World) : (Go.method 438 236 (.agg #[h]) "Implements").run Tryz.prog w = .ok (237, .agg #[h]) w := by kernel_rfl
theorem Tryz.methodAssignableTo (h : Value) (w : World) : (Go.method 438 236 (.agg #[h]) "AssignableTo").run Tryz.prog w = .ok (234, .agg #[h]) w := by kernel_rfl
theorem Tryz.elemPF (w : World) : (ReflectliteType.method ReflectliteType.elem #[.agg #[tyh 156]]).run Tryz.prog w = .ok (.iface 236 (.agg #[tyh 154])) w := by kernel_rfl
theorem Tryz.implementsF (w : World) : (ReflectliteType.relation "Implements" ReflectliteType.implements_ #[.agg #[tyh 154], .iface 236 (.agg #[tyh 115])]).run Tryz.prog w = .ok (.bool true) w := by kernel_rfl
theorem Tryz.typeOfPP (v : Value) (w : World) : (ReflectliteType.typeOf #[.iface 231 v]).run Tryz.prog w = .ok (.iface 236 (.agg #[tyh 231])) w := by kernel_rfl
theorem Tryz.typeOfF (v : Value) (w : World) : (ReflectliteType.typeOf #[.iface 154 v]).run Tryz.prog w = .ok (.iface 236 (.agg #[tyh 154])) w := by kernel_rfl
theorem Tryz.assignablePP (w : World) : (ReflectliteType.relation "AssignableTo" ReflectliteType.assignableTo #[.agg #[tyh 231], .iface 236 (.agg #[tyh 154])]).run Tryz.prog w = .ok (.bool false) w := by kernel_rfl
theorem Tryz.assignableF (w : World) : (ReflectliteType.relation "AssignableTo" ReflectliteType.assignableTo #[.agg #[tyh 154], .iface 236 (.agg #[tyh 154])]).run Tryz.prog w = .ok (.bool true) w := by kernel_rfl
theorem Tryz.valueOfF (n : Int) (w : World) : (ReflectliteValue.unpack (.iface 154 (.int .i64 n))).run Tryz.prog w
    = .ok (.agg #[tyh 154, .pointer (some ⟨w.heap.size, 0, none⟩), .int .u64 130]) (w.alloc (.cells #[.int .i64 n] 154)) := by kernel_rfl
theorem Tryz.elemOfPF (w : World) : (Rtype.elem? 156).run Tryz.prog w = .ok (some 154) w := by kernel_rfl
theorem Tryz.mkF (p : Addr) (w : World) : (ReflectliteValue.mk 154 p ReflectliteValue.flagAddr).run Tryz.prog w = .ok (.agg #[tyh 154, .pointer (some p), .int .u64 386]) w := by kernel_rfl
theorem Tryz.elemVPF0 (a : Addr) (W : World) : (ReflectliteValue.method (ReflectliteValue.valueError "reflectlite.Value.Elem" 0) ReflectliteValue.elem #[.agg #[tyh 156, .pointer (some a), .int .u64 150]]).run Tryz.prog W = (ReflectliteValue.elem 156 a 150 22).run Tryz.prog W := by kernel_rfl
theorem Tryz.elemVPF (a p : Addr) (W : World) (ha : W.cell? a = some (.pointer (some p))) :
    (ReflectliteValue.method (ReflectliteValue.valueError "reflectlite.Value.Elem" 0) ReflectliteValue.elem #[.agg #[tyh 156, .pointer (some a), .int .u64 150]]).run Tryz.prog W
      = .ok (.agg #[tyh 154, .pointer (some p), .int .u64 386]) W := by
  rw [Tryz.elemVPF0]
  simp [ReflectliteValue.elem, loadVar, isAgg, underlying, Tryz.underlying156, ha, Result.andThen, Tryz.elemOfPF, Tryz.mkF]
theorem Tryz.setF0 (ta b : Addr) (W : World) : (ReflectliteValue.set #[.agg #[tyh 154, .pointer (some ta), .int .u64 386], .agg #[tyh 154, .pointer (some b), .int .u64 130]]).run Tryz.prog W
    = (loadVar 154 b >>= fun val => storeVar 154 ta val >>= fun _ => pure (.tuple #[])).run Tryz.prog W := by kernel_rfl
theorem Tryz.setF (ta b : Addr) (n : Int) (old : Value) (W : World) (hb : W.cell? b = some (.int .i64 n)) (ht : W.cell? ta = some old) (hf : W.frozen? ta = false) :
    (ReflectliteValue.set #[.agg #[tyh 154, .pointer (some ta), .int .u64 386], .agg #[tyh 154, .pointer (some b), .int .u64 130]]).run Tryz.prog W
      = .ok (.tuple #[]) (W.setCell ta (.int .i64 n)) := by
  rw [Tryz.setF0]
  simp [loadVar, isAgg, underlying, Tryz.underlying154, hb, Result.andThen, storeVar, Value.cells, storeCells, Addr.add]
  rw [run_store Tryz.prog W ta _ _ (by rfl)]
  simp [ht, hf]
theorem Tryz.methodUnwrap (a : Addr) (w : World) : (Go.method 438 231 (.pointer (some a)) "Unwrap").run Tryz.prog w = .ok (232, .pointer (some a)) w := by kernel_rfl
theorem Tryz.noAs (v : Value) (xT : TypeId) (w : World) : (Instr.typeAssert (.iface 231 v) xT 241 true).run Tryz.prog w = .ok (.tuple #[.nilIface, .bool false]) w := run_typeAssert_lacksB Tryz.underlying241 (by kernel_rfl) (by kernel_rfl) v xT w
theorem Tryz.hasUnwrap (v : Value) (xT : TypeId) (w : World) : (Instr.typeAssert (.iface 231 v) xT 244 true).run Tryz.prog w = .ok (.tuple #[.iface 231 v, .bool true]) w := run_typeAssert_hasB Tryz.underlying244 (by kernel_rfl) v xT w
theorem unwrap_any (g : Nat) (v : Value) (w : World) (h : w.cell? ⟨g, 1, none⟩ = some v) : Calls Tryz.prog 232 #[.pointer (some ⟨g, 0, none⟩)] w fun e w' => e = .returned v ∧ w' = w := by
  go_enter Tryz.func232, Tryz.ntmps232
  go_wp2
  go_ret
  exact ⟨rfl, rfl⟩
set_option maxRecDepth 100000 in
set_option maxHeartbeats 4000000 in
theorem as_walk (g : Nat) (a t : Addr) (f : Int) (old tv : Value) (w : World) (hp : w.cell? ⟨g, 1, none⟩ = some (.iface 154 (.int .i64 f))) (ha : w.cell? a = some (.pointer (some t))) (ht : w.cell? t = some old) (hf : w.frozen? t = false) :
    Calls Tryz.prog 101 #[.iface 231 (.pointer (some ⟨g, 0, none⟩)), tv, .agg #[tyh 156, .pointer (some a), .int .u64 150], .iface 236 (.agg #[tyh 154])] w fun e w' =>
      e = .returned (.bool true) ∧ w' = ((w.alloc (.cells #[tyh 156, .pointer (some a), .int .u64 150] 194)).alloc (.cells #[.int .i64 f] 154)).setCell t (.int .i64 f) := by
  have h98 := @run_callFunc_extern Tryz.prog 98 _ (fun args => ReflectliteValue.unpack (args.getD 0 (.tuple #[]))) Tryz.func98 (by kernel_rfl) (by kernel_rfl) (by kernel_rfl) (by kernel_rfl)
  have h131 := @run_callFunc_extern Tryz.prog 131 _ ReflectliteType.typeOf Tryz.func131 (by kernel_rfl) (by kernel_rfl) (by kernel_rfl) (by kernel_rfl)
  have h234 := @run_callFunc_extern Tryz.prog 234 _ (ReflectliteType.relation "AssignableTo" ReflectliteType.assignableTo) Tryz.func234 (by kernel_rfl) (by kernel_rfl) (by kernel_rfl) (by kernel_rfl)
  have h132 := @run_callFunc_extern Tryz.prog 132 _ (ReflectliteValue.method (ReflectliteValue.valueError "reflectlite.Value.Elem" 0) ReflectliteValue.elem) Tryz.func132 (by kernel_rfl) (by kernel_rfl) (by kernel_rfl) (by kernel_rfl)
  have h133 := @run_callFunc_extern Tryz.prog 133 _ ReflectliteValue.set Tryz.func133 (by kernel_rfl) (by kernel_rfl) (by kernel_rfl) (by kernel_rfl)
  have tP := Tryz.typeOfPP
  have tF := Tryz.typeOfF
  have mA := Tryz.methodAssignableTo
  have mU := Tryz.methodUnwrap
  have nA := Tryz.noAs
  have hU := Tryz.hasUnwrap
  have aP := Tryz.assignablePP
  have aF := Tryz.assignableF
  have vF := Tryz.valueOfF
  have hal : ∀ (p : Addr) (v : Value), w.cell? p = some v → ∀ ob, (w.alloc ob).cell? p = some v := fun p v hv ob => (World.cell?_alloc_lt w ob p (World.block_lt_of_cell? _ _ hv)).trans hv
  have hal2 : ∀ (p : Addr) (v : Value), w.cell? p = some v → ∀ ob ob', ((w.alloc ob).alloc ob').cell? p = some v := fun p v hv ob ob' => (World.cell?_alloc_lt _ ob' p (by have := World.block_lt_of_cell? _ _ hv; simp; omega)).trans (hal p v hv ob)
  have htl := World.block_lt_of_cell? _ _ ht
  have el := Tryz.elemVPF a t (w.alloc (.cells #[tyh 156, .pointer (some a), .int .u64 150] 194)) (hal _ _ ha _)
  have st := Tryz.setF t ⟨w.heap.size + 1, 0, none⟩ f old ((w.alloc (.cells #[tyh 156, .pointer (some a), .int .u64 150] 194)).alloc (.cells #[.int .i64 f] 154))
    (World.cell?_alloc_at _ _ _ _ (by simp)) (hal2 _ _ ht _ _) ((World.frozen?_alloc_old _ _ t (by simp; omega)).trans ((World.frozen?_alloc_old _ _ t (Nat.ne_of_lt htl)).trans hf))
  have hu := unwrap_any g _ (w.alloc (.cells #[tyh 156, .pointer (some a), .int .u64 150] 194)) (hal _ _ hp _)
  go_enter Tryz.func101, Tryz.ntmps101
  go_wp2
  refine wp_loop_rounds 2 ?_
  rw [rounds_succ]
  go_wp2
  rw [rounds_succ]
  go_wp2
  go_ret
  exact ⟨rfl, rfl⟩
set_option maxRecDepth 100000 in
set_option maxHeartbeats 4000000 in
theorem As_walk (g : Nat) (t : Addr) (f : Int) (old : Value) (w : World) (hg : w.cell? ⟨0, 0, none⟩ = some (.iface 236 (.agg #[tyh 115]))) (hp : w.cell? ⟨g, 1, none⟩ = some (.iface 154 (.int .i64 f))) (ht : w.cell? t = some old) (hf : w.frozen? t = false) :
    Calls Tryz.prog 65 #[.iface 231 (.pointer (some ⟨g, 0, none⟩)), .iface 156 (.pointer (some t))] w fun e w' =>
      e = .returned (.bool true) ∧ w'.cell? t = some (.int .i64 f) ∧ Chg (fun k => k = t.block) w w' := by
  have h98 := @run_callFunc_extern Tryz.prog 98 _ (fun args => ReflectliteValue.unpack (args.getD 0 (.tuple #[]))) Tryz.func98 (by kernel_rfl) (by kernel_rfl) (by kernel_rfl) (by kernel_rfl)
  have h99 := @run_callFunc_extern Tryz.prog 99 _ (ReflectliteValue.methodAny (ReflectliteValue.valueError "reflectlite.Value.Type" 0) (fun t _ _ _ => ReflectliteType.toType t)) Tryz.func99 (by kernel_rfl) (by kernel_rfl) (by kernel_rfl) (by kernel_rfl)
  have h100 := @run_callFunc_extern Tryz.prog 100 _ (ReflectliteValue.method (ReflectliteValue.valueError "reflectlite.Value.IsNil" 0) ReflectliteValue.isNil) Tryz.func100 (by kernel_rfl) (by kernel_rfl) (by kernel_rfl) (by kernel_rfl)
  have h215 := @run_callFunc_extern Tryz.prog 215 _ (ReflectliteType.abiMethod fun t => do pure (.int .u8 (← Rtype.kind t))) Tryz.func215 (by kernel_rfl) (by kernel_rfl) (by kernel_rfl) (by kernel_rfl)
  have h236 := @run_callFunc_extern Tryz.prog 236 _ (ReflectliteType.method ReflectliteType.elem) Tryz.func236 (by kernel_rfl) (by kernel_rfl) (by kernel_rfl) (by kernel_rfl)
  have h237 := @run_callFunc_extern Tryz.prog 237 _ (ReflectliteType.relation "Implements" ReflectliteType.implements_) Tryz.func237 (by kernel_rfl) (by kernel_rfl) (by kernel_rfl) (by kernel_rfl)
  have vP := Tryz.valueOfPF
  have tP := Tryz.typePF
  have mK := Tryz.methodKind
  have mE := Tryz.methodElem
  have mI := Tryz.methodImplements
  have kP := Tryz.kindPF
  have kF := Tryz.kindF
  have eP := Tryz.elemPF
  have iF := Tryz.implementsF
  have hal : ∀ (p : Addr) (v : Value), w.cell? p = some v → ∀ ob, (w.alloc ob).cell? p = some v := fun p v hv ob => (World.cell?_alloc_lt w ob p (World.block_lt_of_cell? _ _ hv)).trans hv
  have hal2 : ∀ (p : Addr) (v : Value), w.cell? p = some v → ∀ ob ob', ((w.alloc ob).alloc ob').cell? p = some v := fun p v hv ob ob' => (World.cell?_alloc_lt _ ob' p (by have := World.block_lt_of_cell? _ _ hv; simp; omega)).trans (hal p v hv ob)
  have htl := World.block_lt_of_cell? _ _ ht
  obtain ⟨W2, hW2⟩ : ∃ W2, W2 = (w.alloc (.cells #[.pointer (some t)] 156)).alloc (.cells #[tyh 156, .pointer (some ⟨w.heap.size, 0, none⟩), .int .u64 150] 194) := ⟨_, rfl⟩
  have ha : W2.cell? ⟨w.heap.size, 0, none⟩ = some (.pointer (some t)) := by rw [hW2, World.cell?_alloc_lt _ _ ⟨w.heap.size, 0, none⟩ (by simp)]; simp
  have n8 := Tryz.isNilPF ⟨w.heap.size, 0, none⟩ t W2 ha
  have hg2 : W2.cell? ⟨0, 0, none⟩ = some (.iface 236 (.agg #[tyh 115])) := by rw [hW2]; exact hal2 _ _ hg _ _
  have hs := as_walk g ⟨w.heap.size, 0, none⟩ t f old (.iface 156 (.pointer (some t))) W2 (by rw [hW2]; exact hal2 _ _ hp _ _) ha (by rw [hW2]; exact hal2 _ _ ht _ _) (by rw [hW2]; exact (World.frozen?_alloc_old _ _ t (by simp; omega)).trans ((World.frozen?_alloc_old _ _ t (Nat.ne_of_lt htl)).trans hf))
  have hc2 : Chg (fun k => k = t.block) w W2 := by rw [hW2]; exact ((Chg.refl _ w).alloc _).alloc _
  have ht2 : W2.cell? t = some old := by rw [hW2]; exact hal2 _ _ ht _ _
  rw [hW2] at n8 hg2 hs
  go_enter Tryz.func65, Tryz.ntmps65
  go_wp2_with (go_at_call 101; refine hs.mono ?_; rintro _ w3 ⟨rfl, rfl⟩)
  go_ret
  rw [← hW2]
  have c3 : Chg (fun k => k = t.block) W2 ((W2.alloc (.cells #[tyh 156, .pointer (some ⟨w.heap.size, 0, none⟩), .int .u64 150] 194)).alloc (.cells #[.int .i64 f] 154)) := ((Chg.refl _ W2).alloc _).alloc _
  refine ⟨rfl, World.cell?_setCell_same _ _ _ ((((Chg.refl (fun _ => False) W2).alloc _).alloc _).cell ht2 id), (hc2.trans c3 (fun _ _ h => h)).setCell (p := t) (fun _ => rfl) _⟩
set_option maxRecDepth 100000 in
set_option maxHeartbeats 1000000 in
theorem isCut_any (g : Nat) (f : Int) (w : World) (hg : w.cell? ⟨0, 0, none⟩ = some (.iface 236 (.agg #[tyh 115]))) (hp : w.cell? ⟨g, 1, none⟩ = some (.iface 154 (.int .i64 f))) :
    Calls Tryz.prog 35 #[.iface 231 (.pointer (some ⟨g, 0, none⟩))] w fun e w' => e = .returned (.bool (decide (f = 1))) ∧ Chg (fun _ => False) w w' := by
  have c1 : Chg (fun _ => False) w (w.alloc (.cells #[.int .i64 0] 154)) := (Chg.refl _ w).alloc _
  have hs := As_walk g ⟨w.heap.size, 0, none⟩ f (.int .i64 0) (w.alloc (.cells #[.int .i64 0] 154)) (c1.cellAt hg id) (c1.cellAt hp id) (World.cell?_alloc_at _ _ _ _ rfl) (World.frozen?_alloc_at _ _ _ _ rfl)
  go_enter Tryz.func35, Tryz.ntmps35
  go_wp2_with (go_at_call 65; refine hs.mono ?_; rintro _ w3 ⟨rfl, h3, c3⟩)
  go_ret
  exact ⟨rfl, c1.trans c3 (fun k hk h => by have h' : k = w.heap.size := h; omega)⟩
end Go.Proofs.YthedkdbgfdjlkaaGreatDoor
