import Derived.Lib.AppendStr
import Derived.Test.YthedkdbgfdjlkaaGreatDoorProg
import Derived.Conc.MuLib
import Derived.Conc.MuLone
import Derived.KernelRfl
import Derived.Defers
import Derived.Deep.RegionHeld3
import Derived.Deep.RegionLaw
import Derived.Shelf.Abstract
import Derived.Test.YthedkdbgfdjlkaaGreatDoorPack1
import Derived.Test.YthedkdbgfdjlkaaGreatDoorPack2
import Derived.Test.YthedkdbgfdjlkaaGreatDoorPack3
namespace Go.Proofs.YthedkdbgfdjlkaaGreatDoor
set_option linter.unusedVariables false
set_option linter.unusedSimpArgs false
open Go.RowKit Go.Lib
set_option maxRecDepth 100000 in
set_option maxHeartbeats 2000000 in
theorem cloneK_any (lo : Nat) (vk : Value) (ks : List Ky) (w : World) (hr : w.ownsRow lo 87 4 vk ks.length (keyCells ks)) (hn : ks.length ≤ 4) :
    Calls Tryz.prog 69 #[vk] w fun e w' => ∃ u, e = .returned u ∧ w'.ownsRow w.heap.size 87 4 u ks.length (keyCells ks) ∧ Chg (fun _ => False) w w' := by
  have heq : ∀ W, (binOp .eql 96 (.slice none 0 0) (.slice none 0 0)).run Tryz.prog W = .ok (.bool true) W := fun W => by kernel_rfl
  have hne : ∀ (p : Addr) (n c : Nat) W, (binOp .eql 96 (.slice (some p) n c) (.slice none 0 0)).run Tryz.prog W = .ok (.bool false) W := fun p n c W => by kernel_rfl
  rcases hr.2 with ⟨rfl, hz⟩ | ⟨g, cap, cur, rfl, hlo, hg, _⟩
  · go_enter Tryz.func69, Tryz.ntmps69
    go_wp2_with fail
    go_ret
    obtain rfl : ks = [] := List.eq_nil_of_length_eq_zero hz
    exact ⟨_, rfl, World.ownsRow_nil _ _ _ _, Chg.refl _ _⟩
  · obtain ⟨i0, hi, hz0, hz1, hz2⟩ := info_parts Tryz.infoK
    have hown : (w.alloc (Obj.cells #[] 87)).ownsRow w.heap.size 87 4 (.slice (some ⟨w.heap.size, 0, none⟩) 0 0) 0 [] :=
      ⟨rfl, .inr ⟨w.heap.size, 0, #[], rfl, Nat.le_refl _, show (w.heap.push _)[w.heap.size]? = _ by simp, Nat.le_refl _, by unfold maxLen; omega, rfl, rfl⟩⟩
    obtain ⟨v', w', hrun, r1, r2, _⟩ := run_append_where (P := Tryz.prog) (w.alloc (Obj.cells #[] 87)) w.heap.size 96 96 87 i0 _ 4 40 Tryz.underlying96 hi hz0 hz1 hz2 rfl (by decide) _ 0 [] hown ⟨g, 0, none⟩ ks.length cap (keyCells ks) (keyCells_len ks)
      (fun j u hj => ((Chg.refl (fun _ => False) w).alloc _).cell (World.ownsRow.cells hr (g := g) rfl j u hj) id) (fun u hu => keyCells_one' ks u hu) (by unfold maxLen; omega) (by omega) (by simp)
    have hc : Chg (fun _ => False) w w' := ((Chg.refl _ w).alloc _).grown r2 (fun k hk => by simp [Value.ownBlock] at hk; omega)
    go_enter Tryz.func69, Tryz.ntmps69
    go_wp2_with (at_builtin; refine Lib.wpList_append_run _ rfl _ _ 96 96 rfl _ _ rfl rfl v' w' hrun ?_)
    go_ret
    refine ⟨_, rfl, ?_, hc⟩
    simpa using r1
def sessU (E B : Nat → Int) (U : Nat → Value) : Nat → List Value
  | 0 => []
  | k + 1 => sessU E B U k ++ [.int .i64 (E k), .int .i64 (B k), U k]
theorem sessU_congr (E B : Nat → Int) (U U' : Nat → Value) : ∀ k, (∀ i, i < k → U i = U' i) → sessU E B U k = sessU E B U' k
  | 0, _ => rfl
  | k + 1, h => by simp only [sessU]; rw [sessU_congr E B U U' k (fun i hi => h i (by omega)), h k (by omega)]
theorem Tryz.infoSe : (Tryz.prog.info? 121).map (fun i => (i.zero, i.size, i.bytes)) = some (some (.agg #[.int .i64 0, .int .i64 0, .slice none 0 0]), 3, 40) := by kernel_rfl
set_option maxRecDepth 100000 in
set_option maxHeartbeats 4000000 in
theorem flowState_any {w : World} {lo b o : Nat} {E B : Nat → Int} {V : Nat → Value} {vk : Value} {Q S : Nat → List Wt} {ks : List Ky} (h : FlowAt w lo b o E B V vk Q ks) (hq : ∀ i, i < 4 → (Q i).length ≤ 4) (hk : ks.length ≤ 4) (hS : ∀ i, i < 4 → Up (S i) ∧ (Q i).Perm (S i)) :
    Calls Tryz.prog 38 #[.pointer (some ⟨b, o, none⟩)] w fun e w' => ∃ (vs vk' : Value) (U : Nat → Value), e = .returned (.agg #[vs, vk']) ∧ w'.ownsRow w.heap.size 121 3 vs 4 (sessU E B U 4) ∧
      (∀ i, i < 4 → w'.ownsRow w.heap.size 3 1 (U i) (Q i).length (ints' (theNums (Q i)))) ∧ w'.ownsRow w.heap.size 87 4 vk' ks.length (keyCells ks) ∧ (∀ i j, i < 4 → j < 4 → i ≠ j → ∀ g, (U i).ownBlock = some g → (U j).ownBlock ≠ some g) ∧ Chg (fun _ => False) w w' := by
  obtain ⟨i0, hi, hz0, hz1, hz2⟩ := info_parts Tryz.infoSe
  have hbl : b < w.heap.size := World.block_lt_of_cell? _ _ h.cells.le
  obtain ⟨W0, hW0⟩ : ∃ W0, W0 = w.alloc (Obj.cells #[.slice none 0 0, .slice none 0 0] 46) := ⟨_, rfl⟩
  have hs0 : W0.heap.size = w.heap.size + 1 := by rw [hW0]; simp
  have c0 : Chg (fun _ => False) w W0 := by rw [hW0]; exact (Chg.refl _ w).alloc _
  have r0 : W0.cell? ⟨w.heap.size, 0, none⟩ = some (.slice none 0 0) := by rw [hW0]; exact World.cell?_alloc_at _ _ _ _ rfl
  have r1 : W0.cell? ⟨w.heap.size, 1, none⟩ = some (.slice none 0 0) := by rw [hW0]; exact World.cell?_alloc_at _ _ _ _ rfl
  have rf : ∀ j, W0.frozen? ⟨w.heap.size, j, none⟩ = false := fun j => by rw [hW0]; exact World.frozen?_alloc_at _ _ _ _ rfl
  have HW0 : Hid (W0 = w.alloc (Obj.cells #[.slice none 0 0, .slice none 0 0] 46)) := hW0
  have HS0 : Hid (W0.heap.size = w.heap.size + 1) := hs0
  clear hW0 hs0
  go_enter Tryz.func38, Tryz.ntmps38
  go_wp2_with (refine wpList_make_own _ rfl _ _ 43 rfl (w.heap.size + 1) 121 i0 _ 3 Tryz.underlying43 hi hz0 hz1 .i64 .i64 _ 4 rfl rfl rfl (by rw [hz2]; omega) (by unfold maxLen; omega) (by simp) ?_; intro w1 hown1 hg1; have hc1 : Chg (fun _ => False) W0 w1 := by { rw [HW0.out]; exact (Chg.refl _ _).grown hg1 (by simp) }; have hF1 := h.cells.chg (c0.trans hc1 (fun _ _ h => h)) id; have e0 := hF1.ep 0 (by omega); have e1 := hF1.ep 1 (by omega); have e2 := hF1.ep 2 (by omega); have e3 := hF1.ep 3 (by omega); have b0 := hF1.ba 0 (by omega); have b1 := hF1.ba 1 (by omega); have b2 := hF1.ba 2 (by omega); have b3 := hF1.ba 3 (by omega); have v0 := hF1.qu 0 (by omega); have v1 := hF1.qu 1 (by omega); have v2 := hF1.qu 2 (by omega); have v3 := hF1.qu 3 (by omega); simp only [Nat.zero_mul, Nat.one_mul, Nat.add_zero] at e0 e1 e2 e3 b0 b1 b2 b3 v0 v1 v2 v3)
  go_loopw [3, 5, 11] (fun sv _ si wr => ∃ (k : Nat) (U : Nat → Value), si = .int .i64 k ∧ k ≤ 4 ∧ wr.ownsRow (w.heap.size + 1) 121 3 sv k (sessU E B U k) ∧ (∀ i, i < k → wr.ownsRow (w.heap.size + 1) 3 1 (U i) (Q i).length (ints' (theNums (Q i)))) ∧ (∀ i, i < k → ∀ g, (U i).ownBlock = some g → sv.ownBlock ≠ some g) ∧ (∀ i j, i < k → j < k → i ≠ j → ∀ g, (U i).ownBlock = some g → (U j).ownBlock ≠ some g) ∧ Chg (fun _ => False) W0 wr) (fun _ _ si _ => 4 - (intOf si).toNat)
  case atStart => exact ⟨0, fun _ => .slice none 0 0, rfl, by omega, by simpa [sessU] using hown1, fun i hi => by omega, fun i hi => by omega, fun i j hi => by omega, hc1⟩
  case round =>
    obtain ⟨k, U, rfl, hk4, hown, hU, hsep, hap, hc⟩ := hrel
    clear hown1 hg1 hc1 hF1 e0 e1 e2 e3 b0 b1 b2 b3 v0 v1 v2 v3
    have hc' : Chg (fun _ => False) w wr := c0.trans hc (fun _ _ h => h)
    have hsz : w.heap.size + 1 ≤ wr.heap.size := by rw [← HS0.out]; exact hc.size
    by_cases hk4' : k < 4
    · have hk4i : (k : Int) < 4 := by omega
      have hix := fun W => index_lane E B V k hk4' W
      obtain ⟨pq, capq, hVk⟩ := row_any (h.rows k hk4')
      have hrk := h.rows k hk4'
      rw [hVk] at hrk hix
      have hql := hq k hk4'
      have hls := laneState_any lo wr.heap.size 0 (E k) (B k) _ (Q k) (S k) (wr.alloc (Obj.cells #[.int .i64 (E k), .int .i64 (B k), .slice pq (Q k).length capq] 94)) (World.cell?_alloc_at _ _ _ _ rfl) (World.cell?_alloc_at _ _ _ _ rfl) (World.cell?_alloc_at _ _ _ _ rfl) ((hc'.row' hrk (fun _ _ h => h.elim)).alloc _) hql (hS k hk4').1 (hS k hk4').2
      go_wp2_with (first | (go_at_call 68; refine hls.mono ?_; rintro _ w2 ⟨u, rfl, hru, c2⟩; obtain ⟨pu, cu, rfl⟩ := row_any hru) | (at_builtin; have hown2 := (((Chg.refl (fun _ => False) wr).alloc _).trans c2 (fun _ _ h => h)).row' hown (fun _ _ h => h.elim); obtain ⟨v', w3, hrun, a1, a2, a3⟩ := run_append_where (P := Tryz.prog) (w2.alloc (Obj.cells #[.int .i64 (E k), .int .i64 (B k), .slice pu (Q k).length cu] 121)) (w.heap.size + 1) 43 43 121 i0 _ 3 40 Tryz.underlying43 hi hz0 hz1 hz2 rfl (by decide) _ k _ (hown2.alloc _) ⟨w2.heap.size, 0, none⟩ 1 1 [.int .i64 (E k), .int .i64 (B k), .slice pu (Q k).length cu] rfl (fun j y hj => by rw [add_lit', Nat.zero_add]; rcases j with _ | _ | _ | j <;> simp at hj <;> subst hj <;> exact World.cell?_alloc_at _ _ _ _ rfl) (fun y hy => by simp at hy; rcases hy with rfl | rfl | rfl <;> rfl) (by unfold maxLen; omega) (by omega) (by have := c2.size; simp at this ⊢; omega); refine Lib.wpList_append_run _ rfl _ _ 43 43 rfl _ _ rfl rfl v' w3 hrun ?_))
      go_roundw
      case rel =>
        have hs2 : wr.heap.size + 1 ≤ w2.heap.size := by have := c2.size; rw [World.size_alloc] at this; exact this
        have c02 : Chg (fun _ => False) wr w2 := ((Chg.refl _ wr).alloc _).trans c2 (fun _ _ h => h)
        have c23 : Chg (fun g => u3.ownBlock = some g) w2 w3 := ((Chg.refl (fun g => u3.ownBlock = some g) w2).alloc _).trans (G := fun g => u3.ownBlock = some g) ⟨a2.os, a2.tape, a2.output, a2.size, fun k hk hne => a2.block k hk (fun e => hne e.symm)⟩ (fun _ _ h => h)
        rw [World.size_alloc] at a3 hru
        refine ⟨k + 1, upd U k (.slice pu (Q k).length cu), by go_num, by omega, ?_, fun i hi => ?_, fun i hi g hg => ?_, fun i j hi hj hij g hg => ?_, ?_⟩
        · have e := sessU_congr E B (upd U k (.slice pu (Q k).length cu)) U k (fun i hi => upd_ne _ _ (by omega))
          simp only [sessU]
          rw [e, upd_same]
          exact a1
        · by_cases e : i = k
          · subst e
            rw [upd_same]
            refine c23.row' (row_lower hru (by omega)) (fun g hg hf => ?_)
            have := (hown.lt g hf).2
            have := (hru.lt g hg).1
            omega
          · rw [upd_ne _ _ e]
            exact c23.row' (c02.row' (hU i (by omega)) (fun _ _ h => h)) (fun g hg hf => hsep i (by omega) g hg hf)
        · by_cases e : i = k
          · subst e
            rw [upd_same] at hg
            have h1 := hru.lt g hg
            intro hv
            rcases a3 with a3 | a3
            · rw [a3] at hv
              have := (hown.lt g hv).2
              omega
            · have := a3 g hv
              omega
          · rw [upd_ne _ _ e] at hg
            intro hv
            rcases a3 with a3 | a3
            · rw [a3] at hv
              exact hsep i (by omega) g hg hv
            · have := a3 g hv
              have := ((hU i (by omega)).lt g hg).2
              omega
        · have hlo : ∀ i, i < k → ∀ g, (U i).ownBlock = some g → g < wr.heap.size := fun i hi g hg => ((hU i hi).lt g hg).2
          by_cases e : i = k
          · subst e
            rw [upd_same] at hg
            rw [upd_ne _ _ (Ne.symm hij)]
            intro hg'
            have := (hru.lt g hg).1
            have := hlo j (by omega) g hg'
            omega
          · rw [upd_ne _ _ e] at hg
            by_cases e' : j = k
            · subst e'
              rw [upd_same]
              intro hg'
              have := (hru.lt g hg').1
              have := hlo i (by omega) g hg
              omega
            · rw [upd_ne _ _ e']
              exact hap i j (by omega) (by omega) hij g hg
        · exact (hc.trans c02 (fun _ _ h => h)).trans c23 (fun n hn h => by have := (hown.lt n h).1; rw [HS0.out] at hn; omega)
      case measure => simp [intOf]; omega
    · have hk4i : ¬ (k : Int) < 4 := by omega
      obtain rfl : k = 4 := by omega
      obtain ⟨pk, kc, hvk⟩ := row_any h.keys
      have kk := (h.cells.chg hc' id).le
      have hrk := hc'.row' h.keys (fun _ _ h => h)
      rw [hvk] at kk hrk
      have hcl := cloneK_any lo _ ks wr hrk hk
      go_wp2_with (go_at_call 69; refine hcl.mono ?_; rintro _ w5 ⟨u, rfl, hru, c5⟩; obtain ⟨pu, cu, rfl⟩ := row_any hru; have hc5 : Chg (fun _ => False) W0 w5 := hc.trans c5 (fun _ _ h => h); obtain ⟨ps, cs, rfl⟩ := row_any hown; have s0 := hc5.cellAt r0 id; have s1 := hc5.cellAt r1 id; have hfz : ∀ j, w5.frozen? ⟨w.heap.size, j, none⟩ = false := fun j => (World.frozen?_of_block (w := W0) (hc5.block w.heap.size (by rw [HS0.out]; omega) id)).trans (rf j); have f0 := hfz 0; have f1 := hfz 1)
      have hcw : Chg (fun k => k = w.heap.size) w5 ((w5.setCell ⟨w.heap.size, 0, none⟩ (.slice ps 4 cs)).setCell ⟨w.heap.size, 1, none⟩ (.slice pu ks.length cu)) :=
        ((Chg.refl (fun k => k = w.heap.size) w5).setCell (p := ⟨w.heap.size, 0, none⟩) (fun _ => rfl) _).setCell (p := ⟨w.heap.size, 1, none⟩) (fun _ => rfl) _
      refine bodyPost_ret (v := .agg #[.slice ps 4 cs, .slice pu ks.length cu]) ?_ rfl ⟨_, _, U, rfl, ?_, fun i hi => ?_, ?_, hap, ?_⟩
      · simp [results, Tryz.results38, go_sem, s0, s1]
      · exact row_lower (hcw.row (c5.row' hown (fun _ _ h => h)) (fun k hk => .inl (by omega))) (by omega)
      · exact row_lower (hcw.row (c5.row' (hU i hi) (fun _ _ h => h)) (fun k hk => .inl (by omega))) (by omega)
      · exact row_lower (hcw.row hru (fun k hk => .inl (by omega))) (by omega)
      · exact (c0.trans hc5 (fun _ _ h => h)).trans hcw (fun k hk h => by omega)
end Go.Proofs.YthedkdbgfdjlkaaGreatDoor

namespace Go.Proofs.YthedkdbgfdjlkaaGreatDoor
set_option linter.unusedVariables false
set_option linter.unusedSimpArgs false
open Go.RowKit
variable {R : Nat → World → Addr → Option St → (Nat → Prop) → Prop}
theorem keys_le : ∀ {ks : List Ky}, (∀ k ∈ ks, 1 ≤ k.count) → (ks.length : Int) ≤ counts ks
  | [], _ => by simp [counts]
  | k :: r, h => by
    have := keys_le (ks := r) (fun y hy => h y (by simp [hy]))
    have := h k (by simp)
    simp [counts]; omega
theorem waits_ge : ∀ {ls : List Ln}, 0 ≤ waits ls ∧ ∀ l ∈ ls, (l.ws.length : Int) ≤ waits ls
  | [] => by simp [waits]
  | l :: r => by
    obtain ⟨h1, h2⟩ := waits_ge (ls := r)
    refine ⟨by simp [waits]; omega, fun y hy => ?_⟩
    rcases List.mem_cons.1 hy with rfl | hy
    · simp [waits]; omega
    · have := h2 y hy; simp [waits]; omega
theorem St.fine.small {s : St} (h : s.fine) : 0 ≤ counts s.keys ∧ counts s.keys ≤ 1000 ∧ s.lanes.length ≤ 1000 ∧ s.keys.length ≤ 1000 ∧ ∀ l ∈ s.lanes, l.ws.length ≤ 1000 := by
  have h1 := keys_le (fun k hk => (h.key k hk).1)
  obtain ⟨h2, h3⟩ := waits_ge (ls := s.lanes)
  have h4 := h.total
  unfold St.records at h4
  refine ⟨by omega, by omega, by rw [h.four]; omega, by omega, fun l hl => by have := h3 l hl; omega⟩
structure St.good (s : St) : Prop where
  few : s.keys.length ≤ 4
  sorted : s.keys.Pairwise fun a b => less a.name b.name = true
  wait : ∀ l ∈ s.lanes, (l.ws.Pairwise fun a b => a.num < b.num) ∧ ∀ y ∈ l.ws, l.base < y.num ∧ y.num < l.base + 4
structure St.butHeld (s t : St) : Prop where
  lanes : t.lanes = s.lanes
  counts : counts t.keys = counts s.keys
theorem St.butHeld.records {s t : St} (h : s.butHeld t) : t.records = s.records := by
  unfold St.records; rw [h.lanes, h.counts]
theorem putW_length (x : Wt) : ∀ l : List Wt, (putW x l).length = l.length + 1
  | [] => rfl
  | y :: r => by
    unfold putW
    split
    · simp
    · simp [putW_length x r]
theorem drain_len : ∀ (b : Int) (ws : List Wt) (ks : List Ky), counts (drainW b ws ks).2.2 + (drainW b ws ks).2.1.length = counts ks + ws.length
  | b, [], ks => by simp [drainW]
  | b, x :: r, ks => by
    by_cases hb : x.num = b
    · have := drain_len (b + 1) r (takeKy x.key x.val ks)
      rw [counts_takeKy] at this
      simp only [drainW, if_pos hb]
      simp; omega
    · simp only [drainW, if_neg hb]
theorem waits_set : ∀ (ls : List Ln) (i : Nat) (l l' : Ln), ls[i]? = some l → waits (ls.set i l') = waits ls - l.ws.length + l'.ws.length
  | [], i, l, l', h => by simp at h
  | x :: r, 0, l, l', h => by
    simp at h; subst h
    simp [waits]; omega
  | x :: r, i + 1, l, l', h => by
    have := waits_set r i l l' (by simpa using h)
    simp [waits, this]; omega
end Go.Proofs.YthedkdbgfdjlkaaGreatDoor

namespace Go.Proofs.YthedkdbgfdjlkaaGreatDoor
set_option linter.unusedVariables false
set_option linter.unusedSimpArgs false
open Go.RowKit
structure Pt where
  key : ByteArray
  token : Int
  value : Int
def putsOf : List Ky → List Pt
  | [] => []
  | k :: r => if k.held < k.count then ⟨k.name, k.count, k.fold⟩ :: putsOf r else putsOf r
def findKy (name : ByteArray) : List Ky → Option Ky
  | [] => none
  | k :: r => if k.name = name then some k else findKy name r
def holdKy (name : ByteArray) (n : Int) : List Ky → List Ky
  | [] => []
  | k :: r => if k.name = name then ⟨k.name, k.count, k.fold, max k.held n⟩ :: r else k :: holdKy name n r
def answer (s : St) (key : ByteArray) (n : Int) : Int × St :=
  if okKey key = false then (3, s) else
  match findKy key s.keys with
  | none => (8, s)
  | some k => if n < 0 ∨ k.count < n then (9, s) else (0, ⟨s.lanes, holdKy key n s.keys⟩)
def answer? : Option St → ByteArray → Int → Int × Option St
  | none, _, _ => (1, none)
  | some s, k, n => ((answer s k n).1, some (answer s k n).2)
def puts? : Option St → List Pt
  | none => []
  | some s => putsOf s.keys
def Pt.cells (p : Pt) : List Value := [.string p.key, .int .i64 p.token, .int .i64 p.value]
def putCells : List Pt → List Value
  | [] => []
  | p :: r => p.cells ++ putCells r
theorem putCells_len : ∀ l : List Pt, (putCells l).length = l.length * 3
  | [] => rfl
  | x :: r => by
    have := putCells_len r
    simp [putCells, Pt.cells, this]
    omega
theorem putCells_append : ∀ a b : List Pt, putCells (a ++ b) = putCells a ++ putCells b
  | [], b => rfl
  | x :: r, b => by simp [putCells, putCells_append r b]
theorem putCells_at : ∀ (l : List Pt) (i : Nat) (x : Pt), l[i]? = some x → (putCells l)[i * 3]? = some (.string x.key) ∧ (putCells l)[i * 3 + 1]? = some (.int .i64 x.token) ∧ (putCells l)[i * 3 + 2]? = some (.int .i64 x.value)
  | [], i, x, h => by simp at h
  | y :: r, 0, x, h => by simp at h; subst h; simp [putCells, Pt.cells]
  | y :: r, i + 1, x, h => by
    have := putCells_at r i x (by simpa using h)
    rw [show (i + 1) * 3 = i * 3 + 3 by omega, show i * 3 + 3 + 1 = i * 3 + 1 + 3 by omega, show i * 3 + 3 + 2 = i * 3 + 2 + 3 by omega]
    simpa [putCells, Pt.cells] using this
theorem putCells_set : ∀ (l : List Pt) (i : Nat) (x : Pt), putCells (l.set i x) = (((putCells l).set (i * 3) (.string x.key)).set (i * 3 + 1) (.int .i64 x.token)).set (i * 3 + 2) (.int .i64 x.value)
  | [], i, x => by simp [putCells]
  | y :: r, 0, x => by simp [putCells, Pt.cells]
  | y :: r, i + 1, x => by
    have := putCells_set r i x
    rw [show (i + 1) * 3 = i * 3 + 3 by omega, show i * 3 + 3 + 1 = i * 3 + 1 + 3 by omega, show i * 3 + 3 + 2 = i * 3 + 2 + 3 by omega]
    simp [putCells, Pt.cells, this]
structure ApiS (R : World → Addr → Option St → (Nat → Prop) → Prop) : Prop where
  puts : ∀ {w a o F}, R w a o F → Calls Tryz.prog 19 #[.pointer (some a)] w fun e w' =>
    ∃ vp, e = .returned (.tuple #[vp, .int .i64 (errno? o)]) ∧ w'.ownsRow w.heap.size 63 3 vp (puts? o).length (putCells (puts? o)) ∧ R w' a o F ∧ Chg F w w'
  answer : ∀ {w a o F} (key : ByteArray) (n : Int), R w a o F → key.size ≤ maxLen → inInt n → Calls Tryz.prog 23 #[.pointer (some a), .string key, .int .i64 n] w fun e w' =>
    ∃ F', e = .returned (.int .i64 (answer? o key n).1) ∧ R w' a (answer? o key n).2 F' ∧ (∀ k, F' k → F k ∨ w.heap.size ≤ k) ∧ Chg F w w'
structure ApiSN (R : Nat → World → Addr → Option St → (Nat → Prop) → Prop) : Prop where
  puts : ∀ {n w a o F}, R n w a o F → Calls Tryz.prog 19 #[.pointer (some a)] w fun e w' =>
    ∃ vp, e = .returned (.tuple #[vp, .int .i64 (errno? o)]) ∧ w'.ownsRow w.heap.size 63 3 vp (puts? o).length (putCells (puts? o)) ∧ R n w' a o F ∧ Chg F w w'
  answer : ∀ {m w a o F} (key : ByteArray) (n : Int), R m w a o F → m ≤ roomy → key.size ≤ maxLen → inInt n → Calls Tryz.prog 23 #[.pointer (some a), .string key, .int .i64 n] w fun e w' =>
    ∃ F' m', e = .returned (.int .i64 (answer? o key n).1) ∧ R m' w' a (answer? o key n).2 F' ∧ (∀ k, F' k → F k ∨ w.heap.size ≤ k) ∧ Chg F w w' ∧ m' ≤ m + 32 ∧ ((answer? o key n).2 = o → m' = m)
theorem counts_hold (name : ByteArray) (n : Int) : ∀ ks : List Ky, counts (holdKy name n ks) = counts ks
  | [] => rfl
  | k :: r => by
    unfold holdKy
    split
    · rfl
    · simp [counts, counts_hold name n r]
end Go.Proofs.YthedkdbgfdjlkaaGreatDoor

namespace Go.Proofs.YthedkdbgfdjlkaaGreatDoor
set_option linter.unusedVariables false
set_option linter.unusedSimpArgs false
def baseSum : List Ln → Int
  | [] => 0
  | l :: r => l.base + baseSum r
def Wt.sound (y : Wt) : Prop := okKey y.key = true ∧ 0 ≤ y.val ∧ y.val ≤ 4294967295
structure St.sound (s : St) : Prop where
  kname : ∀ k ∈ s.keys, okKey k.name = true
  wt : ∀ l ∈ s.lanes, ∀ y ∈ l.ws, y.sound
  based : baseSum s.lanes ≤ counts s.keys
theorem sound_init : St.init.sound := ⟨by simp [St.init], by simp [St.init, Ln.init], by simp [St.init, Ln.init, baseSum, counts]⟩
theorem baseSum_set : ∀ (ls : List Ln) (i : Nat) (l l' : Ln), ls[i]? = some l → baseSum (ls.set i l') = baseSum ls - l.base + l'.base
  | [], i, l, l', h => by simp at h
  | x :: r, 0, l, l', h => by
    simp at h; subst h
    simp [baseSum]; omega
  | x :: r, i + 1, l, l', h => by
    have := baseSum_set r i l l' (by simpa using h)
    simp [baseSum, this]; omega
theorem takeKy_nam {p : ByteArray → Prop} (name : ByteArray) (val : Int) (hn : p name) : ∀ {ks : List Ky}, (∀ k ∈ ks, p k.name) → ∀ k ∈ takeKy name val ks, p k.name
  | [], _, k, hk => by
    simp [takeKy, Ky.more] at hk
    subst hk; exact hn
  | y :: r, h, k, hk => by
    unfold takeKy at hk
    split at hk
    · rcases List.mem_cons.1 hk with rfl | hk
      · exact h y (by simp)
      · exact h k (by simp [hk])
    · split at hk
      · rcases List.mem_cons.1 hk with rfl | hk
        · exact hn
        · exact h k hk
      · rcases List.mem_cons.1 hk with rfl | hk
        · exact h k (by simp)
        · exact takeKy_nam name val hn (fun k hk => h k (by simp [hk])) k hk
theorem putW_in {x y : Wt} : ∀ {l : List Wt}, y ∈ putW x l → y = x ∨ y ∈ l
  | [], h => by simp [putW] at h; exact .inl h
  | z :: r, h => by
    unfold putW at h
    split at h
    · rcases List.mem_cons.1 h with h | h
      · exact .inl h
      · exact .inr h
    · rcases List.mem_cons.1 h with h | h
      · exact .inr (by simp [h])
      · exact (putW_in h).imp id (fun h => by simp [h])
theorem drain_sound : ∀ (b : Int) (ws : List Wt) (ks : List Ky), (∀ k ∈ ks, okKey k.name = true) → (∀ y ∈ ws, y.sound) →
    (∀ k ∈ (drainW b ws ks).2.2, okKey k.name = true) ∧ (∀ y ∈ (drainW b ws ks).2.1, y.sound) ∧ (drainW b ws ks).1 - b = counts (drainW b ws ks).2.2 - counts ks
  | b, [], ks, h1, h2 => by simp [drainW]; exact h1
  | b, x :: r, ks, h1, h2 => by
    by_cases hb : x.num = b
    · simp only [drainW, if_pos hb]
      obtain ⟨g1, g2, g3⟩ := drain_sound (b + 1) r (takeKy x.key x.val ks) (takeKy_nam (p := fun n => okKey n = true) _ _ (h2 x (by simp)).1 h1) (fun y hy => h2 y (by simp [hy]))
      rw [counts_takeKy] at g3
      exact ⟨g1, g2, by omega⟩
    · simp only [drainW, if_neg hb]
      exact ⟨h1, h2, by omega⟩
theorem sound_accept {s : St} (h : s.sound) (hf : s.fine) (x : Rec) : (accept s x).2.sound := by
  unfold accept
  split
  · exact h
  · split
    · exact h
    · rename_i hk
      split
      · exact h
      · rename_i l hl
        have hlm := List.mem_of_getElem? hl
        have hxs : (⟨x.number, x.key, x.value⟩ : Wt).sound := by
          refine ⟨?_, ?_, ?_⟩
          · cases e : okKey x.key
            · exact absurd (.inl e) hk
            · rfl
          · simp only; omega
          · simp only; omega
        have ht : ∀ y ∈ (l.turned x.epoch).ws, y.sound := by
          unfold Ln.turned
          split
          · intro y hy; simp at hy
          · exact h.wt l hlm
        have hb : (l.turned x.epoch).base ≤ l.base := by
          have := (hf.lane l hlm).2.2.1
          unfold Ln.turned
          split
          · exact this
          · omega
        unfold acceptIn
        simp only
        split
        · exact h
        · split
          · exact h
          · split
            · exact h
            · split
              · exact h
              · split
                · exact h
                · simp only
                  obtain ⟨g1, g2, g3⟩ := drain_sound (l.turned x.epoch).base (putW ⟨x.number, x.key, x.value⟩ (l.turned x.epoch).ws) s.keys h.kname (fun y hy => (putW_in hy).elim (fun e => by rw [e]; exact hxs) (ht y))
                  refine ⟨g1, fun l' hl' => ?_, ?_⟩
                  · rcases List.mem_or_eq_of_mem_set hl' with h' | h'
                    · exact h.wt l' h'
                    · rw [h']; exact g2
                  · have := h.based
                    simp only
                    rw [baseSum_set _ _ _ _ hl]
                    simp only
                    omega
theorem holdKy_names {p : ByteArray → Prop} (name : ByteArray) (n : Int) : ∀ {ks : List Ky}, (∀ k ∈ ks, p k.name) → ∀ k ∈ holdKy name n ks, p k.name
  | [], _, k, hk => by simp [holdKy] at hk
  | y :: r, h, k, hk => by
    unfold holdKy at hk
    split at hk
    · rcases List.mem_cons.1 hk with rfl | hk
      · exact h y (by simp)
      · exact h k (by simp [hk])
    · rcases List.mem_cons.1 hk with rfl | hk
      · exact h k (by simp)
      · exact holdKy_names name n (fun k hk => h k (by simp [hk])) k hk
theorem sound_answer {s : St} (h : s.sound) (key : ByteArray) (n : Int) : (answer s key n).2.sound := by
  unfold answer
  split
  · exact h
  · split
    · exact h
    · split
      · exact h
      · exact ⟨holdKy_names (p := fun n => okKey n = true) key n h.kname, h.wt, by simp only; rw [counts_hold]; exact h.based⟩
end Go.Proofs.YthedkdbgfdjlkaaGreatDoor

namespace Go.Proofs.YthedkdbgfdjlkaaGreatDoor
set_option linter.unusedVariables false
set_option linter.unusedSimpArgs false
def encNum (n : Nat) : List UInt8 := if h : n < 128 then [n.toUInt8] else (n % 128 + 128).toUInt8 :: encNum (n / 128)
def encInt (z : Int) : List UInt8 := encNum z.toNat
def encKey (k : ByteArray) : List UInt8 := encNum k.size ++ k.data.toList
def encInts (l : List Int) : List UInt8 := l.flatMap encInt
def encRec (x : Rec) : List UInt8 := encInts [x.session, x.epoch, x.number] ++ encKey x.key ++ encInt x.value
def encSess (l : Ln) : List UInt8 := encInts [l.epoch, l.base]
def encKy (k : Ky) : List UInt8 := encKey k.name ++ encInts [k.count, k.fold, k.held]
def markB : List UInt8 := [99, 117, 108, 118, 101, 114, 116, 49]
def recsFrom : Nat → List Ln → List Rec
  | _, [] => []
  | i, l :: r => l.ws.map (fun y => (⟨i, l.epoch, y.num, y.key, y.val⟩ : Rec)) ++ recsFrom (i + 1) r
def St.recs (s : St) : List Rec := recsFrom 0 s.lanes
def encHead (s : St) : List UInt8 := markB ++ s.lanes.flatMap encSess ++ encInt s.keys.length ++ s.keys.flatMap encKy ++ encInt s.recs.length ++ s.recs.flatMap encRec
def encAcc (x : Rec) : List UInt8 := 114 :: encRec x
def encAns (key : ByteArray) (n : Int) : List UInt8 := 97 :: (encKey key ++ encInt n)
def bCells (T : List UInt8) : List Value := T.map fun b => Value.int .u8 b.toNat
theorem bCells_len (T : List UInt8) : (bCells T).length = T.length := by simp [bCells]
theorem bCells_append (a b : List UInt8) : bCells (a ++ b) = bCells a ++ bCells b := by simp [bCells]
theorem encNum_small {n : Nat} (h : n < 128) : encNum n = [n.toUInt8] := by rw [encNum]; simp [h]
theorem encNum_big {n : Nat} (h : ¬ n < 128) : encNum n = (n % 128 + 128).toUInt8 :: encNum (n / 128) := by rw [encNum]; simp [h]
theorem encNum_len : ∀ (k n : Nat), n < 128 ^ (k + 1) → (encNum n).length ≤ k + 1
  | 0, n, h => by rw [encNum_small (by simpa using h)]; simp
  | k + 1, n, h => by
    by_cases hn : n < 128
    · rw [encNum_small hn]; simp
    · rw [encNum_big hn]
      have := encNum_len k (n / 128) (by rw [Nat.pow_succ] at h; omega)
      simp; omega
theorem encInt_len9 {z : Int} (h : z ≤ 9223372036854775807) : (encInt z).length ≤ 9 := encNum_len 8 z.toNat (by rw [show 128 ^ (8 + 1) = 9223372036854775808 from rfl]; omega)
theorem encInt_len5 {z : Int} (h : z ≤ 4294967295) : (encInt z).length ≤ 5 := encNum_len 4 z.toNat (by rw [show 128 ^ (4 + 1) = 34359738368 from rfl]; omega)
theorem encInt_len2 {z : Int} (h : z ≤ 16000) : (encInt z).length ≤ 2 := encNum_len 1 z.toNat (by rw [show 128 ^ (1 + 1) = 16384 from rfl]; omega)
theorem encInt_len1 {z : Int} (h : z ≤ 127) : (encInt z).length ≤ 1 := encNum_len 0 z.toNat (by rw [show 128 ^ (0 + 1) = 128 from rfl]; omega)
theorem okKey_size {k : ByteArray} (h : okKey k = true) : 1 ≤ k.size ∧ k.size ≤ 6 := by
  unfold okKey at h
  split at h
  · cases h
  · rename_i c r e
    have hs : k.size = r.length + 1 := by
      have : k.size = k.data.toList.length := Array.length_toList.symm
      rw [this, e]; simp
    simp at h
    omega
theorem encKey_len {k : ByteArray} (h : okKey k = true) : (encKey k).length ≤ 7 := by
  obtain ⟨_, h2⟩ := okKey_size h
  have h1 := encNum_len 0 k.size (by rw [show 128 ^ (0 + 1) = 128 from rfl]; omega)
  have h3 : k.data.toList.length = k.size := Array.length_toList
  unfold encKey
  rw [List.length_append, h3]
  omega
theorem encRec_len {x : Rec} (h1 : x.session ≤ 127) (h2 : x.epoch ≤ 9223372036854775807) (h3 : x.number ≤ 16000) (h4 : okKey x.key = true) (h5 : x.value ≤ 4294967295) : (encRec x).length ≤ 24 := by
  have a1 := encInt_len1 h1
  have a2 := encInt_len9 h2
  have a3 := encInt_len2 h3
  have a4 := encKey_len h4
  have a5 := encInt_len5 h5
  unfold encRec encInts
  simp only [List.flatMap_cons, List.flatMap_nil, List.append_nil, List.length_append]
  omega
theorem flat_len {α : Type} (f : α → List UInt8) (c : Nat) : ∀ {l : List α}, (∀ x ∈ l, (f x).length ≤ c) → (l.flatMap f).length ≤ l.length * c
  | [], _ => by simp
  | x :: r, h => by
    have h1 := flat_len f c (l := r) (fun y hy => h y (by simp [hy]))
    have h2 := h x (by simp)
    simp only [List.flatMap_cons, List.length_append, List.length_cons, Nat.add_mul]
    omega
theorem mem_recsFrom : ∀ {i : Nat} {ls : List Ln} {x : Rec}, x ∈ recsFrom i ls → ∃ (j : Nat) (l : Ln) (y : Wt), ls[j]? = some l ∧ y ∈ l.ws ∧ x = ⟨((i + j : Nat) : Int), l.epoch, y.num, y.key, y.val⟩
  | i, [], x, h => by simp [recsFrom] at h
  | i, l :: r, x, h => by
    simp only [recsFrom, List.mem_append, List.mem_map] at h
    rcases h with ⟨y, hy, rfl⟩ | h
    · exact ⟨0, l, y, rfl, hy, by simp⟩
    · obtain ⟨j, l', y, h1, h2, h3⟩ := mem_recsFrom h
      exact ⟨j + 1, l', y, by simpa using h1, h2, by rw [h3, show i + 1 + j = i + (j + 1) by omega]⟩
theorem recsFrom_len : ∀ (i : Nat) (ls : List Ln), ((recsFrom i ls).length : Int) = waits ls
  | i, [] => by simp [recsFrom, waits]
  | i, l :: r => by
    have := recsFrom_len (i + 1) r
    simp [recsFrom, waits]; omega
end Go.Proofs.YthedkdbgfdjlkaaGreatDoor

namespace Go.Proofs.YthedkdbgfdjlkaaGreatDoor
set_option linter.unusedVariables false
set_option linter.unusedSimpArgs false
open Go.RowKit Go.Lib
theorem run_append_where_string {P : Program} (w : World) (base : Nat) (t u ty e : TypeId) (i : TypeInfo) (ht : P.underlying t = some (.slice e)) (hu : P.underlying u = some .string) (hi : P.info? e = some i) (hz : i.zero = some (.int .u8 0))
    (hsize : i.size = 1) (hby : i.bytes = 1) (v : Value) (n : Nat) (xs : List Value) (hown : w.ownsRow base e 1 v n xs) (s : ByteArray)
    (h63 : n + s.size ≤ maxLen) (hbytes : n + s.size ≤ 140737488355328) (hbase : base ≤ w.heap.size) :
    ∃ v' w', (Builtin.append_ #[t, u] ty #[v, .string s]).run P w = .ok v' w' ∧ w'.ownsRow base e 1 v' (n + s.size) (xs ++ strCells s) ∧ w.grownBy w' v.ownBlock ∧
      (v'.ownBlock = v.ownBlock ∨ ∀ k, v'.ownBlock = some k → w.heap.size ≤ k) := by
  have hown0 := hown
  rcases hown.2 with ⟨rfl, rfl⟩ | ⟨g, cap, cur, rfl, hbg, hg, hcap, hmax, hcur, htake⟩
  · obtain rfl : xs = [] := List.eq_nil_of_length_eq_zero (by simpa using hown.1)
    obtain ⟨v', w', hrun, r1, r2, _⟩ := run_append_own_string (P := P) w w.heap.size t u ty e i ht hu hi hz hsize hby (.slice none 0 0) 0 [] (World.ownsRow_nil w _ e 1) s h63 hbytes (Nat.le_refl _)
    exact ⟨v', w', hrun, row_lower r1 hbase, r2, .inr fun k hk => (r1.lt k hk).1⟩
  · obtain ⟨v', w', hrun, r1, r2, _⟩ := run_append_own_string (P := P) w base t u ty e i ht hu hi hz hsize hby _ n xs hown0 s h63 hbytes hbase
    have hcs : cur.size = cap := by simpa using hcur
    by_cases hroom : n + s.size ≤ cap
    · have hrun2 := run_append_room_string (P := P) w t u ty e i ht hu hi hsize g n cap cur hg s hroom (by omega)
      rw [hrun2] at hrun
      have hv : v' = .slice (some ⟨g, 0, none⟩) (n + s.size) cap := by
        injection hrun with e1 e2
        exact e1.symm
      refine ⟨v', w', hrun2.trans hrun, r1, r2, .inl ?_⟩
      rw [hv]; rfl
    · have holds : ∀ j u, xs[j]? = some u → w.cell? ((⟨g, 0, none⟩ : Addr).add j) = some u := World.ownsRow.cells hown0 (g := g) rfl
      have hxl : xs.length = n := by simpa using hown.1
      have hrun2 := run_append_grow_string (P := P) w t u ty e i (.int .u8 0) ht hu hi hz ⟨g, 0, none⟩ n cap xs (by rw [hsize]; simpa using hxl) holds s (by omega) (by unfold maxLen at h63; omega) (by rw [hby]; exact growslice_fits (by omega) (by omega))
      rw [hrun2] at hrun
      have hv : v' = .slice (some ⟨w.heap.size, 0, none⟩) (n + s.size) (grownCap w (n + s.size) cap e) := by
        injection hrun with e1 e2
        exact e1.symm
      refine ⟨v', w', hrun2.trans hrun, r1, r2, .inr fun k hk => ?_⟩
      rw [hv] at hk
      simp [Value.ownBlock] at hk
      omega
def RowB (w : World) (lo : Nat) (v : Value) (T : List UInt8) : Prop :=
  w.ownsRow lo 5 1 v T.length (bCells T) ∨
  ∃ g cap, v = .slice (some ⟨g, 0, none⟩) T.length cap ∧ lo ≤ g ∧ g < w.heap.size ∧ T.length ≤ cap ∧ (∀ (j : Nat) (u : Value), (bCells T)[j]? = some u → w.cell? ⟨g, j, none⟩ = some u) ∧
    ∀ j, T.length ≤ j → j < cap → (w.cell? ⟨g, j, none⟩).isSome = true ∧ w.frozen? ⟨g, j, none⟩ = false
theorem RowB.any {w : World} {lo : Nat} {v : Value} {T : List UInt8} (h : RowB w lo v T) : ∃ p c, v = .slice p T.length c := by
  rcases h with h | ⟨g, cap, rfl, _⟩
  · exact row_any h
  · exact ⟨_, _, rfl⟩
theorem RowB.lt {w : World} {lo : Nat} {v : Value} {T : List UInt8} (h : RowB w lo v T) (k : Nat) (hk : v.ownBlock = some k) : lo ≤ k ∧ k < w.heap.size := by
  rcases h with h | ⟨g, cap, rfl, h1, h2, _⟩
  · exact h.lt k hk
  · simp [Value.ownBlock] at hk
    omega
theorem RowB.chg {F : Nat → Prop} {w w' : World} {lo : Nat} {v : Value} {T : List UInt8} (h : RowB w lo v T) (c : Chg F w w') (hF : ∀ k, v.ownBlock = some k → ¬ F k) : RowB w' lo v T := by
  rcases h with h | ⟨g, cap, rfl, h1, h2, hl, h3, h4⟩
  · exact .inl (c.row' h hF)
  · have e := c.block g h2 (hF g rfl)
    exact .inr ⟨g, cap, rfl, h1, Nat.lt_of_lt_of_le h2 c.size, hl, fun j u hj => c.cellAt (h3 j u hj) (hF g rfl), fun j h5 h6 => by
      rw [World.cell?_of_block (w := w) e, World.frozen?_of_block (w := w) e]; exact h4 j h5 h6⟩
theorem RowB.alloc {w : World} {lo : Nat} {v : Value} {T : List UInt8} (h : RowB w lo v T) (o : Obj) : RowB (w.alloc o) lo v T := h.chg (F := fun _ => False) ((Chg.refl _ w).alloc o) (fun _ _ h => h)
theorem RowB.lower {w : World} {lo lo' : Nat} {v : Value} {T : List UInt8} (h : RowB w lo v T) (hl : lo' ≤ lo) : RowB w lo' v T := by
  rcases h with h | ⟨g, cap, rfl, h1, h2, h3, h4, h5⟩
  · exact .inl (row_lower h hl)
  · exact .inr ⟨g, cap, rfl, Nat.le_trans hl h1, h2, h3, h4, h5⟩
theorem RowB.same {w w' : World} {lo : Nat} {v : Value} {T : List UInt8} (h : RowB w lo v T) (hs : ∀ k, v.ownBlock = some k → w'.heap[k]? = w.heap[k]?) : RowB w' lo v T := by
  rcases h with h | ⟨g, cap, rfl, h1, h2, hl, h3, h4⟩
  · refine .inl ⟨h.1, ?_⟩
    rcases h.2 with hn | ⟨g, cap, cur, hv, hb, hg, r⟩
    · exact .inl hn
    · exact .inr ⟨g, cap, cur, hv, hb, (hs g (by rw [hv]; rfl)).trans hg, r⟩
  · have e := hs g rfl
    refine .inr ⟨g, cap, rfl, h1, ?_, hl, fun j u hj => (World.cell?_of_block (w := w) e).trans (h3 j u hj), fun j h5 h6 => by
      rw [World.cell?_of_block (w := w) e, World.frozen?_of_block (w := w) e]; exact h4 j h5 h6⟩
    rw [Array.getElem?_eq_getElem h2] at e
    exact (Array.getElem?_eq_some_iff.1 e).1
structure Grew (lo : Nat) (w w' : World) (v v' : Value) (T' : List UInt8) : Prop where
  row : RowB w' lo v' T'
  chg : Chg (fun k => v.ownBlock = some k) w w'
  at' : ∀ k, v'.ownBlock = some k → v.ownBlock = some k ∨ w.heap.size ≤ k
theorem Grew.refl {lo : Nat} {w : World} {v : Value} {T : List UInt8} (h : RowB w lo v T) : Grew lo w w v v T :=
  ⟨h, Chg.refl _ _, fun k hk => .inl hk⟩
theorem Grew.trans {lo : Nat} {w w1 w2 : World} {v v1 v2 : Value} {T1 T2 : List UInt8} (h : Grew lo w w1 v v1 T1) (k : Grew lo w1 w2 v1 v2 T2) : Grew lo w w2 v v2 T2 := by
  refine ⟨k.row, h.chg.trans k.chg (fun n hn hk => ?_), fun g hg => ?_⟩
  · rcases h.at' n hk with h1 | h1
    · exact h1
    · omega
  · rcases k.at' g hg with h1 | h1
    · exact h.at' g h1
    · exact .inr (Nat.le_trans h.chg.size h1)
theorem Grew.beside {lo : Nat} {w w1 w2 : World} {v v' : Value} {T' : List UInt8} (h : Grew lo w w1 v v' T') (c : Chg (fun _ => False) w1 w2) : Grew lo w w2 v v' T' :=
  ⟨h.row.chg c (fun _ _ h => h), h.chg.trans c (fun _ _ h => h.elim), h.at'⟩
theorem Grew.behind {lo : Nat} {w w1 w2 : World} {v v' : Value} {T' : List UInt8} (c : Chg (fun _ => False) w w1) (h : Grew lo w1 w2 v v' T') : Grew lo w w2 v v' T' :=
  ⟨h.row, (c.mono (fun _ h => h.elim)).trans h.chg (fun _ _ h => h), fun k hk => (h.at' k hk).imp id (fun h1 => Nat.le_trans c.size h1)⟩
theorem grew_of {lo : Nat} {w w' : World} {v v' : Value} {n : Nat} {xs : List Value} {T : List UInt8} (r : w'.ownsRow lo 5 1 v' n xs) (hn : n = T.length) (hx : xs = bCells T) (g : w.grownBy w' v.ownBlock) (a : v'.ownBlock = v.ownBlock ∨ ∀ k, v'.ownBlock = some k → w.heap.size ≤ k) : Grew lo w w' v v' T := by
  subst hn hx
  refine ⟨.inl r, ⟨g.os, g.tape, g.output, g.size, fun k hk hne => g.block k hk (fun e => hne e.symm)⟩, fun k hk => ?_⟩
  rcases a with a | a
  · exact .inl (by rw [← a]; exact hk)
  · exact .inr (a k hk)
theorem setCells_slotsB (b : Nat) : ∀ (vs : List Value) (o : Nat) (w : World), Slots b (fun j => o ≤ j ∧ j < o + vs.length) w (w.setCells b o vs) ∧ Chg (fun k => k = b) w (w.setCells b o vs)
  | [], o, w => ⟨by simpa [World.setCells] using Slots.refl b _ w, by simpa [World.setCells] using Chg.refl _ w⟩
  | v :: r, o, w => by
    obtain ⟨h1, h2⟩ := setCells_slotsB b r (o + 1) (w.setCell ⟨b, o, none⟩ v)
    have h0 : Slots b (fun j => o ≤ j ∧ j < o + (v :: r).length) w (w.setCell ⟨b, o, none⟩ v) := (Slots.refl b _ w).setCell (p := ⟨b, o, none⟩) v (fun _ => by simp)
    have c0 : Chg (fun k => k = b) w (w.setCell ⟨b, o, none⟩ v) := (Chg.refl (fun k => k = b) w).setCell (p := ⟨b, o, none⟩) (fun _ => rfl) v
    constructor
    · simpa [World.setCells] using h0.trans h1 (fun j hj => by simp; omega)
    · simpa [World.setCells] using c0.trans h2 (fun _ _ h => h)
theorem grew_put {lo : Nat} {w : World} {g cap : Nat} {T : List UInt8} (h1 : lo ≤ g) (h2 : g < w.heap.size) (h3 : ∀ (j : Nat) (u : Value), (bCells T)[j]? = some u → w.cell? ⟨g, j, none⟩ = some u) (h4 : ∀ j, T.length ≤ j → j < cap → (w.cell? ⟨g, j, none⟩).isSome = true ∧ w.frozen? ⟨g, j, none⟩ = false)
    (N : List UInt8) (hroom : T.length + N.length ≤ cap) : Grew lo w (w.setCells g T.length (bCells N)) (.slice (some ⟨g, 0, none⟩) T.length cap) (.slice (some ⟨g, 0, none⟩) (T.length + N.length) cap) (T ++ N) := by
  obtain ⟨sl, cg⟩ := setCells_slotsB g (bCells N) T.length w
  have hin := World.cell?_setCells_in g (bCells N) T.length w (fun j hj => (h4 (T.length + j) (by omega) (by rw [bCells_len] at hj; omega)).1)
  refine ⟨.inr ⟨g, cap, by rw [List.length_append], h1, Nat.lt_of_lt_of_le h2 cg.size, by rw [List.length_append]; exact hroom, fun j u hj => ?_, fun j h5 h6 => ?_⟩, cg.mono (fun k hk => by rw [hk]; rfl), fun k hk => .inl hk⟩
  · rw [bCells_append] at hj
    by_cases hlt : j < T.length
    · rw [List.getElem?_append_left (by rw [bCells_len]; exact hlt)] at hj
      exact (sl.cell j (by omega)).trans (h3 j u hj)
    · rw [List.getElem?_append_right (by rw [bCells_len]; omega), bCells_len] at hj
      have hjl := (List.getElem?_eq_some_iff.1 hj).1
      have := hin (j - T.length) hjl
      rw [show T.length + (j - T.length) = j by omega] at this
      rw [this, ← List.getElem?_eq_getElem hjl]; exact hj
  · rw [List.length_append] at h5
    rw [sl.cell j (by rw [bCells_len]; omega), sl.frozen j]
    exact h4 j (by omega) h6
theorem run_append_room_string_cells {P : Program} (w : World) (t u ty e : TypeId) (i : TypeInfo) (ht : P.underlying t = some (.slice e)) (hu : P.underlying u = some .string) (hi : P.info? e = some i) (hs1 : i.size = 1)
    (g n cap : Nat) (s : ByteArray) (hroom : n + s.size ≤ cap) (hc : ∀ j, j < s.size → (w.cell? ⟨g, n + j, none⟩).isSome = true) (hf : ∀ j, j < s.size → w.frozen? ⟨g, n + j, none⟩ = false) :
    (Builtin.append_ #[t, u] ty #[.slice (some ⟨g, 0, none⟩) n cap, .string s]).run P w = .ok (.slice (some ⟨g, 0, none⟩) (n + s.size) cap) (w.setCells g n (strCells s)) := by
  have hfc := run_firstCells_string (P := P) w 1 s
  have hst := run_storeCells_cells (P := P) g n (strCells s) 0 w (by simpa [strCells_length] using hc) (by simpa [strCells_length] using hf) (strCells_oneCell s)
  simp only [Nat.add_zero] at hst
  simp [Builtin.append_, run_underlying ht, run_underlying hu, sizeOf, typeInfo, hi, hs1, Builtin.lenOf, hroom, hfc, Addr.add_lit, hst]
theorem Tryz.infoU8 : (Tryz.prog.info? 5).map (fun i => (i.zero, i.size, i.bytes)) = some (some (.int .u8 0), 1, 1) := by kernel_rfl
end Go.Proofs.YthedkdbgfdjlkaaGreatDoor

namespace Go.Proofs
set_option linter.unusedVariables false
set_option linter.unusedSimpArgs false
abbrev Tryz.muLink : Go.Conc.Locks.MuLink := { lock := 36, unlock := 37, ilock := 66, iunlock := 67, lockSlow := 106, unlockSlow := 109, disable := 102, enable := 104, acquire := 105, relMerge := 107, cas32 := 103, add32 := 108, tMutex := 105, tIMutex := 103, tPMutex := 157, tPIMutex := 203, tPI32 := 205, tUP := 191, tNoCopy := 100, tU32 := 101 }
theorem Tryz.muLib : Go.Conc.Locks.MuLib Tryz.prog Tryz.muLink := {
  f_lock := by kernel_rfl
  f_unlock := by kernel_rfl
  f_ilock := by kernel_rfl
  f_iunlock := by kernel_rfl
  f_disable := by kernel_rfl
  f_enable := by kernel_rfl
  f_acquire := by kernel_rfl
  f_relMerge := by kernel_rfl
  f_cas32 := by kernel_rfl
  f_add32 := by kernel_rfl
  underlying_tIMutex := by kernel_rfl
  runUnderlying_tIMutex := fun w => by kernel_rfl
  sizeOf_tIMutex := fun w => by kernel_rfl
  isAgg_tIMutex := fun w => by kernel_rfl
  zeroValue_tIMutex := fun w => by kernel_rfl
  underlying_tMutex := by kernel_rfl
  runUnderlying_tMutex := fun w => by kernel_rfl
  sizeOf_tMutex := fun w => by kernel_rfl
  isAgg_tMutex := fun w => by kernel_rfl
  zeroValue_tMutex := fun w => by kernel_rfl
  underlying_tPMutex := by kernel_rfl
  runUnderlying_tPMutex := fun w => by kernel_rfl
  sizeOf_tPMutex := fun w => by kernel_rfl
  isAgg_tPMutex := fun w => by kernel_rfl
  zeroValue_tPMutex := fun w => by kernel_rfl
  underlying_tPIMutex := by kernel_rfl
  runUnderlying_tPIMutex := fun w => by kernel_rfl
  sizeOf_tPIMutex := fun w => by kernel_rfl
  isAgg_tPIMutex := fun w => by kernel_rfl
  zeroValue_tPIMutex := fun w => by kernel_rfl
  underlying_tPI32 := by kernel_rfl
  runUnderlying_tPI32 := fun w => by kernel_rfl
  sizeOf_tPI32 := fun w => by kernel_rfl
  isAgg_tPI32 := fun w => by kernel_rfl
  zeroValue_tPI32 := fun w => by kernel_rfl
  underlying_tUP := by kernel_rfl
  runUnderlying_tUP := fun w => by kernel_rfl
  sizeOf_tUP := fun w => by kernel_rfl
  isAgg_tUP := fun w => by kernel_rfl
  zeroValue_tUP := fun w => by kernel_rfl
  underlying_tNoCopy := by kernel_rfl
  runUnderlying_tNoCopy := fun w => by kernel_rfl
  sizeOf_tNoCopy := fun w => by kernel_rfl
  isAgg_tNoCopy := fun w => by kernel_rfl
  zeroValue_tNoCopy := fun w => by kernel_rfl
  underlying_t21 := by kernel_rfl
  runUnderlying_t21 := fun w => by kernel_rfl
  sizeOf_t21 := fun w => by kernel_rfl
  isAgg_t21 := fun w => by kernel_rfl
  zeroValue_t21 := fun w => by kernel_rfl
  room_tIMutex := by kernel_rfl }
end Go.Proofs

namespace Go.Proofs.YthedkdbgfdjlkaaGreatDoor
set_option linter.unusedVariables false
set_option linter.unusedSimpArgs false
open Go.RowKit Go.Lib Go.Conc.Locks
structure Head (w : World) (b : Nat) (d : Int) (c : Bool) : Prop where
  mu : w.cell? ⟨b, 0, none⟩ = some (.int .i32 0)
  dn : w.cell? ⟨b, 2, none⟩ = some (.int .u32 d)
  om : w.cell? ⟨b, 3, none⟩ = some (.int .i32 0)
  cl : w.cell? ⟨b, 5, none⟩ = some (.bool c)
  fz : ∀ j, w.frozen? ⟨b, j, none⟩ = false
structure Held (W w1 : World) (b : Nat) : Prop where
  eq : w1 = W.setCell ⟨b, 0, none⟩ (.int .i32 1)
theorem Held.slots {W w1 : World} {b : Nat} (h : Held W w1 b) : Slots b (fun j => j = 0) W w1 := by
  rw [h.eq]; exact (Slots.refl b _ W).setCell (p := ⟨b, 0, none⟩) _ (fun _ => rfl)
theorem Held.chg {W w1 : World} {b : Nat} (h : Held W w1 b) : Chg (fun k => k = b) W w1 := by
  rw [h.eq]; exact (Chg.refl (fun k => k = b) W).setCell (p := ⟨b, 0, none⟩) (fun _ => rfl) _
theorem Held.cell {W w1 : World} {b : Nat} (h : Held W w1 b) {v : Value} (hc : W.cell? ⟨b, 0, none⟩ = some v) : w1.cell? ⟨b, 0, none⟩ = some (.int .i32 1) := by
  rw [h.eq]; exact World.cell?_setCell_same _ _ _ hc
theorem lock_rel (b : Nat) (W : World) (h0 : W.cell? ⟨b, 0, none⟩ = some (.int .i32 0)) (hz : W.frozen? ⟨b, 0, none⟩ = false) :
    Calls Tryz.prog 36 #[.pointer (some ⟨b, 0, none⟩)] W fun e w1 => e = .returned (.tuple #[]) ∧ Held W w1 b :=
  (Go.MuLone.lock_free Tryz.muLib ⟨b, 0, none⟩ W h0 hz).mono (fun _ _ ⟨h1, h2⟩ => ⟨h1, ⟨h2⟩⟩)
theorem door {fn : Func} {tmps : Array Value} {R : Ending → World → Prop} {b : Nat} {w2 : World} {v : Value} (hc : w2.cell? ⟨b, 0, none⟩ = some (.int .i32 1)) (hz : w2.frozen? ⟨b, 0, none⟩ = false)
    (hres : (results fn tmps).run Tryz.prog (w2.setCell ⟨b, 0, none⟩ (.int .i32 0)) = .ok v (w2.setCell ⟨b, 0, none⟩ (.int .i32 0))) (hR : R (.returned v) (w2.setCell ⟨b, 0, none⟩ (.int .i32 0))) :
    Leaves Tryz.prog fn tmps R [{ target := .fn (.func 37) #[], args := #[.pointer (some ⟨b, 0, none⟩)] }] .returning w2 := by
  refine leaves_cons (f := 37) (args := #[.pointer (some ⟨b, 0, none⟩)]) (by simp) (by kernel_rfl) ?_
  refine (Go.MuLone.unlock_deferred Tryz.muLib ⟨b, 0, none⟩ _ _ hc hz).mono ?_
  rintro e u' w'' ⟨rfl, rfl, rfl⟩
  exact ⟨v, hres, hR⟩
theorem Head.chg {F : Nat → Prop} {w w' : World} {b : Nat} {d : Int} {c : Bool} (h : Head w b d c) (hc : Chg F w w') (hF : ¬ F b) : Head w' b d c :=
  ⟨hc.cellAt h.mu hF, hc.cellAt h.dn hF, hc.cellAt h.om hF, hc.cellAt h.cl hF, fun j => (World.frozen?_of_block (w := w) (hc.block b (World.block_lt_of_cell? _ _ h.mu) hF)).trans (h.fz j)⟩
theorem Head.back {W w1 : World} {b : Nat} {d : Int} {c : Bool} {S : Nat → Prop} (h : Head W b d c) (sl : Slots b S W w1) (hS : ∀ j, S j → j = 0 ∨ 6 ≤ j) (h0 : w1.cell? ⟨b, 0, none⟩ = some (.int .i32 1)) : Head (w1.setCell ⟨b, 0, none⟩ (.int .i32 0)) b d c := by
  have sl2 : Slots b (fun j => j = 0 ∨ 6 ≤ j) W (w1.setCell ⟨b, 0, none⟩ (.int .i32 0)) := (sl.mono hS).setCell (p := ⟨b, 0, none⟩) _ (fun _ => .inl rfl)
  exact ⟨World.cell?_setCell_same _ _ _ h0, (sl2.cell 2 (by omega)).trans h.dn, (sl2.cell 3 (by omega)).trans h.om, (sl2.cell 5 (by omega)).trans h.cl, fun j => (sl2.frozen j).trans (h.fz j)⟩
theorem FlowAt.beside {w w' : World} {lo b o : Nat} {E B : Nat → Int} {V : Nat → Value} {vk : Value} {Q : Nat → List Wt} {ks : List Ky} {S : Nat → Prop} (h : FlowAt w lo b o E B V vk Q ks) (sl : Slots b S w w') (hS : ∀ j, S j → j < o ∨ o + 13 ≤ j) (cg : Chg (fun k => k = b) w w') : FlowAt w' lo b o E B V vk Q ks :=
  ⟨⟨fun i hi => (sl.cell _ (fun hs => by have := hS _ hs; omega)).trans (h.cells.ep i hi), fun i hi => (sl.cell _ (fun hs => by have := hS _ hs; omega)).trans (h.cells.ba i hi), fun i hi => (sl.cell _ (fun hs => by have := hS _ hs; omega)).trans (h.cells.qu i hi), (sl.cell _ (fun hs => by have := hS _ hs; omega)).trans h.cells.le⟩,
   fun j => (sl.frozen j).trans (h.froz j), fun i hi => cg.row' (h.rows i hi) (fun k hk e => h.own i hi (by rw [← e]; exact hk)), cg.row' h.keys (fun k hk e => h.ownk (by rw [← e]; exact hk)), h.own, h.ownk, h.sep, h.sepk, Nat.le_trans h.low cg.size⟩
def Rows (V : Nat → Value) (vk : Value) (k : Nat) : Prop := (∃ i, i < 4 ∧ (V i).ownBlock = some k) ∨ vk.ownBlock = some k
structure TapeAt (w : World) (b : Nat) (V : Nat → Value) (vk vb : Value) (T : List UInt8) : Prop where
  cell : w.cell? ⟨b, 19, none⟩ = some vb
  row : RowB w 0 vb T
  own : vb.ownBlock ≠ some b
  sep : ∀ k, vb.ownBlock = some k → ¬ Rows V vk k
theorem TapeAt.chg {F : Nat → Prop} {w w' : World} {b : Nat} {V : Nat → Value} {vk vb : Value} {T : List UInt8} (h : TapeAt w b V vk vb T) (c : Chg F w w') (hb : ¬ F b) (hF : ∀ k, vb.ownBlock = some k → ¬ F k) : TapeAt w' b V vk vb T :=
  ⟨c.cellAt h.cell hb, h.row.chg c hF, h.own, h.sep⟩
theorem TapeAt.beside {w w' : World} {b : Nat} {V : Nat → Value} {vk vb : Value} {T : List UInt8} {S : Nat → Prop} (h : TapeAt w b V vk vb T) (sl : Slots b S w w') (hS : ¬ S 19) (c : Chg (fun k => k = b) w w') : TapeAt w' b V vk vb T :=
  ⟨(sl.cell 19 hS).trans h.cell, h.row.chg c (fun k hk e => h.own (by rw [← e]; exact hk)), h.own, h.sep⟩
end Go.Proofs.YthedkdbgfdjlkaaGreatDoor

namespace Go.Proofs.YthedkdbgfdjlkaaGreatDoor
set_option linter.unusedVariables false
set_option linter.unusedSimpArgs false
open Go.RowKit
def Rec.cells (x : Rec) : List Value := [.int .i64 x.session, .int .i64 x.epoch, .int .i64 x.number, .string x.key, .int .i64 x.value]
def recCells : List Rec → List Value
  | [] => []
  | x :: r => x.cells ++ recCells r
theorem recCells_len : ∀ l : List Rec, (recCells l).length = l.length * 5
  | [] => rfl
  | x :: r => by
    have := recCells_len r
    simp [recCells, Rec.cells, this]
    omega
theorem recCells_append : ∀ a b : List Rec, recCells (a ++ b) = recCells a ++ recCells b
  | [], b => rfl
  | x :: r, b => by simp [recCells, recCells_append r b]
theorem recCells_at : ∀ (l : List Rec) (i : Nat) (x : Rec), l[i]? = some x → (recCells l)[i * 5]? = some (.int .i64 x.session) ∧ (recCells l)[i * 5 + 1]? = some (.int .i64 x.epoch) ∧ (recCells l)[i * 5 + 2]? = some (.int .i64 x.number) ∧ (recCells l)[i * 5 + 3]? = some (.string x.key) ∧ (recCells l)[i * 5 + 4]? = some (.int .i64 x.value)
  | [], i, x, h => by simp at h
  | y :: r, 0, x, h => by simp at h; subst h; simp [recCells, Rec.cells]
  | y :: r, i + 1, x, h => by
    have := recCells_at r i x (by simpa using h)
    rw [show (i + 1) * 5 = i * 5 + 5 by omega, show i * 5 + 5 + 1 = i * 5 + 1 + 5 by omega, show i * 5 + 5 + 2 = i * 5 + 2 + 5 by omega, show i * 5 + 5 + 3 = i * 5 + 3 + 5 by omega, show i * 5 + 5 + 4 = i * 5 + 4 + 5 by omega]
    simpa [recCells, Rec.cells] using this
def Wh (n : Nat) (v v' : Value) : Prop := v'.ownBlock = v.ownBlock ∨ ∀ k, v'.ownBlock = some k → n ≤ k
theorem Wh.refl (n : Nat) (v : Value) : Wh n v v := .inl rfl
theorem Wh.trans {n m : Nat} {a b c : Value} (h : Wh n a b) (h' : Wh m b c) (hn : n ≤ m) : Wh n a c := by
  rcases h' with h' | h'
  · rcases h with h | h
    · exact .inl (h'.trans h)
    · exact .inr fun k hk => h k (by rw [← h']; exact hk)
  · exact .inr fun k hk => Nat.le_trans hn (h' k hk)
theorem Tryz.infoR : (Tryz.prog.info? 53).map (fun i => (i.zero, i.size, i.bytes)) = some (some (.agg #[.int .i64 0, .int .i64 0, .int .i64 0, .string { data := #[] }, .int .i64 0]), 5, 48) := by kernel_rfl
end Go.Proofs.YthedkdbgfdjlkaaGreatDoor

namespace Go.Proofs.YthedkdbgfdjlkaaGreatDoor
set_option linter.unusedVariables false
set_option linter.unusedSimpArgs false
open Go.RowKit Go.Lib
def recsU (E : Nat → Int) (S : Nat → List Wt) : Nat → List Rec
  | 0 => []
  | k + 1 => recsU E S k ++ (S k).map fun y => ⟨k, E k, y.num, y.key, y.val⟩
theorem recsU_len (E : Nat → Int) (S : Nat → List Wt) (h : ∀ i, i < 4 → (S i).length ≤ 4) : ∀ k, k ≤ 4 → (recsU E S k).length ≤ k * 4
  | 0, _ => by simp [recsU]
  | k + 1, hk => by
    have h1 := recsU_len E S h k (by omega)
    have h2 := h k (by omega)
    simp [recsU]; omega
theorem Tryz.infoRec : (Tryz.prog.info? 53).map (fun i => (i.zero, i.size, i.bytes)) = some (some (.agg #[.int .i64 0, .int .i64 0, .int .i64 0, .string { data := #[] }, .int .i64 0]), 5, 48) := by kernel_rfl
set_option maxRecDepth 100000 in
set_option maxHeartbeats 4000000 in
theorem Waiting_any {w : World} {lo b o : Nat} {E B : Nat → Int} {V : Nat → Value} {vk : Value} {Q S : Nat → List Wt} {ks : List Ky} (h : FlowAt w lo b o E B V vk Q ks) (hq : ∀ i, i < 4 → (Q i).length ≤ 4) (hS : ∀ i, i < 4 → Up (S i) ∧ (Q i).Perm (S i)) :
    Calls Tryz.prog 59 #[.pointer (some ⟨b, o, none⟩)] w fun e w' => ∃ u, e = .returned u ∧ w'.ownsRow w.heap.size 53 5 u (recsU E S 4).length (recCells (recsU E S 4)) ∧ Chg (fun _ => False) w w' := by
  obtain ⟨i0, hi, hz0, hz1, hz2⟩ := info_parts Tryz.infoRec
  have hSl : ∀ i, i < 4 → (S i).length = (Q i).length := fun i hi => (hS i hi).2.length_eq.symm
  have hF1 := h.cells
  have e0 := hF1.ep 0 (by omega); have e1 := hF1.ep 1 (by omega); have e2 := hF1.ep 2 (by omega); have e3 := hF1.ep 3 (by omega)
  have b0 := hF1.ba 0 (by omega); have b1 := hF1.ba 1 (by omega); have b2 := hF1.ba 2 (by omega); have b3 := hF1.ba 3 (by omega)
  have v0 := hF1.qu 0 (by omega); have v1 := hF1.qu 1 (by omega); have v2 := hF1.qu 2 (by omega); have v3 := hF1.qu 3 (by omega)
  simp only [Nat.zero_mul, Nat.one_mul, Nat.add_zero] at e0 e1 e2 e3 b0 b1 b2 b3 v0 v1 v2 v3
  go_enter Tryz.func59, Tryz.ntmps59
  go_wp2_with fail
  go_loopw [3, 4, 5, 7, 12] (fun sv _ _ _ si wr => ∃ (k : Nat), si = .int .i64 k ∧ k ≤ 4 ∧ wr.ownsRow w.heap.size 53 5 sv (recsU E S k).length (recCells (recsU E S k)) ∧ Chg (fun _ => False) w wr) (fun _ _ _ _ si _ => 4 - (intOf si).toNat)
  case atStart => exact ⟨0, rfl, by omega, by simpa [recsU, recCells] using World.ownsRow_nil _ _ _ _, Chg.refl _ _⟩
  case round =>
    obtain ⟨k, rfl, hk4, hown, hc⟩ := hrel
    clear e0 e1 e2 e3 b0 b1 b2 b3 v0 v1 v2 v3 hF1
    by_cases hk4' : k < 4
    · have hk4i : (k : Int) < 4 := by omega
      have hix := fun W => index_lane E B V k hk4' W
      obtain ⟨pq, capq, hVk⟩ := row_any (h.rows k hk4')
      have hrk := h.rows k hk4'
      rw [hVk] at hrk hix
      have hql := hq k hk4'
      have hor := ordered_any lo wr.heap.size 0 _ (Q k) (S k) (wr.alloc (Obj.cells #[.int .i64 (E k), .int .i64 (B k), .slice pq (Q k).length capq] 94)) (World.cell?_alloc_at _ _ _ _ rfl) ((hc.row' hrk (fun _ _ h => h.elim)).alloc _) (by omega) (hS k hk4').1 (hS k hk4').2
      have HSQ : Hid ((S k).length = (Q k).length) := hSl k hk4'
      obtain ⟨R0, hR0⟩ : ∃ R0, R0 = recsU E S k := ⟨_, rfl⟩
      have hR0l : R0.length ≤ 16 := by
        rw [hR0]
        have := recsU_len E S (fun i hi => by rw [hSl i hi]; exact hq i hi) k (by omega)
        omega
      have HNX : Hid (recsU E S (k + 1) = R0 ++ (S k).map fun y => (⟨k, E k, y.num, y.key, y.val⟩ : Rec)) := by show _ = _; rw [hR0]; rfl
      rw [← hR0] at hown
      clear hR0
      have ce : (wr.alloc (Obj.cells #[.int .i64 (E k), .int .i64 (B k), .slice pq (Q k).length capq] 94)).cell? ⟨wr.heap.size, 0, none⟩ = some (.int .i64 (E k)) := World.cell?_alloc_at _ _ _ _ rfl
      have HQ : Hid (∀ i, i < 4 → (Q i).length ≤ 4) := hq
      clear hSl hS hq
      go_wp2_with fail
      refine hor.mono ?_
      rintro _ w2 ⟨u, rfl, hru, c2⟩
      obtain ⟨pu, cu, rfl⟩ := row_any hru
      have c02 : Chg (fun _ => False) wr w2 := ((Chg.refl _ wr).alloc _).trans c2 (fun _ _ h => h)
      have ce2 := c2.cellAt ce id
      have hown2 := c02.row' hown (fun _ _ h => h)
      have hc2 : Chg (fun _ => False) w w2 := hc.trans c02 (fun _ _ h => h)
      have hb2 : wr.heap.size < w2.heap.size := by have := c2.size; rw [World.size_alloc] at this; omega
      have hne2 : ∀ g, u3.ownBlock = some g → g ≠ wr.heap.size := fun g hg => by have := (hown.lt g hg).2; omega
      clear hor ce c2 hown
      go_wp2_with fail
      go_loopw [3, 7, 18] (fun sv _ sj wq => ∃ (j : Nat), sj = .int .i64 j ∧ j ≤ (Q k).length ∧ wq.ownsRow w.heap.size 53 5 sv (R0 ++ ((S k).take j).map fun y => (⟨k, E k, y.num, y.key, y.val⟩ : Rec)).length (recCells (R0 ++ ((S k).take j).map fun y => (⟨k, E k, y.num, y.key, y.val⟩ : Rec))) ∧ wq.ownsRow (wr.alloc (Obj.cells #[.int .i64 (E k), .int .i64 (B k), .slice pq (Q k).length capq] 94)).heap.size 168 3 (.slice pu (Q k).length cu) (Q k).length (wtCells (S k)) ∧ wq.cell? ⟨wr.heap.size, 0, none⟩ = some (.int .i64 (E k)) ∧ (∀ g, sv.ownBlock = some g → g ≠ wr.heap.size) ∧ Chg (fun _ => False) w wq ∧ wr.heap.size < wq.heap.size) (fun _ _ sj _ => (Q k).length - (intOf sj).toNat)
      case atStart => exact ⟨0, rfl, by omega, by simpa using hown2, hru, ce2, hne2, hc2, hb2⟩
      case round =>
        obtain ⟨j, rfl, hj, hownj, hruj, cej, hnej, hcj, hbj⟩ := hrel
        clear hown2 hru ce2 hc2 hb2 c02 hne2
        obtain ⟨pr, cr, rfl⟩ := row_any hownj
        by_cases hjl : j < (Q k).length
        · obtain ⟨x, hx⟩ : ∃ x, (S k)[j]? = some x := ⟨_, List.getElem?_eq_getElem (by rw [HSQ.out]; exact hjl)⟩
          have cx := wtCells_at (S k) j x hx
          obtain ⟨g, cap', hv, hlg, _, hcell⟩ := row_pos hruj (by omega)
          simp only [Value.slice.injEq] at hv
          obtain ⟨rfl, _, rfl⟩ := hv
          have a0 := hcell _ _ cx.1
          have a1 := hcell _ _ cx.2.1
          have a2 := hcell _ _ cx.2.2
          have hjl' : (j : Int) < ((Q k).length : Int) := by omega
          have hszj := hcj.size
          have HJ : Hid (R0 ++ ((S k).take (j + 1)).map (fun y => (⟨k, E k, y.num, y.key, y.val⟩ : Rec)) = (R0 ++ ((S k).take j).map fun y => (⟨k, E k, y.num, y.key, y.val⟩ : Rec)) ++ [⟨k, E k, x.num, x.key, x.val⟩]) := by
            show _ = _
            rw [List.take_add_one, hx]; simp
          have hRl : (R0 ++ ((S k).take j).map fun y => (⟨k, E k, y.num, y.key, y.val⟩ : Rec)).length ≤ 100 := by
            rw [List.length_append, List.length_map, List.length_take]; omega
          obtain ⟨R1, hR1⟩ : ∃ R1, R1 = R0 ++ ((S k).take j).map fun y => (⟨k, E k, y.num, y.key, y.val⟩ : Rec) := ⟨_, rfl⟩
          rw [← hR1] at HJ hRl hownj hnej
          rw [← hR1]
          clear hR1 hcell cx
          obtain ⟨W1, hW1⟩ : ∃ W1, W1 = wr.alloc (Obj.cells #[.int .i64 x.num, .string x.key, .int .i64 x.val] 168) := ⟨_, rfl⟩
          have c1 : Chg (fun _ => False) wr W1 := by rw [hW1]; exact (Chg.refl _ wr).alloc _
          have hs1 : W1.heap.size = wr.heap.size + 1 := by rw [hW1]; simp
          obtain ⟨v', w3, hrun, q1, q2, q3⟩ := run_append_where (P := Tryz.prog) (W1.alloc (Obj.cells #[.int .i64 k, .int .i64 (E k), .int .i64 x.num, .string x.key, .int .i64 x.val] 53)) w.heap.size 131 131 53 i0 _ 5 48 Tryz.underlying131 hi hz0 hz1 hz2 rfl (by decide) (.slice pr R1.length cr) R1.length _ ((c1.row' hownj (fun _ _ h => h)).alloc _) ⟨W1.heap.size, 0, none⟩ 1 1 (⟨k, E k, x.num, x.key, x.val⟩ : Rec).cells rfl
            (fun j y hj => by rw [add_lit', Nat.zero_add]; rcases j with _ | _ | _ | _ | _ | j <;> simp [Rec.cells] at hj <;> subst hj <;> exact World.cell?_alloc_at _ _ _ _ rfl)
            (fun y hy => by simp [Rec.cells] at hy; rcases hy with rfl | rfl | rfl | rfl | rfl <;> rfl) (by unfold maxLen; omega) (by omega) (by have := c1.size; simp; omega)
          have c23 : Chg (fun g => (Value.slice pr R1.length cr).ownBlock = some g) W1 w3 := ((Chg.refl (fun g => (Value.slice pr R1.length cr).ownBlock = some g) W1).alloc _).trans (G := fun g => (Value.slice pr R1.length cr).ownBlock = some g) ⟨q2.os, q2.tape, q2.output, q2.size, fun k hk hne => q2.block k hk (fun e => hne e.symm)⟩ (fun _ _ h => h)
          have c13 : Chg (fun _ => False) w w3 := (hcj.trans c1 (fun _ _ h => h)).trans c23 (fun n hn h => by have := (hownj.lt n h).1; omega)
          have hru3 := c23.row' (c1.row' hruj (fun _ _ h => h)) (fun g hg hg' => row_kinds0 hruj hownj (by decide) g hg hg')
          have ce3 := c23.cellAt (c1.cellAt cej id) (fun e => hnej _ e rfl)
          have hb3 : W1.heap.size ≤ w3.heap.size := c23.size
          rw [hs1, hW1] at hrun
          have a0' := fun ob => ((Chg.refl (fun _ => False) wr).alloc ob).cellAt cej id
          have HS1 : Hid (W1.heap.size = wr.heap.size + 1) := hs1
          clear hs1 hW1
          go_wp2_with (at_builtin; refine Lib.wpList_append_run _ rfl _ _ 131 131 rfl _ _ rfl rfl v' w3 hrun ?_)
          go_roundw
          case rel =>
            refine ⟨j + 1, by go_num, by omega, ?_, hru3, ce3, fun g hg => ?_, c13, by rw [HS1.out] at hb3; omega⟩
            · rw [HJ.out, recCells_append]
              simpa [recCells] using q1
            · rcases q3 with h3 | h3
              · rw [h3] at hg; exact hnej g hg
              · have := h3 g hg
                simp at this
                rw [HS1.out] at this
                omega
          case measure => simp [intOf]; omega
        · have hjl' : ¬ (j : Int) < ((Q k).length : Int) := by omega
          obtain rfl : j = (Q k).length := by omega
          go_wp2_with fail
          go_roundw
          case rel =>
            refine ⟨k + 1, by go_num, by omega, ?_, hcj⟩
            have hT : (S k).take (Q k).length = S k := List.take_of_length_le (by rw [HSQ.out]; exact Nat.le_refl _)
            rw [hT] at hownj
            rw [HNX.out, hT]
            exact hownj
          case measure => simp [intOf]; omega
    · have hk4i : ¬ (k : Int) < 4 := by omega
      obtain rfl : k = 4 := by omega
      obtain ⟨pp, cc, rfl⟩ := row_any hown
      go_wp2_with fail
      go_ret
      exact ⟨_, rfl, hown, hc⟩
end Go.Proofs.YthedkdbgfdjlkaaGreatDoor

namespace Go.Proofs.YthedkdbgfdjlkaaGreatDoor
set_option linter.unusedVariables false
set_option linter.unusedSimpArgs false
open Go.RowKit Go.Lib
theorem encInts_take {L : List Int} {k : Nat} {z : Int} (h : L[k]? = some z) : encInts (L.take (k + 1)) = encInts (L.take k) ++ encInt z := by
  unfold encInts
  rw [List.take_add_one, h]
  simp
theorem encInts_len {L : List Int} (h : ∀ z ∈ L, z ≤ 9223372036854775807) : (encInts L).length ≤ L.length * 9 := flat_len encInt 9 (fun z hz => encInt_len9 (h z hz))
theorem encInts_take_len {L : List Int} (h : ∀ z ∈ L, z ≤ 9223372036854775807) (k : Nat) : (encInts (L.take k)).length ≤ L.length * 9 := by
  have h1 := encInts_len (L := L.take k) (fun z hz => h z (List.mem_of_mem_take hz))
  have h2 : (L.take k).length ≤ L.length := by rw [List.length_take]; omega
  omega
set_option maxRecDepth 100000 in
theorem or_more (r : Nat) (h : r < 256) : bits .or .u8 (r : Int) 128 = ((r % 128 + 128 : Nat) : Int) := by
  have : ∀ r : Fin 256, bits .or .u8 ((r.val : Nat) : Int) 128 = ((r.val % 128 + 128 : Nat) : Int) := by decide
  exact this ⟨r, h⟩
theorem digit_more (m : Nat) : bits .or .u8 ((m : Int) % 256) 128 = (((m % 128 + 128).toUInt8.toNat : Nat) : Int) := by
  have h := or_more (m % 256) (by omega)
  rw [show ((m : Int) % 256) = ((m % 256 : Nat) : Int) by omega, h, show m % 256 % 128 = m % 128 by omega]
  have : (m % 128 + 128).toUInt8.toNat = m % 128 + 128 := by
    rw [Nat.toUInt8, UInt8.toNat_ofNat']
    omega
  rw [this]
theorem digit_last {m : Nat} (h : m < 128) : (m : Int) = ((m.toUInt8.toNat : Nat) : Int) := by
  have : m.toUInt8.toNat = m := by
    rw [Nat.toUInt8, UInt8.toNat_ofNat']
    omega
  rw [this]
theorem run_byte {lo : Nat} {w wr : World} {v u : Value} {U : List UInt8} (hu : Grew lo w wr v u U) (hlo : lo ≤ w.heap.size) (hl : U.length ≤ 140737488355000) (c : UInt8) :
    ∃ v' w', (Builtin.append_ #[88, 88] 88 #[u, .slice (some ⟨wr.heap.size, 0, none⟩) 1 1]).run Tryz.prog (wr.alloc (.cells #[.int .u8 (c.toNat : Int)] 5)) = .ok v' w' ∧ Grew lo w w' v v' (U ++ [c]) := by
  obtain ⟨i0, hi, hz0, hz1, hz2⟩ := info_parts Tryz.infoU8
  have hsz := hu.chg.size
  have hnew : ∀ (j : Nat) (y : Value), [Value.int .u8 (c.toNat : Int)][j]? = some y → (wr.alloc (.cells #[.int .u8 (c.toNat : Int)] 5)).cell? ((⟨wr.heap.size, 0, none⟩ : Addr).add j) = some y := fun j y hj => by
    cases j with
    | zero => simp at hj; subst hj; simp [Addr.add]
    | succ j => simp at hj
  have hone : ∀ y ∈ [Value.int .u8 (c.toNat : Int)], y.oneCell' = true := fun y hy => by simp at hy; subst hy; rfl
  rcases hu.row with ho | ⟨g, cap, rfl, h1, h2, hcl, h3, h4⟩
  · obtain ⟨v', w', hrun, r1, r2, r3⟩ := run_append_where (P := Tryz.prog) (wr.alloc (.cells #[.int .u8 (c.toNat : Int)] 5)) lo 88 88 5 i0 _ 1 1 Tryz.underlying88 hi hz0 hz1 hz2 rfl (by decide) u U.length _ (ho.alloc _) ⟨wr.heap.size, 0, none⟩ 1 1 [.int .u8 (c.toNat : Int)] rfl hnew hone (by unfold maxLen; omega) (by omega) (by simp; omega)
    refine ⟨v', w', hrun, hu.trans ?_⟩
    exact Grew.behind ((Chg.refl (fun _ => False) wr).alloc _) (grew_of r1 (by simp) (by rw [bCells_append]; rfl) r2 r3)
  · by_cases hroom : U.length + 1 ≤ cap
    · have ca : Chg (fun _ => False) wr (wr.alloc (.cells #[.int .u8 (c.toNat : Int)] 5)) := (Chg.refl _ wr).alloc _
      have e := ca.block g h2 id
      have h4' : ∀ j, U.length ≤ j → j < cap → ((wr.alloc (.cells #[.int .u8 (c.toNat : Int)] 5)).cell? ⟨g, j, none⟩).isSome = true ∧ (wr.alloc (.cells #[.int .u8 (c.toNat : Int)] 5)).frozen? ⟨g, j, none⟩ = false := fun j h5 h6 => by
        rw [World.cell?_of_block (w := wr) e, World.frozen?_of_block (w := wr) e]; exact h4 j h5 h6
      have hrun := run_append_room_cells (P := Tryz.prog) (wr.alloc (.cells #[.int .u8 (c.toNat : Int)] 5)) 88 88 5 i0 Tryz.underlying88 hi g 0 U.length cap ⟨wr.heap.size, 0, none⟩ 1 1 [.int .u8 (c.toNat : Int)] (by rw [hz1]; rfl) hnew hone hroom
        (fun j hj => by rw [hz1]; simp only [List.length_cons, List.length_nil] at hj; exact (h4' _ (by omega) (by omega)).1) (fun j hj => by rw [hz1]; simp only [List.length_cons, List.length_nil] at hj; exact (h4' _ (by omega) (by omega)).2)
      rw [hz1, Nat.zero_add, Nat.mul_one] at hrun
      refine ⟨_, _, hrun, hu.trans (Grew.behind ca ?_)⟩
      exact grew_put (T := U) h1 (Nat.lt_of_lt_of_le h2 ca.size) (fun j u hj => ca.cellAt (h3 j u hj) id) h4' [c] hroom
    · obtain ⟨v', w', hrun, r1, r2⟩ := run_append_arg_grows (P := Tryz.prog) (wr.alloc (.cells #[.int .u8 (c.toNat : Int)] 5)) 88 88 5 i0 _ 1 1 Tryz.underlying88 hi hz0 hz1 hz2 rfl (by decide) ⟨g, 0, none⟩ U.length cap (bCells U) (by rw [bCells_len]; omega)
        (fun j y hj => by rw [add_lit', Nat.zero_add]; exact ((Chg.refl (fun _ => False) wr).alloc _).cellAt (h3 j y hj) id) ⟨wr.heap.size, 0, none⟩ 1 1 [.int .u8 (c.toNat : Int)] rfl hnew (by omega) (by unfold maxLen; omega) (by omega)
      refine ⟨v', w', hrun, hu.trans ?_⟩
      refine Grew.behind ((Chg.refl (fun _ => False) wr).alloc _) (grew_of (row_lower r1 (by simp; omega)) (by simp) (by rw [bCells_append]; rfl) ⟨r2.os, r2.tape, r2.output, r2.size, fun k hk _ => r2.block k hk (by simp)⟩ (.inr fun k hk => (r1.lt k hk).1))
set_option maxRecDepth 100000 in
set_option maxHeartbeats 2000000 in
theorem addNumbers_any (lo q cap : Nat) (v : Value) (T : List UInt8) (L : List Int) (w : World) (hr : RowB w lo v T) (hlo : lo ≤ w.heap.size) (hq : v.ownBlock ≠ some q)
    (hL : ∀ (j : Nat) (z : Int), L[j]? = some z → w.cell? ⟨q, j, none⟩ = some (.int .i64 z)) (hz : ∀ z ∈ L, 0 ≤ z ∧ z ≤ 9223372036854775807) (hlen : T.length + 10 * L.length ≤ 140737488355000) :
    Calls Tryz.prog 60 #[v, .slice (some ⟨q, 0, none⟩) L.length cap] w fun e w' => ∃ v', e = .returned v' ∧ Grew lo w w' v v' (T ++ encInts L) := by
  obtain ⟨i0, hi, hz0, hz1, hz2⟩ := info_parts Tryz.infoU8
  obtain ⟨pv, cv, rfl⟩ := hr.any
  have hLl : L.length ≤ 140737488355000 := by omega
  go_enter Tryz.func60, Tryz.ntmps60
  go_wp2_with fail
  go_loopw [0, 6, 9] (fun sv _ si wr => ∃ (k : Nat), si = .int .i64 k ∧ k ≤ L.length ∧ Grew lo w wr (.slice pv T.length cv) sv (T ++ encInts (L.take k))) (fun _ _ si _ => L.length - (intOf si).toNat)
  case atStart => exact ⟨0, rfl, by omega, by simpa [encInts] using Grew.refl hr⟩
  case round =>
    obtain ⟨k, rfl, hk, hg⟩ := hrel
    by_cases hkl : k < L.length
    · obtain ⟨z, hzk⟩ : ∃ z, L[k]? = some z := ⟨_, List.getElem?_eq_getElem hkl⟩
      have hzz := hz z (List.mem_of_getElem? hzk)
      have cz := hg.chg.cellAt (hL k z hzk) hq
      have hkl' : (k : Int) < (L.length : Int) := by omega
      obtain ⟨n, rfl⟩ : ∃ n : Nat, z = n := ⟨z.toNat, by omega⟩
      have HT : Hid (T ++ encInts (L.take (k + 1)) = (T ++ encInts (L.take k)) ++ encNum n) := by
        show _ = _
        rw [encInts_take hzk, List.append_assoc]; rfl
      have hTl : (T ++ encInts (L.take (k + 1))).length ≤ 140737488355000 := by
        have := encInts_take_len (fun z hm => (hz z hm).2) (k + 1)
        rw [List.length_append]; omega
      obtain ⟨TT, hTT⟩ : ∃ TT, TT = T ++ encInts (L.take (k + 1)) := ⟨_, rfl⟩
      rw [← hTT] at HT hTl
      have HTT : Hid (TT = T ++ encInts (L.take (k + 1))) := hTT
      clear hTT
      go_wp2_with fail
      go_loopw [0, 6] (fun sv sn wq => ∃ (m : Nat) (U : List UInt8), sn = .int .i64 m ∧ m ≤ n ∧ Grew lo w wq (.slice pv T.length cv) sv U ∧ Hid (TT = U ++ encNum m)) (fun _ sn _ => (intOf sn).toNat)
      case atStart => exact ⟨n, _, rfl, by omega, hg, HT⟩
      case round =>
        obtain ⟨m, U, rfl, hm, hu, HU⟩ := hrel
        have hUl : U.length ≤ 140737488355000 := by
          have := congrArg List.length HU.out
          rw [List.length_append] at this; omega
        obtain ⟨pu, cu, rfl⟩ := hu.row.any
        by_cases hm1 : 128 ≤ m
        · have hm1' : (128 : Int) ≤ (m : Int) := by omega
          obtain ⟨v', w', hrun, hg'⟩ := run_byte hu hlo hUl (m % 128 + 128).toUInt8
          rw [← digit_more] at hrun
          go_wp2_with (at_builtin; refine Lib.wpList_append_run _ rfl _ _ 88 88 rfl _ _ rfl rfl v' w' hrun ?_)
          go_roundw
          case rel =>
            refine ⟨m / 128, _, ?_, by omega, hg', ?_⟩
            · go_num
            · show _ = _
              rw [HU.out, encNum_big (by omega)]
              simp
          case measure => simp [intOf]; omega
        · have hm1' : ¬ (128 : Int) ≤ (m : Int) := by omega
          obtain ⟨v', w', hrun, hg'⟩ := run_byte hu hlo hUl m.toUInt8
          rw [← digit_last (by omega)] at hrun
          go_wp2_with (at_builtin; refine Lib.wpList_append_run _ rfl _ _ 88 88 rfl _ _ rfl rfl v' w' hrun ?_)
          go_roundw
          case rel =>
            refine ⟨k + 1, by go_num, by omega, ?_⟩
            rw [← HTT.out, HU.out, encNum_small (by omega)]
            exact hg'
          case measure => simp [intOf]; omega
    · have hkl' : ¬ (k : Int) < (L.length : Int) := by omega
      obtain rfl : k = L.length := by omega
      rw [List.take_length] at hg
      go_wp2_with fail
      go_ret
      exact ⟨_, rfl, hg⟩
end Go.Proofs.YthedkdbgfdjlkaaGreatDoor

namespace Go.Proofs.YthedkdbgfdjlkaaGreatDoor
set_option linter.unusedVariables false
set_option linter.unusedSimpArgs false
open Go.RowKit Go.Lib
theorem encInts_one (z : Int) : encInts [z] = encInt z := by simp [encInts]
theorem chg_alloc (w : World) (o : Obj) : Chg (fun _ => False) w (w.alloc o) := (Chg.refl _ w).alloc o
theorem run_text {lo : Nat} {w wr : World} {v u : Value} {U : List UInt8} (hu : Grew lo w wr v u U) (hlo : lo ≤ w.heap.size) (s : ByteArray) (hl : U.length + s.size ≤ 140737488355000) :
    ∃ v' w', (Builtin.append_ #[88, 9] 88 #[u, .string s]).run Tryz.prog wr = .ok v' w' ∧ Grew lo w w' v v' (U ++ s.data.toList) := by
  obtain ⟨i0, hi, hz0, hz1, hz2⟩ := info_parts Tryz.infoU8
  have hsz := hu.chg.size
  rcases hu.row with ho | ⟨g, cap, rfl, h1, h2, hcl, h3, h4⟩
  · obtain ⟨v', w', hrun, r1, r2, r3⟩ := run_append_where_string (P := Tryz.prog) wr lo 88 9 88 5 i0 Tryz.underlying88 Tryz.underlying9 hi hz0 hz1 hz2 u U.length _ ho s (by unfold maxLen; omega) (by omega) (by omega)
    refine ⟨v', w', hrun, hu.trans (grew_of r1 ?_ ?_ r2 r3)⟩
    · rw [List.length_append]; congr 1
    · rw [bCells_append]; rfl
  · by_cases hroom : U.length + s.size ≤ cap
    · have hrun := run_append_room_string_cells (P := Tryz.prog) wr 88 9 88 5 i0 Tryz.underlying88 Tryz.underlying9 hi hz1 g U.length cap s hroom (fun j hj => (h4 _ (by omega) (by omega)).1) (fun j hj => (h4 _ (by omega) (by omega)).2)
      have hsl : s.data.toList.length = s.size := Array.length_toList
      have hg := grew_put (T := U) h1 h2 h3 h4 s.data.toList (by rw [hsl]; exact hroom)
      rw [hsl] at hg
      exact ⟨_, _, hrun, hu.trans hg⟩
    · have hxl : (bCells U).length = U.length * i0.size := by rw [bCells_len, hz1]; omega
      have hrun := run_append_grow_string (P := Tryz.prog) wr 88 9 88 5 i0 (.int .u8 0) Tryz.underlying88 Tryz.underlying9 hi hz0 ⟨g, 0, none⟩ U.length cap (bCells U) hxl (fun j y hj => by rw [add_lit', Nat.zero_add]; exact h3 j y hj) s (by omega) (by omega) (by rw [hz2]; exact growslice_fits (by omega) (by omega))
      have hge := grownCap_ge wr (U.length + s.size) cap 5
      have hcm : grownCap wr (U.length + s.size) cap 5 ≤ maxLen := grownCap_le_maxLen wr (U.length + s.size) cap 5 (by unfold maxLen; omega)
      have hlen : (bCells U ++ strCells s).length = (U.length + s.size) * 1 := by rw [List.length_append, bCells_len, strCells_length, Nat.mul_one]
      refine ⟨_, _, hrun, hu.trans (grew_of (n := U.length + s.size) (xs := bCells U ++ strCells s) ⟨hlen, .inr ⟨wr.heap.size, _, _, rfl, by omega, heap_alloc_new wr.drew _, hge, hcm, ?_, ?_⟩⟩ ?_ ?_ ⟨rfl, rfl, rfl, by simp, fun k hk _ => Below.heap_alloc wr.drew _ k hk⟩ (.inr fun k hk => by simp [Value.ownBlock] at hk; omega))⟩
      · have hz1' : (Value.int IntKind.u8 0).cells.size = 1 := rfl
        simp only [Array.size_append, List.size_toArray, size_zeroCells, hz1', bCells_len, strCells_length]
        omega
      · simp only [Array.toList_append, List.append_assoc]
        rw [← List.append_assoc, ← hlen]
        exact List.take_left
      · rw [List.length_append]; congr 1
      · rw [bCells_append]; rfl
theorem addNumbers_new (lo : Nat) (v : Value) (T : List UInt8) (L : List Int) (w : World) (hr : RowB w lo v T) (hlo : lo ≤ w.heap.size) (hz : ∀ z ∈ L, 0 ≤ z ∧ z ≤ 9223372036854775807) (hlen : T.length + 10 * L.length ≤ 140737488355000) :
    Calls Tryz.prog 60 #[v, .slice (some ⟨w.heap.size, 0, none⟩) L.length L.length] (w.alloc (.cells (L.map (Value.int .i64)).toArray 3)) fun e w' => ∃ v', e = .returned v' ∧ Grew lo w w' v v' (T ++ encInts L) := by
  have h := addNumbers_any lo w.heap.size L.length v T L (w.alloc (.cells (L.map (Value.int .i64)).toArray 3)) (hr.alloc _) (by simp; omega) (fun e => by have := (hr.lt _ e).2; omega)
    (fun j z hj => by
      have hl : j < L.length := (List.getElem?_eq_some_iff.1 hj).1
      rw [World.cell?_alloc_new]
      simp [hj]) hz hlen
  exact h.mono fun e w' ⟨v', h1, h2⟩ => ⟨v', h1, Grew.behind (chg_alloc _ _) h2⟩
set_option maxRecDepth 100000 in
set_option maxHeartbeats 1000000 in
theorem addKey_any (lo : Nat) (v : Value) (T : List UInt8) (key : ByteArray) (w : World) (hr : RowB w lo v T) (hlo : lo ≤ w.heap.size) (hk : key.size ≤ 1000) (hlen : T.length ≤ 140737488353000) :
    Calls Tryz.prog 61 #[v, .string key] w fun e w' => ∃ v', e = .returned v' ∧ Grew lo w w' v v' (T ++ encKey key) := by
  obtain ⟨pv, cv, rfl⟩ := hr.any
  have hn := addNumbers_new lo _ T [(key.size : Int)] w hr hlo (fun z hz => by rw [List.mem_singleton] at hz; subst hz; constructor <;> omega) (by simp only [List.length_cons, List.length_nil]; omega)
  rw [encInts_one] at hn
  simp only [List.map_cons, List.map_nil, List.length_cons, List.length_nil] at hn
  go_enter Tryz.func61, Tryz.ntmps61
  go_wp2_with fail
  refine hn.mono ?_
  rintro _ w1 ⟨v1, rfl, g1⟩
  have e : T ++ encKey key = T ++ encInt (key.size : Int) ++ key.data.toList := by
    unfold encKey encInt; simp
  have hl9 : (T ++ encInt (key.size : Int)).length ≤ 140737488353009 := by
    have := encInt_len9 (z := (key.size : Int)) (by omega)
    rw [List.length_append]; omega
  obtain ⟨T1, hT1⟩ : ∃ T1, T1 = T ++ encInt (key.size : Int) := ⟨_, rfl⟩
  rw [← hT1] at g1 e hl9
  have HE : Hid (T ++ encKey key = T1 ++ key.data.toList) := e
  clear hT1 e hn
  obtain ⟨v2, w2, hrun, g2⟩ := run_text g1 hlo key (by omega)
  obtain ⟨p1, c1, rfl⟩ := g1.row.any
  go_wp2_with (at_builtin; refine Lib.wpList_append_run _ rfl _ _ 88 9 rfl _ _ rfl rfl v2 w2 hrun ?_)
  go_ret
  refine ⟨_, rfl, ?_⟩
  rw [HE.out]; exact g2
structure Rec.plain (x : Rec) : Prop where
  session : 0 ≤ x.session ∧ x.session ≤ 9223372036854775807
  epoch : 0 ≤ x.epoch ∧ x.epoch ≤ 9223372036854775807
  number : 0 ≤ x.number ∧ x.number ≤ 9223372036854775807
  value : 0 ≤ x.value ∧ x.value ≤ 9223372036854775807
  key : x.key.size ≤ 1000
end Go.Proofs.YthedkdbgfdjlkaaGreatDoor

namespace Go.Proofs.YthedkdbgfdjlkaaGreatDoor
set_option linter.unusedVariables false
set_option linter.unusedSimpArgs false
open Go.RowKit Go.Lib
set_option maxRecDepth 100000 in
set_option maxHeartbeats 2000000 in
theorem addRecord_any (lo : Nat) (v : Value) (T : List UInt8) (x : Rec) (w : World) (hr : RowB w lo v T) (hlo : lo ≤ w.heap.size) (hx : x.plain) (hlen : T.length ≤ 140737488351510) :
    Calls Tryz.prog 62 #[v, x.value'] w fun e w' => ∃ v', e = .returned v' ∧ Grew lo w w' v v' (T ++ encRec x) := by
  obtain ⟨se, ep, num, key, val⟩ := x
  have hse := hx.session
  have hep := hx.epoch
  have hnu := hx.number
  have hva := hx.value
  have hke := hx.key
  simp only at hse hep hnu hva hke
  clear hx
  unfold Rec.value'
  simp only
  obtain ⟨pv, cv, rfl⟩ := hr.any
  obtain ⟨W0, hW0⟩ : ∃ W0, W0 = w.alloc (.cells #[.int .i64 se, .int .i64 ep, .int .i64 num, .string key, .int .i64 val] 53) := ⟨_, rfl⟩
  have c0 : Chg (fun _ => False) w W0 := by rw [hW0]; exact chg_alloc _ _
  have hs0 : W0.heap.size = w.heap.size + 1 := by rw [hW0]; simp
  have x3 : W0.cell? ⟨w.heap.size, 3, none⟩ = some (.string key) := by rw [hW0]; exact World.cell?_alloc_at _ _ _ _ rfl
  have x4 : W0.cell? ⟨w.heap.size, 4, none⟩ = some (.int .i64 val) := by rw [hW0]; exact World.cell?_alloc_at _ _ _ _ rfl
  have hn := addNumbers_new lo _ T [se, ep, num] W0 (hr.chg c0 (fun _ _ h => h)) (by omega) (fun z hz => by simp only [List.mem_cons, List.not_mem_nil, or_false] at hz; rcases hz with rfl | rfl | rfl <;> assumption) (by simp only [List.length_cons, List.length_nil]; omega)
  simp only [List.map_cons, List.map_nil, List.length_cons, List.length_nil] at hn
  have hl3 : (encInts [se, ep, num]).length ≤ 27 := by
    have := encInts_len (L := [se, ep, num]) (fun z hz => by simp only [List.mem_cons, List.not_mem_nil, or_false] at hz; rcases hz with rfl | rfl | rfl <;> omega)
    simpa using this
  have hkl : (encKey key).length ≤ 1009 := by
    have := encInt_len9 (z := (key.size : Int)) (by omega)
    unfold encKey
    rw [List.length_append]
    have h2 : key.data.toList.length = key.size := Array.length_toList
    unfold encInt at this
    simp only [Int.toNat_natCast] at this
    omega
  rw [hs0] at hn
  rw [hW0] at hn
  have HR : Hid (T ++ encRec ⟨se, ep, num, key, val⟩ = T ++ encInts [se, ep, num] ++ encKey key ++ encInt val) := by
    show _ = _
    unfold encRec; simp
  have hT1l : (T ++ encInts [se, ep, num]).length ≤ 140737488351600 := by rw [List.length_append]; omega
  obtain ⟨T1, hT1⟩ : ∃ T1, T1 = T ++ encInts [se, ep, num] := ⟨_, rfl⟩
  rw [← hT1] at hT1l hn HR
  obtain ⟨T2, hT2⟩ : ∃ T2, T2 = T1 ++ encKey key := ⟨_, rfl⟩
  have hT2l : T2.length ≤ 140737488352700 := by rw [hT2, List.length_append]; omega
  have HKEY : Hid (∀ (W : World) (v1 : Value), RowB W lo v1 T1 → lo ≤ W.heap.size → Calls Tryz.prog 61 #[v1, .string key] W fun e w' => ∃ v', e = .returned v' ∧ Grew lo W w' v1 v' T2) := fun W v1 h1 h2 => by
    rw [hT2]; exact addKey_any lo v1 T1 key W h1 h2 hke (by omega)
  rw [← hT2] at HR
  obtain ⟨T3, hT3⟩ : ∃ T3, T3 = T2 ++ encInt val := ⟨_, rfl⟩
  have HNUM : Hid (∀ (W : World) (v2 : Value) (q : Nat), RowB W lo v2 T2 → lo ≤ W.heap.size → v2.ownBlock ≠ some q → W.cell? ⟨q, 0, none⟩ = some (.int .i64 val) → Calls Tryz.prog 60 #[v2, .slice (some ⟨q, 0, none⟩) 1 1] W fun e w' => ∃ v', e = .returned v' ∧ Grew lo W w' v2 v' T3) := fun W v2 q h1 h2 h3 h4 => by
    have := addNumbers_any lo q 1 v2 T2 [val] W h1 h2 h3 (fun j z hj => by
      cases j with
      | zero => simp only [List.getElem?_cons_zero, Option.some.injEq] at hj; subst hj; exact h4
      | succ j => simp at hj) (fun z hz => by rw [List.mem_singleton] at hz; subst hz; exact hva) (by simp only [List.length_cons, List.length_nil]; omega)
    rw [encInts_one, ← hT3] at this
    exact this
  rw [← hT3] at HR
  clear hT1 hT2 hT3
  go_enter Tryz.func62, Tryz.ntmps62
  go_wp2_with fail
  refine hn.mono ?_
  rintro _ w1 ⟨v1, rfl, g1⟩
  rw [← hW0] at g1
  have y3 := g1.chg.cellAt x3 (fun e => by have := (hr.lt _ e).2; omega)
  have y4 := g1.chg.cellAt x4 (fun e => by have := (hr.lt _ e).2; omega)
  have hb1 : w.heap.size < w1.heap.size := by have := g1.chg.size; omega
  have hz1 : lo ≤ w1.heap.size := by omega
  have g01 : Grew lo w w1 (.slice pv T.length cv) v1 T1 := Grew.behind c0 g1
  have nw : ¬ v1.ownBlock = some w.heap.size := fun e => by
    rcases g1.at' _ e with h | h
    · have := (hr.lt _ h).2; omega
    · omega
  clear hn hW0 x3 x4 c0 hs0
  obtain ⟨p1, k1, rfl⟩ := g01.row.any
  have row1 := g01.row
  go_wp2_with fail
  have HK : Hid (∀ (W : World), Chg (fun _ => False) w1 W → Calls Tryz.prog 61 #[.slice p1 T1.length k1, .string key] W fun e w' => ∃ v', e = .returned v' ∧ Grew lo W w' (.slice p1 T1.length k1) v' T2) := fun W cW => HKEY.out W _ (row1.chg cW (fun _ _ h => h)) (by have := cW.size; omega)
  have nz : ¬ (Value.slice p1 T1.length k1).ownBlock = some w1.heap.size := fun e => by have := (row1.lt _ e).2; omega
  have cd : Chg (fun _ => False) w1 w1.drew := (Chg.refl _ w1).drew
  have cda : Chg (fun _ => False) w1 (w1.drew.alloc (.cells #[.int .i64 val] 3)) := cd.alloc _
  have yB : (w1.drew.alloc (.cells #[.int .i64 val] 3)).cell? ⟨w1.heap.size, 0, none⟩ = some (.int .i64 val) := World.cell?_alloc_at _ _ _ _ rfl
  have y4d : w1.drew.cell? ⟨w.heap.size, 4, none⟩ = some (.int .i64 val) := y4
  go_region_with (first
    | (go_at_call 61; first
      | (refine (HK.out _ cd).mono ?_; rintro _ w2 ⟨v2, rfl, g2⟩; have y4' := g2.chg.cellAt y4d nw; obtain ⟨p2, k2, rfl⟩ := g2.row.any)
      | (refine (HK.out _ cda).mono ?_; rintro _ w2 ⟨v2, rfl, g2⟩; have y5' := g2.chg.cellAt yB nz; obtain ⟨p2, k2, rfl⟩ := g2.row.any))
    | (go_at_call 60; first
      | (refine (HNUM.out _ _ _ (g2.row.alloc _) (by have := g2.chg.size; have := cd.size; simp; omega) (fun e => by have := (g2.row.lt _ e).2; omega) (World.cell?_alloc_at _ _ _ _ rfl)).mono ?_; rintro _ w3 ⟨v3, rfl, g3⟩)
      | (refine (HNUM.out _ _ _ g2.row (by have := g2.chg.size; have := cda.size; omega) (fun e => by rcases g2.at' _ e with h | h; exact nz h; (have := h; simp at this; omega)) y5').mono ?_; rintro _ w3 ⟨v3, rfl, g3⟩)))
  all_goals
    go_wp2_with fail
    go_ret
    refine ⟨_, rfl, ?_⟩
    rw [HR.out]
    first
      | exact g01.trans (Grew.behind cd (g2.trans (Grew.behind (chg_alloc _ _) g3)))
      | exact g01.trans (Grew.behind cda (g2.trans g3))
end Go.Proofs.YthedkdbgfdjlkaaGreatDoor

namespace Go.Proofs.YthedkdbgfdjlkaaGreatDoor
set_option linter.unusedVariables false
set_option linter.unusedSimpArgs false
open Go.RowKit
theorem step_call {P : Program} {ops : Array Oper} {o : Oper} {a : Act} {w : World} {K : Act → World → Prop} {Q : Exit → Act → World → Prop} {E : Prop} {R : Ending → World → Prop}
    (hg : o.guard = none) (f : FuncId) (xs : Array Operand) (tys : Array TypeId) (hop : o.op = Op.call { callee := Callee.value (.func f), args := xs, argTypes := tys }) (args : Array Value) (hargs : xs.map a.eval = args)
    (hent : ∀ args w, (callFunc f args).run P w = .ok (.enter f args) w) (hc : Calls P f args w R) (hK : ∀ e w', R e w' → ∃ v, e = .returned v ∧ K (a.put o.dst v) w') :
    if Region.wanted o (yielded ops a.tmps) = true then Oper.wp P o a w K Q else E := by
  have hw : Region.wanted o (yielded ops a.tmps) = true := by simp [Region.wanted, hg]
  rw [if_pos hw]
  unfold Oper.wp
  simp [execOp, hop, resolve, invoke, hargs, hent, Act.eval, Deferred.ofValue, Oper.upon]
  refine hc.mono fun e w' h => ?_
  obtain ⟨v, rfl, hk⟩ := hK e w' h
  exact hk
theorem step_run {P : Program} {ops : Array Oper} {o : Oper} {a : Act} {w : World} {K : Act → World → Prop} {Q : Exit → Act → World → Prop} {E : Prop}
    (hg : o.guard = none) (s x : Operand) (t u : TypeId) (hop : o.op = Op.call { callee := Callee.builtin Builtin.append, args := #[s, x], argTypes := #[t, u] }) (vs vx : Value) (hs : a.eval s = vs) (hx : a.eval x = vx)
    (v' : Value) (w' : World) (hrun : (Builtin.append_ #[t, u] o.type #[vs, vx]).run P w = .ok v' w') (hK : K (a.put o.dst v') w') :
    if Region.wanted o (yielded ops a.tmps) = true then Oper.wp P o a w K Q else E := by
  have hw : Region.wanted o (yielded ops a.tmps) = true := by simp [Region.wanted, hg]
  rw [if_pos hw]
  unfold Oper.wp
  simp [execOp, hop, resolve, invoke, builtin, hs, hx, hrun, Result.andThen]
  exact hK
end Go.Proofs.YthedkdbgfdjlkaaGreatDoor

namespace Go.Proofs.YthedkdbgfdjlkaaGreatDoor
set_option linter.unusedVariables false
set_option linter.unusedSimpArgs false
open Go.RowKit Go.Lib
set_option maxRecDepth 100000 in
set_option maxHeartbeats 1000000 in
theorem AddRecord_any (lo : Nat) (v : Value) (T : List UInt8) (x : Rec) (w : World) (hr : RowB w lo v T) (hlo : lo ≤ w.heap.size) (hx : x.plain) (hlen : T.length ≤ 140737488351500) :
    Calls Tryz.prog 41 #[v, x.value'] w fun e w' => ∃ v', e = .returned v' ∧ Grew lo w w' v v' (T ++ encAcc x) := by
  obtain ⟨pv, cv, rfl⟩ := hr.any
  obtain ⟨W0, hW0⟩ : ∃ W0, W0 = w.alloc (.cells #[.int .i64 x.session, .int .i64 x.epoch, .int .i64 x.number, .string x.key, .int .i64 x.value] 53) := ⟨_, rfl⟩
  have c0 : Chg (fun _ => False) w W0 := by rw [hW0]; exact chg_alloc _ _
  have hs0 : W0.heap.size = w.heap.size + 1 := by rw [hW0]; simp
  have x0 : W0.drew.cell? ⟨w.heap.size, 0, none⟩ = some (.int .i64 x.session) := by rw [hW0]; exact World.cell?_alloc_at _ _ _ _ rfl
  have x1 : W0.drew.cell? ⟨w.heap.size, 1, none⟩ = some (.int .i64 x.epoch) := by rw [hW0]; exact World.cell?_alloc_at _ _ _ _ rfl
  have x2 : W0.drew.cell? ⟨w.heap.size, 2, none⟩ = some (.int .i64 x.number) := by rw [hW0]; exact World.cell?_alloc_at _ _ _ _ rfl
  have x3 : W0.drew.cell? ⟨w.heap.size, 3, none⟩ = some (.string x.key) := by rw [hW0]; exact World.cell?_alloc_at _ _ _ _ rfl
  have x4 : W0.drew.cell? ⟨w.heap.size, 4, none⟩ = some (.int .i64 x.value) := by rw [hW0]; exact World.cell?_alloc_at _ _ _ _ rfl
  have c0d : Chg (fun _ => False) w W0.drew := c0.trans (Chg.refl _ W0).drew (fun _ _ h => h)
  have g0 : Grew lo W0.drew W0.drew (.slice pv T.length cv) (.slice pv T.length cv) T := Grew.refl (hr.chg c0d (fun _ _ h => h))
  have hlo0 : lo ≤ W0.drew.heap.size := by have := c0d.size; omega
  obtain ⟨v1, w1, hrun, g1⟩ := run_text g0 hlo0 ({ data := #[114] } : ByteArray) (by show T.length + 1 ≤ _; omega)
  have HR : Hid (T ++ encAcc x = (T ++ [114]) ++ encRec x) := by show _ = _; unfold encAcc; simp
  have hT1l : (T ++ [(114 : UInt8)]).length ≤ 140737488351501 := by rw [List.length_append]; simp only [List.length_cons, List.length_nil]; omega
  obtain ⟨T1, hT1⟩ : ∃ T1, T1 = T ++ [(114 : UInt8)] := ⟨_, rfl⟩
  replace g1 : Grew lo W0.drew w1 (.slice pv T.length cv) v1 T1 := by rw [hT1]; exact g1
  rw [← hT1] at HR hT1l
  clear hT1
  have nw : ¬ (Value.slice pv T.length cv).ownBlock = some w.heap.size := fun e => by have := (hr.lt _ e).2; omega
  have y0 := g1.chg.cellAt x0 nw
  have y1 := g1.chg.cellAt x1 nw
  have y2 := g1.chg.cellAt x2 nw
  have y3 := g1.chg.cellAt x3 nw
  have y4 := g1.chg.cellAt x4 nw
  have hrec := addRecord_any lo v1 T1 x w1 g1.row (by have := g1.chg.size; omega) hx (by omega)
  obtain ⟨p1, k1, rfl⟩ := g1.row.any
  unfold Rec.value' at hrec ⊢
  go_enter Tryz.func41, Tryz.ntmps41
  go_wp2_with fail
  rw [← hW0]
  have hent : ∀ args w, (callFunc 62 args).run Tryz.prog w = .ok (.enter 62 args) w := enters_of Tryz.func62 (by kernel_rfl) rfl
  have HW0 : Hid (W0 = w.alloc (.cells #[.int .i64 x.session, .int .i64 x.epoch, .int .i64 x.number, .string x.key, .int .i64 x.value] 53)) := hW0
  clear hW0
  go_region_law (first | (refine step_run rfl (.tmp 5) (.const (.string { data := #[114] })) 88 9 rfl _ _ (by simp [Act.eval, Act.put]) (by simp [Act.eval, Act.put]) _ _ hrun ?_) | (refine step_call rfl 62 _ _ rfl _ (by simp [Act.eval, Act.put]) hent hrec (fun e w2 he => ?_); obtain ⟨v2, rfl, g2⟩ := he; refine ⟨_, rfl, ?_⟩))
  all_goals
    go_wp2_with fail
    go_ret
    refine ⟨_, rfl, ?_⟩
    rw [HR.out]
    exact Grew.behind c0d (g1.trans g2)
set_option maxRecDepth 100000 in
set_option maxHeartbeats 1000000 in
theorem AddAnswer_any (lo : Nat) (v : Value) (T : List UInt8) (key : ByteArray) (n : Int) (w : World) (hr : RowB w lo v T) (hlo : lo ≤ w.heap.size) (hk : key.size ≤ 1000) (hn : 0 ≤ n ∧ n ≤ 9223372036854775807) (hlen : T.length ≤ 140737488351500) :
    Calls Tryz.prog 43 #[v, .string key, .int .i64 n] w fun e w' => ∃ v', e = .returned v' ∧ Grew lo w w' v v' (T ++ encAns key n) := by
  obtain ⟨pv, cv, rfl⟩ := hr.any
  obtain ⟨v1, w1, hrun, g1⟩ := run_text (Grew.refl hr) hlo ({ data := #[97] } : ByteArray) (by show T.length + 1 ≤ _; omega)
  have HR : Hid (T ++ encAns key n = (T ++ [97]) ++ encKey key ++ encInt n) := by show _ = _; unfold encAns; simp
  have hT1l : (T ++ [(97 : UInt8)]).length ≤ 140737488351501 := by rw [List.length_append]; simp only [List.length_cons, List.length_nil]; omega
  obtain ⟨T1, hT1⟩ : ∃ T1, T1 = T ++ [(97 : UInt8)] := ⟨_, rfl⟩
  replace g1 : Grew lo w w1 (.slice pv T.length cv) v1 T1 := by rw [hT1]; exact g1
  rw [← hT1] at HR hT1l
  clear hT1
  have hkl : (encKey key).length ≤ 1009 := by
    have := encInt_len9 (z := (key.size : Int)) (by omega)
    unfold encKey
    rw [List.length_append]
    have h2 : key.data.toList.length = key.size := Array.length_toList
    unfold encInt at this
    simp only [Int.toNat_natCast] at this
    omega
  have hkey := addKey_any lo v1 T1 key w1 g1.row (by have := g1.chg.size; omega) hk (by omega)
  obtain ⟨T2, hT2⟩ : ∃ T2, T2 = T1 ++ encKey key := ⟨_, rfl⟩
  have hT2l : T2.length ≤ 140737488352600 := by rw [hT2, List.length_append]; omega
  rw [← hT2] at hkey HR
  clear hT2
  have hz1 : lo ≤ w1.heap.size := by have := g1.chg.size; omega
  obtain ⟨p1, k1, rfl⟩ := g1.row.any
  go_enter Tryz.func43, Tryz.ntmps43
  go_wp2_with (at_builtin; refine Lib.wpList_append_run _ rfl _ _ 88 9 rfl _ _ rfl rfl _ w1 hrun ?_)
  refine hkey.mono ?_
  rintro _ w2 ⟨v2, rfl, g2⟩
  have hnum := addNumbers_new lo v2 T2 [n] w2 g2.row (by have := g2.chg.size; omega) (fun z hz => by rw [List.mem_singleton] at hz; subst hz; exact hn) (by simp only [List.length_cons, List.length_nil]; omega)
  rw [encInts_one] at hnum
  simp only [List.map_cons, List.map_nil, List.length_cons, List.length_nil] at hnum
  obtain ⟨p2, k2, rfl⟩ := g2.row.any
  go_wp2_with fail
  refine hnum.mono ?_
  rintro _ w3 ⟨v3, rfl, g3⟩
  go_wp2_with fail
  go_ret
  refine ⟨_, rfl, ?_⟩
  rw [HR.out]
  exact (g1.trans g2).trans g3
end Go.Proofs.YthedkdbgfdjlkaaGreatDoor
