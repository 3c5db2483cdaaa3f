/- names, WALKED. -/
import Derived.Test.YtdoedjmdcmgddaaGreatK3
import Derived.Test.YtdoedjmdcmgddaaGreatP1
import Derived.Test.YtdoedjmdcmgddaaGreatShelf
import Derived.Test.YtdoedjmdcmgddaaGreatS1
namespace Go.Proofs.YtdoedjmdcmgddaaGreat
set_option linter.unusedVariables false
set_option linter.unusedSimpArgs false
open Go.RowKit Go.Lib

/-- The flow at ⟨b, o⟩: its cells. -/
structure FlowCells (w : World) (b o : Nat) (E B : Nat → Int) (V : Nat → Value) (vk : Value) : Prop where
  ep : ∀ i, i < 4 → w.cell? ⟨b, o + i * 3, none⟩ = some (.int .i64 (E i))
  ba : ∀ i, i < 4 → w.cell? ⟨b, o + i * 3 + 1, none⟩ = some (.int .i64 (B i))
  qu : ∀ i, i < 4 → w.cell? ⟨b, o + i * 3 + 2, none⟩ = some (V i)
  le : w.cell? ⟨b, o + 12, none⟩ = some vk

theorem FlowCells.chg {F : Nat → Prop} {w w' : World} {b o : Nat} {E B : Nat → Int} {V : Nat → Value} {vk : Value} (h : FlowCells w b o E B V vk) (hc : Chg F w w') (hF : ¬ F b) : FlowCells w' b o E B V vk :=
  ⟨fun i hi => hc.cellAt (h.ep i hi) hF, fun i hi => hc.cellAt (h.ba i hi) hF, fun i hi => hc.cellAt (h.qu i hi) hF, hc.cellAt h.le hF⟩

theorem Tryz.infoS : (Tryz.prog.info? 9).map (fun i => (i.zero, i.size, i.bytes)) = some (some (.string ⟨#[]⟩), 1, 16) := by kernel_rfl

/-- One lane out of the four. -/
theorem index_lane (E B : Nat → Int) (V : Nat → Value) (k : Nat) (hk : k < 4) (w : World) :
    (Instr.index 95 (.agg #[.int .i64 (E 0), .int .i64 (B 0), V 0, .int .i64 (E 1), .int .i64 (B 1), V 1, .int .i64 (E 2), .int .i64 (B 2), V 2, .int .i64 (E 3), .int .i64 (B 3), V 3]) (.int .i64 k)).run Tryz.prog w = .ok (.agg #[.int .i64 (E k), .int .i64 (B k), V k]) w := by
  rcases (by omega : k = 0 ∨ k = 1 ∨ k = 2 ∨ k = 3) with rfl | rfl | rfl | rfl
  · kernel_rfl
  · kernel_rfl
  · kernel_rfl
  · kernel_rfl

def strs' (L : List ByteArray) : List Value := L.map Value.string

/-- The names of those that wait, lane by lane. -/
def qNames (Q : Nat → List Wt) : Nat → List ByteArray
  | 0 => []
  | k + 1 => qNames Q k ++ (Q k).map (·.key)

/-- One element more behind a row of the call's own. -/
theorem wpList_app1 {P : Program} {W : World} {ops : Array Oper} {rest : List Oper} {o : Oper} {a : Act} {Qx : Exit → Act → World → Prop} (hgd : o.guard = none) (s x : Operand) (t : TypeId)
    (ho : o.op = .call { callee := .builtin .append, args := #[s, x], argTypes := #[t, t] }) (base : Nat) (e : TypeId) (i : TypeInfo) (z : Value) (bytes : Nat)
    (h1 : P.underlying t = some (.slice e)) (h2 : P.info? e = some i) (h3 : i.zero = some z) (h4 : i.size = 1) (h5 : i.bytes = bytes) (h6 : z.cells.size = 1)
    (v : Value) (n : Nat) (xs : List Value) (hs : a.eval s = v) (hown : W.ownsRow base e 1 v n xs) (q : Nat) (u : Value) (hx : a.eval x = .slice (some ⟨q, 0, none⟩) 1 1) (hu : W.cell? ⟨q, 0, none⟩ = some u) (h1c : u.oneCell' = true)
    (hn : n ≤ 1000000) (hby : bytes ≤ 1000) (hb : base ≤ W.heap.size)
    (hK : ∀ v' w', w'.ownsRow base e 1 v' (n + 1) (xs ++ [u]) → W.grownBy w' v.ownBlock → wpList P ops Qx rest (a.put o.dst v') w') : wpList P ops Qx (o :: rest) a W := by
  have hb2 : (n + 1) * bytes ≤ 140737488355328 := by
    have : (n + 1) * bytes ≤ 1000001 * 1000 := Nat.mul_le_mul (by omega) hby
    omega
  obtain ⟨v', w', hrun, r1, r2, _⟩ := run_append_own (P := P) W base t o.type e i z 1 bytes h1 h2 h3 h4 h5 h6 (by decide) v n xs hown ⟨q, 0, none⟩ 1 1 [u] rfl
    (fun j y hj => by
      cases j with
      | zero => simp at hj; subst hj; simpa [Addr.add] using hu
      | succ j => simp at hj) (fun y hy => by simp at hy; subst hy; exact h1c) (by unfold maxLen; omega) hb2 hb
  exact Lib.wpList_append_run W hgd s x t t ho v _ hs hx v' w' hrun (hK v' w' r1 r2)

theorem Chg.grown {w W w' : World} {row : Option Nat} (h : Chg (fun _ => False) w W) (hg : W.grownBy w' row) (hr : ∀ k, row = some k → w.heap.size ≤ k) : Chg (fun _ => False) w w' :=
  h.trans (G := fun k => row = some k) ⟨hg.os, hg.tape, hg.output, hg.size, fun k hk hne => hg.block k hk (fun e => hne e.symm)⟩ (fun k hk e => by have := hr k e; omega)

/-- The keys that are there, each once, in order. -/
def theNames (ks : List Ky) (Q : Nat → List Wt) : List (List UInt8) := compact (((ks.map (·.name) ++ qNames Q 4).map (·.data.toList)).mergeSort fun x y => decide (x ≤ y))

set_option maxRecDepth 100000 in
set_option maxHeartbeats 2000000 in
theorem names_any (lo b o : Nat) (E B : Nat → Int) (V : Nat → Value) (vk : Value) (Q : Nat → List Wt) (ks : List Ky) (w : World) (hb : b < w.heap.size) (hF : FlowCells w b o E B V vk)
    (hk : w.ownsRow lo 60 4 vk ks.length (keyCells ks)) (hkn : ks.length ≤ 4) (hq : ∀ i, i < 4 → w.ownsRow lo 144 3 (V i) (Q i).length (wtCells (Q i))) (hqn : ∀ i, i < 4 → (Q i).length ≤ 4) :
    Calls Tryz.prog 86 #[.pointer (some ⟨b, o, none⟩)] w fun e w' => ∃ v, e = .returned v ∧ w'.ownsRow w.heap.size 9 1 v (theNames ks Q).length ((theNames ks Q).map encStr) ∧ Chg (fun _ => False) w w' := by
  obtain ⟨i0, hi, hz0, hz1, hz2⟩ := info_parts Tryz.infoS
  obtain ⟨pk, capk, rfl⟩ := row_any hk
  have hkc := hF.le
  go_enter Tryz.func86, Tryz.ntmps86
  go_wp2
  go_loopw [3, 5, 15] (fun sv _ si wr => ∃ (k : Nat), si = .int .i64 k ∧ k ≤ ks.length ∧ wr.ownsRow w.heap.size 9 1 sv k (strs' ((ks.take k).map (·.name))) ∧ Chg (fun _ => False) w wr) (fun _ _ si _ => ks.length - (intOf si).toNat)
  case atStart => exact ⟨0, rfl, by omega, World.ownsRow_nil _ _ _ _, Chg.refl _ _⟩
  case round =>
    obtain ⟨k, rfl, hk1, hown, hc⟩ := hrel
    by_cases hkl : k < ks.length
    · obtain ⟨x, hx⟩ : ∃ x, ks[k]? = some x := ⟨_, List.getElem?_eq_getElem hkl⟩
      have cx := keyCells_at ks k x hx
      obtain ⟨g, cap', hv, hlg, _, hcell⟩ := row_pos hk (by omega)
      simp only [Value.slice.injEq] at hv
      obtain ⟨rfl, _, rfl⟩ := hv
      have a0 := hc.cellAt (hcell _ _ cx.1) id
      have a1 := hc.cellAt (hcell _ _ cx.2.1) id
      have a2 := hc.cellAt (hcell _ _ cx.2.2.1) id
      have a3 := hc.cellAt (hcell _ _ cx.2.2.2) id
      have hkl' : (k : Int) < (ks.length : Int) := by omega
      have hsz := hc.size
      clear hcell cx
      go_wp2_with (at_builtin; refine wpList_app1 rfl _ _ 133 rfl w.heap.size 9 i0 _ 16 Tryz.underlying133 hi hz0 hz1 hz2 rfl _ k _ rfl ((hown.alloc _).alloc _) (wr.heap.size + 1) (.string x.name) rfl (by simp) rfl (by omega) (by omega) (by simp; omega) ?_; intro v' w1 hown' hg)
      have hc1 : Chg (fun _ => False) w w1 := ((hc.alloc _).alloc _).grown hg (fun k hk => (hown.lt k hk).1)
      clear hown hg a0 a1 a2 a3
      go_wp2_with fail
      go_roundw
      case rel =>
        refine ⟨k + 1, by go_num, by omega, ?_, hc1⟩
        have e : strs' ((ks.take (k + 1)).map (·.name)) = strs' ((ks.take k).map (·.name)) ++ [.string x.name] := by
          rw [List.take_add_one, hx]; simp [strs']
        rw [e]; exact hown'
      case measure => simp [intOf]; omega
    · have hkl' : ¬ (k : Int) < (ks.length : Int) := by omega
      obtain rfl : k = ks.length := by omega
      rw [List.take_length] at hown
      have hF1 := hF.chg hc id
      have e0 := hF1.ep 0 (by omega); have e1 := hF1.ep 1 (by omega); have e2 := hF1.ep 2 (by omega); have e3 := hF1.ep 3 (by omega)
      have b0 := hF1.ba 0 (by omega); have b1 := hF1.ba 1 (by omega); have b2 := hF1.ba 2 (by omega); have b3 := hF1.ba 3 (by omega)
      have v0 := hF1.qu 0 (by omega); have v1 := hF1.qu 1 (by omega); have v2 := hF1.qu 2 (by omega); have v3 := hF1.qu 3 (by omega)
      simp only [Nat.zero_mul, Nat.one_mul, Nat.add_zero] at e0 e1 e2 e3 b0 b1 b2 b3 v0 v1 v2 v3
      go_wp2_with fail
      go_loopw [3, 7, 9, 29, 35] (fun sv _ _ si _ wq => ∃ (k : Nat) (L : List ByteArray), si = .int .i64 k ∧ k ≤ 4 ∧ Hid (L = ks.map (·.name) ++ qNames Q k) ∧ L.length ≤ 4 + k * 4 ∧ wq.ownsRow w.heap.size 9 1 sv L.length (strs' L) ∧ Chg (fun _ => False) w wq) (fun _ _ _ si _ _ => 4 - (intOf si).toNat)
      case atStart => exact ⟨0, ks.map (·.name), rfl, by omega, (show _ = _ by simp [qNames]), by simp; omega, by simpa using hown, hc⟩
      case round =>
        obtain ⟨k, L, rfl, hk4, HL, hLn, hown2, hc2⟩ := hrel
        clear e0 e1 e2 e3 b0 b1 b2 b3 v0 v1 v2 v3 hown hc hF1
        by_cases hk4' : k < 4
        · have hk4i : (k : Int) < 4 := by omega
          have hix := fun W => index_lane E B V k hk4' W
          obtain ⟨pq, capq, hVk⟩ := row_any (hq k hk4')
          have hqk := hq k hk4'
          rw [hVk] at hqk
          have hql := hqn k hk4'
          go_wp2_with fail
          go_loopw [3, 9, 35] (fun sv _ sj wq => ∃ (j : Nat) (M : List ByteArray), sj = .int .i64 j ∧ j ≤ (Q k).length ∧ Hid (M = L ++ ((Q k).take j).map (·.key)) ∧ M.length ≤ 4 + k * 4 + j ∧ wq.ownsRow w.heap.size 9 1 sv M.length (strs' M) ∧ Chg (fun _ => False) w wq) (fun _ _ sj _ => (Q k).length - (intOf sj).toNat)
          case atStart => exact ⟨0, L, rfl, by omega, (show _ = _ by simp), by omega, hown2.alloc _, hc2.alloc _⟩
          case round =>
            obtain ⟨j, M, rfl, hj, HM, hMn, hown3, hc3⟩ := hrel
            clear hown2 hc2 hix
            by_cases hjl : j < (Q k).length
            · obtain ⟨x, hx⟩ : ∃ x, (Q k)[j]? = some x := ⟨_, List.getElem?_eq_getElem hjl⟩
              have cx := wtCells_at (Q k) j x hx
              obtain ⟨g, cap', hv, hlg, _, hcell⟩ := row_pos hqk (by omega)
              simp only [Value.slice.injEq] at hv
              obtain ⟨rfl, _, rfl⟩ := hv
              have a0 := hc3.cellAt (hcell _ _ cx.1) id
              have a1 := hc3.cellAt (hcell _ _ cx.2.1) id
              have a2 := hc3.cellAt (hcell _ _ cx.2.2) id
              have hjl' : (j : Int) < ((Q k).length : Int) := by omega
              have hsz := hc3.size
              clear hcell cx
              go_wp2_with (at_builtin; refine wpList_app1 rfl _ _ 133 rfl w.heap.size 9 i0 _ 16 Tryz.underlying133 hi hz0 hz1 hz2 rfl _ M.length _ rfl ((hown3.alloc _).alloc _) (wr.heap.size + 1) (.string x.key) rfl (by simp) rfl (by omega) (by omega) (by simp; omega) ?_; intro v' w1 hown' hg)
              have hc1 : Chg (fun _ => False) w w1 := ((hc3.alloc _).alloc _).grown hg (fun k hk => (hown3.lt k hk).1)
              clear hown3 hg a0 a1 a2
              go_wp2_with fail
              go_roundw
              case rel =>
                refine ⟨j + 1, M ++ [x.key], by go_num, by omega, ?_, by simp; omega, ?_, hc1⟩
                · show _ = _
                  rw [HM.out, List.take_add_one, hx]; simp
                · have e : strs' (M ++ [x.key]) = strs' M ++ [.string x.key] := by simp [strs']
                  rw [e]
                  simpa using hown'
              case measure => simp [intOf]; omega
            · have hjl' : ¬ (j : Int) < ((Q k).length : Int) := by omega
              obtain rfl : j = (Q k).length := by omega
              go_wp2_with fail
              go_roundw
              case rel =>
                refine ⟨k + 1, M, by go_num, by omega, ?_, by omega, hown3, hc3⟩
                show _ = _
                rw [HM.out, HL.out, List.take_length]
                simp [qNames]
              case measure => simp [intOf]; omega
        · have hk4i : ¬ (k : Int) < 4 := by omega
          obtain rfl : k = 4 := by omega
          have hsz := hc2.size
          obtain ⟨T, hT⟩ : ∃ T, T = L.map (·.data.toList) := ⟨_, rfl⟩
          have hTl : T.length = L.length := by rw [hT]; simp
          have hfin : Hid (theNames ks Q = compact (T.mergeSort fun x y => decide (x ≤ y))) := by
            show _ = _
            rw [hT, HL.out]; rfl
          have hown4 : wr.ownsRow w.heap.size 9 1 u3 T.length (T.map encStr) := by
            rw [hTl, hT, ← Joins.strings_enc]; exact hown2
          have hT16 : T.length ≤ 20 := by omega
          clear hT hown2 HL hTl
          go_wp2_with fail
          by_cases hne : T.length = 0
          · obtain rfl : T = [] := List.eq_nil_of_length_eq_zero hne
            obtain ⟨pp, cc, rfl⟩ := row_any hown4
            refine (Tryz.slices_Sort_string_none pp cc wr).mono ?_
            rintro _ w5 ⟨rfl, rfl⟩
            go_wp2_with fail
            refine (Tryz.slices_Compact_string_empty pp cc _).mono ?_
            rintro _ w6 ⟨rfl, rfl⟩
            go_wp2_with fail
            go_ret
            refine ⟨_, rfl, ?_, hc2⟩
            rw [hfin.out]
            simpa [compact, compactUpTo] using hown4
          · obtain ⟨g, cap, rfl, hg, hcap, _⟩ := row_pos hown4 (by omega)
            have hgl : g < wr.heap.size := (hown4.lt g rfl).2
            have hH := row_holds encStr hown4
            refine (Tryz.slices_Sort_string g 0 cap T wr hH hgl (by omega)).mono ?_
            rintro _ w5 ⟨rfl, q5, os5, h5⟩
            obtain ⟨S, hS⟩ : ∃ S, S = T.mergeSort fun x y => decide (x ≤ y) := ⟨_, rfl⟩
            rw [← hS] at h5
            have hSl : S.length = T.length := by rw [hS]; exact List.length_mergeSort _
            obtain ⟨r5, c5⟩ := row_put encStr wr T S hown4 hSl q5 os5
            rw [← h5] at r5 c5
            clear h5 hH
            have hH5 := row_holds encStr r5
            have hcp := Tryz.slices_Compact_string g 0 cap S w5 hH5 (by omega) (by omega)
            rw [hSl] at hcp
            have HS : Hid (S = T.mergeSort fun x y => decide (x ≤ y)) := hS
            clear hS hH5
            go_wp2_with fail
            refine hcp.mono ?_
            rintro _ w6 ⟨rfl, q6, h6⟩
            obtain ⟨C, hC⟩ : ∃ C, C = compact S := ⟨_, rfl⟩
            rw [← hC] at h6
            have hCl : C.length ≤ S.length := by
              rw [hC]
              unfold compact compactUpTo
              rw [List.length_map]
              exact Nat.le_trans (List.length_filter_le _ _) (by simp)
            obtain ⟨r6, c6⟩ := row_put encStr w5 S (C ++ List.replicate (T.length - C.length) []) r5 (by simp; omega) q6 #[]
            rw [Sort.grow_empty] at r6 c6
            rw [← h6] at r6 c6
            have r7 := row_front r6 C.length (by omega)
            have e7 : (List.map encStr (C ++ List.replicate (T.length - C.length) [])).take (C.length * 1) = C.map encStr := by
              rw [Nat.mul_one, List.map_append, List.take_append_of_le_length (by simp), List.take_of_length_le (by simp)]
            rw [e7] at r7
            have HC : Hid (C = compact S) := hC
            clear h6 hcp
            rw [← hC]
            clear hC
            go_wp2_with fail
            go_ret
            refine ⟨_, rfl, ?_, ?_⟩
            · rw [hfin.out, ← HS.out, ← HC.out]; exact r7
            · exact (hc2.trans c5 (fun k hk h => by omega)).trans c6 (fun k hk h => by omega)

end Go.Proofs.YtdoedjmdcmgddaaGreat
