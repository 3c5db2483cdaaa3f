/- Once: numbered, WALKED. -/
import Derived.Test.YtdoedjmdcmgddaaGreatLaw9
namespace Go.Proofs.YtdoedjmdcmgddaaGreat
set_option linter.unusedVariables false
set_option linter.unusedSimpArgs false
open Go.RowKit Go.Lib

structure Snt where
  session : Int
  key : Int
  value : Int

/-- A list of sent ones in memory. -/
structure SentAt (w : World) (v : Value) (L : List Snt) : Prop where
  val : ∃ p cap, v = .slice p L.length cap
  len : L.length ≤ 9223372036854775807
  cells : ∀ i x, L[i]? = some x → ∃ sb so cap, v = .slice (some ⟨sb, so, none⟩) L.length cap ∧ w.cell? ⟨sb, so + i * 3, none⟩ = some (.int .i64 x.session) ∧ w.cell? ⟨sb, so + i * 3 + 1, none⟩ = some (.int .i64 x.key) ∧ w.cell? ⟨sb, so + i * 3 + 2, none⟩ = some (.int .i64 x.value)
  fits : ∀ x ∈ L, inInt x.session ∧ inInt x.key ∧ inInt x.value

theorem Tryz.infoR : (Tryz.prog.info? 37).map (fun i => (i.zero, i.size, i.bytes)) = some (some (.agg #[.int .i64 0, .int .i64 0, .int .i64 0, .string { data := #[] }, .int .i64 0]), 5, 48) := by kernel_rfl

theorem ofS_snoc (A : List Rec) (x : Rec) (i : Nat) : ofS (A ++ [x]) i = if x.session = i then ofS A i ++ [x] else ofS A i := by
  unfold ofS
  rw [List.filter_append]
  split
  · rename_i h; simp [h]
  · rename_i h; simp [h]

/-- One more, numbered. -/
theorem Numbered.snoc {A : List Rec} (h : Numbered A) {s : Nat} {k : ByteArray} {v : Int} (hA : A.length < 900) (hs : s < 4) (hk : k ∈ names4) (hv : 0 ≤ v ∧ v ≤ 4294967295) : Numbered (A ++ [⟨s, 0, (ofS A s).length, k, v⟩]) := by
  refine ⟨by simp; omega, fun x hx => ?_, fun i n x hx => ?_⟩
  · rcases List.mem_append.1 hx with hx | hx
    · exact h.each x hx
    · simp at hx
      subst hx
      exact ⟨by show (0 : Int) ≤ (s : Int); omega, by show (s : Int) < 4; omega, rfl, hk, hv⟩
  · rw [ofS_snoc] at hx
    split at hx
    · rename_i hi
      have hi : s = i := by have : ((s : Int) = i) := hi; omega
      subst hi
      by_cases hn : n < (ofS A s).length
      · rw [List.getElem?_append_left hn] at hx
        exact h.num s n x hx
      · rw [List.getElem?_append_right (by omega)] at hx
        have : n - (ofS A s).length = 0 := by
          rcases Nat.eq_zero_or_pos (n - (ofS A s).length) with h | h
          · exact h
          · rw [List.getElem?_eq_none (by simp; omega)] at hx; cases hx
        rw [this] at hx
        simp at hx
        subst hx
        show ((ofS A s).length : Int) = n
        omega
    · exact h.num i n x hx

theorem Numbered.nil : Numbered [] := ⟨by simp, by simp, fun i n x h => by simp [ofS] at h⟩

set_option maxHeartbeats 4000000 in
theorem numbered_any {w : World} {v : Value} {L : List Snt} (hS : SentAt w v L) :
    Calls Tryz.prog 10 #[v] w fun e w' => ∃ va all, e = .returned va ∧ w'.ownsRow w.heap.size 37 5 va all.length (recCells all) ∧ Numbered all ∧ Chg (fun _ => False) w w' := by
  obtain ⟨i0, hi0, hz0, hz1, hz2⟩ := info_parts Tryz.infoR
  obtain ⟨pv, cv, rfl⟩ := hS.val
  have hlen := hS.len
  obtain ⟨W0, hW0⟩ : ∃ W0, W0 = w.alloc (Obj.cells #[.int .i64 0, .int .i64 0, .int .i64 0, .int .i64 0] 33) := ⟨_, rfl⟩
  have hs0 : W0.heap.size = w.heap.size + 1 := by rw [hW0]; simp
  have c0 : Chg (fun _ => False) w W0 := by rw [hW0]; exact (Chg.refl _ w).alloc _
  have r0 : ∀ j, j < 4 → W0.cell? ⟨w.heap.size, j, none⟩ = some (.int .i64 ((ofS [] j).length : Int)) := fun j hj => by
    rw [hW0]
    rcases (by omega : j = 0 ∨ j = 1 ∨ j = 2 ∨ j = 3) with rfl | rfl | rfl | rfl <;> exact World.cell?_alloc_at _ _ _ _ rfl
  have rf : ∀ j, W0.frozen? ⟨w.heap.size, j, none⟩ = false := fun j => by rw [hW0]; exact World.frozen?_alloc_at _ _ _ _ rfl
  have HS0 : Hid (W0.heap.size = w.heap.size + 1) := hs0
  have hsz0 : w.heap.size + 1 ≤ W0.heap.size := by omega
  go_enter Tryz.func10, Tryz.ntmps10
  go_wp2_with fail
  rw [← hW0]
  clear hW0 hs0
  go_loopw [4, 5, 6, 7, 8] (fun sv si _ _ _ wr => ∃ (i : Nat) (A : List Rec), si = .int .i64 i ∧ i ≤ L.length ∧ i ≤ 900 ∧ A.length = i ∧ Numbered A ∧ wr.ownsRow (w.heap.size + 1) 37 5 sv A.length (recCells A) ∧ (∀ j, j < 4 → wr.cell? ⟨w.heap.size, j, none⟩ = some (.int .i64 ((ofS A j).length : Int))) ∧ (∀ j, wr.frozen? ⟨w.heap.size, j, none⟩ = false) ∧ Chg (fun _ => False) w wr ∧ w.heap.size + 1 ≤ wr.heap.size) (fun _ si _ _ _ _ => L.length - (intOf si).toNat)
  case atStart => exact ⟨0, [], rfl, by omega, by omega, rfl, Numbered.nil, World.ownsRow_nil _ _ _ _, r0, rf, c0, hsz0⟩
  case round =>
    obtain ⟨i, A, rfl, hi, hi9, hA, hN, hown, hcnt, hfz, hc, hsz⟩ := hrel
    clear r0 rf c0 hsz0
    by_cases hil : i < L.length
    · have hil' : (i : Int) < (L.length : Int) := by omega
      by_cases h9 : i < 900
      · have h9' : (i : Int) < 900 := by omega
        obtain ⟨x, hx⟩ : ∃ x, L[i]? = some x := ⟨_, List.getElem?_eq_getElem hil⟩
        obtain ⟨sb, so, cap, hvv, y0, y1, y2⟩ := hS.cells i x hx
        simp only [Value.slice.injEq] at hvv
        obtain ⟨rfl, _, rfl⟩ := hvv
        obtain ⟨f0, f1, f2⟩ := hS.fits x (List.mem_of_getElem? hx)
        have hp1 := fun w => pick_any x.session 4 w f0 (by omega) (by omega)
        have hp2 := fun w => pick_any x.value 4294967296 w f2 (by omega) (by omega)
        have hnm := fun w => name_any x.key w f1
        have hr1 := pickI_range (c := x.session) (n := 4) (by omega)
        have hr2 := pickI_range (c := x.value) (n := 4294967296) (by omega)
        have hkn := nameI_mem x.key
        obtain ⟨sn, hsn⟩ : ∃ sn : Nat, pickI x.session 4 = sn := ⟨(pickI x.session 4).toNat, by omega⟩
        rw [hsn] at hp1 hr1
        obtain ⟨PV, hPV⟩ : ∃ PV, PV = pickI x.value 4294967296 := ⟨_, rfl⟩
        rw [← hPV] at hp2 hr2
        obtain ⟨NM, hNM⟩ : ∃ NM, NM = nameI x.key := ⟨_, rfl⟩
        rw [← hNM] at hnm hkn
        clear hsn hPV hNM hx f0 f1 f2
        have hsn4 : sn < 4 := by omega
        have hsn4' : (sn : Int) < 4 := by omega
        have yr0 := hc.cellAt y0 id
        have yr1 := hc.cellAt y1 id
        go_wp2_with fail
        refine (hp1 _).mono ?_
        rintro _ wp ⟨rfl, ewp⟩
        rw [ewp]
        clear ewp wp
        go_wp2_with fail
        refine (hnm _).mono ?_
        rintro _ w2 ⟨rfl, c2⟩
        have yr2 := (hc.trans c2 (fun _ _ h => h)).cellAt y2 id
        go_wp2_with fail
        refine (hp2 _).mono ?_
        rintro _ wp ⟨rfl, ewp⟩
        rw [ewp]
        clear ewp wp
        have hcn2 : ∀ j, j < 4 → w2.cell? ⟨w.heap.size, j, none⟩ = some (.int .i64 ((ofS A j).length : Int)) := fun j hj => c2.cellAt (hcnt j hj) id
        have hfz2 : ∀ j, w2.frozen? ⟨w.heap.size, j, none⟩ = false := fun j => (World.frozen?_of_block (w := wr) (c2.block w.heap.size (by omega) id)).trans (hfz j)
        have hcs := hcn2 sn hsn4
        have hown2 := c2.row' hown (fun _ _ h => h)
        have hsz2 : w.heap.size + 1 ≤ w2.heap.size := Nat.le_trans hsz c2.size
        have hol : (ofS A sn).length ≤ 900 := by
          have : (ofS A sn).length ≤ A.length := List.length_filter_le _ _
          omega
        obtain ⟨X, hX⟩ : ∃ X : Rec, X = ⟨sn, 0, (ofS A sn).length, NM, PV⟩ := ⟨_, rfl⟩
        obtain ⟨v', w3, hrun, a1, a2, a3⟩ := run_append_where (P := Tryz.prog) (w2.alloc (Obj.cells #[.int .i64 sn, .int .i64 0, .int .i64 ((ofS A sn).length : Int), .string NM, .int .i64 PV] 37)) (w.heap.size + 1) 30 30 37 i0 _ 5 48 Tryz.underlying30 hi0 hz0 hz1 hz2 rfl (by decide) _ A.length _ (hown2.alloc _) ⟨w2.heap.size, 0, none⟩ 1 1 X.cells rfl (fun j y hj => by rw [add_lit', Nat.zero_add]; rw [hX] at hj; rcases j with _ | _ | _ | _ | _ | j <;> simp [Rec.cells] at hj <;> subst hj <;> exact World.cell?_alloc_at _ _ _ _ rfl) (fun y hy => by rw [hX] at hy; simp [Rec.cells] at hy; rcases hy with rfl | rfl | rfl | rfl | rfl <;> rfl) (by unfold maxLen; omega) (by omega) (by simp; omega)
        have c23 : Chg (fun g => u4.ownBlock = some g) w2 w3 := ((Chg.refl (fun g => u4.ownBlock = some g) w2).alloc _).trans (G := fun g => u4.ownBlock = some g) ⟨a2.os, a2.tape, a2.output, a2.size, fun k hk hne => a2.block k hk (fun e => hne e.symm)⟩ (fun _ _ h => h)
        have hnb : ¬ u4.ownBlock = some w.heap.size := fun h => by have := (hown.lt _ h).1; omega
        have hcn3 : ∀ j, j < 4 → w3.cell? ⟨w.heap.size, j, none⟩ = some (.int .i64 ((ofS A j).length : Int)) := fun j hj => c23.cellAt (hcn2 j hj) hnb
        have hfz3 : ∀ j, w3.frozen? ⟨w.heap.size, j, none⟩ = false := fun j => (World.frozen?_of_block (w := w2) (c23.block w.heap.size (by omega) hnb)).trans (hfz2 j)
        have hcs3 := hcn3 sn hsn4
        have hfs3 := hfz3 sn
        have HX : Hid (X = ⟨sn, 0, (ofS A sn).length, NM, PV⟩) := hX
        clear hX
        go_wp2_with (at_builtin; refine Lib.wpList_append_run _ rfl _ _ 30 30 rfl _ _ rfl rfl v' w3 hrun ?_)
        have c34 : Chg (fun k => k = w.heap.size) w3 (w3.setCell ⟨w.heap.size, sn, none⟩ (.int .i64 (((ofS A sn).length : Int) + 1))) := Chg.setCell (p := ⟨w.heap.size, sn, none⟩) (Chg.refl (fun k => k = w.heap.size) w3) (fun _ => rfl) _
        have cw3 : Chg (fun _ => False) w w3 := (hc.trans c2 (fun _ _ h => h)).trans c23 (fun n hn h => by have := (hown.lt n h).1; omega)
        refine ⟨⟨i + 1, A ++ [X], by go_num, by omega, by omega, by simp [hA], by rw [HX.out]; exact hN.snoc (by omega) hsn4 hkn (by omega), ?_, fun j hj => ?_, fun j => by simpa using hfz3 j, cw3.step c34 (fun k hk => by rw [hk]; exact Nat.le_refl _), by have := c23.size; simp; omega⟩, by simp [intOf]; omega⟩
        · have hrow := c34.row a1 (fun k hk => .inl (by rw [hk]; omega))
          rw [recCells_append]
          simpa [recCells] using hrow
        · rw [ofS_snoc]
          by_cases e : j = sn
          · subst e
            rw [if_pos (by rw [HX.out]), World.cell?_setCell_same _ _ _ hcs3]
            simp
          · rw [if_neg (by rw [HX.out]; intro h; apply e; have h : (sn : Int) = j := h; omega), World.cell?_setCell_other _ _ _ _ (by intro h; simp at h <;> omega)]
            exact hcn3 j hj
      · have h9' : ¬ (i : Int) < 900 := by omega
        go_wp2_with fail
        go_ret
        exact ⟨_, rfl, A, row_lower hown (by omega), hN, hc⟩
    · have hil' : ¬ (i : Int) < (L.length : Int) := by omega
      go_wp2_with fail
      go_ret
      exact ⟨_, rfl, A, row_lower hown (by omega), hN, hc⟩

end Go.Proofs.YtdoedjmdcmgddaaGreat
