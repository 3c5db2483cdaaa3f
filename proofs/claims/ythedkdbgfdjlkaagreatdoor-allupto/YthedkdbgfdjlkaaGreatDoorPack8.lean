import Derived.Test.YthedkdbgfdjlkaaGreatDoorPack1
import Derived.Test.YthedkdbgfdjlkaaGreatDoorPack2
import Derived.Test.YthedkdbgfdjlkaaGreatDoorPack3
import Derived.Test.YthedkdbgfdjlkaaGreatDoorPack4
import Derived.Test.YthedkdbgfdjlkaaGreatDoorPack5
import Derived.Test.YthedkdbgfdjlkaaGreatDoorPack6
import Derived.Test.YthedkdbgfdjlkaaGreatDoorPack7
namespace Go.Proofs.YthedkdbgfdjlkaaGreatDoor
set_option linter.unusedVariables false
set_option linter.unusedSimpArgs false
open Go.RowKit Go.Lib
def heldOne (name : ByteArray) (m : Int) (p : Hd) : Int := if p.key = name then max m p.token else m
def heldOf (name : ByteArray) (l : List Hd) : Int := l.foldl (heldOne name) 0
theorem heldOf_next (name : ByteArray) {l : List Hd} {i : Nat} {p : Hd} (h : l[i]? = some p) : heldOf name (l.take (i + 1)) = heldOne name (heldOf name (l.take i)) p := by
  obtain ⟨hl, e⟩ := List.getElem?_eq_some_iff.1 h
  unfold heldOf
  rw [List.take_succ_eq_append_getElem hl, e, List.foldl_append]
  rfl
theorem hdCells_at : ∀ (l : List Hd) (i : Nat) (x : Hd), l[i]? = some x → (hdCells l)[i * 2]? = some (.string x.key) ∧ (hdCells l)[i * 2 + 1]? = some (.int .i64 x.token)
  | [], i, x, h => by simp at h
  | y :: r, 0, x, h => by simp at h; subst h; simp [hdCells]
  | y :: r, i + 1, x, h => by
    have := hdCells_at r i x (by simpa using h)
    rw [show (i + 1) * 2 = i * 2 + 2 by omega, show i * 2 + 2 + 1 = i * 2 + 1 + 2 by omega]
    simpa [hdCells] using this
def kyC (name : ByteArray) (c f h : Int) : Nat → Value := fun j => if j = 0 then .string name else if j = 1 then .int .i64 c else if j = 2 then .int .i64 f else .int .i64 h
theorem kyC_1 (name : ByteArray) (c f h c' : Int) : updV (kyC name c f h) 1 (.int .i64 c') = kyC name c' f h := by
  funext j
  unfold updV kyC
  by_cases h1 : j = 1
  · subst h1; simp
  · simp [h1]
theorem kyC_2 (name : ByteArray) (c f h f' : Int) : updV (kyC name c f h) 2 (.int .i64 f') = kyC name c f' h := by
  funext j
  unfold updV kyC
  by_cases h1 : j = 2
  · subst h1; simp
  · simp [h1]
theorem kyC_3 {w : World} {b : Nat} {name : ByteArray} {c f h h' : Int} (hB : Blk w b 4 (updV (kyC name c f h) 3 (.int .i64 h'))) : Blk w b 4 (kyC name c f h') := by
  refine ⟨fun j hj => ?_, hB.fz⟩
  have := hB.cell j hj
  rw [this]
  rcases (by omega : j = 0 ∨ j = 1 ∨ j = 2 ∨ j = 3) with rfl | rfl | rfl | rfl <;> rfl
theorem tally_rng {name : ByteArray} {c : UInt8} {r : List UInt8} (hn : name.data.toList = c :: r) : ∀ (l : List Rec) (p : Int × Int), (∀ x ∈ l, 0 ≤ x.value ∧ x.value ≤ 4294967295) → 0 ≤ p.1 → p.1 + l.length ≤ 1000000 → 0 ≤ p.2 ∧ p.2 ≤ 4294967295 → 0 ≤ (l.foldl (tallyOne name) p).2 ∧ (l.foldl (tallyOne name) p).2 ≤ 4294967295
  | [], p, _, _, _, h => h
  | x :: l, p, hv, h0, h1, h2 => by
    rw [List.foldl_cons]
    have hx := hv x (by simp)
    simp only [List.length_cons] at h1
    have h3 : 0 ≤ (tallyOne name p x).1 ∧ (tallyOne name p x).1 ≤ p.1 + 1 ∧ 0 ≤ (tallyOne name p x).2 ∧ (tallyOne name p x).2 ≤ 4294967295 := by
      unfold tallyOne
      split
      · simp only
        have := foldOne_range (n := p.1 + 1) (f := p.2) (v := x.value) hn (by omega) h2 hx
        omega
      · omega
    exact tally_rng hn l _ (fun y hy => hv y (by simp [hy])) h3.1 (by omega) h3.2.2
theorem heldOf_rng (name : ByteArray) : ∀ (l : List Hd) (m : Int), (∀ p ∈ l, 0 ≤ p.token ∧ p.token ≤ 1000) → 0 ≤ m → m ≤ 1000 → 0 ≤ l.foldl (heldOne name) m ∧ l.foldl (heldOne name) m ≤ 1000
  | [], m, _, h0, h1 => ⟨h0, h1⟩
  | p :: l, m, h, h0, h1 => by
    rw [List.foldl_cons]
    have hp := h p (by simp)
    have : 0 ≤ heldOne name m p ∧ heldOne name m p ≤ 1000 := by unfold heldOne; split <;> omega
    exact heldOf_rng name l _ (fun q hq => h q (by simp [hq])) this.1 this.2
set_option maxRecDepth 100000 in
set_option maxHeartbeats 4000000 in
theorem rkeyX_any {w : World} {lo b : Nat} {vt vh : Value} {T : List Rec} {Hs : List Hd} {name : ByteArray} {c : UInt8} {r : List UInt8} (hn : name.data.toList = c :: r) (htk : w.cell? ⟨b, 12, none⟩ = some vt) (hrt : w.ownsRow lo 53 5 vt T.length (recCells T)) (hhd : w.cell? ⟨b, 13, none⟩ = some vh) (hrh : w.ownsRow lo 181 2 vh Hs.length (hdCells Hs))
    (hT : T.length ≤ 2000) (hH : Hs.length ≤ 1000000000) (hv : ∀ x ∈ T, 0 ≤ x.value ∧ x.value ≤ 4294967295) (ht : ∀ p ∈ Hs, 0 ≤ p.token ∧ p.token ≤ 1000) :
    Calls Tryz.prog 86 #[.pointer (some ⟨b, 0, none⟩), .string name] w fun e w' => e = .returned (.agg #[.string name, .int .i64 (tally name T).1, .int .i64 (tally name T).2, .int .i64 (heldOf name Hs)]) ∧ Chg (fun _ => False) w w' := by
  obtain ⟨W0, hW0⟩ : ∃ W0, W0 = (w.alloc (Obj.cells #[.string { data := #[] }, .int .i64 0, .int .i64 0, .int .i64 0] 87)).alloc (Obj.cells #[.string name, .int .i64 0, .int .i64 0, .int .i64 0] 87) := ⟨_, rfl⟩
  have c0 : Chg (fun _ => False) w W0 := by rw [hW0]; exact ((Chg.refl _ w).alloc _).alloc _
  have hs0 : W0.heap.size = w.heap.size + 2 := by rw [hW0]; simp
  have R0 : Blk W0 w.heap.size 4 (kyC { data := #[] } 0 0 0) := by
    rw [hW0]
    have hh : w.heap.size < (w.alloc (Obj.cells #[.string { data := #[] }, .int .i64 0, .int .i64 0, .int .i64 0] 87)).heap.size := by simp
    refine ⟨fun j hj => ?_, fun j => ?_⟩
    · rw [World.cell?_alloc_lt _ _ _ hh]
      rcases (by omega : j = 0 ∨ j = 1 ∨ j = 2 ∨ j = 3) with rfl | rfl | rfl | rfl <;> exact World.cell?_alloc_at _ _ _ _ rfl
    · exact (World.frozen?_of_block (w := w.alloc _) (Below.heap_alloc _ _ _ hh)).trans (World.frozen?_alloc_at _ _ _ _ rfl)
  have K0 : Blk W0 (w.heap.size + 1) 4 (kyC name 0 0 0) := by
    have e : w.heap.size + 1 = (w.alloc (Obj.cells #[.string { data := #[] }, .int .i64 0, .int .i64 0, .int .i64 0] 87)).heap.size := by simp
    rw [hW0, e]
    refine ⟨fun j hj => ?_, fun j => World.frozen?_alloc_at _ _ _ _ rfl⟩
    rcases (by omega : j = 0 ∨ j = 1 ∨ j = 2 ∨ j = 3) with rfl | rfl | rfl | rfl <;> exact World.cell?_alloc_at _ _ _ _ rfl
  have HS0 : Hid (W0.heap.size = w.heap.size + 2) := hs0
  have h1 : 1 ≤ name.size := by show 1 ≤ name.data.size; rw [← Array.length_toList, hn]; simp
  have hcc : name[0] = c := by
    have : name.data.toList[0]'(by rw [hn]; simp) = c := by simp [hn]
    exact this
  have hbl : b < w.heap.size := World.block_lt_of_cell? _ _ htk
  obtain ⟨pt, ct, rfl⟩ := row_any hrt
  obtain ⟨ph, ch, rfl⟩ := row_any hrh
  obtain ⟨kb, hkb⟩ : ∃ kb, kb = w.heap.size + 1 := ⟨_, rfl⟩
  have nkw : ¬ kb = w.heap.size := by omega
  have HKB : Hid (kb = w.heap.size + 1) := hkb
  go_enter Tryz.func86, Tryz.ntmps86
  go_wp2_with fail
  rw [← hW0, ← hkb]
  rw [← hkb] at K0
  clear hW0 hkb hs0
  go_loopw [6, 7] (fun si _ wr => ∃ (i : Nat) (cn f : Int), si = .int .i64 i ∧ i ≤ T.length ∧ Hid (tally name (T.take i) = (cn, f)) ∧ Blk wr kb 4 (kyC name cn f 0) ∧ Blk wr w.heap.size 4 (kyC { data := #[] } 0 0 0) ∧ Chg (fun _ => False) w wr ∧ w.heap.size + 2 ≤ wr.heap.size) (fun si _ _ => T.length - (intOf si).toNat)
  case atStart => exact ⟨0, 0, 0, rfl, by omega, (show _ = _ from rfl), K0, R0, c0, by rw [HS0.out]; omega⟩
  case round =>
    clear K0 R0 c0 HS0
    obtain ⟨i, cn, f, rfl, hi, HT, hK, hR, hc, hz⟩ := hrel
    have htk1 := hc.cellAt htk id
    by_cases hil : i < T.length
    · have hil' : (i : Int) < (T.length : Int) := by omega
      obtain ⟨x, hx⟩ : ∃ x, T[i]? = some x := ⟨_, List.getElem?_eq_getElem hil⟩
      obtain ⟨g, cap', hvs, _, _, hcell⟩ := row_pos hrt (by omega)
      simp only [Value.slice.injEq] at hvs
      obtain ⟨rfl, _, rfl⟩ := hvs
      have cx := recCells_at T i x hx
      have m0 := hc.cellAt (hcell _ _ cx.1) id
      have m1 := hc.cellAt (hcell _ _ cx.2.1) id
      have m2 := hc.cellAt (hcell _ _ cx.2.2.1) id
      have m3 := hc.cellAt (hcell _ _ cx.2.2.2.1) id
      have m4 := hc.cellAt (hcell _ _ cx.2.2.2.2) id
      have hxv := hv x (List.mem_of_getElem? hx)
      have hnx := tally_take_next name T i x hx
      rw [HT.out] at hnx
      have hle := tally_take_le name T i
      rw [HT.out] at hle
      simp only at hle
      have hrg := tally_rng hn (T.take i) (0, 0) (fun x hx => hv x (List.mem_of_mem_take hx)) (by simp) (by simp only [List.length_take]; omega) (by simp)
      have hrg' : 0 ≤ f ∧ f ≤ 4294967295 := by
        have : ((T.take i).foldl (tallyOne name) (0, 0)) = (cn, f) := HT.out
        rw [this] at hrg
        exact hrg
      have HNX : Hid (tally name (T.take (i + 1)) = tallyOne name (cn, f) x) := hnx
      clear hcell cx hnx hrg
      obtain ⟨W1, hW1⟩ : ∃ W1, W1 = wr.alloc (Obj.cells #[.int .i64 x.session, .int .i64 x.epoch, .int .i64 x.number, .string x.key, .int .i64 x.value] 53) := ⟨_, rfl⟩
      have c1 : Chg (fun _ => False) wr W1 := by rw [hW1]; exact (Chg.refl _ wr).alloc _
      have z3 : W1.cell? ⟨wr.heap.size, 3, none⟩ = some (.string x.key) := by rw [hW1]; exact World.cell?_alloc_at _ _ _ _ rfl
      have z4 : W1.cell? ⟨wr.heap.size, 4, none⟩ = some (.int .i64 x.value) := by rw [hW1]; exact World.cell?_alloc_at _ _ _ _ rfl
      have hK1 := hK.chg c1 (by omega) id
      have hR1 := hR.chg c1 (by omega) id
      have hcw := hc.trans c1 (fun _ _ h => h)
      have hz1 : w.heap.size + 2 ≤ W1.heap.size := Nat.le_trans hz c1.size
      by_cases hke : x.key = name
      · rw [hke] at z3 m3 hW1
        have HNX' : Hid (tally name (T.take (i + 1)) = (cn + 1, foldOne name (cn + 1) f x.value)) := by
          show _ = _
          rw [HNX.out]; unfold tallyOne; rw [if_pos hke]
        have k0 := hK1.cell 0 (by omega)
        have k1 : W1.cell? ⟨kb, 1, none⟩ = some (.int .i64 cn) := hK1.cell 1 (by omega)
        have k2 : W1.cell? ⟨kb, 2, none⟩ = some (.int .i64 f) := hK1.cell 2 (by omega)
        have f1 := hK1.fz 1
        have f2 := hK1.fz 2
        have nkx : ¬ kb = wr.heap.size := by have := HKB.out; omega
        have nxk : ¬ wr.heap.size = kb := by have := HKB.out; omega
        have hfo := foldOne_c (n := cn + 1) (f := f) (v := x.value) hn
        have d99 := c99 c
        have d115 := c115 c
        have d108 := c108 c
        obtain ⟨q1, hq1⟩ : ∃ q1, (c == 99) = q1 := ⟨_, rfl⟩
        obtain ⟨q2, hq2⟩ : ∃ q2, (c == 115) = q2 := ⟨_, rfl⟩
        obtain ⟨q3, hq3⟩ : ∃ q3, (c == 108) = q3 := ⟨_, rfl⟩
        have hfo' : foldOne name (cn + 1) f x.value = if q1 then cn + 1 else if q2 then (f + x.value) % 4294967296 else if q3 then x.value else max f x.value := by
          rw [hfo, hq1, hq2, hq3]
        rw [hq1] at d99
        rw [hq2] at d115
        rw [hq3] at d108
        have HFO : Hid (foldOne name (cn + 1) f x.value = if q1 then cn + 1 else if q2 then (f + x.value) % 4294967296 else if q3 then x.value else max f x.value) := hfo'
        have cS : ∀ v2, Chg (fun k => k = kb) W1 ((W1.setCell ⟨kb, 1, none⟩ (.int .i64 (cn + 1))).setCell ⟨kb, 2, none⟩ v2) := fun v2 => ((Chg.refl (fun k => k = kb) W1).setCell (p := ⟨kb, 1, none⟩) (fun _ => rfl) _).setCell (p := ⟨kb, 2, none⟩) (fun _ => rfl) _
        have fin : ∀ f', foldOne name (cn + 1) f x.value = f' → Hid (∃ (i_1 : Nat) (cn_1 f_1 : Int), Value.int .i64 ((i : Int) + 1) = Value.int .i64 i_1 ∧ i_1 ≤ T.length ∧ Hid (tally name (T.take i_1) = (cn_1, f_1)) ∧ Blk ((W1.setCell ⟨kb, 1, none⟩ (.int .i64 (cn + 1))).setCell ⟨kb, 2, none⟩ (.int .i64 f')) kb 4 (kyC name cn_1 f_1 0) ∧ Blk ((W1.setCell ⟨kb, 1, none⟩ (.int .i64 (cn + 1))).setCell ⟨kb, 2, none⟩ (.int .i64 f')) w.heap.size 4 (kyC { data := #[] } 0 0 0) ∧ Chg (fun _ => False) w ((W1.setCell ⟨kb, 1, none⟩ (.int .i64 (cn + 1))).setCell ⟨kb, 2, none⟩ (.int .i64 f')) ∧ w.heap.size + 2 ≤ ((W1.setCell ⟨kb, 1, none⟩ (.int .i64 (cn + 1))).setCell ⟨kb, 2, none⟩ (.int .i64 f')).heap.size) := fun f' hf' => by
          refine ⟨i + 1, cn + 1, f', by go_num, by omega, (show _ = _ by rw [HNX'.out, hf']), ?_, hR1.chg (cS _) (by omega) (fun e => nkw e.symm), hcw.step (cS _) (fun k hk => by have := HKB.out; omega), by have := (cS (.int .i64 f')).size; omega⟩
          have := (hK1.set 1 (.int .i64 (cn + 1))).set 2 (.int .i64 f')
          rw [kyC_1, kyC_2] at this
          exact this
        have FIN : Hid (∀ f', foldOne name (cn + 1) f x.value = f' → Hid (∃ (i_1 : Nat) (cn_1 f_1 : Int), Value.int .i64 ((i : Int) + 1) = Value.int .i64 i_1 ∧ i_1 ≤ T.length ∧ Hid (tally name (T.take i_1) = (cn_1, f_1)) ∧ Blk ((W1.setCell ⟨kb, 1, none⟩ (.int .i64 (cn + 1))).setCell ⟨kb, 2, none⟩ (.int .i64 f')) kb 4 (kyC name cn_1 f_1 0) ∧ Blk ((W1.setCell ⟨kb, 1, none⟩ (.int .i64 (cn + 1))).setCell ⟨kb, 2, none⟩ (.int .i64 f')) w.heap.size 4 (kyC { data := #[] } 0 0 0) ∧ Chg (fun _ => False) w ((W1.setCell ⟨kb, 1, none⟩ (.int .i64 (cn + 1))).setCell ⟨kb, 2, none⟩ (.int .i64 f')) ∧ w.heap.size + 2 ≤ ((W1.setCell ⟨kb, 1, none⟩ (.int .i64 (cn + 1))).setCell ⟨kb, 2, none⟩ (.int .i64 f')).heap.size)) := fin
        have FIN1 : Hid (max f x.value = f → q1 = false → q2 = false → q3 = false → Hid (∃ (i_1 : Nat) (cn_1 f_1 : Int), Value.int .i64 ((i : Int) + 1) = Value.int .i64 i_1 ∧ i_1 ≤ T.length ∧ Hid (tally name (T.take i_1) = (cn_1, f_1)) ∧ Blk (W1.setCell ⟨kb, 1, none⟩ (.int .i64 (cn + 1))) kb 4 (kyC name cn_1 f_1 0) ∧ Blk (W1.setCell ⟨kb, 1, none⟩ (.int .i64 (cn + 1))) w.heap.size 4 (kyC { data := #[] } 0 0 0) ∧ Chg (fun _ => False) w (W1.setCell ⟨kb, 1, none⟩ (.int .i64 (cn + 1))) ∧ w.heap.size + 2 ≤ (W1.setCell ⟨kb, 1, none⟩ (.int .i64 (cn + 1))).heap.size)) := fun hm e1 e2 e3 => by
          have cS1 : Chg (fun k => k = kb) W1 (W1.setCell ⟨kb, 1, none⟩ (.int .i64 (cn + 1))) := (Chg.refl (fun k => k = kb) W1).setCell (p := ⟨kb, 1, none⟩) (fun _ => rfl) _
          refine ⟨i + 1, cn + 1, f, by go_num, by omega, (show _ = _ by rw [HNX'.out, hfo', e1, e2, e3]; simp only [Bool.false_eq_true, if_false]; rw [hm]), ?_, hR1.chg cS1 (by omega) (fun e => nkw e.symm), hcw.step cS1 (fun k hk => by have := HKB.out; omega), by have := cS1.size; omega⟩
          have := hK1.set 1 (.int .i64 (cn + 1))
          rw [kyC_1] at this
          exact this
        clear HNX HNX' HT hfo hfo' hq1 hq2 hq3 cS fin hK1 hK hR1 hR k0 hke hx
        go_upto_if 30 with fail
        rw [← hW1]
        clear hW1
        cases q1 with
        | true =>
          go_wp2_with fail
          exact ⟨(FIN.out _ (by rw [HFO.out]; rfl)).out, by simp [intOf]; omega⟩
        | false =>
          cases q2 with
          | true =>
            go_wp2_with fail
            exact ⟨(FIN.out _ (by rw [HFO.out]; rfl)).out, by simp [intOf]; omega⟩
          | false =>
            cases q3 with
            | true =>
              go_wp2_with fail
              exact ⟨(FIN.out _ (by rw [HFO.out]; rfl)).out, by simp [intOf]; omega⟩
            | false =>
              by_cases hgt : f < x.value
              · have hmx : max f x.value = x.value := by omega
                have HM : Hid (max f x.value = x.value) := hmx
                clear hmx
                go_wp2_with fail
                exact ⟨(FIN.out _ (by rw [HFO.out]; exact HM.out)).out, by simp [intOf]; omega⟩
              · have hmx : max f x.value = f := by omega
                have HM : Hid (max f x.value = f) := hmx
                clear hmx
                go_wp2_with fail
                exact ⟨(FIN1.out HM.out rfl rfl rfl).out, by simp [intOf]; omega⟩
      · have hkn : (x.key.toList == name.toList) = false := by
          rw [beq_eq_false_iff_ne]
          intro e
          rw [ByteArray.toList_eq, ByteArray.toList_eq] at e
          exact hke (ByteArray.ext (Array.toList_inj.1 e))
        have HNX' : Hid (tally name (T.take (i + 1)) = (cn, f)) := by
          show _ = _
          rw [HNX.out]; unfold tallyOne; rw [if_neg hke]
        clear HNX hke HT
        go_wp2_with fail
        rw [← hW1]
        go_wp2_with fail
        exact ⟨⟨i + 1, cn, f, by go_num, by omega, HNX', hK1, hR1, hcw, hz1⟩, by simp [intOf]; omega⟩
    · have hil' : ¬ (i : Int) < (T.length : Int) := by omega
      have HTT : Hid (tally name T = (cn, f)) := by
        show _ = _
        have := HT.out
        rw [List.take_of_length_le (by omega)] at this
        exact this
      clear HT
      go_wp2_with fail
      go_loopw [8] (fun si wq => ∃ (j : Nat) (m : Int), si = .int .i64 j ∧ j ≤ Hs.length ∧ Hid (heldOf name (Hs.take j) = m) ∧ Blk wq kb 4 (kyC name cn f m) ∧ Blk wq w.heap.size 4 (kyC { data := #[] } 0 0 0) ∧ Chg (fun _ => False) w wq) (fun si _ => Hs.length - (intOf si).toNat)
      case atStart => exact ⟨0, 0, rfl, by omega, (show _ = _ from rfl), hK, hR, hc⟩
      case round =>
        clear hK hR hc hz
        obtain ⟨j, m, rfl, hj, HM, hK, hR, hc⟩ := hrel
        have hhd1 := hc.cellAt hhd id
        have hmr := heldOf_rng name (Hs.take j) 0 (fun p hp => ht p (List.mem_of_mem_take hp)) (by omega) (by omega)
        have hmr' : 0 ≤ m ∧ m ≤ 1000 := by rw [← HM.out]; exact hmr
        clear hmr
        by_cases hjl : j < Hs.length
        · have hjl' : (j : Int) < (Hs.length : Int) := by omega
          obtain ⟨p, hp⟩ : ∃ p, Hs[j]? = some p := ⟨_, List.getElem?_eq_getElem hjl⟩
          obtain ⟨g, cap', hvs, _, _, hcell⟩ := row_pos hrh (by omega)
          simp only [Value.slice.injEq] at hvs
          obtain ⟨rfl, _, rfl⟩ := hvs
          have cx := hdCells_at Hs j p hp
          have m0 := hc.cellAt (hcell _ _ cx.1) id
          have m1 := hc.cellAt (hcell _ _ cx.2) id
          have hpt := ht p (List.mem_of_getElem? hp)
          have hnx := heldOf_next name hp
          rw [HM.out] at hnx
          have HNX : Hid (heldOf name (Hs.take (j + 1)) = heldOne name m p) := hnx
          clear hcell cx hnx HM
          by_cases hke : p.key = name
          · rw [hke] at m0
            have HNX' : Hid (heldOf name (Hs.take (j + 1)) = max m p.token) := by show _ = _; rw [HNX.out]; unfold heldOne; rw [if_pos hke]
            have k3 : wr.cell? ⟨kb, 3, none⟩ = some (.int .i64 m) := hK.cell 3 (by omega)
            have f3 := hK.fz 3
            clear HNX hke hp
            go_wp2_with fail
            go_region
            go_wp2_with fail
            have cS : Chg (fun k => k = kb) wr ((wr.setCell ⟨kb, 3, none⟩ (.int .i64 (max m p.token))).drew) := ((Chg.refl (fun k => k = kb) wr).setCell (p := ⟨kb, 3, none⟩) (fun _ => rfl) _).drew
            refine ⟨⟨j + 1, max m p.token, by go_num, by omega, HNX', ?_, hR.chg cS (by omega) (fun e => nkw e.symm), hc.step cS (fun k hk => by have := HKB.out; omega)⟩, by simp [intOf]; omega⟩
            exact (kyC_3 (hK.set 3 (.int .i64 (max m p.token)))).chg (((Quiet.refl _).drew).chg (fun _ => False)) (by omega) id
          · have hkn : (p.key.toList == name.toList) = false := by
              rw [beq_eq_false_iff_ne]
              intro e
              rw [ByteArray.toList_eq, ByteArray.toList_eq] at e
              exact hke (ByteArray.ext (Array.toList_inj.1 e))
            have HNX' : Hid (heldOf name (Hs.take (j + 1)) = m) := by show _ = _; rw [HNX.out]; unfold heldOne; rw [if_neg hke]
            clear HNX hke
            go_wp2_with fail
            exact ⟨⟨j + 1, m, by go_num, by omega, HNX', hK, hR, hc⟩, by simp [intOf]; omega⟩
        · have hjl' : ¬ (j : Int) < (Hs.length : Int) := by omega
          have HMM : Hid (heldOf name Hs = m) := by
            show _ = _
            have := HM.out
            rw [List.take_of_length_le (by omega)] at this
            exact this
          have k0 : wr.cell? ⟨kb, 0, none⟩ = some (.string name) := hK.cell 0 (by omega)
          have k1 : wr.cell? ⟨kb, 1, none⟩ = some (.int .i64 cn) := hK.cell 1 (by omega)
          have k2 : wr.cell? ⟨kb, 2, none⟩ = some (.int .i64 f) := hK.cell 2 (by omega)
          have k3 : wr.cell? ⟨kb, 3, none⟩ = some (.int .i64 m) := hK.cell 3 (by omega)
          have r0 : wr.cell? ⟨w.heap.size, 0, none⟩ = some (.string { data := #[] }) := hR.cell 0 (by omega)
          have r1 : wr.cell? ⟨w.heap.size, 1, none⟩ = some (.int .i64 0) := hR.cell 1 (by omega)
          have r2 : wr.cell? ⟨w.heap.size, 2, none⟩ = some (.int .i64 0) := hR.cell 2 (by omega)
          have r3 : wr.cell? ⟨w.heap.size, 3, none⟩ = some (.int .i64 0) := hR.cell 3 (by omega)
          have g0 := hR.fz 0
          have g1 := hR.fz 1
          have g2 := hR.fz 2
          have g3 := hR.fz 3
          have nwk : ¬ w.heap.size = kb := fun e => nkw e.symm
          clear HM
          go_wp2_with fail
          have cS : Chg (fun k => k = w.heap.size) wr ((((wr.setCell ⟨w.heap.size, 0, none⟩ (.string name)).setCell ⟨w.heap.size, 1, none⟩ (.int .i64 cn)).setCell ⟨w.heap.size, 2, none⟩ (.int .i64 f)).setCell ⟨w.heap.size, 3, none⟩ (.int .i64 m)) := ((((Chg.refl (fun k => k = w.heap.size) wr).setCell (p := ⟨w.heap.size, 0, none⟩) (fun _ => rfl) _).setCell (p := ⟨w.heap.size, 1, none⟩) (fun _ => rfl) _).setCell (p := ⟨w.heap.size, 2, none⟩) (fun _ => rfl) _).setCell (p := ⟨w.heap.size, 3, none⟩) (fun _ => rfl) _
          refine bodyPost_ret (v := .agg #[.string name, .int .i64 cn, .int .i64 f, .int .i64 m]) ?_ rfl ⟨?_, hc.step cS (fun k hk => by omega)⟩
          · simp [results, Tryz.results86, go_sem, r0, r1, r2, r3]
          · rw [HTT.out, HMM.out]
end Go.Proofs.YthedkdbgfdjlkaaGreatDoor

namespace Go.Proofs.YthedkdbgfdjlkaaGreatDoor
set_option linter.unusedVariables false
set_option linter.unusedSimpArgs false
open Go.RowKit Go.Lib
set_option maxRecDepth 100000 in
set_option maxHeartbeats 1000000 in
theorem risKey_any (k : ByteArray) (w : World) (hk : k.size ≤ maxLen) :
    Calls Tryz.prog 82 #[.string k] w fun e w' => e = .returned (.bool (okKey k)) ∧ w' = w := by
  unfold maxLen at hk
  cases hl : k.data.toList with
  | nil =>
    have h0 : k.size = 0 := by show k.data.size = 0; rw [← Array.length_toList, hl]; rfl
    have hok : okKey k = false := by simp [okKey, hl]
    rw [hok]
    go_enter Tryz.func82, Tryz.ntmps82
    go_wp2
    go_ret
    exact ⟨rfl, rfl⟩
  | cons c r =>
    have h0 : 1 ≤ k.size := by show 1 ≤ k.data.size; rw [← Array.length_toList, hl]; simp
    have h0' : ¬ (k.size : Int) < 1 := by omega
    have hc : k[0] = c := by
      have : k.data.toList[0]'(by rw [hl]; simp) = c := by simp [hl]
      exact this
    by_cases h6 : k.size ≤ 6
    · have h6' : ¬ (6 : Int) < (k.size : Int) := by omega
      have hok : okKey k = okFirst c := by simp [okKey, hl, h6]
      rw [hok]
      have e1 : (((c.toNat : Int)) == 99) = (c == 99) := by simpa using toNat_beq c 99 (by omega)
      have e2 : (((c.toNat : Int)) == 115) = (c == 115) := by simpa using toNat_beq c 115 (by omega)
      have e3 : (((c.toNat : Int)) == 108) = (c == 108) := by simpa using toNat_beq c 108 (by omega)
      have e4 : (((c.toNat : Int)) == 109) = (c == 109) := by simpa using toNat_beq c 109 (by omega)
      obtain ⟨b1, hb1⟩ : ∃ b1, (c == 99) = b1 := ⟨_, rfl⟩
      obtain ⟨b2, hb2⟩ : ∃ b2, (c == 115) = b2 := ⟨_, rfl⟩
      obtain ⟨b3, hb3⟩ : ∃ b3, (c == 108) = b3 := ⟨_, rfl⟩
      obtain ⟨b4, hb4⟩ : ∃ b4, (c == 109) = b4 := ⟨_, rfl⟩
      have HF : Hid (okFirst c = (b1 || b2 || b3 || b4)) := by show _ = _; unfold okFirst; rw [hb1, hb2, hb3, hb4]
      rw [hb1] at e1
      rw [hb2] at e2
      rw [hb3] at e3
      rw [hb4] at e4
      clear hb1 hb2 hb3 hb4
      cases b1
      · cases b2
        · cases b3
          · cases b4
            all_goals
              go_enter Tryz.func82, Tryz.ntmps82
              go_wp2_with fail
              go_ret
              exact ⟨by rw [HF.out]; rfl, rfl⟩
          · go_enter Tryz.func82, Tryz.ntmps82
            go_wp2_with fail
            go_ret
            exact ⟨by rw [HF.out]; simp, rfl⟩
        · go_enter Tryz.func82, Tryz.ntmps82
          go_wp2_with fail
          go_ret
          exact ⟨by rw [HF.out]; simp, rfl⟩
      · go_enter Tryz.func82, Tryz.ntmps82
        go_wp2_with fail
        go_ret
        exact ⟨by rw [HF.out]; simp, rfl⟩
    · have hok : okKey k = false := by simp [okKey, hl, h6]
      rw [hok]
      have h6' : (6 : Int) < (k.size : Int) := by omega
      go_enter Tryz.func82, Tryz.ntmps82
      go_wp2
      go_ret
      exact ⟨rfl, rfl⟩
theorem recCells_tk : ∀ (l : List Rec) (m : Nat), (recCells l).take (m * 5) = recCells (l.take m)
  | [], m => by simp [recCells]
  | x :: r, 0 => by simp [recCells]
  | x :: r, m + 1 => by
    rw [show (m + 1) * 5 = m * 5 + 5 by omega]
    simp [recCells, Rec.cells, recCells_tk r m]
theorem recCells_dp : ∀ (l : List Rec) (m : Nat), (recCells l).drop (m * 5) = recCells (l.drop m)
  | [], m => by simp [recCells]
  | x :: r, 0 => by simp [recCells]
  | x :: r, m + 1 => by
    rw [show (m + 1) * 5 = m * 5 + 5 by omega]
    simp [recCells, Rec.cells, recCells_dp r m]
def drainR : Nat → Int → List Rec → List Rec → Int × List Rec × List Rec
  | 0, b, q, T => (b, q, T)
  | f + 1, b, q, T => match q[(idxR b q 0).toNat]? with
    | none => (b, q, T)
    | some x => if idxR b q 0 < 0 then (b, q, T) else drainR f (b + 1) (q.take (idxR b q 0).toNat ++ q.drop ((idxR b q 0).toNat + 1)) (T ++ [x])
theorem idxR_lt (m : Int) : ∀ (q : List Rec) (k : Nat), idxR m q k = -1 ∨ ∃ j : Nat, j < q.length ∧ idxR m q k = ((k + j : Nat) : Int)
  | [], k => .inl rfl
  | x :: r, k => by
    unfold idxR
    split
    · exact .inr ⟨0, by simp, by simp⟩
    · rcases idxR_lt m r (k + 1) with h | ⟨j, h1, h2⟩
      · exact .inl h
      · exact .inr ⟨j + 1, by simp; omega, by rw [h2]; congr 1; omega⟩
theorem drainR_stop (f : Nat) {b : Int} {q T : List Rec} (h : idxR b q 0 < 0) : drainR f b q T = (b, q, T) := by
  cases f with
  | zero => rfl
  | succ f =>
    unfold drainR
    split
    · rfl
    · rw [if_pos h]
theorem drainR_step (f : Nat) {b : Int} {q T : List Rec} {j : Nat} {y : Rec} (h : idxR b q 0 = (j : Int)) (hy : q[j]? = some y) : drainR (f + 1) b q T = drainR f (b + 1) (q.take j ++ q.drop (j + 1)) (T ++ [y]) := by
  have e : (idxR b q 0).toNat = j := by omega
  rw [drainR]
  simp only [e, hy]
  rw [if_neg (by omega)]
structure AccAt (w : World) (lo cb sb i : Nat) (E B : Nat → Int) (V : Nat → Value) (Q : Nat → List Rec) (te tb : Int) (vq vt : Value) (q T : List Rec) : Prop where
  ep : ∀ j, j < 4 → w.cell? ⟨cb, j * 3, none⟩ = some (.int .i64 (E j))
  ba : ∀ j, j < 4 → w.cell? ⟨cb, j * 3 + 1, none⟩ = some (.int .i64 (B j))
  qu : ∀ j, j < 4 → w.cell? ⟨cb, j * 3 + 2, none⟩ = some (V j)
  tk : w.cell? ⟨cb, 12, none⟩ = some vt
  fzc : ∀ j, w.frozen? ⟨cb, j, none⟩ = false
  s0 : w.cell? ⟨sb, 0, none⟩ = some (.int .i64 te)
  s1 : w.cell? ⟨sb, 1, none⟩ = some (.int .i64 tb)
  s2 : w.cell? ⟨sb, 2, none⟩ = some vq
  fzs : ∀ j, w.frozen? ⟨sb, j, none⟩ = false
  rows : ∀ j, j < 4 → j ≠ i → w.ownsRow lo 53 5 (V j) (Q j).length (recCells (Q j))
  taken : w.ownsRow lo 53 5 vt T.length (recCells T)
  row : w.ownsRow lo 53 5 vq q.length (recCells q)
  cs : cb ≠ sb
  cl : lo ≤ cb
  sl : lo ≤ sb
  oq : vq.ownBlock ≠ some cb ∧ vq.ownBlock ≠ some sb
  ot : vt.ownBlock ≠ some cb ∧ vt.ownBlock ≠ some sb
  ov : ∀ j, j < 4 → j ≠ i → (V j).ownBlock ≠ some cb ∧ (V j).ownBlock ≠ some sb
  qt : ∀ g, vq.ownBlock = some g → vt.ownBlock ≠ some g
  vq : ∀ j, j < 4 → j ≠ i → ∀ g, (V j).ownBlock = some g → vq.ownBlock ≠ some g ∧ vt.ownBlock ≠ some g
  vv : ∀ j k, j < 4 → k < 4 → j ≠ i → k ≠ i → j ≠ k → ∀ g, (V j).ownBlock = some g → (V k).ownBlock ≠ some g
  low : lo ≤ w.heap.size
section
variable {w w' : World} {lo cb sb i : Nat} {E B : Nat → Int} {V : Nat → Value} {Q : Nat → List Rec} {te tb : Int} {vq vt : Value} {q T : List Rec}
theorem AccAt.keep (h : AccAt w lo cb sb i E B V Q te tb vq vt q T) (c : Chg (fun _ => False) w w') : AccAt w' lo cb sb i E B V Q te tb vq vt q T :=
  { h with
    ep := fun j hj => c.cellAt (h.ep j hj) id
    ba := fun j hj => c.cellAt (h.ba j hj) id
    qu := fun j hj => c.cellAt (h.qu j hj) id
    tk := c.cellAt h.tk id
    fzc := fun j => (World.frozen?_of_block (w := w) (c.block cb (World.block_lt_of_cell? _ _ h.tk) id)).trans (h.fzc j)
    s0 := c.cellAt h.s0 id
    s1 := c.cellAt h.s1 id
    s2 := c.cellAt h.s2 id
    fzs := fun j => (World.frozen?_of_block (w := w) (c.block sb (World.block_lt_of_cell? _ _ h.s0) id)).trans (h.fzs j)
    rows := fun j hj hne => c.row' (h.rows j hj hne) (fun _ _ h => h)
    taken := c.row' h.taken (fun _ _ h => h)
    row := c.row' h.row (fun _ _ h => h)
    low := Nat.le_trans h.low c.size }
theorem AccAt.wait (h : AccAt w lo cb sb i E B V Q te tb vq vt q T) {w1 : World} {vq' : Value} {q' : List Rec} (c : Chg (fun k => vq.ownBlock = some k) w w1) (hr : w1.ownsRow lo 53 5 vq' q'.length (recCells q')) (hw : Wh w.heap.size vq vq') :
    AccAt (w1.setCell ⟨sb, 2, none⟩ vq') lo cb sb i E B V Q te tb vq' vt q' T ∧ Chg (fun k => lo ≤ k) w (w1.setCell ⟨sb, 2, none⟩ vq') := by
  have hcb : cb < w.heap.size := World.block_lt_of_cell? _ _ h.tk
  have hsb : sb < w.heap.size := World.block_lt_of_cell? _ _ h.s0
  have c2 : Chg (fun k => k = sb) w1 (w1.setCell ⟨sb, 2, none⟩ vq') := Chg.setCell (p := ⟨sb, 2, none⟩) (Chg.refl (fun k => k = sb) w1) (fun _ => rfl) _
  have call : Chg (fun k => k = sb ∨ vq.ownBlock = some k) w (w1.setCell ⟨sb, 2, none⟩ vq') := (c.mono (fun k hk => .inr hk)).trans c2 (fun _ _ h => .inl h)
  have hnc : ¬ (cb = sb ∨ vq.ownBlock = some cb) := fun e => e.elim h.cs h.oq.1
  have new : ∀ g, vq'.ownBlock = some g → vq.ownBlock = some g ∨ w.heap.size ≤ g := fun g hg => by
    rcases hw with e | e
    · exact .inl (by rw [← e]; exact hg)
    · exact .inr (e g hg)
  have nsb : vq'.ownBlock ≠ some sb := fun e => by
    rcases new _ e with h1 | h1
    · exact h.oq.2 h1
    · omega
  have keepr : ∀ {v : Value} {L : List Rec}, w.ownsRow lo 53 5 v L.length (recCells L) → v.ownBlock ≠ some sb → (∀ g, v.ownBlock = some g → vq.ownBlock ≠ some g) → (w1.setCell ⟨sb, 2, none⟩ vq').ownsRow lo 53 5 v L.length (recCells L) := fun hr h1 h2 => call.row' hr (fun k hk e => e.elim (fun e => h1 (by rw [← e]; exact hk)) (fun e => h2 k hk e))
  refine ⟨⟨fun j hj => call.cellAt (h.ep j hj) hnc, fun j hj => call.cellAt (h.ba j hj) hnc, fun j hj => call.cellAt (h.qu j hj) hnc, call.cellAt h.tk hnc, fun j => (World.frozen?_of_block (w := w) (call.block cb hcb hnc)).trans (h.fzc j), ?_, ?_, ?_, fun j => ?_, fun j hj hne => keepr (h.rows j hj hne) (h.ov j hj hne).2 (fun g hg => (h.vq j hj hne g hg).1), keepr h.taken h.ot.2 (fun g hg hq => h.qt g hq hg), ?_, h.cs, h.cl, h.sl, ⟨fun e => ?_, nsb⟩, h.ot, h.ov, fun g hg ht => ?_, fun j hj hne g hg => ⟨fun hq => ?_, (h.vq j hj hne g hg).2⟩, h.vv, Nat.le_trans h.low call.size⟩, call.mono (fun k hk => ?_)⟩
  · exact (World.cell?_setCell_other _ _ _ _ (by simp)).trans (c.cellAt h.s0 h.oq.2)
  · exact (World.cell?_setCell_other _ _ _ _ (by simp)).trans (c.cellAt h.s1 h.oq.2)
  · exact World.cell?_setCell_same _ _ _ (c.cellAt h.s2 h.oq.2)
  · rw [World.frozen?_setCell]
    exact (World.frozen?_of_block (w := w) (c.block sb hsb h.oq.2)).trans (h.fzs j)
  · exact c2.row' hr (fun k hk e => nsb (by rw [← e]; exact hk))
  · rcases new _ e with h1 | h1
    · exact h.oq.1 h1
    · omega
  · rcases new _ hg with h1 | h1
    · exact h.qt g h1 ht
    · have := (h.taken.lt g ht).2; omega
  · rcases new _ hq with h1 | h1
    · exact (h.vq j hj hne g hg).1 h1
    · have := ((h.rows j hj hne).lt g hg).2; omega
  · rcases hk with e | e
    · rw [e]; exact h.sl
    · exact (h.row.lt k e).1
theorem AccAt.take (h : AccAt w lo cb sb i E B V Q te tb vq vt q T) {w1 : World} {vt' : Value} {T' : List Rec} (c : Chg (fun k => vt.ownBlock = some k) w w1) (hr : w1.ownsRow lo 53 5 vt' T'.length (recCells T')) (hw : Wh w.heap.size vt vt') :
    AccAt (w1.setCell ⟨cb, 12, none⟩ vt') lo cb sb i E B V Q te tb vq vt' q T' ∧ Chg (fun k => lo ≤ k) w (w1.setCell ⟨cb, 12, none⟩ vt') := by
  have hcb : cb < w.heap.size := World.block_lt_of_cell? _ _ h.tk
  have hsb : sb < w.heap.size := World.block_lt_of_cell? _ _ h.s0
  have c2 : Chg (fun k => k = cb) w1 (w1.setCell ⟨cb, 12, none⟩ vt') := Chg.setCell (p := ⟨cb, 12, none⟩) (Chg.refl (fun k => k = cb) w1) (fun _ => rfl) _
  have call : Chg (fun k => k = cb ∨ vt.ownBlock = some k) w (w1.setCell ⟨cb, 12, none⟩ vt') := (c.mono (fun k hk => .inr hk)).trans c2 (fun _ _ h => .inl h)
  have hns : ¬ (sb = cb ∨ vt.ownBlock = some sb) := fun e => e.elim (fun e => h.cs e.symm) h.ot.2
  have new : ∀ g, vt'.ownBlock = some g → vt.ownBlock = some g ∨ w.heap.size ≤ g := fun g hg => by
    rcases hw with e | e
    · exact .inl (by rw [← e]; exact hg)
    · exact .inr (e g hg)
  have ncb : vt'.ownBlock ≠ some cb := fun e => by
    rcases new _ e with h1 | h1
    · exact h.ot.1 h1
    · omega
  have keepr : ∀ {v : Value} {L : List Rec}, w.ownsRow lo 53 5 v L.length (recCells L) → v.ownBlock ≠ some cb → (∀ g, v.ownBlock = some g → vt.ownBlock ≠ some g) → (w1.setCell ⟨cb, 12, none⟩ vt').ownsRow lo 53 5 v L.length (recCells L) := fun hr h1 h2 => call.row' hr (fun k hk e => e.elim (fun e => h1 (by rw [← e]; exact hk)) (fun e => h2 k hk e))
  have old : ∀ j v, j ≠ 12 → w.cell? ⟨cb, j, none⟩ = some v → (w1.setCell ⟨cb, 12, none⟩ vt').cell? ⟨cb, j, none⟩ = some v := fun j v hj hv => (World.cell?_setCell_other _ _ _ _ (by simp [hj])).trans (c.cellAt hv h.ot.1)
  refine ⟨⟨fun j hj => old _ _ (by omega) (h.ep j hj), fun j hj => old _ _ (by omega) (h.ba j hj), fun j hj => old _ _ (by omega) (h.qu j hj), World.cell?_setCell_same _ _ _ (c.cellAt h.tk h.ot.1), fun j => ?_, call.cellAt h.s0 hns, call.cellAt h.s1 hns, call.cellAt h.s2 hns, fun j => (World.frozen?_of_block (w := w) (call.block sb hsb hns)).trans (h.fzs j), fun j hj hne => keepr (h.rows j hj hne) (h.ov j hj hne).1 (fun g hg => (h.vq j hj hne g hg).2), ?_, keepr h.row h.oq.1 h.qt, h.cs, h.cl, h.sl, h.oq, ⟨ncb, fun e => ?_⟩, h.ov, fun g hg ht => ?_, fun j hj hne g hg => ⟨(h.vq j hj hne g hg).1, fun hq => ?_⟩, h.vv, Nat.le_trans h.low call.size⟩, call.mono (fun k hk => ?_)⟩
  · rw [World.frozen?_setCell]
    exact (World.frozen?_of_block (w := w) (c.block cb hcb h.ot.1)).trans (h.fzc j)
  · exact c2.row' hr (fun k hk e => ncb (by rw [← e]; exact hk))
  · rcases new _ e with h1 | h1
    · exact h.ot.2 h1
    · omega
  · rcases new _ ht with h1 | h1
    · exact h.qt g hg h1
    · have := (h.row.lt g hg).2; omega
  · rcases new _ hq with h1 | h1
    · exact (h.vq j hj hne g hg).2 h1
    · have := ((h.rows j hj hne).lt g hg).2; omega
  · rcases hk with e | e
    · rw [e]; exact h.cl
    · exact (h.taken.lt k e).1
theorem AccAt.base (h : AccAt w lo cb sb i E B V Q te tb vq vt q T) (b : Int) : AccAt (w.setCell ⟨sb, 1, none⟩ (.int .i64 b)) lo cb sb i E B V Q te b vq vt q T ∧ Chg (fun k => lo ≤ k) w (w.setCell ⟨sb, 1, none⟩ (.int .i64 b)) := by
  have c : Chg (fun k => k = sb) w (w.setCell ⟨sb, 1, none⟩ (.int .i64 b)) := Chg.setCell (p := ⟨sb, 1, none⟩) (Chg.refl (fun k => k = sb) w) (fun _ => rfl) _
  refine ⟨{ h with
    ep := fun j hj => c.cellAt (h.ep j hj) h.cs
    ba := fun j hj => c.cellAt (h.ba j hj) h.cs
    qu := fun j hj => c.cellAt (h.qu j hj) h.cs
    tk := c.cellAt h.tk h.cs
    fzc := fun j => by rw [World.frozen?_setCell]; exact h.fzc j
    s0 := (World.cell?_setCell_other _ _ _ _ (by simp)).trans h.s0
    s1 := World.cell?_setCell_same _ _ _ h.s1
    s2 := (World.cell?_setCell_other _ _ _ _ (by simp)).trans h.s2
    fzs := fun j => by rw [World.frozen?_setCell]; exact h.fzs j
    rows := fun j hj hne => c.row' (h.rows j hj hne) (fun k hk e => (h.ov j hj hne).2 (by rw [← e]; exact hk))
    taken := c.row' h.taken (fun k hk e => h.ot.2 (by rw [← e]; exact hk))
    row := c.row' h.row (fun k hk e => h.oq.2 (by rw [← e]; exact hk))
    low := Nat.le_trans h.low c.size }, c.mono (fun k hk => by rw [hk]; exact h.sl)⟩
end
end Go.Proofs.YthedkdbgfdjlkaaGreatDoor

namespace Go.Proofs.YthedkdbgfdjlkaaGreatDoor
set_option linter.unusedVariables false
set_option linter.unusedSimpArgs false
open Go.RowKit Go.Lib
theorem row_kinds {w : World} {lo lo' : Nat} {e e' : TypeId} {n m n' m' : Nat} {v v' : Value} {xs xs' : List Value} (h : w.ownsRow lo e n v m xs) (h' : w.ownsRow lo' e' n' v' m' xs') (hne : e ≠ e') : ∀ g, v.ownBlock = some g → v'.ownBlock ≠ some g := by
  intro g hg hg'
  rcases h.2 with ⟨hv, _⟩ | ⟨g1, cap, cur, hv, _, hh, _⟩
  · rw [hv] at hg; simp [Value.ownBlock] at hg
  · rcases h'.2 with ⟨hv', _⟩ | ⟨g2, cap', cur', hv', _, hh', _⟩
    · rw [hv'] at hg'; simp [Value.ownBlock] at hg'
    · rw [hv] at hg
      rw [hv'] at hg'
      simp only [Value.ownBlock, Option.map_some, Option.some.injEq] at hg hg'
      subst hg
      subst hg'
      rw [hh] at hh'
      simp at hh'
      exact hne hh'.2
def intCells (L : List Int) : List Value := L.map (.int .i64)
def numsR (q : List Rec) (b : Int) : Nat → List Int
  | 0 => []
  | n + 1 => numsR q b n ++ (if 0 ≤ idxR (b + n) q 0 then [b + n] else [])
theorem numsR_len (q : List Rec) (b : Int) : ∀ n, (numsR q b n).length ≤ n
  | 0 => by simp [numsR]
  | n + 1 => by
    have := numsR_len q b n
    simp only [numsR, List.length_append]
    split <;> simp <;> omega
def sessR (E B : Nat → Int) (U : Nat → Value) : Nat → List Value
  | 0 => []
  | n + 1 => sessR E B U n ++ [.int .i64 (E n), .int .i64 (B n), U n]
theorem sessR_same (E B : Nat → Int) (U : Nat → Value) (u : Value) (i : Nat) : ∀ n, n ≤ i → sessR E B (updV U i u) n = sessR E B U n
  | 0, _ => rfl
  | n + 1, h => by
    simp only [sessR]
    rw [sessR_same E B U u i n (by omega), updV_ne _ _ (by omega)]
theorem Tryz.infoSx : (Tryz.prog.info? 121).map (fun i => (i.zero, i.size, i.bytes)) = some (some (.agg #[.int .i64 0, .int .i64 0, .slice none 0 0]), 3, 40) := by kernel_rfl
theorem Tryz.infoIn : (Tryz.prog.info? 3).map (fun i => (i.zero, i.size, i.bytes)) = some (some (.int .i64 0), 1, 8) := by kernel_rfl
theorem Tryz.infoKy : (Tryz.prog.info? 87).map (fun i => (i.zero, i.size, i.bytes)) = some (some (.agg #[.string { data := #[] }, .int .i64 0, .int .i64 0, .int .i64 0]), 4, 40) := by kernel_rfl
def keysR (T : List Rec) (Hs : List Hd) (l : List ByteArray) : List Ky := l.map fun n => ⟨n, (tally n T).1, (tally n T).2, heldOf n Hs⟩
set_option maxHeartbeats 400000 in
theorem rstate_closed {w : World} {lo b : Nat} {E B : Nat → Int} {V : Nat → Value} {vt vh : Value} {Q : Nat → List Rec} {T : List Rec} {Hs : List Hd} (h : RefAt w lo b E B V vt vh Q T Hs true) :
    Calls Tryz.prog 48 #[.pointer (some ⟨b, 0, none⟩)] w fun e w' => e = .returned (.tuple #[.agg #[.slice none 0 0, .slice none 0 0], .int .i64 1]) ∧ Chg (fun _ => False) w w' := by
  have hcl := h.cl
  have hbl : b < w.heap.size := World.block_lt_of_cell? _ _ h.tk
  have hne : ¬ b = w.heap.size := by omega
  go_enter Tryz.func48, Tryz.ntmps48
  go_wp2_with fail
  refine bodyPost_ret (v := .tuple #[.agg #[.slice none 0 0, .slice none 0 0], .int .i64 1]) ?_ rfl ⟨rfl, ?_⟩
  · simp [results, Tryz.results48, go_sem]
  · have c1 : Chg (fun _ => False) w (w.alloc (Obj.cells #[.slice none 0 0, .slice none 0 0] 46)) := (Chg.refl _ w).alloc _
    first
      | exact c1
      | exact c1.step (((Chg.refl (fun k => k = w.heap.size) _).setCell (p := ⟨w.heap.size, 0, none⟩) (fun _ => rfl) _).setCell (p := ⟨w.heap.size, 1, none⟩) (fun _ => rfl) _) (fun k hk => by omega)
structure StAt (w : World) (n0 ob i : Nat) (E B : Nat → Int) (Q : Nat → List Rec) (vs : Value) (U : Nat → Value) : Prop where
  o : Blk w ob 2 (fun j => if j = 0 then vs else .slice none 0 0)
  r : Blk w n0 2 (fun _ => .slice none 0 0)
  vs : w.ownsRow (n0 + 2) 121 3 vs i (sessR E B U i)
  u : ∀ k, k < i → w.ownsRow (n0 + 2) 3 1 (U k) (numsR (Q k) (B k) 4).length (intCells (numsR (Q k) (B k) 4))
  z : n0 + 2 ≤ w.heap.size
  ho : ob = n0 + 1
theorem StAt.keep {F : Nat → Prop} {w w' : World} {n0 ob i : Nat} {E B : Nat → Int} {Q : Nat → List Rec} {vs : Value} {U : Nat → Value} (h : StAt w n0 ob i E B Q vs U) (c : Chg F w w') (hF : ∀ k, F k → w.heap.size ≤ k) : StAt w' n0 ob i E B Q vs U :=
  ⟨h.o.chg c (by omega) (fun e => by have := hF _ e; have := h.z; have := h.ho; omega), h.r.chg c (by omega) (fun e => by have := hF _ e; have := h.z; omega), c.row' h.vs (fun k hk e => by have := (h.vs.lt k hk).2; have := hF _ e; omega), fun k hk => c.row' (h.u k hk) (fun k' hk' e => by have := ((h.u k hk).lt k' hk').2; have := hF _ e; omega), Nat.le_trans h.z c.size, h.ho⟩
def xC (e b : Int) (u : Value) : Nat → Value := fun j => if j = 0 then .int .i64 e else if j = 1 then .int .i64 b else u
theorem xC_2 {w : World} {b : Nat} {e ba : Int} {u u' : Value} (hB : Blk w b 3 (updV (xC e ba u) 2 u')) : Blk w b 3 (xC e ba u') := by
  refine ⟨fun j hj => ?_, hB.fz⟩
  rw [hB.cell j hj]
  rcases (by omega : j = 0 ∨ j = 1 ∨ j = 2) with rfl | rfl | rfl <;> rfl
set_option maxRecDepth 100000 in
set_option maxHeartbeats 8000000 in
theorem rstate_open {w : World} {lo b : Nat} {E B : Nat → Int} {V : Nat → Value} {vt vh : Value} {Q : Nat → List Rec} {T : List Rec} {Hs : List Hd} (h : RefAt w lo b E B V vt vh Q T Hs false) (hT : T.length ≤ 1000) (hH : Hs.length ≤ 1000000000) (hq : ∀ i, i < 4 → (Q i).length ≤ 4) (hB : ∀ i, i < 4 → 0 ≤ B i ∧ B i ≤ 2000)
    (hv : ∀ x ∈ T, (0 ≤ x.value ∧ x.value ≤ 4294967295) ∧ okKey x.key = true) (ht : ∀ p ∈ Hs, 0 ≤ p.token ∧ p.token ≤ 1000) :
    Calls Tryz.prog 48 #[.pointer (some ⟨b, 0, none⟩)] w fun e w' => ∃ (vs vk : Value) (U : Nat → Value), e = .returned (.tuple #[.agg #[vs, vk], .int .i64 0]) ∧
      w'.ownsRow w.heap.size 121 3 vs 4 (sessR E B U 4) ∧ (∀ i, i < 4 → w'.ownsRow w.heap.size 3 1 (U i) (numsR (Q i) (B i) 4).length (intCells (numsR (Q i) (B i) 4))) ∧ w'.ownsRow w.heap.size 87 4 vk (keysR T Hs (namesR T [])).length (keyCells (keysR T Hs (namesR T []))) ∧ Chg (fun _ => False) w w' := by
  obtain ⟨i0, hi0, hz0, hz1, hz2⟩ := info_parts Tryz.infoSx
  obtain ⟨i1, hi1, hy0, hy1, hy2⟩ := info_parts Tryz.infoIn
  obtain ⟨i2, hi2, hx0, hx1, hx2⟩ := info_parts Tryz.infoKy
  have hcl := h.cl
  have hbl : b < w.heap.size := World.block_lt_of_cell? _ _ h.tk
  have hne : ¬ b = w.heap.size := by omega
  obtain ⟨W0, hW0⟩ : ∃ W0, W0 = (w.alloc (Obj.cells #[.slice none 0 0, .slice none 0 0] 46)).alloc (Obj.cells #[.slice none 0 0, .slice none 0 0] 46) := ⟨_, rfl⟩
  have c0 : Chg (fun _ => False) w W0 := by rw [hW0]; exact ((Chg.refl _ w).alloc _).alloc _
  have hs0 : W0.heap.size = w.heap.size + 2 := by rw [hW0]; simp
  have HS0 : Hid (W0.heap.size = w.heap.size + 2) := hs0
  have R0 : Blk W0 w.heap.size 2 (fun _ => .slice none 0 0) := by
    rw [hW0]
    have hh : w.heap.size < (w.alloc (Obj.cells #[.slice none 0 0, .slice none 0 0] 46)).heap.size := by simp
    refine ⟨fun j hj => ?_, fun j => ?_⟩
    · rw [World.cell?_alloc_lt _ _ _ hh]
      rcases (by omega : j = 0 ∨ j = 1) with rfl | rfl <;> exact World.cell?_alloc_at _ _ _ _ rfl
    · exact (World.frozen?_of_block (w := w.alloc _) (Below.heap_alloc _ _ _ hh)).trans (World.frozen?_alloc_at _ _ _ _ rfl)
  have O0 : Blk W0 (w.heap.size + 1) 2 (fun _ => .slice none 0 0) := by
    have e : w.heap.size + 1 = (w.alloc (Obj.cells #[.slice none 0 0, .slice none 0 0] 46)).heap.size := by simp
    rw [hW0, e]
    refine ⟨fun j hj => ?_, fun j => World.frozen?_alloc_at _ _ _ _ rfl⟩
    rcases (by omega : j = 0 ∨ j = 1) with rfl | rfl <;> exact World.cell?_alloc_at _ _ _ _ rfl
  obtain ⟨ob, hob⟩ : ∃ ob, ob = w.heap.size + 1 := ⟨_, rfl⟩
  have HOB : Hid (ob = w.heap.size + 1) := hob
  have now : ¬ ob = w.heap.size := by omega
  go_enter Tryz.func48, Tryz.ntmps48
  go_wp2_with fail
  rw [← hW0, ← hob]
  rw [← hob] at O0
  clear hW0 hs0 hob
  go_loopw [5, 6, 7, 8, 9] (fun si _ _ _ _ wr => ∃ (i : Nat) (vs : Value) (U : Nat → Value), si = .int .i64 i ∧ i ≤ 4 ∧ Blk wr ob 2 (fun j => if j = 0 then vs else .slice none 0 0) ∧ Blk wr w.heap.size 2 (fun _ => .slice none 0 0) ∧ wr.ownsRow (w.heap.size + 2) 121 3 vs i (sessR E B U i) ∧ (∀ k, k < i → wr.ownsRow (w.heap.size + 2) 3 1 (U k) (numsR (Q k) (B k) 4).length (intCells (numsR (Q k) (B k) 4))) ∧ Chg (fun _ => False) w wr ∧ w.heap.size + 2 ≤ wr.heap.size) (fun si _ _ _ _ _ => 4 - (intOf si).toNat)
  case atStart => exact ⟨0, .slice none 0 0, fun _ => .slice none 0 0, rfl, by omega, ⟨fun j hj => by rw [O0.cell j hj]; simp, O0.fz⟩, R0, World.ownsRow_nil _ _ _ _, fun k hk => by omega, c0, by rw [HS0.out]; omega⟩
  case round =>
    clear R0 O0 c0 HS0
    obtain ⟨i, vs, U, rfl, hi, hO, hR, hvs, hU, hc, hz⟩ := hrel
    by_cases hi4 : i < 4
    · have hi4' : (i : Int) < 4 := by omega
      have x0 := hc.cellAt (h.ep i hi4) id
      have x1 := hc.cellAt (h.ba i hi4) id
      have x2 := hc.cellAt (h.qu i hi4) id
      obtain ⟨pq, cq, hpq⟩ := row_any (h.rows i hi4)
      rw [hpq] at x2
      have hbi := hB i hi4
      have hqi := hq i hi4
      have HPQ : Hid (V i = .slice pq (Q i).length cq) := hpq
      clear hpq
      obtain ⟨W1, hW1⟩ : ∃ W1, W1 = (wr.alloc (Obj.cells #[.int .i64 (E i), .int .i64 (B i), .slice pq (Q i).length cq] 133)).alloc (Obj.cells #[.int .i64 (E i), .int .i64 (B i), .slice none 0 0] 121) := ⟨_, rfl⟩
      have c1 : Chg (fun _ => False) wr W1 := by rw [hW1]; exact ((Chg.refl _ wr).alloc _).alloc _
      obtain ⟨zz, hzz⟩ : ∃ zz, zz = wr.heap.size := ⟨_, rfl⟩
      have hsA : StAt wr w.heap.size ob i E B Q vs U := ⟨hO, hR, hvs, hU, hz, HOB.out⟩
      have HKP : Hid (∀ wq, Chg (fun k => zz ≤ k) W1 wq → StAt wq w.heap.size ob i E B Q vs U ∧ Chg (fun _ => False) w wq) := fun wq cq => by
        have cc : Chg (fun k => zz ≤ k) wr wq := (c1.mono (fun _ h => h.elim)).trans cq (fun _ _ h => h)
        exact ⟨hsA.keep cc (fun k hk => by omega), hc.step cc (fun k hk => by omega)⟩
      have hzw : w.heap.size + 2 ≤ zz := by omega
      have w1s : W1.heap.size = zz + 2 := by rw [hW1, hzz]; simp
      have sb1 : W1.cell? ⟨zz, 1, none⟩ = some (.int .i64 (B i)) := by
        rw [hW1, hzz, World.cell?_alloc_lt _ _ _ (by simp)]; exact World.cell?_alloc_at _ _ _ _ rfl
      have sb2 : W1.cell? ⟨zz, 2, none⟩ = some (.slice pq (Q i).length cq) := by
        rw [hW1, hzz, World.cell?_alloc_lt _ _ _ (by simp)]; exact World.cell?_alloc_at _ _ _ _ rfl
      have xb : Blk W1 (zz + 1) 3 (xC (E i) (B i) (.slice none 0 0)) := by
        have e : zz + 1 = (wr.alloc (Obj.cells #[.int .i64 (E i), .int .i64 (B i), .slice pq (Q i).length cq] 133)).heap.size := by rw [hzz]; simp
        rw [hW1, e]
        refine ⟨fun j hj => ?_, fun j => World.frozen?_alloc_at _ _ _ _ rfl⟩
        rcases (by omega : j = 0 ∨ j = 1 ∨ j = 2) with rfl | rfl | rfl <;> exact World.cell?_alloc_at _ _ _ _ rfl
      have W1S : Hid (W1.heap.size = zz + 2) := w1s
      go_wp2_with fail
      rw [← hW1, ← hzz]
      clear hW1 hzz hsA hO hR hvs hU hc hz c1 x0 x1 x2 w1s
      go_loopw [8, 9] (fun s8 _ wq => ∃ (n : Nat) (vu : Value), s8 = .int .i64 (B i + n) ∧ n ≤ 4 ∧ wq.cell? ⟨zz, 1, none⟩ = some (.int .i64 (B i)) ∧ wq.cell? ⟨zz, 2, none⟩ = some (.slice pq (Q i).length cq) ∧ Blk wq (zz + 1) 3 (xC (E i) (B i) vu) ∧ wq.ownsRow (zz + 2) 3 1 vu (numsR (Q i) (B i) n).length (intCells (numsR (Q i) (B i) n)) ∧ Chg (fun k => zz ≤ k) W1 wq ∧ zz + 2 ≤ wq.heap.size) (fun s8 _ _ => (B i + 4 - intOf s8).toNat)
      case atStart => exact ⟨0, .slice none 0 0, by simp, by omega, sb1, sb2, xb, World.ownsRow_nil _ _ _ _, Chg.refl _ _, by rw [W1S.out]; omega⟩
      case round =>
        clear sb1 sb2 xb
        obtain ⟨n, vu, rfl, hn, sb1, sb2, xb, hvu, cq1, hzq⟩ := hrel
        have x2 : wr.cell? ⟨zz + 1, 2, none⟩ = some vu := xb.cell 2 (by omega)
        have f2 := xb.fz 2
        by_cases hn4 : n < 4
        · have hn4' : (B i) + (n : Int) < B i + 4 := by omega
          obtain ⟨hS, hcw⟩ := HKP.out wr cq1
          have hwt := waits_any (B i + n) (o := 0) sb2 (by have := hcw.row' (h.rows i hi4) (fun _ _ h => h); rw [HPQ.out] at this; exact this) (by omega)
          have hidx := idxR_lt (B i + n) (Q i) 0
          obtain ⟨ix, hix⟩ : ∃ ix, ix = idxR (B i + n) (Q i) 0 := ⟨_, rfl⟩
          rw [← hix] at hwt hidx
          have hixr : -1 ≤ ix ∧ ix ≤ 10 := by rcases hidx with e | ⟨j, e1, e2⟩ <;> omega
          have hnl := numsR_len (Q i) (B i) n
          have HNX : Hid (numsR (Q i) (B i) (n + 1) = numsR (Q i) (B i) n ++ (if 0 ≤ ix then [B i + n] else [])) := by show _ = _; rw [hix]; rfl
          clear hix hidx
          go_wp2_with fail
          refine hwt.mono ?_
          rintro _ w3 ⟨rfl, ew⟩
          rw [ew]
          clear ew w3 hwt
          by_cases hx : 0 ≤ ix
          · have HNX' : Hid (numsR (Q i) (B i) (n + 1) = numsR (Q i) (B i) n ++ [B i + n]) := by show _ = _; rw [HNX.out, if_pos hx]
            obtain ⟨v5, w5, hrun, o5, g5, e5⟩ := run_append_where (P := Tryz.prog) (wr.alloc (Obj.cells #[.int .i64 (B i + n)] 3)) (zz + 2) 36 36 3 i1 _ 1 8 Tryz.underlying36 hi1 hy0 hy1 hy2 rfl (by decide) _ _ _ (hvu.alloc _) ⟨wr.heap.size, 0, none⟩ 1 1 [.int .i64 (B i + n)] rfl (fun j y hj => by rw [add_lit', Nat.zero_add]; rcases j with _ | j <;> simp at hj; subst hj; exact World.cell?_alloc_at _ _ _ _ rfl) (by simp [Value.oneCell']) (by unfold maxLen; omega) (by omega) (by simp; omega)
            have c5 : Chg (fun g => vu.ownBlock = some g) wr w5 := ((Chg.refl (fun g => vu.ownBlock = some g) wr).alloc _).trans (G := fun g => vu.ownBlock = some g) ⟨g5.os, g5.tape, g5.output, g5.size, fun k hk hne => g5.block k hk (fun e => hne e.symm)⟩ (fun _ _ h => h)
            have hvl : ∀ g, vu.ownBlock = some g → zz + 2 ≤ g := fun g hg => (hvu.lt g hg).1
            have nz : vu.ownBlock ≠ some zz := fun e => by have := hvl _ e; omega
            have nz1 : vu.ownBlock ≠ some (zz + 1) := fun e => by have := hvl _ e; omega
            have xb5 := xb.chg c5 (by omega) nz1
            have y2 : w5.cell? ⟨zz + 1, 2, none⟩ = some vu := xb5.cell 2 (by omega)
            have g2 := xb5.fz 2
            obtain ⟨p5, k5, hp5⟩ := row_any o5
            subst hp5
            have cS : Chg (fun k => k = zz + 1) w5 (w5.setCell ⟨zz + 1, 2, none⟩ (.slice p5 ((numsR (Q i) (B i) n).length + 1) k5)) := (Chg.refl (fun k => k = zz + 1) w5).setCell (p := ⟨zz + 1, 2, none⟩) (fun _ => rfl) _
            have cT : Chg (fun k => zz ≤ k) wr (w5.setCell ⟨zz + 1, 2, none⟩ (.slice p5 ((numsR (Q i) (B i) n).length + 1) k5)) := (c5.mono (fun k hk => by have := hvl k hk; omega)).trans cS (fun k _ hk => by omega)
            have n5 : (Value.slice p5 ((numsR (Q i) (B i) n).length + 1) k5).ownBlock ≠ some (zz + 1) := fun e => by have := (o5.lt _ e).1; omega
            go_wp2_with (at_builtin; refine Lib.wpList_append_run _ rfl (.tmp 47) (.tmp 49) 36 36 rfl _ _ rfl rfl (.slice p5 ((numsR (Q i) (B i) n).length + 1) k5) w5 hrun ?_)
            refine ⟨⟨n + 1, .slice p5 ((numsR (Q i) (B i) n).length + 1) k5, by simp; omega, by omega, ?_, ?_, xC_2 (xb5.set 2 _), ?_, cq1.trans cT (fun _ _ h => h), Nat.le_trans hzq cT.size⟩, by simp [intOf]; omega⟩
            · exact cS.cellAt (c5.cellAt sb1 nz) (by omega)
            · exact cS.cellAt (c5.cellAt sb2 nz) (by omega)
            · rw [HNX'.out]
              have := cS.row' o5 (fun k hk e => n5 (by rw [← e]; exact hk))
              simpa [intCells] using this
          · have HNX' : Hid (numsR (Q i) (B i) (n + 1) = numsR (Q i) (B i) n) := by show _ = _; rw [HNX.out, if_neg hx]; simp
            go_wp2_with fail
            exact ⟨⟨n + 1, vu, by simp; omega, by omega, sb1, sb2, xb, by rw [HNX'.out]; exact hvu, cq1, hzq⟩, by simp [intOf]; omega⟩
        · have hn4' : ¬ (B i) + (n : Int) < B i + 4 := by omega
          obtain rfl : n = 4 := by omega
          obtain ⟨hS, hcw⟩ := HKP.out wr cq1
          obtain ⟨pu, ku, hpu⟩ := row_any hvu
          subst hpu
          have hvu' : wr.ownsRow (w.heap.size + 2) 3 1 (.slice pu (numsR (Q i) (B i) 4).length ku) (numsR (Q i) (B i) 4).length (intCells (numsR (Q i) (B i) 4)) := row_lower hvu (by omega)
          obtain ⟨v6, w6, hrun, o6, g6, e6⟩ := run_append_where (P := Tryz.prog) (wr.alloc (Obj.cells #[.int .i64 (E i), .int .i64 (B i), .slice pu (numsR (Q i) (B i) 4).length ku] 121)) (w.heap.size + 2) 43 43 121 i0 _ 3 40 Tryz.underlying43 hi0 hz0 hz1 hz2 rfl (by decide) _ _ _ (hS.vs.alloc _) ⟨wr.heap.size, 0, none⟩ 1 1 [.int .i64 (E i), .int .i64 (B i), .slice pu (numsR (Q i) (B i) 4).length ku] rfl (fun j y hj => by rw [add_lit', Nat.zero_add]; rcases j with _ | _ | _ | j <;> simp at hj <;> subst hj <;> exact World.cell?_alloc_at _ _ _ _ rfl) (by simp [Value.oneCell']) (by unfold maxLen; omega) (by omega) (by have := hS.z; simp; omega)
          have c6 : Chg (fun g => vs.ownBlock = some g) wr w6 := ((Chg.refl (fun g => vs.ownBlock = some g) wr).alloc _).trans (G := fun g => vs.ownBlock = some g) ⟨g6.os, g6.tape, g6.output, g6.size, fun k hk hne => g6.block k hk (fun e => hne e.symm)⟩ (fun _ _ h => h)
          have hvl : ∀ g, vs.ownBlock = some g → w.heap.size + 2 ≤ g := fun g hg => (hS.vs.lt g hg).1
          have no : vs.ownBlock ≠ some ob := fun e => by have := hvl _ e; have := HOB.out; omega
          have nr : vs.ownBlock ≠ some w.heap.size := fun e => by have := hvl _ e; omega
          obtain ⟨p6, k6, hp6⟩ := row_any o6
          subst hp6
          have hO6 := hS.o.chg c6 (by omega) no
          have o0 : wr.cell? ⟨ob, 0, none⟩ = some vs := hS.o.cell 0 (by omega)
          have o0' : w6.cell? ⟨ob, 0, none⟩ = some vs := hO6.cell 0 (by omega)
          have of := hO6.fz 0
          have q0 : wr.cell? ⟨zz + 1, 0, none⟩ = some (.int .i64 (E i)) := xb.cell 0 (by omega)
          have q1 : wr.cell? ⟨zz + 1, 1, none⟩ = some (.int .i64 (B i)) := xb.cell 1 (by omega)
          have cS : Chg (fun k => k = ob) w6 (w6.setCell ⟨ob, 0, none⟩ (.slice p6 (i + 1) k6)) := (Chg.refl (fun k => k = ob) w6).setCell (p := ⟨ob, 0, none⟩) (fun _ => rfl) _
          have n6 : (Value.slice p6 (i + 1) k6).ownBlock ≠ some ob := fun e => by have := (o6.lt _ e).1; have := HOB.out; omega
          have ci : ∀ {v : Value} {L : List Int}, wr.ownsRow (w.heap.size + 2) 3 1 v L.length (intCells L) → (w6.setCell ⟨ob, 0, none⟩ (.slice p6 (i + 1) k6)).ownsRow (w.heap.size + 2) 3 1 v L.length (intCells L) := fun hr => cS.row' (c6.row' hr (fun g hg e => row_kinds hr hS.vs (by decide) g hg e)) (fun k hk e => by have := (hr.lt k hk).1; have := HOB.out; omega)
          go_wp2_with (at_builtin; refine Lib.wpList_append_run _ rfl (.tmp 53) (.tmp 55) 43 43 rfl _ _ rfl rfl (.slice p6 (i + 1) k6) w6 hrun ?_)
          refine ⟨⟨i + 1, .slice p6 (i + 1) k6, updV U i (.slice pu (numsR (Q i) (B i) 4).length ku), by go_num, by omega, ?_, (hS.r.chg c6 (by omega) nr).chg cS (by omega) (fun e => now e.symm), ?_, fun k hk => ?_, (hcw.step c6 (fun k hk => by have := hvl k hk; omega)).step cS (fun k hk => by have := HOB.out; omega), ?_⟩, by simp [intOf]; omega⟩
          · have hb := hO6.set 0 (.slice p6 (i + 1) k6)
            refine ⟨fun j hj => ?_, hb.fz⟩
            rw [hb.cell j hj]
            rcases (by omega : j = 0 ∨ j = 1) with rfl | rfl <;> rfl
          · have := cS.row' o6 (fun k hk e => n6 (by rw [← e]; exact hk))
            simp only [sessR]
            rw [sessR_same _ _ _ _ _ _ (Nat.le_refl _), updV_same]
            exact this
          · by_cases e : k = i
            · subst e; rw [updV_same]; exact ci hvu'
            · rw [updV_ne _ _ e]; exact ci (hS.u k (by omega))
          · have h1 := hS.z
            have h2 := c6.size
            have h3 := cS.size
            omega
    · have hi4' : ¬ (i : Int) < 4 := by omega
      obtain rfl : i = 4 := by omega
      have hnm := rnames_any (hc.cellAt h.tk id) (hc.row' h.taken (fun _ _ h => h)) hT
      go_wp2_with fail
      refine hnm.mono ?_
      rintro _ w7 ⟨vn, rfl, o7, c7⟩
      clear hnm
      have hS7 : StAt w7 w.heap.size ob 4 E B Q vs U := (⟨hO, hR, hvs, hU, hz, HOB.out⟩ : StAt wr w.heap.size ob 4 E B Q vs U).keep c7 (fun _ h => h.elim)
      have hc7 := hc.trans c7 (fun _ _ h => h)
      obtain ⟨nl, hnl⟩ : ∃ nl, nl = namesR T [] := ⟨_, rfl⟩
      rw [← hnl] at o7
      have HNL : Hid (nl = namesR T []) := hnl
      have hnll : nl.length ≤ 1000 := by rw [hnl]; have := namesR_len T []; simp at this; omega
      have hnk : ∀ n ∈ nl, ∃ c r, n.data.toList = c :: r := fun n hn => by
        rw [hnl] at hn
        rcases (namesR_mem T [] n).1 hn with h | ⟨x, hx, e⟩
        · simp at h
        · have := (hv x hx).2
          rw [e] at this
          unfold okKey at this
          cases hd : n.data.toList with
          | nil => rw [hd] at this; cases this
          | cons c r => exact ⟨c, r, rfl⟩
      obtain ⟨pn, cn, rfl⟩ := row_any o7
      have hz7 : w.heap.size + 2 ≤ wr.heap.size := hz
      have on7 : w7.ownsRow (w.heap.size + 2) 9 1 (.slice pn nl.length cn) nl.length (strCells nl) := row_lower o7 hz
      clear hnl hO hR hvs hU o7
      go_wp2_with fail
      go_loopw [11, 12] (fun s11 _ wq => ∃ (j : Nat) (vk : Value), s11 = .int .i64 j ∧ j ≤ nl.length ∧ Blk wq ob 2 (fun k => if k = 0 then vs else vk) ∧ Blk wq w.heap.size 2 (fun _ => .slice none 0 0) ∧ wq.ownsRow (w.heap.size + 2) 87 4 vk j (keyCells (keysR T Hs (nl.take j))) ∧ wq.ownsRow (w.heap.size + 2) 121 3 vs 4 (sessR E B U 4) ∧ (∀ k, k < 4 → wq.ownsRow (w.heap.size + 2) 3 1 (U k) (numsR (Q k) (B k) 4).length (intCells (numsR (Q k) (B k) 4))) ∧ wq.ownsRow (w.heap.size + 2) 9 1 (.slice pn nl.length cn) nl.length (strCells nl) ∧ Chg (fun _ => False) w wq ∧ w.heap.size + 2 ≤ wq.heap.size) (fun s11 _ _ => nl.length - (intOf s11).toNat)
      case atStart => exact ⟨0, .slice none 0 0, rfl, by omega, ⟨fun j hj => hS7.o.cell j hj, hS7.o.fz⟩, hS7.r, World.ownsRow_nil _ _ _ _, hS7.vs, hS7.u, on7, hc7, hS7.z⟩
      case round =>
        clear hS7 hc7 on7 c7 hc hz hz7
        obtain ⟨j, vk, rfl, hj, hO, hR, hvk, hvs, hU, hnn, hc, hz⟩ := hrel
        by_cases hjl : j < nl.length
        · have hjl' : (j : Int) < (nl.length : Int) := by omega
          obtain ⟨nm, hnm⟩ : ∃ nm, nl[j]? = some nm := ⟨_, List.getElem?_eq_getElem hjl⟩
          obtain ⟨gn, cn', hvn, _, _, hcell⟩ := row_pos hnn (by omega)
          simp only [Value.slice.injEq] at hvn
          obtain ⟨rfl, _, rfl⟩ := hvn
          have m0 := hcell _ _ (strCells_at hnm)
          obtain ⟨c, r, hcr⟩ := hnk nm (List.mem_of_getElem? hnm)
          have hky := rkeyX_any hcr (hc.cellAt h.tk id) (hc.row' h.taken (fun _ _ h => h)) (hc.cellAt h.hd id) (hc.row' h.held (fun _ _ h => h)) (by omega) hH (fun x hx => (hv x hx).1) ht
          obtain ⟨kk, hkk⟩ : ∃ kk : Ky, kk = ⟨nm, (tally nm T).1, (tally nm T).2, heldOf nm Hs⟩ := ⟨_, rfl⟩
          have HKK : Hid (keysR T Hs (nl.take (j + 1)) = keysR T Hs (nl.take j) ++ [kk]) := by
            show _ = _
            obtain ⟨hl, e⟩ := List.getElem?_eq_some_iff.1 hnm
            unfold keysR
            rw [List.take_succ_eq_append_getElem hl, e, List.map_append, hkk]
            rfl
          have hky' : Calls Tryz.prog 86 #[.pointer (some ⟨b, 0, none⟩), .string nm] wr fun e w' => e = .returned (.agg #[.string kk.name, .int .i64 kk.count, .int .i64 kk.fold, .int .i64 kk.held]) ∧ Chg (fun _ => False) wr w' := by rw [hkk]; exact hky
          clear hky hkk hcell hcr hnm
          have hkl : (keysR T Hs (nl.take j)).length = j := by unfold keysR; simp; omega
          go_wp2_with fail
          refine hky'.mono ?_
          rintro _ w8 ⟨rfl, c8⟩
          clear hky'
          obtain ⟨W9, hW9⟩ : ∃ W9, W9 = w8.alloc (Obj.cells #[.string kk.name, .int .i64 kk.count, .int .i64 kk.fold, .int .i64 kk.held] 87) := ⟨_, rfl⟩
          have c9 : Chg (fun _ => False) wr W9 := c8.trans (by rw [hW9]; exact (Chg.refl _ w8).alloc _) (fun _ _ h => h)
          have hs9 : W9.heap.size = w8.heap.size + 1 := by rw [hW9]; simp
          obtain ⟨v6, w6, hrun, o6, g6, e6⟩ := run_append_where (P := Tryz.prog) (W9.alloc (Obj.cells #[.string kk.name, .int .i64 kk.count, .int .i64 kk.fold, .int .i64 kk.held] 87)) (w.heap.size + 2) 44 44 87 i2 _ 4 40 Tryz.underlying44 hi2 hx0 hx1 hx2 rfl (by decide) _ _ _ ((c9.row' hvk (fun _ _ h => h)).alloc _) ⟨W9.heap.size, 0, none⟩ 1 1 [.string kk.name, .int .i64 kk.count, .int .i64 kk.fold, .int .i64 kk.held] rfl (fun j y hj => by rw [add_lit', Nat.zero_add]; rcases j with _ | _ | _ | _ | j <;> simp at hj <;> subst hj <;> exact World.cell?_alloc_at _ _ _ _ rfl) (by simp [Value.oneCell']) (by unfold maxLen; omega) (by omega) (by have := c9.size; simp; omega)
          have c6 : Chg (fun g => vk.ownBlock = some g) wr w6 := ((c9.mono (G := fun g => vk.ownBlock = some g) (fun _ h => h.elim)).alloc _).trans (G := fun g => vk.ownBlock = some g) ⟨g6.os, g6.tape, g6.output, g6.size, fun k hk hne => g6.block k hk (fun e => hne e.symm)⟩ (fun _ _ h => h)
          have hvl : ∀ g, vk.ownBlock = some g → w.heap.size + 2 ≤ g := fun g hg => (hvk.lt g hg).1
          have no : vk.ownBlock ≠ some ob := fun e => by have := hvl _ e; have := HOB.out; omega
          have nr : vk.ownBlock ≠ some w.heap.size := fun e => by have := hvl _ e; omega
          obtain ⟨p6, k6, hp6⟩ := row_any o6
          subst hp6
          have hO6 := hO.chg c6 (by omega) no
          have o1 : w8.cell? ⟨ob, 1, none⟩ = some vk := (hO.chg c8 (by omega) id).cell 1 (by omega)
          have o1a : ∀ o, (w8.alloc o).cell? ⟨ob, 1, none⟩ = some vk := fun o => (World.cell?_alloc_lt w8 o _ (World.block_lt_of_cell? _ _ o1)).trans o1
          have o1b : ∀ o o', ((w8.alloc o).alloc o').cell? ⟨ob, 1, none⟩ = some vk := fun o o' => (World.cell?_alloc_lt _ o' _ (World.block_lt_of_cell? _ _ (o1a o))).trans (o1a o)
          have o1' : w6.cell? ⟨ob, 1, none⟩ = some vk := hO6.cell 1 (by omega)
          have of := hO6.fz 1
          have cS : Chg (fun k => k = ob) w6 (w6.setCell ⟨ob, 1, none⟩ (.slice p6 (j + 1) k6)) := (Chg.refl (fun k => k = ob) w6).setCell (p := ⟨ob, 1, none⟩) (fun _ => rfl) _
          have n6 : (Value.slice p6 (j + 1) k6).ownBlock ≠ some ob := fun e => by have := (o6.lt _ e).1; have := HOB.out; omega
          have ci : ∀ {e : TypeId} {n m : Nat} {v : Value} {xs : List Value}, wr.ownsRow (w.heap.size + 2) e n v m xs → e ≠ 87 → (w6.setCell ⟨ob, 1, none⟩ (.slice p6 (j + 1) k6)).ownsRow (w.heap.size + 2) e n v m xs := fun hr hne => cS.row' (c6.row' hr (fun g hg e => row_kinds hr hvk hne g hg e)) (fun k hk e => by have := (hr.lt k hk).1; have := HOB.out; omega)
          rw [hs9, hW9] at hrun
          clear hW9 hs9
          go_wp2_with (at_builtin; refine Lib.wpList_append_run _ rfl (.tmp 73) (.tmp 75) 44 44 rfl _ _ rfl rfl (.slice p6 (j + 1) k6) w6 hrun ?_)
          refine ⟨⟨j + 1, .slice p6 (j + 1) k6, by go_num, by omega, ?_, (hR.chg c6 (by omega) nr).chg cS (by omega) (fun e => now e.symm), ?_, ci hvs (by decide), fun k hk => ci (hU k hk) (by decide), ci hnn (by decide), (hc.step c6 (fun k hk => by have := hvl k hk; omega)).step cS (fun k hk => by have := HOB.out; omega), ?_⟩, by simp [intOf]; omega⟩
          · have hb := hO6.set 1 (.slice p6 (j + 1) k6)
            refine ⟨fun k hk => ?_, hb.fz⟩
            rw [hb.cell k hk]
            rcases (by omega : k = 0 ∨ k = 1) with rfl | rfl <;> rfl
          · have := cS.row' o6 (fun k hk e => n6 (by rw [← e]; exact hk))
            rw [HKK.out]
            have ek : ∀ (a : List Ky) (k : Ky), keyCells (a ++ [k]) = keyCells a ++ [.string k.name, .int .i64 k.count, .int .i64 k.fold, .int .i64 k.held] := fun a => by
              induction a with
              | nil => intro k; rfl
              | cons y r ih => intro k; simp [keyCells, ih]
            rw [ek]
            exact this
          · have h2 := c6.size
            have h3 := cS.size
            omega
        · have hjl' : ¬ (j : Int) < (nl.length : Int) := by omega
          obtain rfl : j = nl.length := by omega
          rw [List.take_length] at hvk
          obtain ⟨ps, ks, rfl⟩ := row_any hvs
          obtain ⟨pk, kk, rfl⟩ := row_any hvk
          have o0 : wr.cell? ⟨ob, 0, none⟩ = some (.slice ps 4 ks) := hO.cell 0 (by omega)
          have o1 : wr.cell? ⟨ob, 1, none⟩ = some (.slice pk nl.length kk) := hO.cell 1 (by omega)
          have r0 : wr.cell? ⟨w.heap.size, 0, none⟩ = some (.slice none 0 0) := hR.cell 0 (by omega)
          have r1 : wr.cell? ⟨w.heap.size, 1, none⟩ = some (.slice none 0 0) := hR.cell 1 (by omega)
          have g0 := hR.fz 0
          have g1 := hR.fz 1
          have nwo : ¬ w.heap.size = ob := fun e => now e.symm
          go_wp2_with fail
          have cS : Chg (fun k => k = w.heap.size) wr ((wr.setCell ⟨w.heap.size, 0, none⟩ (.slice ps 4 ks)).setCell ⟨w.heap.size, 1, none⟩ (.slice pk nl.length kk)) := ((Chg.refl (fun k => k = w.heap.size) wr).setCell (p := ⟨w.heap.size, 0, none⟩) (fun _ => rfl) _).setCell (p := ⟨w.heap.size, 1, none⟩) (fun _ => rfl) _
          have lw : ∀ {e : TypeId} {n m : Nat} {v : Value} {xs : List Value}, wr.ownsRow (w.heap.size + 2) e n v m xs → ((wr.setCell ⟨w.heap.size, 0, none⟩ (.slice ps 4 ks)).setCell ⟨w.heap.size, 1, none⟩ (.slice pk nl.length kk)).ownsRow w.heap.size e n v m xs := fun hr => row_lower (cS.row' hr (fun k hk e => by have := (hr.lt k hk).1; omega)) (by omega)
          refine bodyPost_ret (v := .tuple #[.agg #[.slice ps 4 ks, .slice pk nl.length kk], .int .i64 0]) ?_ rfl ⟨_, _, rfl, U, lw hvs, fun k hk => lw (hU k hk), ?_, hc.step cS (fun k hk => by omega)⟩
          · simp [results, Tryz.results48, go_sem, r0, r1]
          · have hkl : (keysR T Hs nl).length = nl.length := by unfold keysR; simp
            rw [← HNL.out, hkl]
            exact lw hvk
end Go.Proofs.YthedkdbgfdjlkaaGreatDoor

namespace Go.Proofs.YthedkdbgfdjlkaaGreatDoor
set_option linter.unusedVariables false
set_option linter.unusedSimpArgs false
open Go.RowKit Go.Lib
theorem Mk.step {w w' : World} {sz off : Nat} {x : Int} {u v : Value} (h : Mk w sz off x u) (hc : Chg (fun k => v.ownBlock = some k) w w') (hi : ∀ g, v.ownBlock = some g → Ink sz off x g w w') : Mk w' sz off x u := by
  refine h.ink (fun g hg => ?_)
  by_cases e : v.ownBlock = some g
  · exact hi g e
  · exact fun j u hu => .inl (hc.cellAt hu e)
def Lst (s n : Nat) (v u : Value) : Prop := Wh s v u ∧ ∃ p m k, u = .slice p m k ∧ m ≤ n + 3 ∧ (u = v ∨ 0 < m)
theorem Tryz.infoLI : (Tryz.prog.info? 36).map (fun i => (i.zero, i.size, i.bytes)) = some (some (.slice none 0 0), 1, 24) := by kernel_rfl
theorem Mk.whole {w : World} {lo : Nat} {v : Value} {n : Nat} {x : Int} (h : w.ownsRow lo 3 1 v n (List.replicate n (.int .i64 x))) : Mk w 1 0 x v := by
  rcases h.2 with ⟨hv, _⟩ | ⟨g, cap, cur, hv, _⟩
  · exact .inl ⟨0, hv⟩
  · refine .inr ⟨g, n, cap, hv, fun j hj => ?_⟩
    subst hv
    rw [Nat.mul_one, Nat.add_zero]
    exact row_cell h (by simp [hj])
set_option maxRecDepth 100000 in
set_option maxHeartbeats 4000000 in
theorem mints_any {w : World} {lo mb o : Nat} {vI v : Value} {vals xs : List Value} {n : Nat} (hc : w.cell? ⟨mb, o, none⟩ = some vI) (hf : ∀ j, w.frozen? ⟨mb, j, none⟩ = false) (hr : w.ownsRow lo 36 1 vI vals.length vals) (hl : w.ownsRow lo 3 1 v n xs) (hn : n ≤ 1000) (hlen : vals.length ≤ 1000000000) (hIm : vI.ownBlock ≠ some mb) (hvm : v.ownBlock ≠ some mb) (hlo : lo ≤ w.heap.size) :
    Calls Tryz.prog 88 #[.pointer (some ⟨mb, o, none⟩), v] w fun e w' => ∃ vI' v1 v2 v3, e = .returned (.tuple #[]) ∧ w'.cell? ⟨mb, o, none⟩ = some vI' ∧ w'.ownsRow lo 36 1 vI' (vals.length + 4) (vals ++ [v, v1, v2, v3]) ∧
      (∀ u, u = v ∨ u = v1 ∨ u = v2 ∨ u = v3 → Mk w' 1 0 (1000000 + ((vals.length / 4 : Nat) : Int)) u ∧ Lst w.heap.size n v u) ∧ Wh w.heap.size vI vI' ∧ Slots mb (fun j => j = o) w w' ∧ Chg (fun k => k = mb ∨ vI.ownBlock = some k ∨ v.ownBlock = some k) w w' := by
  obtain ⟨i1, hi1, hy0, hy1, hy2⟩ := info_parts Tryz.infoIn
  obtain ⟨i2, hi2, hx0, hx1, hx2⟩ := info_parts Tryz.infoLI
  have hmb : mb < w.heap.size := World.block_lt_of_cell? _ _ hc
  obtain ⟨X, hX⟩ : ∃ X : Int, X = 1000000 + ((vals.length / 4 : Nat) : Int) := ⟨_, rfl⟩
  have hXr : 0 ≤ X ∧ X ≤ 2000000000 := by omega
  have hq : (1000000 : Int) + (vals.length : Int) / 4 = X := by rw [hX]; omega
  obtain ⟨pI, kI, rfl⟩ := row_any hr
  obtain ⟨pv, kv, rfl⟩ := row_any hl
  rw [← hX]
  clear hX
  go_enter Tryz.func88, Tryz.ntmps88
  go_wp2_with fail
  clear hq
  go_loopw [5] (fun si wr => ∃ (k : Nat), si = .int .i64 k ∧ k ≤ n ∧ wr.ownsRow lo 3 1 (.slice pv n kv) n (List.replicate k (.int .i64 X) ++ xs.drop k) ∧ Chg (fun q => (Value.slice pv n kv).ownBlock = some q) w wr) (fun si _ => n - (intOf si).toNat)
  case atStart => exact ⟨0, rfl, by omega, by simpa using hl, Chg.refl _ _⟩
  case round =>
    obtain ⟨k, rfl, hk, hrow, hcw⟩ := hrel
    by_cases hkn : k < n
    · have hkn' : (k : Int) < (n : Int) := by omega
      obtain ⟨g, cap', hvs, _, _, hcell⟩ := row_pos hrow (by omega)
      simp only [Value.slice.injEq] at hvs
      obtain ⟨rfl, _, rfl⟩ := hvs
      have hxl : xs.length = n := by have := hl.1; omega
      obtain ⟨u, hu⟩ : ∃ u, xs[k]? = some u := ⟨_, List.getElem?_eq_getElem (by omega)⟩
      have hat : (List.replicate k (Value.int .i64 X) ++ xs.drop k)[k]? = some u := by
        rw [List.getElem?_append_right (by simp)]
        simp [hu]
      have m0 := hcell k u hat
      have f0 := row_frozen hrow k
      have hst := (hrow.stored k (.int .i64 X)).1
      have hset : (List.replicate k (Value.int .i64 X) ++ xs.drop k).set k (.int .i64 X) = List.replicate (k + 1) (Value.int .i64 X) ++ xs.drop (k + 1) := by
        rw [List.set_append_right _ _ (by simp), List.replicate_succ', List.append_assoc]
        congr 1
        simp only [List.length_replicate, Nat.sub_self]
        rw [List.drop_eq_getElem_cons (by omega : k < xs.length)]
        rfl
      rw [hset] at hst
      have HST : Hid ((wr.setCell ⟨g, k, none⟩ (.int .i64 X)).ownsRow lo 3 1 (.slice (some ⟨g, 0, none⟩) n kv) n (List.replicate (k + 1) (Value.int .i64 X) ++ xs.drop (k + 1))) := hst
      clear hcell hat hset hst
      go_wp2_with fail
      exact ⟨⟨k + 1, by go_num, by omega, HST.out, hcw.setCell (p := ⟨g, k, none⟩) (fun _ => rfl) _⟩, by simp [intOf]; omega⟩
    · have hkn' : ¬ (k : Int) < (n : Int) := by omega
      obtain rfl : k = n := by omega
      have hxl : xs.length = k := by have := hl.1; omega
      rw [List.drop_of_length_le (by omega), List.append_nil] at hrow
      have hXs : ∀ m (j : Nat), j < m → (List.replicate m (Value.int .i64 X))[j * 1 + 0]? = some (.int .i64 X) := fun m j hj => by simp [hj]
      have h1c : ∀ m, ∀ u ∈ List.replicate m (Value.int .i64 X), u.oneCell' = true := fun m u hu => by rw [(List.mem_replicate.1 hu).2]; rfl
      have hM := Mk.whole hrow
      have cr : Chg (fun q => (Value.slice pv k kv).ownBlock = some q) w wr := hcw
      -- one
      obtain ⟨v1, w1, r1, o1, M1, c1, k1, e1, p1, q1, rfl⟩ := run_mark (P := Tryz.prog) (wr.alloc (Obj.cells #[.int .i64 X] 3)) lo 36 36 3 i1 _ 1 8 Tryz.underlying36 hi1 hy0 hy1 hy2 rfl (by decide) _ _ _ (hrow.alloc _) ⟨wr.heap.size, 0, none⟩ 1 1 (List.replicate 1 (.int .i64 X)) (by simp) (fun j y hj => by rw [add_lit', Nat.zero_add]; rcases j with _ | j <;> simp at hj; subst hj; exact World.cell?_alloc_at _ _ _ _ rfl) (h1c 1) (by unfold maxLen; omega) (by omega) (by have := hcw.size; simp; omega) 0 (by omega) X (hXs k) (hXs 1)
      have a1 : Chg (fun q => (Value.slice pv k kv).ownBlock = some q) wr w1 := ((Chg.refl (fun q => (Value.slice pv k kv).ownBlock = some q) wr).alloc _).trans c1 (fun _ _ h => h)
      -- two
      obtain ⟨v2, w2, r2, o2, M2, c2, k2, e2, p2, q2, rfl⟩ := run_mark (P := Tryz.prog) (w1.alloc (Obj.cells #[.int .i64 X, .int .i64 X] 3)) lo 36 36 3 i1 _ 1 8 Tryz.underlying36 hi1 hy0 hy1 hy2 rfl (by decide) _ _ _ (o1.alloc _) ⟨w1.heap.size, 0, none⟩ 2 2 (List.replicate 2 (.int .i64 X)) (by simp) (fun j y hj => by rw [add_lit', Nat.zero_add]; rcases j with _ | _ | j <;> simp [List.replicate] at hj <;> subst hj <;> exact World.cell?_alloc_at _ _ _ _ rfl) (h1c 2) (by unfold maxLen; omega) (by omega) (by have := hcw.size; have := a1.size; simp; omega) 0 (by omega) X (hXs k) (hXs 2)
      have a2 : Chg (fun q => (Value.slice pv k kv).ownBlock = some q) w1 w2 := ((Chg.refl (fun q => (Value.slice pv k kv).ownBlock = some q) w1).alloc _).trans c2 (fun _ _ h => h)
      have M12 : Mk w2 1 0 X (.slice p1 (k + 1) q1) := (M1.chg ((Chg.refl (fun _ => False) w1).alloc _) (fun _ _ h => h)).step c2 k2
      -- three
      obtain ⟨v3, w3, r3, o3, M3, c3, k3, e3, p3, q3, rfl⟩ := run_mark (P := Tryz.prog) (w2.alloc (Obj.cells #[.int .i64 X, .int .i64 X, .int .i64 X] 3)) lo 36 36 3 i1 _ 1 8 Tryz.underlying36 hi1 hy0 hy1 hy2 rfl (by decide) _ _ _ (o2.alloc _) ⟨w2.heap.size, 0, none⟩ 3 3 (List.replicate 3 (.int .i64 X)) (by simp) (fun j y hj => by rw [add_lit', Nat.zero_add]; rcases j with _ | _ | _ | j <;> simp [List.replicate] at hj <;> subst hj <;> exact World.cell?_alloc_at _ _ _ _ rfl) (h1c 3) (by unfold maxLen; omega) (by omega) (by have := hcw.size; have := a1.size; have := a2.size; simp; omega) 0 (by omega) X (hXs k) (hXs 3)
      have a3 : Chg (fun q => (Value.slice pv k kv).ownBlock = some q) w2 w3 := ((Chg.refl (fun q => (Value.slice pv k kv).ownBlock = some q) w2).alloc _).trans c3 (fun _ _ h => h)
      have M13 : Mk w3 1 0 X (.slice p1 (k + 1) q1) := (M12.chg ((Chg.refl (fun _ => False) w2).alloc _) (fun _ _ h => h)).step c3 k3
      have M23 : Mk w3 1 0 X (.slice p2 (k + 2) q2) := (M2.chg ((Chg.refl (fun _ => False) w2).alloc _) (fun _ _ h => h)).step c3 k3
      have aw : Chg (fun q => (Value.slice pv k kv).ownBlock = some q) w w3 := ((cr.trans a1 (fun _ _ h => h)).trans a2 (fun _ _ h => h)).trans a3 (fun _ _ h => h)
      have hap : ∀ g, (Value.slice pI vals.length kI).ownBlock = some g → (Value.slice pv k kv).ownBlock ≠ some g := row_kinds hr hl (by decide)
      have hr3 := aw.row' hr (fun g hg e => hap g hg e)
      have hz3 := aw.size
      obtain ⟨vF, wF, rF, oF, gF, eF⟩ := run_append_where (P := Tryz.prog) (w3.alloc (Obj.cells #[.slice pv k kv, .slice p1 (k + 1) q1, .slice p2 (k + 2) q2, .slice p3 (k + 3) q3] 36)) lo 73 73 36 i2 _ 1 24 Tryz.underlying73 hi2 hx0 hx1 hx2 rfl (by decide) _ _ _ (hr3.alloc _) ⟨w3.heap.size, 0, none⟩ 4 4 [.slice pv k kv, .slice p1 (k + 1) q1, .slice p2 (k + 2) q2, .slice p3 (k + 3) q3] rfl (fun j y hj => by rw [add_lit', Nat.zero_add]; rcases j with _ | _ | _ | _ | j <;> simp at hj <;> subst hj <;> exact World.cell?_alloc_at _ _ _ _ rfl) (by simp [Value.oneCell']) (by unfold maxLen; omega) (by omega) (by simp; omega)
      have cF : Chg (fun g => (Value.slice pI vals.length kI).ownBlock = some g) w3 wF := ((Chg.refl (fun g => (Value.slice pI vals.length kI).ownBlock = some g) w3).alloc _).trans (G := fun g => (Value.slice pI vals.length kI).ownBlock = some g) ⟨gF.os, gF.tape, gF.output, gF.size, fun k hk hne => gF.block k hk (fun e => hne e.symm)⟩ (fun _ _ h => h)
      obtain ⟨pF, kF, hpF⟩ := row_any oF
      subst hpF
      have hwF : Wh w.heap.size (.slice pI vals.length kI) (.slice pF (vals.length + 4) kF) := eF.imp id (fun e k hk => by have := e k hk; rw [World.size_alloc] at this; omega)
      have nF : (Value.slice pF (vals.length + 4) kF).ownBlock ≠ some mb := by
        rcases hwF with e | e
        · rw [e]; exact hIm
        · intro hk; have := e _ hk; omega
      have d0 : ∀ {W : World}, Chg (fun q => (Value.slice pv k kv).ownBlock = some q) w W → W.cell? ⟨mb, o, none⟩ = some (.slice pI vals.length kI) := fun cW => cW.cellAt hc hvm
      have dr := d0 cr
      have d1 := d0 (cr.trans a1 (fun _ _ h => h))
      have d3 := d0 aw
      have dF : wF.cell? ⟨mb, o, none⟩ = some (.slice pI vals.length kI) := cF.cellAt d3 hIm
      have hbF : wF.heap[mb]? = w.heap[mb]? := (cF.block mb (by omega) hIm).trans (aw.block mb hmb hvm)
      have fF : wF.frozen? ⟨mb, o, none⟩ = false := (World.frozen?_of_block (w := w) hbF).trans (hf o)
      have cS : Chg (fun q => q = mb) wF (wF.setCell ⟨mb, o, none⟩ (.slice pF (vals.length + 4) kF)) := (Chg.refl (fun q => q = mb) wF).setCell (p := ⟨mb, o, none⟩) (fun _ => rfl) _
      have MW : ∀ u, (∀ g, u.ownBlock = some g → g ≠ mb ∧ (Value.slice pI vals.length kI).ownBlock ≠ some g) → Mk w3 1 0 X u → Mk (wF.setCell ⟨mb, o, none⟩ (.slice pF (vals.length + 4) kF)) 1 0 X u := fun u hu hm => (hm.chg cF (fun g hg e => (hu g hg).2 e)).chg cS (fun g hg e => (hu g hg).1 e)
      have hvb : ∀ g, (Value.slice pv k kv).ownBlock = some g → g ≠ mb ∧ (Value.slice pI vals.length kI).ownBlock ≠ some g := fun g hg => ⟨fun e => hvm (by rw [← e]; exact hg), fun e => hap g e hg⟩
      have hub : ∀ u : Value, (u.ownBlock = (Value.slice pv k kv).ownBlock ∨ ∀ q, u.ownBlock = some q → w.heap.size ≤ q) → ∀ g, u.ownBlock = some g → g ≠ mb ∧ (Value.slice pI vals.length kI).ownBlock ≠ some g := fun u hu g hg => by
        rcases hu with e | e
        · exact hvb g (by rw [← e]; exact hg)
        · have h1 := e g hg
          exact ⟨by omega, fun e2 => by have := (hr.lt g e2).2; omega⟩
      have y1 : (Value.slice p1 (k + 1) q1).ownBlock = (Value.slice pv k kv).ownBlock ∨ ∀ q, (Value.slice p1 (k + 1) q1).ownBlock = some q → w.heap.size ≤ q := e1.imp id (fun e q hq => by have h1 := e q hq; have := hcw.size; rw [World.size_alloc] at h1; omega)
      have y2 : (Value.slice p2 (k + 2) q2).ownBlock = (Value.slice pv k kv).ownBlock ∨ ∀ q, (Value.slice p2 (k + 2) q2).ownBlock = some q → w.heap.size ≤ q := e2.imp id (fun e q hq => by have h1 := e q hq; have := hcw.size; have := a1.size; rw [World.size_alloc] at h1; omega)
      have y3 : (Value.slice p3 (k + 3) q3).ownBlock = (Value.slice pv k kv).ownBlock ∨ ∀ q, (Value.slice p3 (k + 3) q3).ownBlock = some q → w.heap.size ≤ q := e3.imp id (fun e q hq => by have h1 := e q hq; have := hcw.size; have := a1.size; have := a2.size; rw [World.size_alloc] at h1; omega)
      have M03 := Mk.whole o3
      have hfin : Hid ((wF.setCell ⟨mb, o, none⟩ (.slice pF (vals.length + 4) kF)).ownsRow lo 36 1 (.slice pF (vals.length + 4) kF) (vals.length + 4) (vals ++ [.slice pv k kv, .slice p1 (k + 1) q1, .slice p2 (k + 2) q2, .slice p3 (k + 3) q3])) := cS.row' oF (fun q hq e => nF (by rw [← e]; exact hq))
      have hcc : Chg (fun q => q = mb ∨ (Value.slice pI vals.length kI).ownBlock = some q ∨ (Value.slice pv k kv).ownBlock = some q) w (wF.setCell ⟨mb, o, none⟩ (.slice pF (vals.length + 4) kF)) := ((aw.mono (fun q hq => .inr (.inr hq))).trans cF (fun _ _ h => .inr (.inl h))).trans cS (fun _ _ h => .inl h)
      have hsl : Slots mb (fun j => j = o) w (wF.setCell ⟨mb, o, none⟩ (.slice pF (vals.length + 4) kF)) := (Slots.of_block _ hbF).setCell (p := ⟨mb, o, none⟩) _ (fun _ => rfl)
      go_wp2_with (first | (at_builtin; refine Lib.wpList_append_run _ rfl (.tmp 26) (.tmp 28) 36 36 rfl _ _ rfl rfl (.slice p1 (k + 1) q1) w1 r1 ?_) | (at_builtin; refine Lib.wpList_append_run _ rfl (.tmp 30) (.tmp 33) 36 36 rfl _ _ rfl rfl (.slice p2 (k + 2) q2) w2 r2 ?_) | (at_builtin; refine Lib.wpList_append_run _ rfl (.tmp 35) (.tmp 39) 36 36 rfl _ _ rfl rfl (.slice p3 (k + 3) q3) w3 r3 ?_) | (at_builtin; refine Lib.wpList_append_run _ rfl (.tmp 45) (.tmp 50) 73 73 rfl _ _ rfl rfl (.slice pF (vals.length + 4) kF) wF rF ?_))
      go_end0
      exact ⟨rfl, .slice pF (vals.length + 4) kF, World.cell?_setCell_same _ _ _ dF, .slice p1 (k + 1) q1, .slice p2 (k + 2) q2, .slice p3 (k + 3) q3, hfin.out, ⟨⟨MW _ hvb M03, ⟨.inl rfl, _, _, _, rfl, by omega, .inl rfl⟩⟩, ⟨MW _ (hub _ y1) M13, ⟨y1, _, _, _, rfl, by omega, .inr (by omega)⟩⟩, ⟨MW _ (hub _ y2) M23, ⟨y2, _, _, _, rfl, by omega, .inr (by omega)⟩⟩, MW _ (hub _ y3) M3, ⟨y3, _, _, _, rfl, by omega, .inr (by omega)⟩⟩, hwF, hsl, hcc⟩
end Go.Proofs.YthedkdbgfdjlkaaGreatDoor

namespace Go.Proofs.YthedkdbgfdjlkaaGreatDoor
set_option linter.unusedVariables false
set_option linter.unusedSimpArgs false
open Go.RowKit Go.Lib
theorem Tryz.infoMP : (Tryz.prog.info? 63).map (fun i => (i.zero, i.size, i.bytes)) = some (some (.agg #[.string { data := #[] }, .int .i64 0, .int .i64 0]), 3, 32) := by kernel_rfl
theorem Tryz.infoLP : (Tryz.prog.info? 56).map (fun i => (i.zero, i.size, i.bytes)) = some (some (.slice none 0 0), 1, 24) := by kernel_rfl
def mkPut (x : Int) : Pt := ⟨{ data := #[] }, x, 0⟩
theorem mkPut_at (x : Int) {n j : Nat} (h : j < n) : (putCells (List.replicate n (mkPut x)))[j * 3 + 1]? = some (.int .i64 x) :=
  (putCells_at (List.replicate n (mkPut x)) j (mkPut x) (by simp [h])).2.1
theorem putCells_one : ∀ (l : List Pt) (u : Value), u ∈ putCells l → u.oneCell' = true
  | [], u, h => by simp [putCells] at h
  | x :: r, u, h => by
    simp only [putCells, Pt.cells, List.mem_append, List.mem_cons, List.not_mem_nil, or_false] at h
    rcases h with (rfl | rfl | rfl) | h
    · rfl
    · rfl
    · rfl
    · exact putCells_one r u h
theorem Mk.wholeP {w : World} {lo : Nat} {v : Value} {n : Nat} {x : Int} (h : w.ownsRow lo 63 3 v n (putCells (List.replicate n (mkPut x)))) : Mk w 3 1 x v := by
  rcases h.2 with ⟨hv, _⟩ | ⟨g, cap, cur, hv, _⟩
  · exact .inl ⟨0, hv⟩
  · refine .inr ⟨g, n, cap, hv, fun j hj => ?_⟩
    subst hv
    exact row_cell h (mkPut_at x hj)
set_option maxRecDepth 100000 in
set_option maxHeartbeats 4000000 in
theorem mputs_any {w : World} {lo mb o : Nat} {vI v : Value} {vals : List Value} {L : List Pt} (hc : w.cell? ⟨mb, o + 3, none⟩ = some vI) (hf : ∀ j, w.frozen? ⟨mb, j, none⟩ = false) (hr : w.ownsRow lo 56 1 vI vals.length vals) (hl : w.ownsRow lo 63 3 v L.length (putCells L)) (hn : L.length ≤ 1000) (hlen : vals.length ≤ 1000000000) (hIm : vI.ownBlock ≠ some mb) (hvm : v.ownBlock ≠ some mb) (hlo : lo ≤ w.heap.size) :
    Calls Tryz.prog 54 #[.pointer (some ⟨mb, o, none⟩), v] w fun e w' => ∃ vI' v1 v2 v3, e = .returned (.tuple #[]) ∧ w'.cell? ⟨mb, o + 3, none⟩ = some vI' ∧ w'.ownsRow lo 56 1 vI' (vals.length + 4) (vals ++ [v, v1, v2, v3]) ∧
      (∀ u, u = v ∨ u = v1 ∨ u = v2 ∨ u = v3 → Mk w' 3 1 (1000000 + ((vals.length / 4 : Nat) : Int)) u ∧ Lst w.heap.size L.length v u) ∧ Wh w.heap.size vI vI' ∧ Slots mb (fun j => j = o + 3) w w' ∧ Chg (fun k => k = mb ∨ vI.ownBlock = some k ∨ v.ownBlock = some k) w w' := by
  obtain ⟨i1, hi1, hy0, hy1, hy2⟩ := info_parts Tryz.infoMP
  obtain ⟨i2, hi2, hx0, hx1, hx2⟩ := info_parts Tryz.infoLP
  have hmb : mb < w.heap.size := World.block_lt_of_cell? _ _ hc
  obtain ⟨X, hX⟩ : ∃ X : Int, X = 1000000 + ((vals.length / 4 : Nat) : Int) := ⟨_, rfl⟩
  have hXr : 0 ≤ X ∧ X ≤ 2000000000 := by omega
  have hq : (1000000 : Int) + (vals.length : Int) / 4 = X := by rw [hX]; omega
  obtain ⟨pI, kI, rfl⟩ := row_any hr
  obtain ⟨pv, kv, rfl⟩ := row_any hl
  rw [← hX]
  clear hX
  obtain ⟨W0, hW0⟩ : ∃ W0, W0 = w.alloc (Obj.cells #[.string { data := #[] }, .int .i64 X, .int .i64 0] 63) := ⟨_, rfl⟩
  have c0 : Chg (fun _ => False) w W0 := by rw [hW0]; exact (Chg.refl _ w).alloc _
  have z0 : W0.cell? ⟨w.heap.size, 0, none⟩ = some (.string { data := #[] }) := by rw [hW0]; exact World.cell?_alloc_at _ _ _ _ rfl
  have z1 : W0.cell? ⟨w.heap.size, 1, none⟩ = some (.int .i64 X) := by rw [hW0]; exact World.cell?_alloc_at _ _ _ _ rfl
  have z2 : W0.cell? ⟨w.heap.size, 2, none⟩ = some (.int .i64 0) := by rw [hW0]; exact World.cell?_alloc_at _ _ _ _ rfl
  have hvw : ∀ g, (Value.slice pv L.length kv).ownBlock = some g → g < w.heap.size := fun g hg => (hl.lt g hg).2
  go_enter Tryz.func54, Tryz.ntmps54
  go_wp2_with fail
  rw [← hW0]
  clear hq hW0
  go_loopw [5] (fun si wr => ∃ (k : Nat), si = .int .i64 k ∧ k ≤ L.length ∧ wr.ownsRow lo 63 3 (.slice pv L.length kv) L.length (putCells (List.replicate k (mkPut X) ++ L.drop k)) ∧ Chg (fun q => (Value.slice pv L.length kv).ownBlock = some q) w wr ∧ wr.cell? ⟨w.heap.size, 0, none⟩ = some (.string { data := #[] }) ∧ wr.cell? ⟨w.heap.size, 1, none⟩ = some (.int .i64 X) ∧ wr.cell? ⟨w.heap.size, 2, none⟩ = some (.int .i64 0)) (fun si _ => L.length - (intOf si).toNat)
  case atStart => exact ⟨0, rfl, by omega, by simpa using c0.row' hl (fun _ _ h => h), c0.mono (fun _ h => h.elim), z0, z1, z2⟩
  case round =>
    clear z0 z1 z2
    obtain ⟨k, rfl, hk, hrow, hcw, z0, z1, z2⟩ := hrel
    by_cases hkn : k < L.length
    · have hkn' : (k : Int) < (L.length : Int) := by omega
      obtain ⟨g, cap', hvs, _, _, hcell⟩ := row_pos hrow (by omega)
      simp only [Value.slice.injEq] at hvs
      obtain ⟨rfl, _, rfl⟩ := hvs
      have hgw : g < w.heap.size := hvw g rfl
      have hne : ¬ g = w.heap.size := by omega
      have hne' : ¬ w.heap.size = g := by omega
      obtain ⟨u, hu⟩ : ∃ u, L[k]? = some u := ⟨_, List.getElem?_eq_getElem hkn⟩
      have hat : (List.replicate k (mkPut X) ++ L.drop k)[k]? = some u := by
        rw [List.getElem?_append_right (by simp)]
        simp [hu]
      have cx := putCells_at _ k u hat
      have m0 := hcell _ _ cx.1
      have m1 := hcell _ _ cx.2.1
      have m2 := hcell _ _ cx.2.2
      have f0 := row_frozen hrow (k * 3)
      have f1 := row_frozen hrow (k * 3 + 1)
      have f2 := row_frozen hrow (k * 3 + 2)
      have hst := (((hrow.stored (k * 3) (.string { data := #[] })).1.stored (k * 3 + 1) (.int .i64 X)).1.stored (k * 3 + 2) (.int .i64 0)).1
      have hset : (List.replicate k (mkPut X) ++ L.drop k).set k (mkPut X) = List.replicate (k + 1) (mkPut X) ++ L.drop (k + 1) := by
        rw [List.set_append_right _ _ (by simp), List.replicate_succ', List.append_assoc]
        congr 1
        simp only [List.length_replicate, Nat.sub_self]
        rw [List.drop_eq_getElem_cons hkn]
        rfl
      have hps := putCells_set (List.replicate k (mkPut X) ++ L.drop k) k (mkPut X)
      rw [hset] at hps
      have hps' : putCells (List.replicate (k + 1) (mkPut X) ++ L.drop (k + 1)) = (((putCells (List.replicate k (mkPut X) ++ L.drop k)).set (k * 3) (.string { data := #[] })).set (k * 3 + 1) (.int .i64 X)).set (k * 3 + 2) (.int .i64 0) := hps
      rw [← hps'] at hst
      have HST : Hid ((((wr.setCell ⟨g, k * 3, none⟩ (.string { data := #[] })).setCell ⟨g, k * 3 + 1, none⟩ (.int .i64 X)).setCell ⟨g, k * 3 + 2, none⟩ (.int .i64 0)).ownsRow lo 63 3 (.slice (some ⟨g, 0, none⟩) L.length kv) L.length (putCells (List.replicate (k + 1) (mkPut X) ++ L.drop (k + 1)))) := hst
      have cS : Chg (fun q => q = g) wr (((wr.setCell ⟨g, k * 3, none⟩ (.string { data := #[] })).setCell ⟨g, k * 3 + 1, none⟩ (.int .i64 X)).setCell ⟨g, k * 3 + 2, none⟩ (.int .i64 0)) := (((Chg.refl (fun q => q = g) wr).setCell (p := ⟨g, k * 3, none⟩) (fun _ => rfl) _).setCell (p := ⟨g, k * 3 + 1, none⟩) (fun _ => rfl) _).setCell (p := ⟨g, k * 3 + 2, none⟩) (fun _ => rfl) _
      clear hcell hat hset hst hps hps' cx
      go_wp2_with fail
      exact ⟨⟨k + 1, by go_num, by omega, HST.out, hcw.trans cS (fun q _ h => by rw [h]; rfl), cS.cellAt z0 hne', cS.cellAt z1 hne', cS.cellAt z2 hne'⟩, by simp [intOf]; omega⟩
    · have hkn' : ¬ (k : Int) < (L.length : Int) := by omega
      have hkL : k = L.length := by omega
      subst hkL
      rw [List.drop_of_length_le (Nat.le_refl _), List.append_nil] at hrow
      have hXs : ∀ m (j : Nat), j < m → (putCells (List.replicate m (mkPut X)))[j * 3 + 1]? = some (.int .i64 X) := fun m j hj => mkPut_at X hj
      have h1c : ∀ m, ∀ u ∈ putCells (List.replicate m (mkPut X)), u.oneCell' = true := fun m => putCells_one _
      have hM := Mk.wholeP hrow
      have cr : Chg (fun q => (Value.slice pv L.length kv).ownBlock = some q) w wr := hcw
      -- one
      obtain ⟨v1, w1, r1, o1, M1, c1, k1, e1, p1, q1, rfl⟩ := run_mark (P := Tryz.prog) (wr.alloc (Obj.cells #[.string { data := #[] }, .int .i64 X, .int .i64 0] 63)) lo 56 56 63 i1 _ 3 32 Tryz.underlying56 hi1 hy0 hy1 hy2 rfl (by decide) _ _ _ (hrow.alloc _) ⟨wr.heap.size, 0, none⟩ 1 1 (putCells (List.replicate 1 (mkPut X))) (by rw [putCells_len]; simp) (fun j y hj => by rw [add_lit', Nat.zero_add]; rcases j with _ | _ | _ | j <;> simp [List.replicate, putCells, Pt.cells, mkPut] at hj <;> subst hj <;> exact World.cell?_alloc_at _ _ _ _ rfl) (h1c 1) (by unfold maxLen; omega) (by omega) (by have := hcw.size; simp; omega) 1 (by omega) X (hXs L.length) (hXs 1)
      have a1 : Chg (fun q => (Value.slice pv L.length kv).ownBlock = some q) wr w1 := ((Chg.refl (fun q => (Value.slice pv L.length kv).ownBlock = some q) wr).alloc _).trans c1 (fun _ _ h => h)
      -- two
      obtain ⟨v2, w2, r2, o2, M2, c2, k2, e2, p2, q2, rfl⟩ := run_mark (P := Tryz.prog) (w1.alloc (Obj.cells #[.string { data := #[] }, .int .i64 X, .int .i64 0, .string { data := #[] }, .int .i64 X, .int .i64 0] 63)) lo 56 56 63 i1 _ 3 32 Tryz.underlying56 hi1 hy0 hy1 hy2 rfl (by decide) _ _ _ (o1.alloc _) ⟨w1.heap.size, 0, none⟩ 2 2 (putCells (List.replicate 2 (mkPut X))) (by rw [putCells_len]; simp) (fun j y hj => by rw [add_lit', Nat.zero_add]; rcases j with _ | _ | _ | _ | _ | _ | j <;> simp [List.replicate, putCells, Pt.cells, mkPut] at hj <;> subst hj <;> exact World.cell?_alloc_at _ _ _ _ rfl) (h1c 2) (by unfold maxLen; omega) (by omega) (by have := hcw.size; have := a1.size; simp; omega) 1 (by omega) X (hXs L.length) (hXs 2)
      have a2 : Chg (fun q => (Value.slice pv L.length kv).ownBlock = some q) w1 w2 := ((Chg.refl (fun q => (Value.slice pv L.length kv).ownBlock = some q) w1).alloc _).trans c2 (fun _ _ h => h)
      have nzv : (Value.slice pv L.length kv).ownBlock ≠ some w.heap.size := fun e => by have := hvw _ e; omega
      have t0 := a1.cellAt z0 nzv
      have t1 := a1.cellAt z1 nzv
      have t2 := a1.cellAt z2 nzv
      have s0 := a2.cellAt t0 nzv
      have s1 := a2.cellAt t1 nzv
      have s2 := a2.cellAt t2 nzv
      have M12 : Mk w2 3 1 X (.slice p1 (L.length + 1) q1) := (M1.chg ((Chg.refl (fun _ => False) w1).alloc _) (fun _ _ h => h)).step c2 k2
      -- three
      obtain ⟨v3, w3, r3, o3, M3, c3, k3, e3, p3, q3, rfl⟩ := run_mark (P := Tryz.prog) (w2.alloc (Obj.cells #[.string { data := #[] }, .int .i64 X, .int .i64 0, .string { data := #[] }, .int .i64 X, .int .i64 0, .string { data := #[] }, .int .i64 X, .int .i64 0] 63)) lo 56 56 63 i1 _ 3 32 Tryz.underlying56 hi1 hy0 hy1 hy2 rfl (by decide) _ _ _ (o2.alloc _) ⟨w2.heap.size, 0, none⟩ 3 3 (putCells (List.replicate 3 (mkPut X))) (by rw [putCells_len]; simp) (fun j y hj => by rw [add_lit', Nat.zero_add]; rcases j with _ | _ | _ | _ | _ | _ | _ | _ | _ | j <;> simp [List.replicate, putCells, Pt.cells, mkPut] at hj <;> subst hj <;> exact World.cell?_alloc_at _ _ _ _ rfl) (h1c 3) (by unfold maxLen; omega) (by omega) (by have := hcw.size; have := a1.size; have := a2.size; simp; omega) 1 (by omega) X (hXs L.length) (hXs 3)
      have a3 : Chg (fun q => (Value.slice pv L.length kv).ownBlock = some q) w2 w3 := ((Chg.refl (fun q => (Value.slice pv L.length kv).ownBlock = some q) w2).alloc _).trans c3 (fun _ _ h => h)
      have M13 : Mk w3 3 1 X (.slice p1 (L.length + 1) q1) := (M12.chg ((Chg.refl (fun _ => False) w2).alloc _) (fun _ _ h => h)).step c3 k3
      have M23 : Mk w3 3 1 X (.slice p2 (L.length + 2) q2) := (M2.chg ((Chg.refl (fun _ => False) w2).alloc _) (fun _ _ h => h)).step c3 k3
      have aw : Chg (fun q => (Value.slice pv L.length kv).ownBlock = some q) w w3 := ((cr.trans a1 (fun _ _ h => h)).trans a2 (fun _ _ h => h)).trans a3 (fun _ _ h => h)
      have hap : ∀ g, (Value.slice pI vals.length kI).ownBlock = some g → (Value.slice pv L.length kv).ownBlock ≠ some g := row_kinds hr hl (by decide)
      have hr3 := aw.row' hr (fun g hg e => hap g hg e)
      have hz3 := aw.size
      obtain ⟨vF, wF, rF, oF, gF, eF⟩ := run_append_where (P := Tryz.prog) (w3.alloc (Obj.cells #[.slice pv L.length kv, .slice p1 (L.length + 1) q1, .slice p2 (L.length + 2) q2, .slice p3 (L.length + 3) q3] 56)) lo 76 76 56 i2 _ 1 24 Tryz.underlying76 hi2 hx0 hx1 hx2 rfl (by decide) _ _ _ (hr3.alloc _) ⟨w3.heap.size, 0, none⟩ 4 4 [.slice pv L.length kv, .slice p1 (L.length + 1) q1, .slice p2 (L.length + 2) q2, .slice p3 (L.length + 3) q3] rfl (fun j y hj => by rw [add_lit', Nat.zero_add]; rcases j with _ | _ | _ | _ | j <;> simp at hj <;> subst hj <;> exact World.cell?_alloc_at _ _ _ _ rfl) (by simp [Value.oneCell']) (by unfold maxLen; omega) (by omega) (by simp; omega)
      have cF : Chg (fun g => (Value.slice pI vals.length kI).ownBlock = some g) w3 wF := ((Chg.refl (fun g => (Value.slice pI vals.length kI).ownBlock = some g) w3).alloc _).trans (G := fun g => (Value.slice pI vals.length kI).ownBlock = some g) ⟨gF.os, gF.tape, gF.output, gF.size, fun k hk hne => gF.block k hk (fun e => hne e.symm)⟩ (fun _ _ h => h)
      obtain ⟨pF, kF, hpF⟩ := row_any oF
      subst hpF
      have hwF : Wh w.heap.size (.slice pI vals.length kI) (.slice pF (vals.length + 4) kF) := eF.imp id (fun e k hk => by have := e k hk; rw [World.size_alloc] at this; omega)
      have nF : (Value.slice pF (vals.length + 4) kF).ownBlock ≠ some mb := by
        rcases hwF with e | e
        · rw [e]; exact hIm
        · intro hk; have := e _ hk; omega
      have d0 : ∀ {W : World}, Chg (fun q => (Value.slice pv L.length kv).ownBlock = some q) w W → W.cell? ⟨mb, o + 3, none⟩ = some (.slice pI vals.length kI) := fun cW => cW.cellAt hc hvm
      have dr := d0 cr
      have d1 := d0 (cr.trans a1 (fun _ _ h => h))
      have d3 := d0 aw
      have dF : wF.cell? ⟨mb, o + 3, none⟩ = some (.slice pI vals.length kI) := cF.cellAt d3 hIm
      have hbF : wF.heap[mb]? = w.heap[mb]? := (cF.block mb (by omega) hIm).trans (aw.block mb hmb hvm)
      have fF : wF.frozen? ⟨mb, o + 3, none⟩ = false := (World.frozen?_of_block (w := w) hbF).trans (hf (o + 3))
      have cS : Chg (fun q => q = mb) wF (wF.setCell ⟨mb, o + 3, none⟩ (.slice pF (vals.length + 4) kF)) := (Chg.refl (fun q => q = mb) wF).setCell (p := ⟨mb, o + 3, none⟩) (fun _ => rfl) _
      have MW : ∀ u, (∀ g, u.ownBlock = some g → g ≠ mb ∧ (Value.slice pI vals.length kI).ownBlock ≠ some g) → Mk w3 3 1 X u → Mk (wF.setCell ⟨mb, o + 3, none⟩ (.slice pF (vals.length + 4) kF)) 3 1 X u := fun u hu hm => (hm.chg cF (fun g hg e => (hu g hg).2 e)).chg cS (fun g hg e => (hu g hg).1 e)
      have hvb : ∀ g, (Value.slice pv L.length kv).ownBlock = some g → g ≠ mb ∧ (Value.slice pI vals.length kI).ownBlock ≠ some g := fun g hg => ⟨fun e => hvm (by rw [← e]; exact hg), fun e => hap g e hg⟩
      have hub : ∀ u : Value, (u.ownBlock = (Value.slice pv L.length kv).ownBlock ∨ ∀ q, u.ownBlock = some q → w.heap.size ≤ q) → ∀ g, u.ownBlock = some g → g ≠ mb ∧ (Value.slice pI vals.length kI).ownBlock ≠ some g := fun u hu g hg => by
        rcases hu with e | e
        · exact hvb g (by rw [← e]; exact hg)
        · have h1 := e g hg
          exact ⟨by omega, fun e2 => by have := (hr.lt g e2).2; omega⟩
      have y1 : (Value.slice p1 (L.length + 1) q1).ownBlock = (Value.slice pv L.length kv).ownBlock ∨ ∀ q, (Value.slice p1 (L.length + 1) q1).ownBlock = some q → w.heap.size ≤ q := e1.imp id (fun e q hq => by have h1 := e q hq; have := hcw.size; rw [World.size_alloc] at h1; omega)
      have y2 : (Value.slice p2 (L.length + 2) q2).ownBlock = (Value.slice pv L.length kv).ownBlock ∨ ∀ q, (Value.slice p2 (L.length + 2) q2).ownBlock = some q → w.heap.size ≤ q := e2.imp id (fun e q hq => by have h1 := e q hq; have := hcw.size; have := a1.size; rw [World.size_alloc] at h1; omega)
      have y3 : (Value.slice p3 (L.length + 3) q3).ownBlock = (Value.slice pv L.length kv).ownBlock ∨ ∀ q, (Value.slice p3 (L.length + 3) q3).ownBlock = some q → w.heap.size ≤ q := e3.imp id (fun e q hq => by have h1 := e q hq; have := hcw.size; have := a1.size; have := a2.size; rw [World.size_alloc] at h1; omega)
      have M03 := Mk.wholeP o3
      have hfin : Hid ((wF.setCell ⟨mb, o + 3, none⟩ (.slice pF (vals.length + 4) kF)).ownsRow lo 56 1 (.slice pF (vals.length + 4) kF) (vals.length + 4) (vals ++ [.slice pv L.length kv, .slice p1 (L.length + 1) q1, .slice p2 (L.length + 2) q2, .slice p3 (L.length + 3) q3])) := cS.row' oF (fun q hq e => nF (by rw [← e]; exact hq))
      have hcc : Chg (fun q => q = mb ∨ (Value.slice pI vals.length kI).ownBlock = some q ∨ (Value.slice pv L.length kv).ownBlock = some q) w (wF.setCell ⟨mb, o + 3, none⟩ (.slice pF (vals.length + 4) kF)) := ((aw.mono (fun q hq => .inr (.inr hq))).trans cF (fun _ _ h => .inr (.inl h))).trans cS (fun _ _ h => .inl h)
      have hsl : Slots mb (fun j => j = o + 3) w (wF.setCell ⟨mb, o + 3, none⟩ (.slice pF (vals.length + 4) kF)) := (Slots.of_block _ hbF).setCell (p := ⟨mb, o + 3, none⟩) _ (fun _ => rfl)
      go_wp2_with (first | (at_builtin; refine Lib.wpList_append_run _ rfl (.tmp 27) (.tmp 29) 56 56 rfl _ _ rfl rfl (.slice p1 (L.length + 1) q1) w1 r1 ?_) | (at_builtin; refine Lib.wpList_append_run _ rfl (.tmp 31) (.tmp 34) 56 56 rfl _ _ rfl rfl (.slice p2 (L.length + 2) q2) w2 r2 ?_) | (at_builtin; refine Lib.wpList_append_run _ rfl (.tmp 36) (.tmp 40) 56 56 rfl _ _ rfl rfl (.slice p3 (L.length + 3) q3) w3 r3 ?_) | (at_builtin; refine Lib.wpList_append_run _ rfl (.tmp 46) (.tmp 51) 76 76 rfl _ _ rfl rfl (.slice pF (vals.length + 4) kF) wF rF ?_))
      go_end0
      exact ⟨rfl, .slice pF (vals.length + 4) kF, World.cell?_setCell_same _ _ _ dF, .slice p1 (L.length + 1) q1, .slice p2 (L.length + 2) q2, .slice p3 (L.length + 3) q3, hfin.out, ⟨⟨MW _ hvb M03, ⟨.inl rfl, _, _, _, rfl, by omega, .inl rfl⟩⟩, ⟨MW _ (hub _ y1) M13, ⟨y1, _, _, _, rfl, by omega, .inr (by omega)⟩⟩, ⟨MW _ (hub _ y2) M23, ⟨y2, _, _, _, rfl, by omega, .inr (by omega)⟩⟩, MW _ (hub _ y3) M3, ⟨y3, _, _, _, rfl, by omega, .inr (by omega)⟩⟩, hwF, hsl, hcc⟩
end Go.Proofs.YthedkdbgfdjlkaaGreatDoor
