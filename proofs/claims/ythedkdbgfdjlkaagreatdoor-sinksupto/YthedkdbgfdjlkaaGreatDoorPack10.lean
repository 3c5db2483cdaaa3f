import Derived.Test.YthedkdbgfdjlkaaGreatDoorPack1
import Derived.Test.YthedkdbgfdjlkaaGreatDoorPack2
import Derived.Test.YthedkdbgfdjlkaaGreatDoorPack3
import Derived.Test.YthedkdbgfdjlkaaGreatDoorPack4
import Derived.Test.YthedkdbgfdjlkaaGreatDoorPack5
import Derived.Test.YthedkdbgfdjlkaaGreatDoorPack6
import Derived.Test.YthedkdbgfdjlkaaGreatDoorPack7
import Derived.Test.YthedkdbgfdjlkaaGreatDoorPack8
import Derived.Test.YthedkdbgfdjlkaaGreatDoorPack9
/- culvertref: Answer, WALKED. -/
namespace Go.Proofs.YthedkdbgfdjlkaaGreatDoor
set_option linter.unusedVariables false
set_option linter.unusedSimpArgs false
open Go.RowKit Go.Lib

/-- What is known of a key, if it is one. -/
def keyR (T : List Rec) (Hs : List Hd) (key : ByteArray) (ok : Bool) : Ky := if ok then ⟨key, (tally key T).1, (tally key T).2, heldOf key Hs⟩ else ⟨{ data := #[] }, 0, 0, 0⟩

set_option maxHeartbeats 1000000 in
theorem rkey2_any {w : World} {lo b : Nat} {vt vh : Value} {T : List Rec} {Hs : List Hd} {name : ByteArray} (htk : w.cell? ⟨b, 12, none⟩ = some vt) (hrt : w.ownsRow lo 53 5 vt T.length (recCells T)) (hhd : w.cell? ⟨b, 13, none⟩ = some vh) (hrh : w.ownsRow lo 181 2 vh Hs.length (hdCells Hs))
    (hT : T.length ≤ 2000) (hH : Hs.length ≤ 1000000000) (hv : ∀ x ∈ T, 0 ≤ x.value ∧ x.value ≤ 4294967295) (ht : ∀ p ∈ Hs, 0 ≤ p.token ∧ p.token ≤ 1000) :
    Calls Tryz.prog 89 #[.pointer (some ⟨b, 0, none⟩), .string name, .bool (okKey name)] w fun e w' => e = .returned (.agg #[.string (keyR T Hs name (okKey name)).name, .int .i64 (keyR T Hs name (okKey name)).count, .int .i64 (keyR T Hs name (okKey name)).fold, .int .i64 (keyR T Hs name (okKey name)).held]) ∧ Chg (fun _ => False) w w' := by
  obtain ⟨W0, hW0⟩ : ∃ W0, W0 = w.alloc (Obj.cells #[.string { data := #[] }, .int .i64 0, .int .i64 0, .int .i64 0] 87) := ⟨_, rfl⟩
  have c0 : Chg (fun _ => False) w W0 := by rw [hW0]; exact (Chg.refl _ w).alloc _
  have R0 : Blk W0 w.heap.size 4 (kyC { data := #[] } 0 0 0) := by
    rw [hW0]
    refine ⟨fun j hj => ?_, fun j => World.frozen?_alloc_at _ _ _ _ rfl⟩
    rcases (by omega : j = 0 ∨ j = 1 ∨ j = 2 ∨ j = 3) with rfl | rfl | rfl | rfl <;> exact World.cell?_alloc_at _ _ _ _ rfl
  cases hok : okKey name with
  | false =>
    have e : keyR T Hs name false = ⟨{ data := #[] }, 0, 0, 0⟩ := rfl
    rw [e]
    clear hok e
    go_enter Tryz.func89, Tryz.ntmps89
    go_wp2_with fail
    refine bodyPost_ret (v := .agg #[.string { data := #[] }, .int .i64 0, .int .i64 0, .int .i64 0]) ?_ rfl ⟨rfl, ?_⟩
    · simp [results, Tryz.results89, go_sem]
    · first
        | exact (Chg.refl _ w).alloc _
        | exact ((Chg.refl (fun _ => False) w).alloc _).step (((((Chg.refl (fun k => k = w.heap.size) _).setCell (p := ⟨w.heap.size, 0, none⟩) (fun _ => rfl) _).setCell (p := ⟨w.heap.size, 1, none⟩) (fun _ => rfl) _).setCell (p := ⟨w.heap.size, 2, none⟩) (fun _ => rfl) _).setCell (p := ⟨w.heap.size, 3, none⟩) (fun _ => rfl) _) (fun k hk => by omega)
  | true =>
    obtain ⟨c, r, hcr⟩ : ∃ c r, name.data.toList = c :: r := by
      unfold okKey at hok
      cases hd : name.data.toList with
      | nil => rw [hd] at hok; cases hok
      | cons c r => exact ⟨c, r, rfl⟩
    obtain ⟨kk, hkk⟩ : ∃ kk : Ky, kk = keyR T Hs name true := ⟨_, rfl⟩
    have hky := rkey_any hcr (c0.cellAt htk id) (c0.row' hrt (fun _ _ h => h)) (c0.cellAt hhd id) (c0.row' hrh (fun _ _ h => h)) hT hH hv ht
    have hky' : Calls Tryz.prog 86 #[.pointer (some ⟨b, 0, none⟩), .string name] W0 fun e w' => e = .returned (.agg #[.string kk.name, .int .i64 kk.count, .int .i64 kk.fold, .int .i64 kk.held]) ∧ Chg (fun _ => False) W0 w' := by rw [hkk]; exact hky
    rw [← hkk]
    clear hky hkk hcr hok
    go_enter Tryz.func89, Tryz.ntmps89
    go_wp2_with fail
    rw [← hW0]
    refine hky'.mono ?_
    rintro _ w1 ⟨rfl, c1⟩
    clear hky' hW0
    have R1 := R0.chg c1 (by omega) id
    have r0 : w1.cell? ⟨w.heap.size, 0, none⟩ = some (.string { data := #[] }) := R1.cell 0 (by omega)
    have r1 : w1.cell? ⟨w.heap.size, 1, none⟩ = some (.int .i64 0) := R1.cell 1 (by omega)
    have r2 : w1.cell? ⟨w.heap.size, 2, none⟩ = some (.int .i64 0) := R1.cell 2 (by omega)
    have r3 : w1.cell? ⟨w.heap.size, 3, none⟩ = some (.int .i64 0) := R1.cell 3 (by omega)
    have g0 := R1.fz 0
    have g1 := R1.fz 1
    have g2 := R1.fz 2
    have g3 := R1.fz 3
    go_wp2_with fail
    have cS : Chg (fun k => k = w.heap.size) w1 ((((w1.setCell ⟨w.heap.size, 0, none⟩ (.string kk.name)).setCell ⟨w.heap.size, 1, none⟩ (.int .i64 kk.count)).setCell ⟨w.heap.size, 2, none⟩ (.int .i64 kk.fold)).setCell ⟨w.heap.size, 3, none⟩ (.int .i64 kk.held)) := ((((Chg.refl (fun k => k = w.heap.size) w1).setCell (p := ⟨w.heap.size, 0, none⟩) (fun _ => rfl) _).setCell (p := ⟨w.heap.size, 1, none⟩) (fun _ => rfl) _).setCell (p := ⟨w.heap.size, 2, none⟩) (fun _ => rfl) _).setCell (p := ⟨w.heap.size, 3, none⟩) (fun _ => rfl) _
    refine bodyPost_ret (v := .agg #[.string kk.name, .int .i64 kk.count, .int .i64 kk.fold, .int .i64 kk.held]) ?_ rfl ⟨rfl, (c0.trans c1 (fun _ _ h => h)).step cS (fun k hk => by omega)⟩
    simp [results, Tryz.results89, go_sem, r0, r1, r2, r3]

/-- What Answer answers; what the sink said, if it is kept. -/
def ansR (T : List Rec) (c : Bool) (key : ByteArray) (n : Int) : Int × Option Hd :=
  if c = true then (1, none) else if okKey key = false then (3, none) else if (tally key T).1 = 0 then (8, none) else if n < 0 ∨ (tally key T).1 < n then (9, none) else (0, some ⟨key, n⟩)

def RansPost (w w' : World) (lo b : Nat) (E B : Nat → Int) (V : Nat → Value) (vt vh : Value) (Q : Nat → List Rec) (T : List Rec) (Hs : List Hd) : Option Hd → Prop
  | none => Chg (fun _ => False) w w'
  | some p => ∃ vh', RefAt w' lo b E B V vt vh' Q T (Hs ++ [p]) false ∧ Wh w.heap.size vh vh' ∧ Chg (fun k => k = b ∨ vh.ownBlock = some k) w w'

theorem hdCells_append : ∀ a b : List Hd, hdCells (a ++ b) = hdCells a ++ hdCells b
  | [], b => rfl
  | x :: r, b => by simp [hdCells, hdCells_append r b]

theorem RefAt.hold {w w1 : World} {lo b : Nat} {E B : Nat → Int} {V : Nat → Value} {vt vh vh' : Value} {Q : Nat → List Rec} {T : List Rec} {Hs : List Hd} {p : Hd} (h : RefAt w lo b E B V vt vh Q T Hs false) (c : Chg (fun k => vh.ownBlock = some k) w w1) (hr : w1.ownsRow lo 181 2 vh' (Hs ++ [p]).length (hdCells (Hs ++ [p]))) (hw : Wh w.heap.size vh vh') :
    RefAt (w1.setCell ⟨b, 13, none⟩ vh') lo b E B V vt vh' Q T (Hs ++ [p]) false ∧ Chg (fun k => k = b ∨ vh.ownBlock = some k) w (w1.setCell ⟨b, 13, none⟩ vh') := by
  have hbl : b < w.heap.size := World.block_lt_of_cell? _ _ h.tk
  have c2 : Chg (fun k => k = b) w1 (w1.setCell ⟨b, 13, none⟩ vh') := (Chg.refl (fun k => k = b) w1).setCell (p := ⟨b, 13, none⟩) (fun _ => rfl) _
  have ca : Chg (fun k => k = b ∨ vh.ownBlock = some k) w (w1.setCell ⟨b, 13, none⟩ vh') := (c.mono (fun k hk => .inr hk)).trans c2 (fun _ _ h => .inl h)
  have new : ∀ g, vh'.ownBlock = some g → vh.ownBlock = some g ∨ w.heap.size ≤ g := fun g hg => by
    rcases hw with e | e
    · exact .inl (by rw [← e]; exact hg)
    · exact .inr (e g hg)
  have nb : vh'.ownBlock ≠ some b := fun e => by
    rcases new _ e with h1 | h1
    · exact h.ownh h1
    · omega
  have old : ∀ j v, j ≠ 13 → w.cell? ⟨b, j, none⟩ = some v → (w1.setCell ⟨b, 13, none⟩ vh').cell? ⟨b, j, none⟩ = some v := fun j v hj hv => (World.cell?_setCell_other _ _ _ _ (by simp [hj])).trans (c.cellAt hv h.ownh)
  have kr : ∀ {v : Value} {L : List Rec}, w.ownsRow lo 53 5 v L.length (recCells L) → v.ownBlock ≠ some b → (∀ g, v.ownBlock = some g → vh.ownBlock ≠ some g) → (w1.setCell ⟨b, 13, none⟩ vh').ownsRow lo 53 5 v L.length (recCells L) := fun hr h1 h2 => ca.row' hr (fun k hk e => e.elim (fun e => h1 (by rw [← e]; exact hk)) (fun e => h2 k hk e))
  refine ⟨⟨fun j hj => old _ _ (by omega) (h.ep j hj), fun j hj => old _ _ (by omega) (h.ba j hj), fun j hj => old _ _ (by omega) (h.qu j hj), old _ _ (by omega) h.tk, World.cell?_setCell_same _ _ _ (c.cellAt h.hd h.ownh), old _ _ (by omega) h.cl, fun j => ?_, fun j hj => kr (h.rows j hj) (h.own j hj) (h.seph j hj), kr h.taken h.ownt h.septh, c2.row' hr (fun k hk e => nb (by rw [← e]; exact hk)), h.own, h.ownt, nb, h.sep, h.sept, fun j hj g hg e => ?_, fun g hg e => ?_, Nat.le_trans h.low ca.size⟩, ca⟩
  · rw [World.frozen?_setCell]
    exact (World.frozen?_of_block (w := w) (c.block b hbl h.ownh)).trans (h.fz j)
  · rcases new _ e with h1 | h1
    · exact h.seph j hj g hg h1
    · have := ((h.rows j hj).lt g hg).2; omega
  · rcases new _ e with h1 | h1
    · exact h.septh g hg h1
    · have := (h.taken.lt g hg).2; omega

set_option maxRecDepth 100000 in
set_option maxHeartbeats 4000000 in
theorem ranswer_any {w : World} {lo b : Nat} {E B : Nat → Int} {V : Nat → Value} {vt vh : Value} {Q : Nat → List Rec} {T : List Rec} {Hs : List Hd} {c : Bool} (h : RefAt w lo b E B V vt vh Q T Hs c) (key : ByteArray) (n : Int) (hkey : key.size ≤ maxLen) (hn : inInt n) (hT : T.length ≤ 1000) (hH : Hs.length < 1000000000)
    (hv : ∀ x ∈ T, 0 ≤ x.value ∧ x.value ≤ 4294967295) (ht : ∀ p ∈ Hs, 0 ≤ p.token ∧ p.token ≤ 1000) :
    Calls Tryz.prog 55 #[.pointer (some ⟨b, 0, none⟩), .string key, .int .i64 n] w fun e w' => e = .returned (.int .i64 (ansR T c key n).1) ∧ RansPost w w' lo b E B V vt vh Q T Hs (ansR T c key n).2 := by
  obtain ⟨i1, hi1, hy0, hy1, hy2⟩ := info_parts Tryz.infoHd
  unfold inInt at hn
  have hik := risKey_any key w hkey
  have hk2 := rkey2_any (name := key) h.tk h.taken h.hd h.held (by omega) (by omega) hv ht
  have hle := tally_take_le key T T.length
  rw [List.take_length] at hle
  obtain ⟨kk, hkk⟩ : ∃ kk, kk = keyR T Hs key (okKey key) := ⟨_, rfl⟩
  rw [← hkk] at hk2
  have hcl := h.cl
  have hA : Hid (ansR T c key n = if c = true then (1, none) else if okKey key = false then (3, none) else if kk.count = 0 then (8, none) else if n < 0 ∨ kk.count < n then (9, none) else (0, some ⟨key, n⟩)) := by
    show _ = _
    unfold ansR
    cases hc : c with
    | true => simp
    | false =>
      cases hok : okKey key with
      | false => simp
      | true =>
        have : kk.count = (tally key T).1 := by rw [hkk, hok]; rfl
        rw [this]
        try simp
  have hkr : 0 ≤ kk.count ∧ kk.count ≤ 1000 := by
    rw [hkk]
    unfold keyR
    split
    · simp only; omega
    · simp
  clear hkk hle
  obtain ⟨ok, hok⟩ : ∃ ok, okKey key = ok := ⟨_, rfl⟩
  rw [hok] at hik hk2 hA
  clear hok
  have step : ∀ (w1 : World), Chg (fun _ => False) w w1 → Hid (Chg (fun _ => False) w (w1.alloc (Obj.cells #[.string kk.name, .int .i64 kk.count, .int .i64 kk.fold, .int .i64 kk.held] 87)) ∧ RefAt (w1.alloc (Obj.cells #[.string kk.name, .int .i64 kk.count, .int .i64 kk.fold, .int .i64 kk.held] 87)) lo b E B V vt vh Q T Hs c) := fun w1 c1 => ⟨c1.alloc _, h.keep (c1.alloc _)⟩
  have STEP : Hid (∀ (w1 : World), Chg (fun _ => False) w w1 → Hid (Chg (fun _ => False) w (w1.alloc (Obj.cells #[.string kk.name, .int .i64 kk.count, .int .i64 kk.fold, .int .i64 kk.held] 87)) ∧ RefAt (w1.alloc (Obj.cells #[.string kk.name, .int .i64 kk.count, .int .i64 kk.fold, .int .i64 kk.held] 87)) lo b E B V vt vh Q T Hs c)) := step
  clear step
  go_enter Tryz.func55, Tryz.ntmps55
  go_wp2_with fail
  refine hik.mono ?_
  rintro _ w1 ⟨rfl, ew⟩
  rw [ew]
  clear ew w1 hik
  go_wp2_with fail
  refine hk2.mono ?_
  rintro _ w1 ⟨rfl, c1⟩
  clear hk2
  have hcl1 := c1.cellAt hcl id
  have hcl1a : ∀ o, (w1.alloc o).cell? ⟨b, 14, none⟩ = some (.bool c) := fun o => (World.cell?_alloc_lt w1 o _ (World.block_lt_of_cell? _ _ hcl1)).trans hcl1
  obtain ⟨cw, hR⟩ := (STEP.out w1 c1).out
  cases c with
  | true =>
    have HA' : Hid (ansR T true key n = (1, none)) := by show _ = _; rw [hA.out]; rfl
    clear hA
    go_wp2_with fail
    go_ret
    exact ⟨by rw [HA'.out]; rfl, by rw [HA'.out]; exact cw⟩
  | false =>
    cases ok with
    | false =>
      have HA' : Hid (ansR T false key n = (3, none)) := by show _ = _; rw [hA.out]; rfl
      clear hA
      go_wp2_with fail
      go_ret
      exact ⟨by rw [HA'.out]; rfl, by rw [HA'.out]; exact cw⟩
    | true =>
      by_cases h0 : kk.count = 0
      · have HA' : Hid (ansR T false key n = (8, none)) := by show _ = _; rw [hA.out]; simp [h0]
        have h0' : (kk.count == 0) = true := by simpa using h0
        clear hA h0
        go_wp2_with fail
        go_ret
        exact ⟨by rw [HA'.out]; rfl, by rw [HA'.out]; exact cw⟩
      · have h0' : (kk.count == 0) = false := by simpa using h0
        by_cases hb : n < 0 ∨ kk.count < n
        · have HA' : Hid (ansR T false key n = (9, none)) := by show _ = _; rw [hA.out]; simp [h0, hb]
          clear hA h0
          by_cases hn0 : n < 0
          · clear hb
            go_wp2_with fail
            go_ret
            exact ⟨by rw [HA'.out]; rfl, by rw [HA'.out]; exact cw⟩
          · have hn1 : kk.count < n := hb.resolve_left hn0
            clear hb
            go_wp2_with fail
            go_ret
            exact ⟨by rw [HA'.out]; rfl, by rw [HA'.out]; exact cw⟩
        · have HA' : Hid (ansR T false key n = (0, some ⟨key, n⟩)) := by show _ = _; rw [hA.out]; simp [h0, hb]
          have hn0 : ¬ n < 0 := fun e => hb (.inl e)
          have hn1 : ¬ kk.count < n := fun e => hb (.inr e)
          clear hA h0 hb
          obtain ⟨W2, hW2⟩ : ∃ W2, W2 = w1.alloc (Obj.cells #[.string kk.name, .int .i64 kk.count, .int .i64 kk.fold, .int .i64 kk.held] 87) := ⟨_, rfl⟩
          have hs2 : W2.heap.size = w1.heap.size + 1 := by rw [hW2]; simp
          rw [← hW2] at cw hR
          obtain ⟨v6, w6, hrun, o6, g6, e6⟩ := run_append_where (P := Tryz.prog) (W2.alloc (Obj.cells #[.string key, .int .i64 n] 181)) lo 135 135 181 i1 _ 2 24 Tryz.underlying135 hi1 hy0 hy1 hy2 rfl (by decide) _ _ _ (hR.held.alloc _) ⟨W2.heap.size, 0, none⟩ 1 1 [.string key, .int .i64 n] rfl (fun j y hj => by rw [add_lit', Nat.zero_add]; rcases j with _ | _ | j <;> simp at hj <;> subst hj <;> exact World.cell?_alloc_at _ _ _ _ rfl) (by simp [Value.oneCell']) (by unfold maxLen; omega) (by omega) (by have := hR.low; simp; omega)
          have c6 : Chg (fun g => vh.ownBlock = some g) W2 w6 := ((Chg.refl (fun g => vh.ownBlock = some g) W2).alloc _).trans (G := fun g => vh.ownBlock = some g) ⟨g6.os, g6.tape, g6.output, g6.size, fun k hk hne => g6.block k hk (fun e => hne e.symm)⟩ (fun _ _ h => h)
          have o6' : w6.ownsRow lo 181 2 v6 (Hs ++ [(⟨key, n⟩ : Hd)]).length (hdCells (Hs ++ [(⟨key, n⟩ : Hd)])) := by
            rw [hdCells_append, List.length_append]
            exact o6
          have hwh : Wh W2.heap.size vh v6 := e6.imp id (fun e k hk => by have := e k hk; rw [World.size_alloc] at this; omega)
          obtain ⟨hRF, cF⟩ := hR.hold c6 o6' hwh
          have d13 : w6.cell? ⟨b, 13, none⟩ = some vh := c6.cellAt hR.hd hR.ownh
          have f13 : w6.frozen? ⟨b, 13, none⟩ = false := (World.frozen?_of_block (w := W2) (c6.block b (World.block_lt_of_cell? _ _ hR.tk) hR.ownh)).trans (hR.fz 13)
          have hd1 := c1.cellAt h.hd id
          have hd1a : ∀ o, (w1.alloc o).cell? ⟨b, 13, none⟩ = some vh := fun o => (World.cell?_alloc_lt w1 o _ (World.block_lt_of_cell? _ _ hd1)).trans hd1
          obtain ⟨p6, k6, hp6⟩ := row_any o6
          subst hp6
          have hwh' : Wh w.heap.size vh (.slice p6 (Hs.length + 1) k6) := (Wh.refl _ _).trans hwh cw.size
          have cT : Chg (fun k => k = b ∨ vh.ownBlock = some k) w (w6.setCell ⟨b, 13, none⟩ (.slice p6 (Hs.length + 1) k6)) := (cw.mono (fun _ h => h.elim)).trans cF (fun _ _ h => h)
          rw [hs2, hW2] at hrun
          clear hW2 hs2
          go_wp2_with (at_builtin; refine Lib.wpList_append_run _ rfl (.tmp 40) (.tmp 44) 135 135 rfl _ _ rfl rfl (.slice p6 (Hs.length + 1) k6) w6 hrun ?_)
          go_ret
          exact ⟨by rw [HA'.out]; rfl, by rw [HA'.out]; exact (show RansPost _ _ _ _ _ _ _ _ _ _ _ _ (some ⟨key, n⟩) from ⟨_, hRF, hwh', cT⟩)⟩

end Go.Proofs.YthedkdbgfdjlkaaGreatDoor

/- culvertref AGAINST THE DOCUMENT'S DATA: the keys, those that wait. Nothing here is walked. -/
namespace Go.Proofs.YthedkdbgfdjlkaaGreatDoor
set_option linter.unusedVariables false
set_option linter.unusedSimpArgs false
open Go.RowKit Go.Lib

def withHeld (Hs : List Hd) (k : Ky) : Ky := ⟨k.name, k.count, k.fold, heldOf k.name Hs⟩

theorem takeKy_names (name : ByteArray) (val : Int) : ∀ ks : List Ky, (takeKy name val ks).map (·.name) = insN name (ks.map (·.name))
  | [] => rfl
  | k :: r => by
    have ih := takeKy_names name val r
    unfold takeKy
    simp only [List.map_cons, insN]
    split
    · rfl
    · split
      · rfl
      · simp [ih]

theorem keysOf_snoc (T : List Rec) (x : Rec) (ks : List Ky) : keysOf (T ++ [x]) ks = takeKy x.key x.value (keysOf T ks) := by
  rw [keysOf_append]; rfl

theorem keysOf_namesR : ∀ (T : List Rec) (ks : List Ky), (keysOf T ks).map (·.name) = namesR T (ks.map (·.name))
  | [], ks => rfl
  | x :: r, ks => by
    have := keysOf_namesR r (takeKy x.key x.value ks)
    rw [takeKy_names] at this
    exact this

theorem keysR_eq (T : List Rec) (Hs : List Hd) : keysR T Hs (namesR T []) = (keysOf T []).map (withHeld Hs) := by
  have h1 := keysOf_namesR T []
  simp only [List.map_nil] at h1
  unfold keysR
  rw [← h1, List.map_map]
  refine List.map_congr_left fun k hk => ?_
  have h2 := (keysOf_tally T).2.1 k hk
  simp only [Function.comp, withHeld]
  rw [← h2]

theorem takeKy_held' (Hs : List Hd) (name : ByteArray) (val : Int) : ∀ {ks : List Ky}, Sorted ks → ((∃ k ∈ ks, k.name = name) ∨ heldOf name Hs = 0) → takeKy name val (ks.map (withHeld Hs)) = (takeKy name val ks).map (withHeld Hs)
  | [], _, h => by
    have h0 : heldOf name Hs = 0 := by
      rcases h with ⟨k, hk, _⟩ | h
      · simp at hk
      · exact h
    simp [takeKy, Ky.more, withHeld, h0]
  | k :: r, hs, h => by
    obtain ⟨h1, h2⟩ := List.pairwise_cons.1 hs
    have en : (withHeld Hs k).name = k.name := rfl
    simp only [List.map_cons, takeKy, en]
    by_cases e : k.name = name
    · rw [if_pos e, if_pos e]
      rfl
    · rw [if_neg e, if_neg e]
      have h' : (∃ y ∈ r, y.name = name) ∨ heldOf name Hs = 0 := by
        rcases h with ⟨y, hy, ey⟩ | h
        · rcases List.mem_cons.1 hy with rfl | hy
          · exact absurd ey e
          · exact .inl ⟨y, hy, ey⟩
        · exact .inr h
      by_cases hl : less name k.name = true
      · rw [if_pos hl, if_pos hl]
        have h0 : heldOf name Hs = 0 := by
          rcases h' with ⟨y, hy, ey⟩ | h
          · have := less_trans hl (h1 y hy)
            rw [ey, less_irrefl] at this
            cases this
          · exact h
        simp [Ky.more, withHeld, h0]
      · rw [if_neg hl, if_neg hl, takeKy_held' Hs name val h2 h']
        rfl

/-- Every answer is of a key of which something was taken. -/
def HeldIn (T : List Rec) (Hs : List Hd) : Prop := ∀ p ∈ Hs, ∃ x ∈ T, x.key = p.key

theorem heldOf_none {name : ByteArray} : ∀ (l : List Hd) (m : Int), (∀ p ∈ l, p.key ≠ name) → l.foldl (heldOne name) m = m
  | [], m, _ => rfl
  | p :: r, m, h => by
    rw [List.foldl_cons]
    have : heldOne name m p = m := by unfold heldOne; rw [if_neg (h p (by simp))]
    rw [this]
    exact heldOf_none r m (fun q hq => h q (by simp [hq]))

/-- One record more is taken. -/
theorem keys_take {T : List Rec} {Hs : List Hd} (hh : HeldIn T Hs) (x : Rec) : takeKy x.key x.value ((keysOf T []).map (withHeld Hs)) = (keysOf (T ++ [x]) []).map (withHeld Hs) := by
  rw [keysOf_snoc]
  refine takeKy_held' Hs x.key x.value (keysOf_tally T).1 ?_
  by_cases hx : ∃ y ∈ T, y.key = x.key
  · obtain ⟨y, hy, e⟩ := hx
    obtain ⟨k, hk, ek⟩ := (keysOf_tally T).2.2 y hy
    exact .inl ⟨k, hk, ek.trans e⟩
  · right
    refine heldOf_none Hs 0 (fun p hp e => hx ?_)
    obtain ⟨y, hy, ey⟩ := hh p hp
    exact ⟨y, hy, ey.trans e⟩

theorem HeldIn.more {T : List Rec} {Hs : List Hd} (h : HeldIn T Hs) (x : Rec) : HeldIn (T ++ [x]) Hs := fun p hp => by
  obtain ⟨y, hy, e⟩ := h p hp
  exact ⟨y, by simp [hy], e⟩

/-- Those that wait, whatever their order. -/
structure Waits (b : Int) (q : List Rec) (ws : List Wt) : Prop where
  perm : (q.map Rec.wt).Perm ws
  up : ws.Pairwise fun a b => a.num < b.num
  lo : ∀ y ∈ ws, b ≤ y.num

theorem idxR_none {m : Int} : ∀ {q : List Rec} {k : Nat}, idxR m q k = -1 ↔ ∀ x ∈ q, x.number ≠ m
  | [], k => by simp [idxR]
  | x :: r, k => by
    unfold idxR
    by_cases h : x.number = m
    · rw [if_pos h]
      constructor
      · intro e; omega
      · intro e; exact absurd h (e x (by simp))
    · rw [if_neg h, idxR_none]
      constructor
      · intro e y hy
        rcases List.mem_cons.1 hy with rfl | hy
        · exact h
        · exact e y hy
      · intro e y hy
        exact e y (by simp [hy])

theorem idxR_some {m : Int} : ∀ {q : List Rec} {k j : Nat}, idxR m q k = ((k + j : Nat) : Int) → ∃ x, q[j]? = some x ∧ x.number = m
  | [], k, j, h => by simp [idxR] at h; omega
  | x :: r, k, j, h => by
    unfold idxR at h
    by_cases e : x.number = m
    · rw [if_pos e] at h
      have : j = 0 := by omega
      subst this
      exact ⟨x, rfl, e⟩
    · rw [if_neg e] at h
      rcases idxR_lt m r (k + 1) with h1 | ⟨i, h1, h2⟩
      · omega
      · have hj : j = i + 1 := by omega
        subst hj
        obtain ⟨y, hy, ey⟩ := idxR_some (k := k + 1) (j := i) h2
        exact ⟨y, by simpa using hy, ey⟩

/-- Draining, both ways. -/
theorem drain_both (Hs : List Hd) : ∀ (f : Nat) (b : Int) (q T : List Rec) (ws : List Wt), q.length < f → Waits b q ws → HeldIn T Hs →
    ∃ b' q' T' ws', drainR f b q T = (b', q', T') ∧ drainW b ws ((keysOf T []).map (withHeld Hs)) = (b', ws', (keysOf T' []).map (withHeld Hs)) ∧ (q'.map Rec.wt).Perm ws' ∧ (ws'.Pairwise fun a b => a.num < b.num) ∧ (∀ y ∈ ws', b' < y.num) ∧ HeldIn T' Hs ∧ b ≤ b' ∧ T'.length + q'.length = T.length + q.length ∧ b' - b = T'.length - T.length ∧ (∀ x ∈ T', x ∈ T ∨ x ∈ q) ∧ (∀ x ∈ q', x ∈ q) ∧ (∀ y ∈ ws', y ∈ ws) ∧ ∃ L, T' = T ++ L
  | 0, b, q, T, ws, h, _, _ => by omega
  | f + 1, b, q, T, ws, hf, hw, hh => by
    rcases idxR_lt b q 0 with hix | ⟨j, hj, hix⟩
    · have hno := idxR_none.1 hix
      have hws : ∀ y ∈ ws, b < y.num := fun y hy => by
        have h1 := hw.lo y hy
        have h2 : y ∈ q.map Rec.wt := hw.perm.mem_iff.2 hy
        obtain ⟨x, hx, e⟩ := List.mem_map.1 h2
        have h3 := hno x hx
        have h4 : y.num = x.number := by rw [← e]; rfl
        omega
      refine ⟨b, q, T, ws, drainR_stop _ (by omega), ?_, hw.perm, hw.up, hws, hh, by omega, by omega, by omega, fun x hx => .inl hx, fun x hx => hx, fun y hy => hy, [], by simp⟩
      cases ws with
      | nil => rfl
      | cons y r =>
        have := hws y (by simp)
        simp only [drainW]
        rw [if_neg (by omega)]
    · rw [Nat.zero_add] at hix
      obtain ⟨x, hx, ex⟩ := idxR_some (k := 0) (j := j) (by simpa using hix)
      have hxm := List.mem_of_getElem? hx
      obtain ⟨hjl, ej⟩ := List.getElem?_eq_some_iff.1 hx
      have hsplit : q = q.take j ++ x :: q.drop (j + 1) := by
        conv => lhs; rw [← List.take_append_drop j q]
        rw [List.drop_eq_getElem_cons hjl, ej]
      have hperm : (x :: (q.take j ++ q.drop (j + 1))).Perm q := by
        conv => rhs; rw [hsplit]
        exact List.perm_middle.symm
      have hxw : x.wt ∈ ws := hw.perm.mem_iff.1 (List.mem_map.2 ⟨x, hxm, rfl⟩)
      obtain ⟨y, r, rfl⟩ : ∃ y r, ws = y :: r := by
        cases ws with
        | nil => simp at hxw
        | cons y r => exact ⟨y, r, rfl⟩
      obtain ⟨u1, u2⟩ := List.pairwise_cons.1 hw.up
      have hxn : x.wt.num = b := ex
      have hy : y = x.wt := by
        rcases List.mem_cons.1 hxw with e | e
        · exact e.symm
        · have h1 := u1 _ e
          have h2 := hw.lo y (by simp)
          omega
      subst hy
      have hw' : Waits (b + 1) (q.take j ++ q.drop (j + 1)) r := by
        refine ⟨?_, u2, fun z hz => by have := u1 z hz; omega⟩
        have h1 : (x.wt :: (q.take j ++ q.drop (j + 1)).map Rec.wt).Perm (x.wt :: r) := ((hperm.map Rec.wt).trans hw.perm)
        exact h1.cons_inv
      have hlen : (q.take j ++ q.drop (j + 1)).length + 1 = q.length := by
        have := hperm.length_eq
        simpa using this
      obtain ⟨b', q', T', ws', d1, d2, d3, d4, d5, d6, d7, d8, d9, d10, d11, d12, L, d13⟩ := drain_both Hs f (b + 1) (q.take j ++ q.drop (j + 1)) (T ++ [x]) r (by omega) hw' (hh.more x)
      have hsub : ∀ z ∈ q.take j ++ q.drop (j + 1), z ∈ q := fun z hz => hperm.mem_iff.1 (by simp at hz ⊢; exact .inr hz)
      refine ⟨b', q', T', ws', by rw [drainR_step _ hix hx]; exact d1, ?_, d3, d4, d5, d6, by omega, by simp at d8; omega, by simp at d9; omega, fun z hz => ?_, fun z hz => hsub z (d11 z hz), fun z hz => by simp [d12 z hz], x :: L, by rw [d13]; simp⟩
      · simp only [drainW]
        rw [if_pos hxn]
        have ek := keys_take hh x
        have e1 : takeKy x.wt.key x.wt.val ((keysOf T []).map (withHeld Hs)) = (keysOf (T ++ [x]) []).map (withHeld Hs) := ek
        rw [e1]
        exact d2
      · rcases d10 z hz with h1 | h1
        · rcases List.mem_append.1 h1 with h1 | h1
          · exact .inl h1
          · simp at h1; subst h1; exact .inr hxm
        · exact .inr (hsub z h1)

end Go.Proofs.YthedkdbgfdjlkaaGreatDoor

/- culvertref: Accept, WALKED: behind the checks. -/
namespace Go.Proofs.YthedkdbgfdjlkaaGreatDoor
set_option linter.unusedVariables false
set_option linter.unusedSimpArgs false
open Go.RowKit Go.Lib

/-- How Accept begins: the copy, and the session as it stands there. -/
theorem AccAt.first {w w' : World} {lo cb sb i : Nat} {E B : Nat → Int} {V : Nat → Value} {vt vh : Value} {Q : Nat → List Rec} {T : List Rec} {Hs : List Hd} {c : Bool} (h : RefAt w lo cb E B V vt vh Q T Hs c) (hi : i < 4) (hcb : lo ≤ cb) (hc : Chg (fun _ => False) w w') (hsb : w.heap.size ≤ sb)
    (s0 : w'.cell? ⟨sb, 0, none⟩ = some (.int .i64 (E i))) (s1 : w'.cell? ⟨sb, 1, none⟩ = some (.int .i64 (B i))) (s2 : w'.cell? ⟨sb, 2, none⟩ = some (V i)) (fz : ∀ j, w'.frozen? ⟨sb, j, none⟩ = false) : AccAt w' lo cb sb i E B V Q (E i) (B i) (V i) vt (Q i) T := by
  have h' := h.keep hc
  have hcl : cb < w.heap.size := World.block_lt_of_cell? _ _ h.tk
  have hlow := h.low
  refine ⟨h'.ep, h'.ba, h'.qu, h'.tk, h'.fz, s0, s1, s2, fz, fun j hj _ => h'.rows j hj, h'.taken, h'.rows i hi, by omega, hcb, by omega, ⟨h.own i hi, fun e => ?_⟩, ⟨h.ownt, fun e => ?_⟩, fun j hj hne => ⟨h.own j hj, fun e => ?_⟩, fun g hg => h.sept i hi g hg, fun j hj hne g hg => ⟨h.sep j i hj hi hne g hg, h.sept j hj g hg⟩, fun j k hj hk _ _ hne g hg => h.sep j k hj hk hne g hg, h'.low⟩
  · have := ((h.rows i hi).lt _ e).2; omega
  · have := (h.taken.lt _ e).2; omega
  · have := ((h.rows j hj).lt _ e).2; omega

/-- The epoch turns. -/
theorem AccAt.turn {w : World} {lo cb sb i : Nat} {E B : Nat → Int} {V : Nat → Value} {Q : Nat → List Rec} {te tb : Int} {vq vt : Value} {q T : List Rec} (h : AccAt w lo cb sb i E B V Q te tb vq vt q T) (hi : i < 4) (e : Int) {w1 w2 : World}
    (h1 : w1 = ((w.setCell ⟨sb, 0, none⟩ (.int .i64 e)).setCell ⟨sb, 1, none⟩ (.int .i64 0)).setCell ⟨sb, 2, none⟩ (.slice none 0 0)) (h2 : w2 = ((w1.setCell ⟨cb, i * 3, none⟩ (.int .i64 e)).setCell ⟨cb, i * 3 + 1, none⟩ (.int .i64 0)).setCell ⟨cb, i * 3 + 2, none⟩ (.slice none 0 0)) :
    AccAt w2 lo cb sb i (updF E i e) (updF B i 0) (updF V i (.slice none 0 0)) Q e 0 (.slice none 0 0) vt [] T ∧ Chg (fun k => lo ≤ k) w w2 := by
  have hcb : cb < w.heap.size := World.block_lt_of_cell? _ _ h.tk
  have hsb : sb < w.heap.size := World.block_lt_of_cell? _ _ h.s0
  have c1 : Chg (fun k => k = sb) w w1 := by rw [h1]; exact (((Chg.refl (fun k => k = sb) w).setCell (p := ⟨sb, 0, none⟩) (fun _ => rfl) _).setCell (p := ⟨sb, 1, none⟩) (fun _ => rfl) _).setCell (p := ⟨sb, 2, none⟩) (fun _ => rfl) _
  have c2 : Chg (fun k => k = cb) w1 w2 := by rw [h2]; exact (((Chg.refl (fun k => k = cb) w1).setCell (p := ⟨cb, i * 3, none⟩) (fun _ => rfl) _).setCell (p := ⟨cb, i * 3 + 1, none⟩) (fun _ => rfl) _).setCell (p := ⟨cb, i * 3 + 2, none⟩) (fun _ => rfl) _
  have ca : Chg (fun k => k = sb ∨ k = cb) w w2 := (c1.mono (fun _ h => .inl h)).trans c2 (fun _ _ h => .inr h)
  have hcs := h.cs
  have t0 : w1.cell? ⟨sb, 0, none⟩ = some (.int .i64 e) := by
    rw [h1]
    exact (World.cell?_setCell_other _ _ _ _ (by simp)).trans ((World.cell?_setCell_other _ _ _ _ (by simp)).trans (World.cell?_setCell_same _ _ _ h.s0))
  have t1 : w1.cell? ⟨sb, 1, none⟩ = some (.int .i64 0) := by
    rw [h1]
    exact (World.cell?_setCell_other _ _ _ _ (by simp)).trans (World.cell?_setCell_same _ _ _ ((World.cell?_setCell_other _ _ _ _ (by simp)).trans h.s1))
  have t2 : w1.cell? ⟨sb, 2, none⟩ = some (.slice none 0 0) := by
    rw [h1]
    exact World.cell?_setCell_same _ _ _ ((World.cell?_setCell_other _ _ _ _ (by simp)).trans ((World.cell?_setCell_other _ _ _ _ (by simp)).trans h.s2))
  have hB : Blk w1 cb 13 (fun j => if j < 12 then (if j % 3 = 0 then .int .i64 (E (j / 3)) else if j % 3 = 1 then .int .i64 (B (j / 3)) else V (j / 3)) else vt) := by
    refine ⟨fun j hj => ?_, fun j => ?_⟩
    · by_cases h12 : j < 12
      · rcases (by omega : j % 3 = 0 ∨ j % 3 = 1 ∨ j % 3 = 2) with h3 | h3 | h3
        · simp only [h12, h3, if_true]
          have := c1.cellAt (h.ep (j / 3) (by omega)) hcs
          rw [show j / 3 * 3 = j by omega] at this
          exact this
        · simp only [h12, h3, if_true]
          have := c1.cellAt (h.ba (j / 3) (by omega)) hcs
          rw [show j / 3 * 3 + 1 = j by omega] at this
          simpa using this
        · simp only [h12, h3, if_true]
          have := c1.cellAt (h.qu (j / 3) (by omega)) hcs
          rw [show j / 3 * 3 + 2 = j by omega] at this
          simpa using this
      · have : j = 12 := by omega
        subst this
        simpa using c1.cellAt h.tk hcs
    · exact (World.frozen?_of_block (w := w) (c1.block cb hcb hcs)).trans (h.fzc j)
  have hB2 := ((hB.set (i * 3) (.int .i64 e)).set (i * 3 + 1) (.int .i64 0)).set (i * 3 + 2) (.slice none 0 0)
  rw [← h2] at hB2
  have hnn : ∀ {v : Value} {L : List Rec}, w.ownsRow lo 53 5 v L.length (recCells L) → v.ownBlock ≠ some cb ∧ v.ownBlock ≠ some sb → w2.ownsRow lo 53 5 v L.length (recCells L) := fun hr hn => ca.row' hr (fun k hk e => e.elim (fun e => hn.2 (by rw [← e]; exact hk)) (fun e => hn.1 (by rw [← e]; exact hk)))
  refine ⟨⟨fun j hj => ?_, fun j hj => ?_, fun j hj => ?_, ?_, hB2.fz, c2.cellAt t0 (fun e => hcs e.symm), c2.cellAt t1 (fun e => hcs e.symm), c2.cellAt t2 (fun e => hcs e.symm), fun j => ?_, fun j hj hne => ?_, hnn h.taken h.ot, World.ownsRow_nil _ _ _ _, hcs, h.cl, h.sl, by simp [Value.ownBlock], h.ot, fun j hj hne => ?_, fun g hg => by simp [Value.ownBlock] at hg, fun j hj hne g hg => ?_, fun j k hj hk hji hki hne g hg => ?_, Nat.le_trans h.low ca.size⟩, ca.mono (fun k hk => hk.elim (fun e => by rw [e]; exact h.sl) (fun e => by rw [e]; exact h.cl))⟩
  · rw [hB2.cell _ (by omega), updV_ne _ _ (by omega), updV_ne _ _ (by omega)]
    by_cases e1 : j = i
    · subst e1; rw [updV_same, updF_same]
    · rw [updV_ne _ _ (by omega), updF_ne _ _ e1]
      simp only [show j * 3 < 12 by omega, show j * 3 % 3 = 0 by omega, show j * 3 / 3 = j by omega, if_true]
  · rw [hB2.cell _ (by omega), updV_ne _ _ (by omega)]
    by_cases e1 : j = i
    · subst e1; rw [updV_same, updF_same]
    · rw [updV_ne _ _ (by omega), updV_ne _ _ (by omega), updF_ne _ _ e1]
      simp only [show j * 3 + 1 < 12 by omega, show (j * 3 + 1) % 3 = 1 by omega, show (j * 3 + 1) / 3 = j by omega, if_true]
      simp
  · rw [hB2.cell _ (by omega)]
    by_cases e1 : j = i
    · subst e1; rw [updV_same, updF_same]
    · rw [updV_ne _ _ (by omega), updV_ne _ _ (by omega), updV_ne _ _ (by omega), updF_ne _ _ e1]
      simp only [show j * 3 + 2 < 12 by omega, show (j * 3 + 2) % 3 = 2 by omega, show (j * 3 + 2) / 3 = j by omega, if_true]
      simp
  · rw [hB2.cell _ (by omega), updV_ne _ _ (by omega), updV_ne _ _ (by omega), updV_ne _ _ (by omega)]
    simp
  · rw [h2, World.frozen?_setCell, World.frozen?_setCell, World.frozen?_setCell, h1, World.frozen?_setCell, World.frozen?_setCell, World.frozen?_setCell]
    exact h.fzs j
  · rw [updF_ne _ _ hne]; exact hnn (h.rows j hj hne) (h.ov j hj hne)
  · rw [updF_ne _ _ hne]; exact h.ov j hj hne
  · rw [updF_ne _ _ hne] at hg
    exact ⟨by simp [Value.ownBlock], (h.vq j hj hne g hg).2⟩
  · rw [updF_ne _ _ hji] at hg
    rw [updF_ne _ _ hki]
    exact h.vv j k hj hk hji hki hne g hg

end Go.Proofs.YthedkdbgfdjlkaaGreatDoor

/- culvertref: Accept, WALKED: the rest. -/
namespace Go.Proofs.YthedkdbgfdjlkaaGreatDoor
set_option linter.unusedVariables false
set_option linter.unusedSimpArgs false
open Go.RowKit Go.Lib

theorem Chg.low {lo : Nat} {w w0 w' : World} (c0 : Chg (fun _ => False) w w0) (c : Chg (fun k => lo ≤ k) w0 w') (h : w.heap.size ≤ lo) : Chg (fun _ => False) w w' := c0.step c (fun k hk => Nat.le_trans h hk)

theorem AccAt.other {F : Nat → Prop} {w w' : World} {lo cb sb i : Nat} {E B : Nat → Int} {V : Nat → Value} {Q : Nat → List Rec} {te tb : Int} {vq vt : Value} {q T : List Rec} (h : AccAt w lo cb sb i E B V Q te tb vq vt q T) (c : Chg F w w') (hF : ∀ k, F k → k < lo) : AccAt w' lo cb sb i E B V Q te tb vq vt q T := by
  have nc : ¬ F cb := fun e => by have := hF _ e; have := h.cl; omega
  have ns : ¬ F sb := fun e => by have := hF _ e; have := h.sl; omega
  have hr : ∀ {v : Value} {L : List Rec}, w.ownsRow lo 53 5 v L.length (recCells L) → w'.ownsRow lo 53 5 v L.length (recCells L) := fun hr => c.row' hr (fun k hk e => by have := (hr.lt k hk).1; have := hF _ e; omega)
  exact { h with
    ep := fun j hj => c.cellAt (h.ep j hj) nc
    ba := fun j hj => c.cellAt (h.ba j hj) nc
    qu := fun j hj => c.cellAt (h.qu j hj) nc
    tk := c.cellAt h.tk nc
    fzc := fun j => (World.frozen?_of_block (w := w) (c.block cb (World.block_lt_of_cell? _ _ h.tk) nc)).trans (h.fzc j)
    s0 := c.cellAt h.s0 ns
    s1 := c.cellAt h.s1 ns
    s2 := c.cellAt h.s2 ns
    fzs := fun j => (World.frozen?_of_block (w := w) (c.block sb (World.block_lt_of_cell? _ _ h.s0) ns)).trans (h.fzs j)
    rows := fun j hj hne => hr (h.rows j hj hne)
    taken := hr h.taken
    row := hr h.row
    low := Nat.le_trans h.low c.size }

/-- The relay, when all is laid into it. -/
theorem RefAt.done {w W w' : World} {lo b l0 sb i : Nat} {E B E1 B1 : Nat → Int} {V V2 : Nat → Value} {vt vh : Value} {Q : Nat → List Rec} {T : List Rec} {Hs : List Hd} {te bb : Int} {vq1 vt2 : Value} {q1 T1 : List Rec}
    (h : RefAt w lo b E B V vt vh Q T Hs false) (hi : i < 4) (hl0 : w.heap.size < l0) (hA : AccAt w' l0 l0 sb i E1 B1 V2 Q te bb vq1 vt2 q1 T1) (hEB : ∀ j, j ≠ i → E1 j = E j ∧ B1 j = B j)
    (hB : ∀ j, j < 4 → j ≠ i → w'.cell? ⟨b, j * 3, none⟩ = some (.int .i64 (E1 j)) ∧ w'.cell? ⟨b, j * 3 + 1, none⟩ = some (.int .i64 (B1 j)) ∧ w'.cell? ⟨b, j * 3 + 2, none⟩ = some (V2 j))
    (b0 : w'.cell? ⟨b, i * 3, none⟩ = some (.int .i64 te)) (b1 : w'.cell? ⟨b, i * 3 + 1, none⟩ = some (.int .i64 bb)) (b2 : w'.cell? ⟨b, i * 3 + 2, none⟩ = some vq1) (b12 : w'.cell? ⟨b, 12, none⟩ = some vt2) (b13 : w'.cell? ⟨b, 13, none⟩ = some vh) (b14 : w'.cell? ⟨b, 14, none⟩ = some (.bool false)) (fz : ∀ j, w'.frozen? ⟨b, j, none⟩ = false) (c : Chg (fun k => k = b) w w') :
    RefAt w' lo b (updF E i te) (updF B i bb) (updF V2 i vq1) vt2 vh (updF Q i q1) T1 Hs false ∧ (∀ k, ((∃ j, j < 4 ∧ (updF V2 i vq1 j).ownBlock = some k) ∨ vt2.ownBlock = some k) → w.heap.size ≤ k) := by
  have hbl : b < w.heap.size := World.block_lt_of_cell? _ _ h.tk
  have hlow := h.low
  have hvh : ∀ g, vh.ownBlock = some g → g < w.heap.size := fun g hg => (h.held.lt g hg).2
  have hVl : ∀ j, j < 4 → ∀ g, (updF V2 i vq1 j).ownBlock = some g → l0 ≤ g := fun j hj g hg => by
    by_cases e : j = i
    · subst e; rw [updF_same] at hg; exact (hA.row.lt g hg).1
    · rw [updF_ne _ _ e] at hg; exact ((hA.rows j hj e).lt g hg).1
  have htl : ∀ g, vt2.ownBlock = some g → l0 ≤ g := fun g hg => (hA.taken.lt g hg).1
  refine ⟨⟨fun j hj => ?_, fun j hj => ?_, fun j hj => ?_, b12, b13, b14, fz, fun j hj => ?_, row_lower hA.taken (by omega), c.row' h.held (fun k hk e => h.ownh (by rw [← e]; exact hk)), fun j hj e => ?_, fun e => ?_, h.ownh, fun j k hj hk hne g hg => ?_, fun j hj g hg => ?_, fun j hj g hg e => ?_, fun g hg e => ?_, Nat.le_trans hlow c.size⟩, fun k hk => ?_⟩
  · by_cases e : j = i
    · subst e; rw [updF_same]; exact b0
    · rw [updF_ne _ _ e, ← (hEB j e).1]; exact (hB j hj e).1
  · by_cases e : j = i
    · subst e; rw [updF_same]; exact b1
    · rw [updF_ne _ _ e, ← (hEB j e).2]; exact (hB j hj e).2.1
  · by_cases e : j = i
    · subst e; rw [updF_same]; exact b2
    · rw [updF_ne _ _ e]; exact (hB j hj e).2.2
  · by_cases e : j = i
    · subst e; rw [updF_same, updF_same]; exact row_lower hA.row (by omega)
    · rw [updF_ne _ _ e, updF_ne _ _ e]; exact row_lower (hA.rows j hj e) (by omega)
  · have := hVl j hj b e; omega
  · have := htl b e; omega
  · by_cases e : j = i
    · subst e
      rw [updF_same] at hg
      rw [updF_ne _ _ (fun e => hne e.symm)]
      exact fun e2 => (hA.vq k hk (fun e => hne e.symm) g e2).1 hg
    · rw [updF_ne _ _ e] at hg
      by_cases e2 : k = i
      · subst e2
        rw [updF_same]
        exact (hA.vq j hj e g hg).1
      · rw [updF_ne _ _ e2]
        exact hA.vv j k hj hk e e2 hne g hg
  · by_cases e : j = i
    · subst e; rw [updF_same] at hg; exact hA.qt g hg
    · rw [updF_ne _ _ e] at hg; exact (hA.vq j hj e g hg).2
  · have := hVl j hj g hg
    have := hvh g e
    omega
  · have := htl g hg
    have := hvh g e
    omega
  · rcases hk with ⟨j, hj, hk⟩ | hk
    · have := hVl j hj k hk; omega
    · have := htl k hk; omega

set_option maxRecDepth 100000 in
set_option maxHeartbeats 8000000 in
theorem racc_main {w : World} {lo b : Nat} {E B : Nat → Int} {V : Nat → Value} {vt vh : Value} {Q : Nat → List Rec} {T : List Rec} {Hs : List Hd} (h : RefAt w lo b E B V vt vh Q T Hs false) (x : Rec) (hx : x.fits) (i : Nat) (hi4 : i < 4) (hxi : x.session = i) (hok : okKey x.key = true) (hv : 0 ≤ x.value ∧ x.value ≤ 4294967295) (hep : ¬ x.epoch < E i)
    (hT : T.length ≤ 1000) (hH : Hs.length ≤ 1000000000) (hq : ∀ j, j < 4 → (Q j).length ≤ 3) (hB : ∀ j, j < 4 → 0 ≤ B j ∧ B j ≤ 1000) :
    Calls Tryz.prog 46 #[.pointer (some ⟨b, 0, none⟩), x.value'] w fun e w' => e = .returned (.tuple #[.int .i64 (accR2 E B Q T i x).1.1, .int .i64 (accR2 E B Q T i x).1.2]) ∧ RaccPost w w' lo b i E B vh Q Hs (accR2 E B Q T i x).2 := by
  obtain ⟨i0, hi0, hz0, hz1, hz2⟩ := info_parts Tryz.infoR
  obtain ⟨W0, hW0⟩ : ∃ W0, W0 = w.alloc (Obj.cells #[.int .i64 i, .int .i64 x.epoch, .int .i64 x.number, .string x.key, .int .i64 x.value] 53) := ⟨_, rfl⟩
  have c0 : Chg (fun _ => False) w W0 := by rw [hW0]; exact (Chg.refl _ w).alloc _
  have hs0 : W0.heap.size = w.heap.size + 1 := by rw [hW0]; simp
  have x0 : W0.cell? ⟨w.heap.size, 0, none⟩ = some (.int .i64 i) := by rw [hW0]; exact World.cell?_alloc_at _ _ _ _ rfl
  have x1 : W0.cell? ⟨w.heap.size, 1, none⟩ = some (.int .i64 x.epoch) := by rw [hW0]; exact World.cell?_alloc_at _ _ _ _ rfl
  have x2 : W0.cell? ⟨w.heap.size, 2, none⟩ = some (.int .i64 x.number) := by rw [hW0]; exact World.cell?_alloc_at _ _ _ _ rfl
  have x3 : W0.cell? ⟨w.heap.size, 3, none⟩ = some (.string x.key) := by rw [hW0]; exact World.cell?_alloc_at _ _ _ _ rfl
  have x4 : W0.cell? ⟨w.heap.size, 4, none⟩ = some (.int .i64 x.value) := by rw [hW0]; exact World.cell?_alloc_at _ _ _ _ rfl
  obtain ⟨l0, hl0⟩ : ∃ l0, l0 = W0.heap.size := ⟨_, rfl⟩
  have HL0 : Hid (l0 = w.heap.size + 1) := hl0.trans hs0
  have HLW : Hid (l0 = W0.heap.size) := hl0
  have hcl := c0.cellAt h.cl id
  have xe := c0.cellAt (h.ep i hi4) id
  have hik := risKey_any x.key W0 hx.key
  rw [hok] at hik
  have hcp : ∀ n, Calls Tryz.prog 57 #[.pointer (some ⟨b, 0, none⟩)] (W0.drewN n) fun e w' => ∃ V' vt' vh', e = .returned (.pointer (some ⟨l0, 0, none⟩)) ∧ RefAt w' l0 l0 E B V' vt' vh' Q T Hs false ∧ Chg (fun _ => False) W0 w' := fun n => by
    refine (copy_any (h.keep (c0.trans (((Quiet.refl W0).drewN n).chg _) (fun _ _ h => h))) hT hH (fun j hj => by have := hq j hj; omega)).mono ?_
    rintro e w' ⟨V', vt', vh', h1, h2, h3⟩
    have e0 : (W0.drewN n).heap.size = l0 := HLW.out.symm
    rw [e0] at h1 h2
    exact ⟨V', vt', vh', h1, h2, (((Quiet.refl W0).drewN n).chg _).trans h3 (fun _ _ h => h)⟩
  obtain ⟨f1, f2, f3, f4, f5⟩ := hx
  unfold inInt at f1 f2 f3 f4
  have hi4' : (i : Int) < 4 := by omega
  have hv0 : ¬ x.value < 0 := by omega
  have hv1 : ¬ 4294967295 < x.value := by omega
  have HXV : Hid (x.value' = .agg #[.int .i64 i, .int .i64 x.epoch, .int .i64 x.number, .string x.key, .int .i64 x.value]) := by show _ = _; unfold Rec.value'; rw [hxi]
  have hbl : b < w.heap.size := World.block_lt_of_cell? _ _ h.tk
  rw [HXV.out]
  go_enter Tryz.func46, Tryz.ntmps46
  go_wp2_with fail
  rw [← hW0]
  refine hik.mono ?_
  rintro _ w1 ⟨rfl, ew⟩
  rw [ew]
  clear ew w1 hW0 hik hs0 hl0
  go_wp2_with fail
  go_quiet (fail)
  go_wp2_with fail
  refine (hcp _).mono ?_
  rintro _ w1 ⟨V1, vt1, vh1, rfl, hR1, c1⟩
  clear hcp hcl xe
  have y0 := c1.cellAt x0 id
  have z0 := hR1.ep i hi4
  have z1 := hR1.ba i hi4
  have z2 := hR1.qu i hi4
  obtain ⟨pq, cq, hpq⟩ := row_any (hR1.rows i hi4)
  rw [hpq] at z2
  have HPQ : Hid (V1 i = .slice pq (Q i).length cq) := hpq
  have ya0 : ∀ ob, (w1.alloc ob).cell? ⟨w.heap.size, 0, none⟩ = some (.int .i64 i) := fun ob => (World.cell?_alloc_lt w1 ob _ (World.block_lt_of_cell? _ _ y0)).trans y0
  have za0 : ∀ ob, (w1.alloc ob).cell? ⟨l0, i * 3, none⟩ = some (.int .i64 (E i)) := fun ob => (World.cell?_alloc_lt w1 ob _ (World.block_lt_of_cell? _ _ z0)).trans z0
  have za1 : ∀ ob, (w1.alloc ob).cell? ⟨l0, i * 3 + 1, none⟩ = some (.int .i64 (B i)) := fun ob => (World.cell?_alloc_lt w1 ob _ (World.block_lt_of_cell? _ _ z1)).trans z1
  have za2 : ∀ ob, (w1.alloc ob).cell? ⟨l0, i * 3 + 2, none⟩ = some (.slice pq (Q i).length cq) := fun ob => (World.cell?_alloc_lt w1 ob _ (World.block_lt_of_cell? _ _ z2)).trans z2
  clear hpq
  go_upto_region 11 with fail
  go_region
  obtain ⟨W2, hW2⟩ : ∃ W2, W2 = (w1.alloc (Obj.cells #[.int .i64 (E i), .int .i64 (B i), .slice pq (Q i).length cq] 133)).drew := ⟨_, rfl⟩
  rw [← hW2]
  have c2 : Chg (fun _ => False) w1 W2 := by rw [hW2]; exact ((Chg.refl _ w1).alloc _).drew
  have hA0 : AccAt W2 l0 l0 w1.heap.size i E B V1 Q (E i) (B i) (V1 i) vt1 (Q i) T := by
    refine AccAt.first hR1 hi4 (Nat.le_refl _) c2 (Nat.le_refl _) ?_ ?_ ?_ (fun j => ?_)
    · rw [hW2, World.cell?_drew]; exact World.cell?_alloc_at _ _ _ _ rfl
    · rw [hW2, World.cell?_drew]; exact World.cell?_alloc_at _ _ _ _ rfl
    · rw [hW2, World.cell?_drew, HPQ.out]; exact World.cell?_alloc_at _ _ _ _ rfl
    · rw [hW2]; exact World.frozen?_alloc_at _ _ _ _ rfl
  obtain ⟨sb, hsb⟩ : ∃ sb, sb = w1.heap.size := ⟨_, rfl⟩
  rw [← hsb] at hA0 ⊢
  have cX0 : Chg (fun k => l0 ≤ k) W0 W2 := (c1.trans c2 (fun _ _ h => h)).mono (fun _ h => h.elim)
  clear hW2 c2 c1 y0 z0 z1 z2 ya0 za0 za1 za2 hsb hR1
  have hlw : w.heap.size < l0 := by have := HL0.out; omega
  have y1 := cX0.cellAt x1 (by omega)
  have t0 := hA0.s0
  go_upto_if 67 with fail
  obtain ⟨te, hte⟩ : ∃ te, te = teR E i x := ⟨_, rfl⟩
  obtain ⟨tb, htb⟩ : ∃ tb, tb = tbR E B i x := ⟨_, rfl⟩
  obtain ⟨tq, htq⟩ : ∃ tq, tq = tqR E Q i x := ⟨_, rfl⟩
  have HTE : Hid (te = teR E i x) := hte
  have HTB : Hid (tb = tbR E B i x) := htb
  have HTQ : Hid (tq = tqR E Q i x) := htq
  have htbr : 0 ≤ tb ∧ tb ≤ 1000 := by rw [htb]; unfold tbR; have := hB i hi4; split <;> omega
  have htql : tq.length ≤ 3 := by rw [htq]; unfold tqR; have := hq i hi4; split <;> simp <;> omega
  clear hte htb htq
  go_cut [] from 67 to 77 (fun wc => ∃ (E1 B1 : Nat → Int) (V2 : Nat → Value) (vq : Value), AccAt wc l0 l0 sb i E1 B1 V2 Q te tb vq vt1 tq T ∧ V2 i = vq ∧ (∀ j, j ≠ i → E1 j = E j ∧ B1 j = B j) ∧ Chg (fun k => l0 ≤ k) W0 wc)
  case first =>
    by_cases hlt : E i < x.epoch
    · have e1 : te = x.epoch := by rw [HTE.out]; unfold teR; rw [if_pos hlt]
      have e2 : tb = 0 := by rw [HTB.out]; unfold tbR; rw [if_pos hlt]
      have e3 : tq = [] := by rw [HTQ.out]; unfold tqR; rw [if_pos hlt]
      have HE : Hid (te = x.epoch ∧ tb = 0 ∧ tq = []) := ⟨e1, e2, e3⟩
      clear e1 e2 e3
      have t1 := hA0.s1
      have t2 := hA0.s2
      rw [HPQ.out] at t2
      have g0 := hA0.fzs 0
      have g1 := hA0.fzs 1
      have g2 := hA0.fzs 2
      have y0 := cX0.cellAt x0 (by omega)
      have hcs := hA0.cs
      have hcs' : ¬ sb = l0 := fun e => hcs e.symm
      have hsl := hA0.sl
      have nsw : ¬ sb = w.heap.size := by omega
      have nws : ¬ w.heap.size = sb := by omega
      have nlw : ¬ l0 = w.heap.size := by omega
      have d0 := hA0.ep i hi4
      have d1 := hA0.ba i hi4
      have d2 := hA0.qu i hi4
      have k0 := hA0.fzc (i * 3)
      have k1 := hA0.fzc (i * 3 + 1)
      have k2 := hA0.fzc (i * 3 + 2)
      go_wp2_with fail
      go_region
      go_wp2_with fail
      go_meet
      case rel =>
        obtain ⟨hA1, cA1⟩ := hA0.turn hi4 x.epoch rfl rfl
        refine ⟨updF E i x.epoch, updF B i 0, updF V1 i (.slice none 0 0), .slice none 0 0, ?_, updF_same _ _ _, fun j hj => ⟨updF_ne _ _ hj, updF_ne _ _ hj⟩, ?_⟩
        · obtain ⟨e1, e2, e3⟩ := HE.out
          rw [e1, e2, e3]
          exact hA1.keep (((Quiet.refl _).drew).chg _)
        · exact (cX0.trans cA1 (fun _ _ h => h)).trans (((Quiet.refl _).drew).chg (fun _ => False)) (fun _ _ h => h.elim)
    · have e1 : te = E i := by rw [HTE.out]; unfold teR; rw [if_neg hlt]
      have e2 : tb = B i := by rw [HTB.out]; unfold tbR; rw [if_neg hlt]
      have e3 : tq = Q i := by rw [HTQ.out]; unfold tqR; rw [if_neg hlt]
      have HE : Hid (te = E i ∧ tb = B i ∧ tq = Q i) := ⟨e1, e2, e3⟩
      clear e1 e2 e3
      go_wp2_with fail
      go_meet
      case rel =>
        obtain ⟨e1, e2, e3⟩ := HE.out
        exact ⟨E, B, V1, V1 i, by rw [e1, e2, e3]; exact hA0, rfl, fun j _ => ⟨rfl, rfl⟩, cX0⟩
  case rest =>
    clear hA0 cX0 y1 t0 HPQ
    obtain ⟨E1, B1, V2, vq, hA, hVi, hEB, cX⟩ := hcut
    have HVI : Hid (V2 i = vq) := hVi
    have HVS : Hid (∀ j, j < 4 → ∃ p n k, V2 j = .slice p n k) := fun j hj => by
      by_cases e : j = i
      · subst e
        obtain ⟨p, k, e2⟩ := row_any hA.row
        exact ⟨p, _, k, hVi.trans e2⟩
      · obtain ⟨p, k, e2⟩ := row_any (hA.rows j hj e)
        exact ⟨p, _, k, e2⟩
    have HR : Hid (accR2 E B Q T i x = if x.number < 0 ∨ tb + 4 ≤ x.number then ((0, 5), none) else if x.number < tb ∨ 0 ≤ idxR x.number tq 0 then ((tb, 0), none) else if fullR T (updF Q i tq) x.key ≠ 0 then ((0, fullR T (updF Q i tq) x.key), none) else (((drainR (tq.length + 2) tb (tq ++ [x]) T).1, 0), some (te, drainR (tq.length + 2) tb (tq ++ [x]) T))) := by
      show _ = _
      rw [HTE.out, HTB.out, HTQ.out]
      rfl
    have hlw' : w.heap.size ≤ l0 := by omega
    clear hVi HTE HTB HTQ
    have y2 := cX.cellAt x2 (by omega)
    have s1 := hA.s1
    by_cases hn0 : x.number < 0
    · have HR' : Hid (accR2 E B Q T i x = ((0, 5), none)) := by show _ = _; rw [HR.out, if_pos (.inl hn0)]
      clear HR
      go_wp2_with fail
      go_ret2
      exact ⟨by rw [HR'.out]; rfl, by rw [HR'.out]; exact c0.low cX hlw'⟩
    · by_cases hn4 : tb + 4 ≤ x.number
      · have HR' : Hid (accR2 E B Q T i x = ((0, 5), none)) := by show _ = _; rw [HR.out, if_pos (.inr hn4)]
        clear HR
        go_wp2_with fail
        go_ret2
        exact ⟨by rw [HR'.out]; rfl, by rw [HR'.out]; exact c0.low cX hlw'⟩
      · have hwt := waits_any x.number (o := 0) hA.s2 hA.row (by omega)
        have HR1 : Hid (accR2 E B Q T i x = if x.number < tb ∨ 0 ≤ idxR x.number tq 0 then ((tb, 0), none) else if fullR T (updF Q i tq) x.key ≠ 0 then ((0, fullR T (updF Q i tq) x.key), none) else (((drainR (tq.length + 2) tb (tq ++ [x]) T).1, 0), some (te, drainR (tq.length + 2) tb (tq ++ [x]) T))) := by
          show _ = _
          rw [HR.out, if_neg (fun e => e.elim hn0 hn4)]
        have hidx := idxR_lt x.number tq 0
        obtain ⟨ix, hix⟩ : ∃ ix, ix = idxR x.number tq 0 := ⟨_, rfl⟩
        rw [← hix] at hwt hidx HR1
        have hixr : -1 ≤ ix ∧ ix ≤ 10 := by
          rcases hidx with e | ⟨j, e1, e2⟩ <;> omega
        clear HR hix hidx
        go_wp2_with fail
        refine hwt.mono ?_
        rintro _ w3 ⟨rfl, ew⟩
        rw [ew]
        clear ew w3 hwt
        by_cases hold : x.number < tb ∨ 0 ≤ ix
        · have HR' : Hid (accR2 E B Q T i x = ((tb, 0), none)) := by show _ = _; rw [HR1.out, if_pos hold]
          clear HR1
          by_cases ho : x.number < tb
          · clear hold
            go_wp2_with fail
            go_ret2
            exact ⟨by rw [HR'.out]; rfl, by rw [HR'.out]; exact c0.low cX hlw'⟩
          · have ho2 : 0 ≤ ix := hold.resolve_left ho
            clear hold
            go_wp2_with fail
            go_ret2
            exact ⟨by rw [HR'.out]; rfl, by rw [HR'.out]; exact c0.low cX hlw'⟩
        · have ho1 : ¬ x.number < tb := fun e => hold (.inl e)
          have ho2 : ¬ 0 ≤ ix := fun e => hold (.inr e)
          have HR2 : Hid (accR2 E B Q T i x = if fullR T (updF Q i tq) x.key ≠ 0 then ((0, fullR T (updF Q i tq) x.key), none) else (((drainR (tq.length + 2) tb (tq ++ [x]) T).1, 0), some (te, drainR (tq.length + 2) tb (tq ++ [x]) T))) := by
            show _ = _
            rw [HR1.out, if_neg hold]
          clear HR1 hold
          have y0 := cX.cellAt x0 (by omega)
          have y1 := cX.cellAt x1 (by omega)
          have y3 := cX.cellAt x3 (by omega)
          have y4 := cX.cellAt x4 (by omega)
          have hfl := rfull_any (Q := updF Q i tq) x hA.tk hA.taken hT hA.qu (fun j hj => by
            by_cases e : j = i
            · subst e; rw [updF_same, HVI.out]; exact hA.row
            · rw [updF_ne _ _ e]; exact hA.rows j hj e) (fun j hj => by
            by_cases e : j = i
            · subst e; rw [updF_same]; omega
            · rw [updF_ne _ _ e]; have := hq j hj; omega)
          rw [HXV.out] at hfl
          obtain ⟨fr, hfr⟩ : ∃ fr, fr = fullR T (updF Q i tq) x.key := ⟨_, rfl⟩
          rw [← hfr] at hfl HR2
          clear hfr
          go_wp2_with fail
          refine hfl.mono ?_
          rintro _ w4 ⟨rfl, c4⟩
          clear hfl
          have hA4 := hA.keep c4
          have cX4 : Chg (fun k => l0 ≤ k) W0 w4 := cX.trans c4 (fun _ _ h => h.elim)
          by_cases hf0 : fr = 0
          · have HR3 : Hid (accR2 E B Q T i x = (((drainR (tq.length + 2) tb (tq ++ [x]) T).1, 0), some (te, drainR (tq.length + 2) tb (tq ++ [x]) T))) := by show _ = _; rw [HR2.out, if_neg (by simpa using hf0)]
            rw [hf0]
            clear HR2 hf0 hA cX y0 y1 y2 y3 y4 s1
            have y0 := cX4.cellAt x0 (by omega)
            have y1 := cX4.cellAt x1 (by omega)
            have y2 := cX4.cellAt x2 (by omega)
            have y3 := cX4.cellAt x3 (by omega)
            have y4 := cX4.cellAt x4 (by omega)
            have HXC : Hid (x.cells = [.int .i64 i, .int .i64 x.epoch, .int .i64 x.number, .string x.key, .int .i64 x.value]) := by show _ = _; unfold Rec.cells; rw [hxi]
            obtain ⟨v5, w5, hrun, o5, g5, e5⟩ := run_append_where (P := Tryz.prog) (w4.alloc (Obj.cells #[.int .i64 i, .int .i64 x.epoch, .int .i64 x.number, .string x.key, .int .i64 x.value] 53)) l0 131 131 53 i0 _ 5 48 Tryz.underlying131 hi0 hz0 hz1 hz2 rfl (by decide) _ tq.length _ (hA4.row.alloc _) ⟨w4.heap.size, 0, none⟩ 1 1 x.cells rfl (fun j y hj => by rw [add_lit', Nat.zero_add]; rw [HXC.out] at hj; rcases j with _ | _ | _ | _ | _ | j <;> simp at hj <;> subst hj <;> exact World.cell?_alloc_at _ _ _ _ rfl) (fun y hy => by rw [HXC.out] at hy; simp at hy; rcases hy with rfl | rfl | rfl | rfl | rfl <;> rfl) (by unfold maxLen; omega) (by omega) (by have := hA4.low; simp; omega)
            have c5 : Chg (fun g => vq.ownBlock = some g) w4 w5 := ((Chg.refl (fun g => vq.ownBlock = some g) w4).alloc _).trans (G := fun g => vq.ownBlock = some g) ⟨g5.os, g5.tape, g5.output, g5.size, fun k hk hne => g5.block k hk (fun e => hne e.symm)⟩ (fun _ _ h => h)
            have hwh : Wh w4.heap.size vq v5 := e5.imp id (fun e k hk => by have := e k hk; rw [World.size_alloc] at this; omega)
            obtain ⟨q5, hq5⟩ : ∃ q5, q5 = tq ++ [x] := ⟨_, rfl⟩
            have hq5l : q5.length = tq.length + 1 := by rw [hq5]; simp
            have hq54 : 1 ≤ q5.length ∧ q5.length ≤ 4 := by omega
            have o5' : w5.ownsRow l0 53 5 v5 q5.length (recCells q5) := by
              rw [hq5, recCells_append, List.length_append]
              simpa [recCells] using o5
            have HR4 : Hid (accR2 E B Q T i x = (((drainR (q5.length + 1) tb q5 T).1, 0), some (te, drainR (q5.length + 1) tb q5 T))) := by show _ = _; rw [HR3.out, hq5l, hq5]
            clear HR3 hq5 hq5l o5
            obtain ⟨hA5, cA5⟩ := hA4.wait c5 o5' hwh
            have cX5 := cX4.trans cA5 (fun _ _ h => h)
            have u2 := c5.cellAt hA4.s2 hA4.oq.2
            have uf : w5.frozen? ⟨sb, 2, none⟩ = false := (World.frozen?_of_block (w := w4) (c5.block sb (World.block_lt_of_cell? _ _ hA4.s0) hA4.oq.2)).trans (hA4.fzs 2)
            have t2 := hA4.s2
            obtain ⟨p5, k5, rfl⟩ := row_any o5'
            have hwt := waits_any tb (o := 0) hA5.s2 hA5.row (by omega)
            have u1 : w5.cell? ⟨sb, 1, none⟩ = some (.int .i64 tb) := c5.cellAt hA4.s1 hA4.oq.2
            go_wp2_with (at_builtin; refine Lib.wpList_append_run _ rfl (.tmp 110) (.tmp 112) 131 131 rfl _ _ rfl rfl (.slice p5 q5.length k5) w5 hrun ?_)
            refine hwt.mono ?_
            rintro _ w6 ⟨rfl, ew⟩
            rw [ew]
            clear ew w6 hwt
            go_wp2_with fail
            go_loopg [9, 11] (q5.length + 1) (fun f s9 _ wr => ∃ (bb : Int) (q1 T1 : List Rec) (vq1 vt2 : Value), s9 = .int .i64 (idxR bb q1 0) ∧ AccAt wr l0 l0 sb i E1 B1 V2 Q te bb vq1 vt2 q1 T1 ∧ 0 ≤ bb ∧ bb + q1.length ≤ 1010 ∧ q1.length < f ∧ q1.length ≤ 4 ∧ T1.length + q1.length ≤ 1010 ∧ Hid (drainR (q5.length + 1) tb q5 T = drainR f bb q1 T1) ∧ Chg (fun k => l0 ≤ k) W0 wr)
            case atStart => exact ⟨tb, q5, T, _, vt1, rfl, hA5, by omega, by omega, by omega, by omega, by omega, (show _ = _ from rfl), cX5⟩
            case round =>
              clear hA5 cX5 u1 u2 uf t2 y0 y1 y2 y3 y4 hA4 cX4 hrun o5' g5 e5 c5 hwh cA5
              obtain ⟨bb, q1, T1, vq1, vt2, rfl, hA, hbb, hbq, hqf, hq4, hTq, HD, cX⟩ := hrel
              rcases idxR_lt bb q1 0 with hix | ⟨jx, hjl, hix⟩
              · have HD' : Hid (drainR (q5.length + 1) tb q5 T = (bb, q1, T1)) := by show _ = _; rw [HD.out, drainR_stop _ (by omega)]
                rw [hix]
                clear HD hix
                have HR5 : Hid (accR2 E B Q T i x = ((bb, 0), some (te, bb, q1, T1))) := by show _ = _; rw [HR4.out, HD'.out]
                clear HR4 HD'
                obtain ⟨p0, n0, k0, V0⟩ := HVS.out 0 (by omega)
                obtain ⟨p1, n1, k1, V1'⟩ := HVS.out 1 (by omega)
                obtain ⟨p2, n2, k2, V2'⟩ := HVS.out 2 (by omega)
                obtain ⟨p3, n3, k3, V3'⟩ := HVS.out 3 (by omega)
                have a0 := hA.ep 0 (by omega); have a1 := hA.ba 0 (by omega); have a2 := hA.qu 0 (by omega)
                have a3 := hA.ep 1 (by omega); have a4 := hA.ba 1 (by omega); have a5 := hA.qu 1 (by omega)
                have a6 := hA.ep 2 (by omega); have a7 := hA.ba 2 (by omega); have a8 := hA.qu 2 (by omega)
                have a9 := hA.ep 3 (by omega); have a10 := hA.ba 3 (by omega); have a11 := hA.qu 3 (by omega)
                rw [V0] at a2
                rw [V1'] at a5
                rw [V2'] at a8
                rw [V3'] at a11
                simp only [Nat.zero_mul, Nat.one_mul, Nat.zero_add, Nat.reduceMul, Nat.reduceAdd] at a0 a1 a2 a3 a4 a5 a6 a7 a8 a9 a10 a11
                have hRw : RefAt W0 lo b E B V vt vh Q T Hs false := h.keep c0
                have hbl0 : ¬ l0 ≤ b := by omega
                have e0 := cX.cellAt (hRw.ep 0 (by omega)) hbl0; have e1 := cX.cellAt (hRw.ba 0 (by omega)) hbl0; have e2 := cX.cellAt (hRw.qu 0 (by omega)) hbl0
                have e3 := cX.cellAt (hRw.ep 1 (by omega)) hbl0; have e4 := cX.cellAt (hRw.ba 1 (by omega)) hbl0; have e5 := cX.cellAt (hRw.qu 1 (by omega)) hbl0
                have e6 := cX.cellAt (hRw.ep 2 (by omega)) hbl0; have e7 := cX.cellAt (hRw.ba 2 (by omega)) hbl0; have e8 := cX.cellAt (hRw.qu 2 (by omega)) hbl0
                have e9 := cX.cellAt (hRw.ep 3 (by omega)) hbl0; have e10 := cX.cellAt (hRw.ba 3 (by omega)) hbl0; have e11 := cX.cellAt (hRw.qu 3 (by omega)) hbl0
                simp only [Nat.zero_mul, Nat.one_mul, Nat.zero_add, Nat.reduceMul, Nat.reduceAdd] at e0 e1 e2 e3 e4 e5 e6 e7 e8 e9 e10 e11
                have ff : ∀ j, wr.frozen? ⟨b, j, none⟩ = false := fun j => (World.frozen?_of_block (w := W0) (cX.block b (World.block_lt_of_cell? _ _ hRw.tk) hbl0)).trans (hRw.fz j)
                have f0 := ff 0; have f1' := ff 1; have f2' := ff 2; have f3' := ff 3; have f4' := ff 4; have f5' := ff 5; have f6 := ff 6; have f7 := ff 7; have f8 := ff 8; have f9 := ff 9; have f10 := ff 10; have f11 := ff 11
                obtain ⟨pv1, kv1, hpv⟩ := row_any hA.row
                subst hpv
                obtain ⟨pt1, kt1, hpt⟩ := row_any hA.taken
                subst hpt
                obtain ⟨W9, hW9⟩ : ∃ W9, W9 = (((((((((((wr.setCell ⟨b, 0, none⟩ (.int .i64 (E1 0))).setCell ⟨b, 1, none⟩ (.int .i64 (B1 0))).setCell ⟨b, 2, none⟩ (.slice p0 n0 k0)).setCell ⟨b, 3, none⟩ (.int .i64 (E1 1))).setCell ⟨b, 4, none⟩ (.int .i64 (B1 1))).setCell ⟨b, 5, none⟩ (.slice p1 n1 k1)).setCell ⟨b, 6, none⟩ (.int .i64 (E1 2))).setCell ⟨b, 7, none⟩ (.int .i64 (B1 2))).setCell ⟨b, 8, none⟩ (.slice p2 n2 k2)).setCell ⟨b, 9, none⟩ (.int .i64 (E1 3))).setCell ⟨b, 10, none⟩ (.int .i64 (B1 3))).setCell ⟨b, 11, none⟩ (.slice p3 n3 k3) := ⟨_, rfl⟩
                have hBb : Blk wr b 15 (fun j => if j < 12 then (if j % 3 = 0 then .int .i64 (E (j / 3)) else if j % 3 = 1 then .int .i64 (B (j / 3)) else V (j / 3)) else if j = 12 then vt else if j = 13 then vh else .bool false) := by
                  refine ⟨fun j hj => ?_, ff⟩
                  by_cases h12 : j < 12
                  · rcases (by omega : j % 3 = 0 ∨ j % 3 = 1 ∨ j % 3 = 2) with h3 | h3 | h3
                    · simp only [h12, h3, if_true]
                      have := cX.cellAt (hRw.ep (j / 3) (by omega)) hbl0
                      rw [show j / 3 * 3 = j by omega] at this
                      exact this
                    · simp only [h12, h3, if_true]
                      have := cX.cellAt (hRw.ba (j / 3) (by omega)) hbl0
                      rw [show j / 3 * 3 + 1 = j by omega] at this
                      simpa using this
                    · simp only [h12, h3, if_true]
                      have := cX.cellAt (hRw.qu (j / 3) (by omega)) hbl0
                      rw [show j / 3 * 3 + 2 = j by omega] at this
                      simpa using this
                  · rcases (by omega : j = 12 ∨ j = 13 ∨ j = 14) with rfl | rfl | rfl
                    · simpa using cX.cellAt hRw.tk hbl0
                    · simpa using cX.cellAt hRw.hd hbl0
                    · simpa using cX.cellAt hRw.cl hbl0
                have hB9 := (((((((((((hBb.set 0 (.int .i64 (E1 0))).set 1 (.int .i64 (B1 0))).set 2 (.slice p0 n0 k0)).set 3 (.int .i64 (E1 1))).set 4 (.int .i64 (B1 1))).set 5 (.slice p1 n1 k1)).set 6 (.int .i64 (E1 2))).set 7 (.int .i64 (B1 2))).set 8 (.slice p2 n2 k2)).set 9 (.int .i64 (E1 3))).set 10 (.int .i64 (B1 3))).set 11 (.slice p3 n3 k3)
                rw [← hW9] at hB9
                have q9 : ∀ j, j < 4 → W9.cell? ⟨b, j * 3, none⟩ = some (.int .i64 (E1 j)) ∧ W9.cell? ⟨b, j * 3 + 1, none⟩ = some (.int .i64 (B1 j)) ∧ W9.cell? ⟨b, j * 3 + 2, none⟩ = some (V2 j) := fun j hj => by
                  rcases (by omega : j = 0 ∨ j = 1 ∨ j = 2 ∨ j = 3) with rfl | rfl | rfl | rfl
                  · rw [V0]; exact ⟨hB9.cell 0 (by omega), hB9.cell 1 (by omega), hB9.cell 2 (by omega)⟩
                  · rw [V1']; exact ⟨hB9.cell 3 (by omega), hB9.cell 4 (by omega), hB9.cell 5 (by omega)⟩
                  · rw [V2']; exact ⟨hB9.cell 6 (by omega), hB9.cell 7 (by omega), hB9.cell 8 (by omega)⟩
                  · rw [V3']; exact ⟨hB9.cell 9 (by omega), hB9.cell 10 (by omega), hB9.cell 11 (by omega)⟩
                have q12 : W9.cell? ⟨b, 12, none⟩ = some vt := hB9.cell 12 (by omega)
                have q13 : W9.cell? ⟨b, 13, none⟩ = some vh := hB9.cell 13 (by omega)
                have q14 : W9.cell? ⟨b, 14, none⟩ = some (.bool false) := hB9.cell 14 (by omega)
                have fz9 := hB9.fz
                have c9 : Chg (fun k => k = b) wr W9 := by
                  rw [hW9]
                  exact ((((((((((((Chg.refl (fun k => k = b) wr).setCell (p := ⟨b, 0, none⟩) (fun _ => rfl) _).setCell (p := ⟨b, 1, none⟩) (fun _ => rfl) _).setCell (p := ⟨b, 2, none⟩) (fun _ => rfl) _).setCell (p := ⟨b, 3, none⟩) (fun _ => rfl) _).setCell (p := ⟨b, 4, none⟩) (fun _ => rfl) _).setCell (p := ⟨b, 5, none⟩) (fun _ => rfl) _).setCell (p := ⟨b, 6, none⟩) (fun _ => rfl) _).setCell (p := ⟨b, 7, none⟩) (fun _ => rfl) _).setCell (p := ⟨b, 8, none⟩) (fun _ => rfl) _).setCell (p := ⟨b, 9, none⟩) (fun _ => rfl) _).setCell (p := ⟨b, 10, none⟩) (fun _ => rfl) _).setCell (p := ⟨b, 11, none⟩) (fun _ => rfl) _
                have hA9 := hA.other c9 (fun k hk => by omega)
                have y0 := c9.cellAt (cX.cellAt x0 (by omega)) (by omega)
                have s0 := hA9.s0
                have s1 := hA9.s1
                have s2 := hA9.s2
                have tk := hA9.tk
                obtain ⟨r0, r1, r2⟩ := q9 i hi4
                have g0 := fz9 (i * 3)
                have g1 := fz9 (i * 3 + 1)
                have g2 := fz9 (i * 3 + 2)
                have g12 := fz9 12
                have hsl := hA9.sl
                have n1' : ¬ sb = b := by omega
                have n2' : ¬ b = sb := by omega
                have n3' : ¬ l0 = b := by omega
                have n4' : ¬ b = l0 := by omega
                have n5' : ¬ i * 3 = 12 := by omega
                have n6' : ¬ i * 3 + 1 = 12 := by omega
                have n7' : ¬ i * 3 + 2 = 12 := by omega
                go_wp2_with fail
                rw [← hW9]
                clear hW9 hBb hB9 a0 a1 a2 a3 a4 a5 a6 a7 a8 a9 a10 a11 e0 e1 e2 e3 e4 e5 e6 e7 e8 e9 e10 e11 f0 f1' f2' f3' f4' f5' f6 f7 f8 f9 f10 f11 ff V0 V1' V2' V3'
                go_region
                go_wp2_with fail
                go_ret2
                obtain ⟨WF, hWF⟩ : ∃ WF, WF = ((((W9.setCell ⟨b, i * 3, none⟩ (.int .i64 te)).setCell ⟨b, i * 3 + 1, none⟩ (.int .i64 bb)).setCell ⟨b, i * 3 + 2, none⟩ (.slice pv1 q1.length kv1)).setCell ⟨b, 12, none⟩ (.slice pt1 T1.length kt1)).drew := ⟨_, rfl⟩
                rw [← hWF]
                have cF : Chg (fun k => k = b) W9 WF := by rw [hWF]; exact (((((Chg.refl (fun k => k = b) W9).setCell (p := ⟨b, i * 3, none⟩) (fun _ => rfl) _).setCell (p := ⟨b, i * 3 + 1, none⟩) (fun _ => rfl) _).setCell (p := ⟨b, i * 3 + 2, none⟩) (fun _ => rfl) _).setCell (p := ⟨b, 12, none⟩) (fun _ => rfl) _).drew
                have oth : ∀ o v, o ≠ i * 3 → o ≠ i * 3 + 1 → o ≠ i * 3 + 2 → o ≠ 12 → W9.cell? ⟨b, o, none⟩ = some v → WF.cell? ⟨b, o, none⟩ = some v := fun o v o1 o2 o3 o4 ho => by
                  rw [hWF, World.cell?_drew]
                  exact (World.cell?_setCell_other _ _ _ _ (by simp [o4])).trans ((World.cell?_setCell_other _ _ _ _ (by simp [o3])).trans ((World.cell?_setCell_other _ _ _ _ (by simp [o2])).trans ((World.cell?_setCell_other _ _ _ _ (by simp [o1])).trans ho)))
                have cw : Chg (fun k => k = b) w WF := (((c0.low cX hlw').mono (fun _ h => h.elim)).trans c9 (fun _ _ h => h)).trans cF (fun _ _ h => h)
                have hd := RefAt.done (W := W9) h hi4 hlw (hA9.other cF (fun k hk => by omega)) hEB (fun j hj hne => by
                  obtain ⟨j0, j1, j2⟩ := q9 j hj
                  exact ⟨oth _ _ (by omega) (by omega) (by omega) (by omega) j0, oth _ _ (by omega) (by omega) (by omega) (by omega) j1, oth _ _ (by omega) (by omega) (by omega) (by omega) j2⟩) (by
                  rw [hWF, World.cell?_drew]
                  exact (World.cell?_setCell_other _ _ _ _ (by simp <;> omega)).trans ((World.cell?_setCell_other _ _ _ _ (by simp)).trans ((World.cell?_setCell_other _ _ _ _ (by simp)).trans (World.cell?_setCell_same _ _ _ r0)))) (by
                  rw [hWF, World.cell?_drew]
                  exact (World.cell?_setCell_other _ _ _ _ (by simp <;> omega)).trans ((World.cell?_setCell_other _ _ _ _ (by simp)).trans (World.cell?_setCell_same _ _ _ ((World.cell?_setCell_other _ _ _ _ (by simp)).trans r1)))) (by
                  rw [hWF, World.cell?_drew]
                  exact (World.cell?_setCell_other _ _ _ _ (by simp <;> omega)).trans (World.cell?_setCell_same _ _ _ ((World.cell?_setCell_other _ _ _ _ (by simp)).trans ((World.cell?_setCell_other _ _ _ _ (by simp)).trans r2)))) (by
                  rw [hWF, World.cell?_drew]
                  exact World.cell?_setCell_same _ _ _ ((World.cell?_setCell_other _ _ _ _ (by simp <;> omega)).trans ((World.cell?_setCell_other _ _ _ _ (by simp <;> omega)).trans ((World.cell?_setCell_other _ _ _ _ (by simp <;> omega)).trans q12)))) (oth _ _ (by omega) (by omega) (by omega) (by omega) q13) (oth _ _ (by omega) (by omega) (by omega) (by omega) q14) (fun j => by rw [hWF]; simpa using fz9 j) cw
                refine ⟨by rw [HR5.out]; rfl, ?_⟩
                rw [HR5.out]
                exact ⟨_, _, hd.1, hd.2, cw⟩
              · rw [Nat.zero_add] at hix
                obtain ⟨y, hy⟩ : ∃ y, q1[jx]? = some y := ⟨_, List.getElem?_eq_getElem hjl⟩
                obtain ⟨g', rfl⟩ : ∃ g', gk = g' + 1 := ⟨gk - 1, by omega⟩
                have HD' : Hid (drainR (q5.length + 1) tb q5 T = drainR g' (bb + 1) (q1.take jx ++ q1.drop (jx + 1)) (T1 ++ [y])) := by show _ = _; rw [HD.out, drainR_step _ hix hy]
                rw [hix]
                clear HD hix
                have hjl' : (jx : Int) < (q1.length : Int) := by omega
                obtain ⟨gq, cq1, hvq, _, hcapq, hcell⟩ := row_pos hA.row (by omega)
                subst hvq
                have cx := recCells_at q1 jx y hy
                have m0 := hcell _ _ cx.1
                have m1 := hcell _ _ cx.2.1
                have m2 := hcell _ _ cx.2.2.1
                have m3 := hcell _ _ cx.2.2.2.1
                have m4 := hcell _ _ cx.2.2.2.2
                have s2 := hA.s2
                have tk := hA.tk
                obtain ⟨pt2, ct2, hpt⟩ := row_any hA.taken
                subst hpt
                clear hcell cx
                go_wp2_with fail
                go_cut [] from 123 to 136 (fun wd => ∃ vt3, AccAt wd l0 l0 sb i E1 B1 V2 Q te bb (.slice (some ⟨gq, 0, none⟩) q1.length cq1) vt3 q1 (T1 ++ [y]) ∧ Chg (fun k => l0 ≤ k) W0 wd)
                case first =>
                  have hcb := World.block_lt_of_cell? _ _ hA.tk
                  have s1 : Hid (∀ j u, y.cells[j]? = some u → ((wr.alloc (.cells #[.int .i64 y.session, .int .i64 y.epoch, .int .i64 y.number, .string y.key, .int .i64 y.value] 53)).drew).cell? ((⟨wr.heap.size, 0, none⟩ : Addr).add j) = some u) := by
                    intro j u hj
                    match j, hj with
                    | 0, hj => simp [Rec.cells] at hj; subst hj; simp [Addr.add]
                    | 1, hj => simp [Rec.cells] at hj; subst hj; simp [Addr.add]
                    | 2, hj => simp [Rec.cells] at hj; subst hj; simp [Addr.add]
                    | 3, hj => simp [Rec.cells] at hj; subst hj; simp [Addr.add]
                    | 4, hj => simp [Rec.cells] at hj; subst hj; simp [Addr.add]
                    | k + 5, hj => simp [Rec.cells] at hj
                  have s3 : Hid (∀ u ∈ y.cells, u.oneCell' = true) := by
                    intro u hu
                    simp [Rec.cells] at hu
                    rcases hu with rfl | rfl | rfl | rfl | rfl <;> rfl
                  have s4 : Hid (T1.length + 1 ≤ maxLen) := by show _ ≤ maxLen; unfold maxLen; omega
                  have s5 : Hid ((T1.length + 1) * 48 ≤ 140737488355328) := by show _ ≤ _; omega
                  have s7 : Hid (l0 ≤ ((wr.alloc (.cells #[.int .i64 y.session, .int .i64 y.epoch, .int .i64 y.number, .string y.key, .int .i64 y.value] 53)).drew).heap.size) := by show l0 ≤ (wr.alloc _).heap.size; rw [World.size_alloc]; have := hA.low; omega
                  have s6 : Hid (∀ (v' : Value) (w1 : World), w1.ownsRow l0 53 5 v' (T1.length + 1) (recCells T1 ++ y.cells) → (wr.alloc (.cells #[.int .i64 y.session, .int .i64 y.epoch, .int .i64 y.number, .string y.key, .int .i64 y.value] 53)).drew.grownBy w1 (Value.slice pt2 T1.length ct2).ownBlock → (v'.ownBlock = (Value.slice pt2 T1.length ct2).ownBlock ∨ ∀ k, v'.ownBlock = some k → (wr.alloc (.cells #[.int .i64 y.session, .int .i64 y.epoch, .int .i64 y.number, .string y.key, .int .i64 y.value] 53)).drew.heap.size ≤ k) → w1.cell? ⟨l0, 12, none⟩ = some (.slice pt2 T1.length ct2) ∧ w1.frozen? ⟨l0, 12, none⟩ = false ∧ Hid (AccAt (w1.setCell ⟨l0, 12, none⟩ v') l0 l0 sb i E1 B1 V2 Q te bb (.slice (some ⟨gq, 0, none⟩) q1.length cq1) v' q1 (T1 ++ [y]) ∧ Chg (fun k => l0 ≤ k) wr (w1.setCell ⟨l0, 12, none⟩ v'))) := by
                    intro v' w1 hown hg hw
                    have cg : Chg (fun k => (Value.slice pt2 T1.length ct2).ownBlock = some k) wr w1 := ((Chg.refl (fun k => (Value.slice pt2 T1.length ct2).ownBlock = some k) wr).alloc _).trans (G := fun k => (Value.slice pt2 T1.length ct2).ownBlock = some k) ⟨hg.os, hg.tape, hg.output, hg.size, fun k hk hne' => hg.block k hk (fun h => hne' h.symm)⟩ (fun _ _ h => h)
                    have hr' : w1.ownsRow l0 53 5 v' (T1 ++ [y]).length (recCells (T1 ++ [y])) := by
                      rw [recCells_append, List.length_append]
                      simpa [recCells] using hown
                    have hwh' : Wh wr.heap.size (.slice pt2 T1.length ct2) v' := hw.imp id (fun e k hk => by
                      have := e k hk
                      have e2 : ((wr.alloc (.cells #[.int .i64 y.session, .int .i64 y.epoch, .int .i64 y.number, .string y.key, .int .i64 y.value] 53)).drew).heap.size = wr.heap.size + 1 := World.size_alloc _ _
                      omega)
                    exact ⟨cg.cellAt hA.tk hA.ot.1, (World.frozen?_of_block (w := wr) (cg.block l0 hcb hA.ot.1)).trans (hA.fzc 12), hA.take cg hr' hwh'⟩
                  have hta : (wr.alloc (.cells #[.int .i64 y.session, .int .i64 y.epoch, .int .i64 y.number, .string y.key, .int .i64 y.value] 53)).cell? ⟨l0, 12, none⟩ = some (.slice pt2 T1.length ct2) := (World.cell?_alloc_lt wr _ _ hcb).trans hA.tk
                  go_region_law (refine step_append_own rfl (.tmp 127) (.tmp 133) 131 rfl l0 53 i0 _ 5 48 Tryz.underlying131 hi0 hz0 hz1 hz2 rfl (by decide) _ T1.length (recCells T1) (by simp [Act.eval, Act.put]) (hA.taken.alloc _) ⟨wr.heap.size, 0, none⟩ 1 1 y.cells (by simp [Act.eval, Act.put]) rfl s1.out s3.out s4.out s5.out s7.out ?_; intro v' w1 hown hgrow hwhere; obtain ⟨q', cap', rfl⟩ := row_any hown; obtain ⟨hp1, hz1', hh⟩ := s6.out (.slice q' (T1.length + 1) cap') w1 hown hgrow hwhere)
                  all_goals
                    go_wp2_with fail
                    go_meet
                    case rel => exact ⟨_, hh.out.1, cX.trans hh.out.2 (fun _ _ h => h)⟩
                case rest =>
                  clear hA cX m0 m1 m2 m3 m4 s2 tk
                  obtain ⟨vt3, hA, cX⟩ := hcut
                  obtain ⟨v7, w7, r7, o7, c7⟩ := run_fill (P := Tryz.prog) wc 131 131 53 i0 _ 5 48 Tryz.underlying131 hi0 hz0 hz1 hz2 rfl (by decide) (.slice (some ⟨gq, 0, none⟩) jx cq1) jx (recCells (q1.take jx)) (by have := SrcAt.first hA.row jx cq1; rw [recCells_tk] at this; exact this) (by rw [recCells_len]; simp; omega) (recCells_one _) (by unfold maxLen; omega) (by omega)
                  have hwl := hA.low
                  have key8 : ∀ x3, SrcAt w7 x3 (q1.length - (jx + 1)) (recCells (q1.drop (jx + 1))) → ∃ p8 k8 w8 q8, (Builtin.append_ #[131, 131] 131 #[v7, x3]).run Tryz.prog w7 = .ok (.slice p8 (List.length q8) k8) w8 ∧ w8.cell? ⟨sb, 2, none⟩ = some (.slice (some ⟨gq, 0, none⟩) q1.length cq1) ∧ w8.frozen? ⟨sb, 2, none⟩ = false ∧ w8.cell? ⟨sb, 1, none⟩ = some (.int .i64 bb) ∧ w8.frozen? ⟨sb, 1, none⟩ = false ∧ Hid (q8 = q1.take jx ++ q1.drop (jx + 1)) ∧ AccAt (w8.setCell ⟨sb, 2, none⟩ (.slice p8 q8.length k8)) l0 l0 sb i E1 B1 V2 Q te bb (.slice p8 q8.length k8) vt3 q8 (T1 ++ [y]) ∧ Chg (fun k => l0 ≤ k) W0 (w8.setCell ⟨sb, 2, none⟩ (.slice p8 q8.length k8)) := by
                    intro x3 hs3
                    obtain ⟨v8, w8, r8, o8, g8, e8⟩ := run_append_src (P := Tryz.prog) w7 wc.heap.size 131 131 53 i0 _ 5 48 Tryz.underlying131 hi0 hz0 hz1 hz2 rfl (by decide) _ _ _ o7 x3 (q1.length - (jx + 1)) _ hs3 (by rw [recCells_len]; simp) (recCells_one _) (by unfold maxLen; omega) (by omega) c7.size
                    have c8 : Chg (fun _ => False) wc w8 := c7.trans (G := fun g => v7.ownBlock = some g) ⟨g8.os, g8.tape, g8.output, g8.size, fun k hk hne => g8.block k hk (fun e => hne e.symm)⟩ (fun n hn h => by have := (o7.lt n h).1; omega)
                    obtain ⟨q8, hq8⟩ : ∃ q8, q8 = q1.take jx ++ q1.drop (jx + 1) := ⟨_, rfl⟩
                    have o8' : w8.ownsRow wc.heap.size 53 5 v8 q8.length (recCells q8) := by
                      have el : q8.length = jx + (q1.length - (jx + 1)) := by rw [hq8]; simp; omega
                      rw [el, hq8, recCells_append]
                      exact o8
                    obtain ⟨p8, k8, rfl⟩ := row_any o8'
                    obtain ⟨hA8, cA8⟩ := hA.wait (c8.mono (fun _ h => h.elim)) (row_lower o8' hwl) (.inr fun k hk => (o8'.lt k hk).1)
                    have hsl : sb < wc.heap.size := World.block_lt_of_cell? _ _ hA.s0
                    exact ⟨p8, k8, w8, q8, r8, c8.cellAt hA.s2 id, (World.frozen?_of_block (w := wc) (c8.block sb hsl id)).trans (hA.fzs 2), c8.cellAt hA.s1 id, (World.frozen?_of_block (w := wc) (c8.block sb hsl id)).trans (hA.fzs 1), hq8, hA8, cX.trans cA8 (fun _ _ h => h)⟩
                  have s2c := hA.s2
                  have s27 := c7.cellAt hA.s2 id
                  have hjc : (jx : Int) ≤ (cq1 : Int) := by omega
                  have hj1 : (jx : Int) + 1 ≤ (q1.length : Int) := by omega
                  have hqc : (q1.length : Int) ≤ (cq1 : Int) := by omega
                  by_cases hca : cq1 = jx + 1
                  · have hql : q1.length = jx + 1 := by omega
                    subst hca
                    obtain ⟨p8, k8, w8, q8, r8, d2, df2, d1, df1, HQ8, hA8, cX8⟩ := key8 (.slice (some ⟨gq, 0, none⟩) 0 0) (by
                      have e1 : q1.length - (jx + 1) = 0 := by omega
                      have e2 : q1.drop (jx + 1) = [] := List.drop_of_length_le (by omega)
                      rw [e1, e2]
                      exact SrcAt.none_at _ _)
                    clear key8
                    obtain ⟨hA9, cA9⟩ := hA8.base (bb + 1)
                    have hl8 : q8.length + 1 = q1.length := by rw [HQ8.out]; simp; omega
                    have hwt := waits_any (bb + 1) (o := 0) hA9.s2 hA9.row (by omega)
                    have HQL : Hid (q1.length = jx + 1) := hql
                    rw [hql] at s2c s27 d2
                    clear hql
                    go_wp2_with (first | (at_builtin; refine Lib.wpList_append_run _ rfl (.tmp 137) (.tmp 141) 131 131 rfl _ _ rfl rfl v7 w7 r7 ?_) | (at_builtin; refine Lib.wpList_append_run _ rfl (.tmp 143) (.tmp 148) 131 131 rfl _ _ rfl rfl (.slice p8 q8.length k8) w8 r8 ?_))
                    refine hwt.mono ?_
                    rintro _ w6 ⟨rfl, ew⟩
                    rw [ew]
                    clear ew w6 hwt
                    go_wp2_with fail
                    go_roundg g'
                    case measure => omega
                    case rel => exact ⟨bb + 1, q8, T1 ++ [y], _, vt3, rfl, hA9, by omega, by omega, by omega, by omega, by simp; omega, (show _ = _ by rw [HQ8.out]; exact HD'.out), cX8.trans cA9 (fun _ _ h => h)⟩
                  · obtain ⟨p8, k8, w8, q8, r8, d2, df2, d1, df1, HQ8, hA8, cX8⟩ := key8 (.slice (some ⟨gq, (jx + 1) * 5, none⟩) (q1.length - (jx + 1)) (cq1 - (jx + 1))) (by have := SrcAt.last (c7.row' hA.row (fun _ _ h => h)) (jx + 1) (q1.length - (jx + 1)) (cq1 - (jx + 1)); rw [recCells_dp] at this; exact this)
                    clear key8
                    obtain ⟨hA9, cA9⟩ := hA8.base (bb + 1)
                    have hl8 : q8.length + 1 = q1.length := by rw [HQ8.out]; simp; omega
                    have hwt := waits_any (bb + 1) (o := 0) hA9.s2 hA9.row (by omega)
                    go_wp2_with (first | (at_builtin; refine Lib.wpList_append_run _ rfl (.tmp 137) (.tmp 141) 131 131 rfl _ _ rfl rfl v7 w7 r7 ?_) | (at_builtin; refine Lib.wpList_append_run _ rfl (.tmp 143) (.tmp 148) 131 131 rfl _ _ rfl rfl (.slice p8 q8.length k8) w8 r8 ?_))
                    refine hwt.mono ?_
                    rintro _ w6 ⟨rfl, ew⟩
                    rw [ew]
                    clear ew w6 hwt
                    go_wp2_with fail
                    go_roundg g'
                    case measure => omega
                    case rel => exact ⟨bb + 1, q8, T1 ++ [y], _, vt3, rfl, hA9, by omega, by omega, by omega, by omega, by simp; omega, (show _ = _ by rw [HQ8.out]; exact HD'.out), cX8.trans cA9 (fun _ _ h => h)⟩
          · have HR' : Hid (accR2 E B Q T i x = ((0, fr), none)) := by show _ = _; rw [HR2.out, if_pos hf0]
            have hf0' : (fr == 0) = false := by simpa using hf0
            clear HR2 hf0
            go_wp2_with fail
            go_ret2
            exact ⟨by rw [HR'.out]; rfl, by rw [HR'.out]; exact c0.low cX4 hlw'⟩

end Go.Proofs.YthedkdbgfdjlkaaGreatDoor

/- culvertref AGAINST THE DOCUMENT'S DATA: Accept. Nothing here is walked. -/
namespace Go.Proofs.YthedkdbgfdjlkaaGreatDoor
set_option linter.unusedVariables false
set_option linter.unusedSimpArgs false
open Go.RowKit Go.Lib

theorem rdistinct_list : ∀ L : List ByteArray, ∃ N : List ByteArray, N.Nodup ∧ (∀ x, x ∈ N ↔ x ∈ L) ∧ N.length = distinct L
  | [] => ⟨[], by simp, by simp, rfl⟩
  | k :: r => by
    obtain ⟨N, h1, h2, h3⟩ := rdistinct_list r
    by_cases h : isIn k r = true
    · refine ⟨N, h1, fun x => ?_, by simp [distinct, h, h3]⟩
      rw [h2, List.mem_cons]
      constructor
      · exact .inr
      · rintro (rfl | hx)
        · exact (isIn_mem _ _).1 h
        · exact hx
    · refine ⟨k :: N, List.nodup_cons.2 ⟨fun hk => h ((isIn_mem _ _).2 ((h2 k).1 hk)), h1⟩, fun x => ?_, by simp [distinct, h, h3]⟩
      rw [List.mem_cons, List.mem_cons, h2]

theorem rdistinct_of {N L : List ByteArray} (hn : N.Nodup) (hm : ∀ x, x ∈ N ↔ x ∈ L) : N.length = distinct L := by
  obtain ⟨M, h1, h2, h3⟩ := rdistinct_list L
  rw [← h3]
  exact Nat.le_antisymm (hn.length_le_of_subset fun x hx => (h2 x).2 ((hm x).1 hx)) (h1.length_le_of_subset fun x hx => (hm x).2 ((h2 x).1 hx))

theorem UpN.nodup {l : List ByteArray} (h : UpN l) : l.Nodup := by
  unfold UpN at h
  unfold List.Nodup
  refine h.imp fun {a b} hab e => ?_
  rw [e, less_irrefl] at hab
  cases hab

theorem rputW_perm (x : Wt) : ∀ l : List Wt, (putW x l).Perm (x :: l)
  | [] => .refl _
  | y :: r => by
    unfold putW
    split
    · exact .refl _
    · exact ((rputW_perm x r).cons y).trans (.swap x y r)

theorem allR_mem (T : List Rec) (Q : Nat → List Rec) (k : ByteArray) : ∀ n, k ∈ allR T Q n ↔ (∃ x ∈ T, x.key = k) ∨ ∃ i, i < n ∧ ∃ x ∈ Q i, x.key = k
  | 0 => by
    simp only [allR, namesR_mem]
    simp
  | n + 1 => by
    simp only [allR, namesR_mem, allR_mem T Q k n]
    constructor
    · rintro ((h | ⟨i, hi, h⟩) | h)
      · exact .inl h
      · exact .inr ⟨i, by omega, h⟩
      · exact .inr ⟨n, by omega, h⟩
    · rintro (h | ⟨i, hi, h⟩)
      · exact .inl (.inl h)
      · by_cases e : i = n
        · subst e; exact .inr h
        · exact .inl (.inr ⟨i, by omega, h⟩)

/-- The document's relay, both ways. -/
structure RTie (E B : Nat → Int) (Q : Nat → List Rec) (T : List Rec) (Hs : List Hd) (s : St) : Prop where
  four : s.lanes.length = 4
  lane : ∀ i, i < 4 → ∃ l, s.lanes[i]? = some l ∧ l.epoch = E i ∧ l.base = B i ∧ ((Q i).map Rec.wt).Perm l.ws ∧ (l.ws.Pairwise fun a b => a.num < b.num) ∧ ∀ y ∈ l.ws, B i < y.num ∧ y.num < B i + 4
  keys : s.keys = (keysOf T []).map (withHeld Hs)
  held : HeldIn T Hs
  tok : ∀ p ∈ Hs, 0 ≤ p.token ∧ p.token ≤ (tally p.key T).1
  val : ∀ x ∈ T, (0 ≤ x.value ∧ x.value ≤ 4294967295) ∧ okKey x.key = true
  wal : ∀ i, i < 4 → ∀ x ∈ Q i, (0 ≤ x.value ∧ x.value ≤ 4294967295) ∧ okKey x.key = true
  ep : ∀ i, i < 4 → 0 ≤ E i ∧ E i ≤ 9223372036854775807
  ba : ∀ i, i < 4 → 0 ≤ B i ∧ B i ≤ T.length
  tot : T.length + waitsR Q 4 ≤ 1000

theorem RTie.short {E B : Nat → Int} {Q : Nat → List Rec} {T : List Rec} {Hs : List Hd} {s : St} (h : RTie E B Q T Hs s) {i : Nat} (hi : i < 4) : (Q i).length ≤ 3 := by
  obtain ⟨l, _, _, _, h1, h2, h3⟩ := h.lane i hi
  have hl : (Q i).length = l.ws.length := by simpa using h1.length_eq
  rcases up_len l.ws (B i + 1) (B i + 4) h2 (fun y hy => by have := h3 y hy; omega) with e | e
  · rw [hl, e]; simp
  · omega

theorem counts_held (Hs : List Hd) : ∀ ks : List Ky, counts (ks.map (withHeld Hs)) = counts ks
  | [] => rfl
  | k :: r => by simp [counts, counts_held Hs r, withHeld]

theorem keys_count (T : List Rec) (Hs : List Hd) : counts ((keysOf T []).map (withHeld Hs)) = T.length := by
  rw [counts_held, counts_keysOf]; simp [counts]

theorem keys_mem (T : List Rec) (Hs : List Hd) (k : ByteArray) : k ∈ ((keysOf T []).map (withHeld Hs)).map (·.name) ↔ ∃ x ∈ T, x.key = k := by
  have e : ((keysOf T []).map (withHeld Hs)).map (·.name) = (keysOf T []).map (·.name) := by rw [List.map_map]; rfl
  rw [e, keysOf_namesR]
  simp only [List.map_nil, namesR_mem]
  simp

/-- The waiting ones of a list of sessions. -/
theorem waits_both {Q : Nat → List Rec} : ∀ (ls : List Ln) (n : Nat), (∀ i, i < ls.length → ∃ l, ls[i]? = some l ∧ ((Q (n + i)).map Rec.wt).Perm l.ws) → waits ls = waitsR Q (n + ls.length) - waitsR Q n
  | [], n, _ => by simp [waits]
  | l :: r, n, h => by
    obtain ⟨l0, e0, p0⟩ := h 0 (by simp)
    simp at e0
    subst e0
    have ih := waits_both r (n + 1) (fun i hi => by
      obtain ⟨l', e', p'⟩ := h (i + 1) (by simp; omega)
      exact ⟨l', by simpa using e', by rw [show n + 1 + i = n + (i + 1) by omega]; exact p'⟩)
    have hl : (Q n).length = l.ws.length := by simpa using p0.length_eq
    simp only [waits, ih, List.length_cons]
    rw [show n + (r.length + 1) = n + 1 + r.length by omega]
    simp only [waitsR]
    omega

/-- Sessions with these that wait. -/
def Lanes (Q : Nat → List Rec) (ls : List Ln) : Prop := ls.length = 4 ∧ ∀ i, i < 4 → ∃ l, ls[i]? = some l ∧ ((Q i).map Rec.wt).Perm l.ws

theorem Lanes.mem {Q : Nat → List Rec} {ls : List Ln} (h : Lanes Q ls) (k : ByteArray) : k ∈ ls.flatMap (fun l => l.ws.map (·.key)) ↔ ∃ i, i < 4 ∧ ∃ x ∈ Q i, x.key = k := by
  rw [List.mem_flatMap]
  constructor
  · rintro ⟨l, hl, hk⟩
    obtain ⟨i, hi, e⟩ := List.getElem_of_mem hl
    obtain ⟨l', h1, h2⟩ := h.2 i (by rw [← h.1]; exact hi)
    rw [List.getElem?_eq_getElem hi, e] at h1
    have := Option.some.inj h1
    subst this
    obtain ⟨y, hy, ey⟩ := List.mem_map.1 hk
    obtain ⟨x, hx, ex⟩ := List.mem_map.1 (h2.mem_iff.2 hy)
    exact ⟨i, by rw [← h.1]; exact hi, x, hx, by rw [← ey, ← ex]; rfl⟩
  · rintro ⟨i, hi, x, hx, e⟩
    obtain ⟨l, h1, h2⟩ := h.2 i hi
    exact ⟨l, List.mem_of_getElem? h1, List.mem_map.2 ⟨x.wt, h2.mem_iff.1 (List.mem_map.2 ⟨x, hx, rfl⟩), e⟩⟩

theorem Lanes.waits {Q : Nat → List Rec} {ls : List Ln} (h : Lanes Q ls) : Go.Proofs.YthedkdbgfdjlkaaGreatDoor.waits ls = waitsR Q 4 := by
  have := waits_both (Q := Q) ls 0 (fun i hi => by
    obtain ⟨l, h1, h2⟩ := h.2 i (by rw [← h.1]; exact hi)
    exact ⟨l, h1, by rw [Nat.zero_add]; exact h2⟩)
  rw [this, h.1]
  simp [waitsR]

/-- Is there room? -/
theorem full_both {Q : Nat → List Rec} {ls : List Ln} {T : List Rec} {Hs : List Hd} (h : Lanes Q ls) (key : ByteArray) :
    fullR T Q key = if isIn key (⟨ls, (keysOf T []).map (withHeld Hs)⟩ : St).names = false ∧ 4 ≤ distinct (⟨ls, (keysOf T []).map (withHeld Hs)⟩ : St).names then 6 else if 1000 ≤ (⟨ls, (keysOf T []).map (withHeld Hs)⟩ : St).records then 7 else 0 := by
  have hm : ∀ k, k ∈ allR T Q 4 ↔ k ∈ (⟨ls, (keysOf T []).map (withHeld Hs)⟩ : St).names := fun k => by
    unfold St.names
    rw [allR_mem, List.mem_append, h.mem, keys_mem]
  have hd := rdistinct_of (allR_up T Q 4).nodup hm
  have hin : isIn key (⟨ls, (keysOf T []).map (withHeld Hs)⟩ : St).names = false ↔ (allR T Q 4).length < (insN key (allR T Q 4)).length := by
    by_cases hk : key ∈ allR T Q 4
    · rw [insN_in key hk (allR_up T Q 4)]
      have : isIn key (⟨ls, (keysOf T []).map (withHeld Hs)⟩ : St).names = true := (isIn_mem _ _).2 ((hm key).1 hk)
      rw [this]
      simp
    · rw [insN_new key hk]
      have hlow := lowN_le key (allR T Q 4)
      have : isIn key (⟨ls, (keysOf T []).map (withHeld Hs)⟩ : St).names = false := by
        cases e : isIn key (⟨ls, (keysOf T []).map (withHeld Hs)⟩ : St).names with
        | false => rfl
        | true => exact absurd ((hm key).2 ((isIn_mem _ _).1 e)) hk
      rw [this]
      simp
      omega
  have hr : (⟨ls, (keysOf T []).map (withHeld Hs)⟩ : St).records = T.length + waitsR Q 4 := by
    unfold St.records
    simp only [keys_count, h.waits]
  unfold fullR
  rw [hr, ← hd]
  by_cases h1 : (allR T Q 4).length < (insN key (allR T Q 4)).length ∧ 4 ≤ (allR T Q 4).length
  · rw [if_pos h1, if_pos ⟨hin.2 h1.1, h1.2⟩]
  · rw [if_neg h1, if_neg (c := isIn key (⟨ls, (keysOf T []).map (withHeld Hs)⟩ : St).names = false ∧ 4 ≤ (allR T Q 4).length) (fun e => h1 ⟨hin.1 e.1, e.2⟩)]

section
variable {E B : Nat → Int} {Q : Nat → List Rec} {T : List Rec} {Hs : List Hd} {s : St}

theorem RTie.turn (h : RTie E B Q T Hs s) {i : Nat} (hi : i < 4) {l : Ln} (hl : s.lanes[i]? = some l) (x : Rec) :
    l.turned x.epoch = ⟨teR E i x, tbR E B i x, (l.turned x.epoch).ws⟩ ∧ ((tqR E Q i x).map Rec.wt).Perm (l.turned x.epoch).ws ∧ ((l.turned x.epoch).ws.Pairwise fun a b => a.num < b.num) ∧ ∀ y ∈ (l.turned x.epoch).ws, tbR E B i x < y.num ∧ y.num < tbR E B i x + 4 := by
  obtain ⟨l', h1, h2, h3, h4, h5, h6⟩ := h.lane i hi
  rw [hl] at h1
  have := Option.some.inj h1
  subst this
  unfold Ln.turned teR tbR tqR
  rw [h2]
  by_cases e : E i < x.epoch
  · simp only [if_pos e]
    exact ⟨trivial, .refl _, List.Pairwise.nil, by simp⟩
  · simp only [if_neg e]
    refine ⟨?_, h4, h5, h6⟩
    rw [← h2, ← h3]

theorem RTie.lanes (h : RTie E B Q T Hs s) {i : Nat} (hi : i < 4) {c : Ln} {q : List Rec} (hq : (q.map Rec.wt).Perm c.ws) : Lanes (updF Q i q) (s.lanes.set i c) := by
  refine ⟨by simpa using h.four, fun j hj => ?_⟩
  by_cases e : j = i
  · subst e
    exact ⟨c, List.getElem?_set_self (by rw [h.four]; exact hi), by rw [updF_same]; exact hq⟩
  · obtain ⟨l, h1, _, _, h2, _⟩ := h.lane j hj
    exact ⟨l, by rw [List.getElem?_set_ne (fun e2 => e e2.symm)]; exact h1, by rw [updF_ne _ _ e]; exact h2⟩

/-- What is other behind an Accept. -/
def RNext (E B : Nat → Int) (Q : Nat → List Rec) (T : List Rec) (Hs : List Hd) (i : Nat) (s s' : St) : Option (Int × Int × List Rec × List Rec) → Prop
  | none => s' = s
  | some r => RTie (updF E i r.1) (updF B i r.2.1) (updF Q i r.2.2.1) r.2.2.2 Hs s'

theorem waitsR_upd (Q : Nat → List Rec) (i : Nat) (q : List Rec) : ∀ n, waitsR (updF Q i q) n = if i < n then waitsR Q n - (Q i).length + q.length else waitsR Q n
  | 0 => by simp [waitsR]
  | n + 1 => by
    simp only [waitsR, waitsR_upd Q i q n]
    by_cases e : n = i
    · subst e
      rw [updF_same, if_neg (by omega), if_pos (by omega)]
      omega
    · rw [updF_ne _ _ e]
      by_cases h : i < n
      · rw [if_pos h, if_pos (by omega)]; omega
      · rw [if_neg h, if_neg (by omega)]

theorem tally_more (name : ByteArray) (T L : List Rec) : (tally name T).1 ≤ (tally name (T ++ L)).1 := by
  have := (tally_take_le name (T ++ L) T.length).2.1
  rw [List.take_left] at this
  exact this

theorem racc_tie (h : RTie E B Q T Hs s) (x : Rec) (hx : x.fits) : (accept s x).1 = (accR E B Q T false x).1 ∧ RNext E B Q T Hs x.session.toNat s (accept s x).2 (accR E B Q T false x).2 := by
  unfold accept accR
  rw [if_neg (show ¬ false = true by simp)]
  by_cases hs : x.session < 0 ∨ 4 ≤ x.session
  · rw [if_pos hs, if_pos hs]; exact ⟨rfl, rfl⟩
  · rw [if_neg hs, if_neg hs]
    by_cases hk : okKey x.key = false ∨ x.value < 0 ∨ 4294967295 < x.value
    · rw [if_pos hk, if_pos hk]; exact ⟨rfl, rfl⟩
    · rw [if_neg hk, if_neg hk]
      obtain ⟨i, hi⟩ : ∃ i, x.session.toNat = i := ⟨_, rfl⟩
      have hi4 : i < 4 := by omega
      rw [hi]
      obtain ⟨l, hl, he, hb, hp, hu, hw⟩ := h.lane i hi4
      rw [hl]
      simp only
      unfold acceptIn
      rw [he]
      by_cases hep : x.epoch < E i
      · rw [if_pos hep, if_pos hep]; exact ⟨rfl, rfl⟩
      · rw [if_neg hep, if_neg hep]
        obtain ⟨t1, t2, t3, t4⟩ := h.turn hi4 hl x
        obtain ⟨ws, hws⟩ : ∃ ws, ws = (l.turned x.epoch).ws := ⟨_, rfl⟩
        rw [← hws] at t1 t2 t3 t4
        simp only [t1]
        unfold accR2
        have hfour := h.four
        have hxv : (0 ≤ x.value ∧ x.value ≤ 4294967295) ∧ okKey x.key = true := by
          refine ⟨by omega, ?_⟩
          cases hh : okKey x.key
          · exact absurd (.inl hh) hk
          · rfl
        by_cases hfar : x.number < 0 ∨ tbR E B i x + 4 ≤ x.number
        · rw [if_pos hfar, if_pos hfar]; exact ⟨rfl, rfl⟩
        · rw [if_neg hfar, if_neg hfar]
          have hany : ws.any (fun y => y.num == x.number) = true ↔ 0 ≤ idxR x.number (tqR E Q i x) 0 := by
            constructor
            · intro ha
              obtain ⟨y, hy, ey⟩ := List.any_eq_true.1 ha
              obtain ⟨z, hz, ez⟩ := List.mem_map.1 (t2.mem_iff.2 hy)
              rcases idxR_lt x.number (tqR E Q i x) 0 with e | ⟨j, _, e⟩
              · have := idxR_none.1 e z hz
                have e1 : y.num = x.number := by simpa using ey
                exact absurd (show z.number = x.number by rw [← e1, ← ez]; rfl) this
              · omega
            · intro h0
              rcases idxR_lt x.number (tqR E Q i x) 0 with e | ⟨j, _, e⟩
              · omega
              · obtain ⟨z, hz, ez⟩ := idxR_some e
                exact List.any_eq_true.2 ⟨z.wt, t2.mem_iff.1 (List.mem_map.2 ⟨z, List.mem_of_getElem? hz, rfl⟩), by simp [Rec.wt, ez]⟩
          by_cases hold : x.number < tbR E B i x ∨ 0 ≤ idxR x.number (tqR E Q i x) 0
          · rw [if_pos (hold.imp id hany.2), if_pos hold]; exact ⟨rfl, rfl⟩
          · rw [if_neg (fun e => hold (e.imp id hany.1)), if_neg hold]
            have hfl := full_both (T := T) (Hs := Hs) (h.lanes hi4 (c := ⟨teR E i x, tbR E B i x, ws⟩) t2) x.key
            rw [← h.keys] at hfl
            by_cases hm : isIn x.key (⟨s.lanes.set i ⟨teR E i x, tbR E B i x, ws⟩, s.keys⟩ : St).names = false ∧ 4 ≤ distinct (⟨s.lanes.set i ⟨teR E i x, tbR E B i x, ws⟩, s.keys⟩ : St).names
            · rw [if_pos hm] at hfl ⊢
              rw [hfl, if_pos (by omega)]
              exact ⟨rfl, rfl⟩
            · rw [if_neg hm] at hfl ⊢
              by_cases hf : 1000 ≤ (⟨s.lanes.set i ⟨teR E i x, tbR E B i x, ws⟩, s.keys⟩ : St).records
              · rw [if_pos hf] at hfl ⊢
                rw [hfl, if_pos (by omega)]
                exact ⟨rfl, rfl⟩
              · rw [if_neg hf] at hfl ⊢
                rw [hfl, if_neg (by omega)]
                have hnw : ∀ y ∈ ws, y.num ≠ x.number := fun y hy e => hold (.inr (hany.1 (List.any_eq_true.2 ⟨y, hy, by simp [e]⟩)))
                have hnb : tbR E B i x ≤ x.number := by
                  rcases Int.lt_or_le x.number (tbR E B i x) with e | e
                  · exact absurd (.inl e) hold
                  · exact e
                have hW : Waits (tbR E B i x) (tqR E Q i x ++ [x]) (putW x.wt ws) := by
                  refine ⟨?_, putW_up _ t3 hnw, fun y hy => ?_⟩
                  · rw [List.map_append]
                    refine (List.perm_append_comm).trans ?_
                    exact (t2.cons x.wt).trans (rputW_perm x.wt ws).symm
                  · rcases (mem_putW _ _ _).1 hy with rfl | hy
                    · exact hnb
                    · have := t4 y hy; omega
                have hql : (tqR E Q i x).length ≤ 3 := by
                  unfold tqR
                  split
                  · simp
                  · exact h.short hi4
                obtain ⟨b', q', T', ws', d1, d2, d3, d4, d5, d6, d7, d8, d9, d10, d11, d12, L, d13⟩ := drain_both Hs ((tqR E Q i x).length + 2) (tbR E B i x) (tqR E Q i x ++ [x]) T (putW x.wt ws) (by simp) hW h.held
                rw [d1]
                have hrec : (⟨s.lanes.set i ⟨teR E i x, tbR E B i x, ws⟩, s.keys⟩ : St).records = T.length + waitsR (updF Q i (tqR E Q i x)) 4 := by
                  unfold St.records
                  rw [h.keys]
                  simp only [keys_count, (h.lanes hi4 (c := ⟨teR E i x, tbR E B i x, ws⟩) t2).waits]
                have e2 : drainW (tbR E B i x) (putW ⟨x.number, x.key, x.value⟩ ws) s.keys = (b', ws', (keysOf T' []).map (withHeld Hs)) := by
                  rw [h.keys]; exact d2
                rw [e2]
                refine ⟨rfl, ?_, fun j hj => ?_, rfl, d6, fun p hp => ?_, fun z hz => ?_, fun j hj z hz => ?_, fun j hj => ?_, fun j hj => ?_, ?_⟩
                · simpa using h.four
                · by_cases e : j = i
                  · subst e
                    refine ⟨⟨teR E j x, b', ws'⟩, List.getElem?_set_self (by rw [h.four]; exact hj), by rw [updF_same], by rw [updF_same], by rw [updF_same]; exact d3, d4, fun y hy => ?_⟩
                    rw [updF_same]
                    refine ⟨d5 y hy, ?_⟩
                    rcases (mem_putW _ _ _).1 (d12 y hy) with rfl | hy2
                    · show x.number < b' + 4; omega
                    · have := t4 y hy2; show y.num < b' + 4; omega
                  · obtain ⟨l2, g1, g2, g3, g4, g5, g6⟩ := h.lane j hj
                    exact ⟨l2, by simp only; rw [List.getElem?_set_ne (fun e2 => e e2.symm)]; exact g1, by rw [updF_ne _ _ e]; exact g2, by rw [updF_ne _ _ e]; exact g3, by rw [updF_ne _ _ e]; exact g4, g5, by rw [updF_ne _ _ e]; exact g6⟩
                · have h1 := h.tok p hp
                  have h2 := tally_more p.key T L
                  simp only
                  rw [d13]
                  omega
                · rcases d10 z hz with h1 | h1
                  · exact h.val z h1
                  · rcases List.mem_append.1 h1 with h1 | h1
                    · unfold tqR at h1
                      split at h1
                      · simp at h1
                      · exact h.wal i hi4 z h1
                    · simp at h1; subst h1; exact hxv
                · by_cases e : j = i
                  · subst e
                    simp only [updF_same] at hz
                    rcases List.mem_append.1 (d11 z hz) with h1 | h1
                    · unfold tqR at h1
                      split at h1
                      · simp at h1
                      · exact h.wal j hj z h1
                    · simp at h1; subst h1; exact hxv
                  · simp only [updF_ne _ _ e] at hz
                    exact h.wal j hj z hz
                · by_cases e : j = i
                  · subst e
                    simp only [updF_same]
                    have h1 := h.ep j hj
                    have h2 := hx.epoch
                    unfold inInt at h2
                    unfold teR
                    split <;> omega
                  · simp only [updF_ne _ _ e]; exact h.ep j hj
                · have hTl : T'.length = T.length + L.length := by rw [d13]; simp
                  by_cases e : j = i
                  · subst e
                    simp only [updF_same]
                    have h1 := h.ba j hj
                    have h2 : 0 ≤ tbR E B j x ∧ tbR E B j x ≤ T.length := by unfold tbR; split <;> omega
                    omega
                  · simp only [updF_ne _ _ e]
                    have h1 := h.ba j hj
                    omega
                · simp only
                  rw [waitsR_upd, if_pos (by omega)]
                  rw [hrec, waitsR_upd, if_pos (by omega)] at hf
                  simp at d8
                  omega

end

end Go.Proofs.YthedkdbgfdjlkaaGreatDoor
