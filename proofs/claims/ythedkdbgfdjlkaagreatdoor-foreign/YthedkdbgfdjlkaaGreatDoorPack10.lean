import Derived.Laws.IdiomStrings
import Derived.Lib.ConvBytes
import Derived.Test.YthedkdbgfdjlkaaGreatDoorRows
import Derived.LaidLaws
import Derived.LaidHandle
import Derived.ProofKit
import Derived.OpenShut
import Derived.Carry
import Derived.ChangeMaps5
import Derived.Deep.Slices
import Derived.Stop.Joined
import Derived.BigQuiet
import Derived.Test.YthedkdbgfdjlkaaGreatDoorPack1
import Derived.Test.YthedkdbgfdjlkaaGreatDoorPack2
import Derived.Test.YthedkdbgfdjlkaaGreatDoorPack3
import Derived.Test.YthedkdbgfdjlkaaGreatDoorPack4
import Derived.Test.YthedkdbgfdjlkaaGreatDoorPack5
import Derived.Test.YthedkdbgfdjlkaaGreatDoorPack6
import Derived.Test.YthedkdbgfdjlkaaGreatDoorPack7
import Derived.Test.YthedkdbgfdjlkaaGreatDoorPack8
import Derived.Test.YthedkdbgfdjlkaaGreatDoorPack9
/- The relay's calls, WALKED: Bytes. -/
namespace Go.Proofs.YthedkdbgfdjlkaaGreatDoor
set_option linter.unusedVariables false
set_option linter.unusedSimpArgs false
open Go.RowKit Go.Lib Go.Conc.Locks

theorem row_string {w : World} {lo : Nat} {v : Value} {T : List UInt8} (h : RowB w lo v T) : (convert 88 9 v).run Tryz.prog w = .ok (.string ⟨T.toArray⟩) w := by
  have key : ∀ (g cap : Nat), (∀ (j : Nat) (u : Value), (bCells T)[j]? = some u → w.cell? ⟨g, j, none⟩ = some u) → (convert 88 9 (.slice (some ⟨g, 0, none⟩) T.length cap)).run Tryz.prog w = .ok (.string ⟨T.toArray⟩) w := fun g cap hc => by
    refine run_convert_bytes_back w 88 9 5 ⟨g, 0, none⟩ cap T Tryz.underlying88 Tryz.underlying5 Tryz.underlying9 (fun j hj => ?_)
    rw [add_lit', Nat.zero_add]
    exact hc j _ (by simp [bCells, hj])
  rcases h with h | ⟨g, cap, rfl, _, _, _, hc, _⟩
  · have hcell := h
    rcases h.2 with ⟨rfl, hn⟩ | ⟨g, cap, cur, rfl, _, _, _⟩
    · obtain rfl : T = [] := List.eq_nil_of_length_eq_zero hn
      rw [run_convert_bytes_string w 88 9 5 none 0 0 Tryz.underlying88 Tryz.underlying5 Tryz.underlying9]
      rfl
    · exact key g cap (fun j u hu => by
        have := World.ownsRow.cells hcell (g := g) rfl j u hu
        rw [add_lit', Nat.zero_add] at this
        exact this)
  · exact key g _ hc

set_option maxHeartbeats 400000 in
theorem bytes_closed (b : Nat) (w : World) (h : Head w b 1 true) :
    Calls Tryz.prog 21 #[.pointer (some ⟨b, 0, none⟩)] w fun e w' => e = .returned (.tuple #[.string ⟨#[]⟩, .int .i64 1]) ∧ Head w' b 1 true ∧ Chg (fun k => k = b) w w' := by
  have hlk := lock_rel b _ h.mu (h.fz 0)
  go_enter_defers Tryz.func21, Tryz.ntmps21
  go_wp2_with (go_at_call 36; refine hlk.mono ?_; rintro _ w1 ⟨rfl, h1⟩; have c5 := (h1.slots.cell 5 (by omega)).trans h.cl)
  refine door (v := .tuple #[.string ⟨#[]⟩, .int .i64 1]) (h1.cell h.mu) ((h1.slots.frozen 0).trans (h.fz 0)) ?_ ⟨rfl, h.back h1.slots (fun j hj => .inl hj) (h1.cell h.mu), h1.chg.setCell (p := ⟨b, 0, none⟩) (fun _ => rfl) _⟩
  simp [results, Tryz.results21, go_sem]

set_option maxRecDepth 100000 in
set_option maxHeartbeats 1000000 in
theorem bytes_open {w : World} {lo b : Nat} {E B : Nat → Int} {V : Nat → Value} {vk vb : Value} {Q : Nat → List Wt} {ks : List Ky} {T : List UInt8} (h : Head w b 0 false) (hF : FlowAt w lo b 6 E B V vk Q ks) (hT : TapeAt w b V vk vb T) :
    Calls Tryz.prog 21 #[.pointer (some ⟨b, 0, none⟩)] w fun e w' => e = .returned (.tuple #[.string ⟨T.toArray⟩, .int .i64 0]) ∧
      Head w' b 0 false ∧ FlowAt w' lo b 6 E B V vk Q ks ∧ TapeAt w' b V vk vb T ∧ Chg (fun k => k = b) w w' := by
  have hbl : b < w.heap.size := World.block_lt_of_cell? _ _ h.mu
  have hlk := lock_rel b _ h.mu (h.fz 0)
  obtain ⟨pv, cv, rfl⟩ := hT.row.any
  go_enter_defers Tryz.func21, Tryz.ntmps21
  go_wp2_with (go_at_call 36; refine hlk.mono ?_; rintro _ w1 ⟨rfl, h1⟩; have c5 := (h1.slots.cell 5 (by omega)).trans h.cl; have hF1 := hF.beside h1.slots (fun j hj => .inl (by omega)) h1.chg; have hT1 := hT.beside h1.slots (by omega) h1.chg; have ct := hT1.cell; have hcv := row_string hT1.row)
  have hz01 := h1.chg.size
  have m1 := h1.cell h.mu
  have z1 := (h1.slots.frozen 0).trans (h.fz 0)
  have s12 : Slots b (fun j => j = 0) w1 (w1.setCell ⟨b, 0, none⟩ (.int .i32 0)) := (Slots.refl b _ w1).setCell (p := ⟨b, 0, none⟩) _ (fun _ => rfl)
  have g2 : Chg (fun k => k = b) w1 (w1.setCell ⟨b, 0, none⟩ (.int .i32 0)) := (Chg.refl (fun k => k = b) w1).setCell (p := ⟨b, 0, none⟩) (fun _ => rfl) _
  refine door (v := .tuple #[.string ⟨T.toArray⟩, .int .i64 0]) m1 z1 ?_ ⟨rfl, h.back h1.slots (fun j hj => .inl hj) m1, hF1.beside s12 (fun j hj => .inl (by omega)) g2, hT1.beside s12 (by omega) g2, h1.chg.trans g2 (fun _ _ h => h)⟩
  simp [results, Tryz.results21, go_sem]

def bytes? (T : List UInt8) : Option St → List UInt8
  | none => []
  | some _ => T

theorem relT_bytes {T : List UInt8} {w : World} {a : Addr} {o : Option St} {F : Nat → Prop} (h : RelT T w a o F) : Calls Tryz.prog 21 #[.pointer (some a)] w fun e w' =>
    e = .returned (.tuple #[.string ⟨(bytes? T o).toArray⟩, .int .i64 (errno? o)]) ∧ RelT T w' a o F ∧ Chg F w w' := by
  obtain ⟨b, rfl, hb, h1, h2⟩ := h
  cases o with
  | none =>
    refine (bytes_closed b w h2).mono ?_
    rintro e w' ⟨rfl, g1, g2⟩
    exact ⟨rfl, ⟨b, rfl, hb, fun k hk => Nat.lt_of_lt_of_le (h1 k hk) g2.size, g1⟩, g2.mono (fun k hk => by rw [hk]; exact hb)⟩
  | some s =>
    obtain ⟨h3, E, B, V, vk, vb, Q, ks, h4, h5, h6, h7, h8, h9, h10⟩ := h2
    refine (bytes_open h3 h4 h8).mono ?_
    rintro e w' ⟨rfl, g1, g2, g3, g4⟩
    exact ⟨rfl, ⟨b, rfl, hb, fun k hk => Nat.lt_of_lt_of_le (h1 k hk) g4.size, g1, E, B, V, vk, vb, Q, ks, g2, h5, h6, h7, g3, h9, h10⟩, g4.mono (fun k hk => by rw [hk]; exact hb)⟩

end Go.Proofs.YthedkdbgfdjlkaaGreatDoor

/- What a row of bytes tells, and what Open makes of it, cut anywhere. Pure. -/
namespace Go.Proofs.YthedkdbgfdjlkaaGreatDoor
set_option linter.unusedVariables false
set_option linter.unusedSimpArgs false

/-- An entry, and what it does. -/
inductive Entry (s : St) : List UInt8 → St → Prop
  | acc (x : Rec) (hx : x.tidy) (h0 : (accept s x).1.2 = 0) : Entry s (encAcc x) (accept s x).2
  | ans (k : ByteArray) (n : Int) (hk : k.size ≤ 6) (hn : 0 ≤ n ∧ n ≤ 9223372036854775807) (h0 : (answer s k n).1 = 0) : Entry s (encAns k n) (answer s k n).2

/-- These bytes tell this state. -/
inductive Tells : List UInt8 → St → Prop
  | head (s : St) (h : s.tidy) : Tells (encHead s) s
  | more {T : List UInt8} {s : St} {e : List UInt8} {s' : St} (h : Tells T s) (he : Entry s e s') : Tells (T ++ e) s'

theorem Entry.pos {s s' : St} {e : List UInt8} (h : Entry s e s') : 1 ≤ e.length := by
  cases h <;> simp [encAcc, encAns]

theorem Entry.full {s s' : St} {e : List UInt8} (h : Entry s e s') {row : ByteArray} {a : Nat} (hs : Stands row a e) : rEntry row s ⟨a, none⟩ = (s', ⟨a + e.length, none⟩) := by
  cases h with
  | acc x hx h0 => exact acc_full hx h0 hs
  | ans k n hk hn h0 => exact ans_full hk hn h0 hs

theorem Entry.cut {s s' : St} {e : List UInt8} (h : Entry s e s') {row : ByteArray} {a : Nat} (hs : Ends row a e) : (rEntry row s ⟨a, none⟩).1 = s ∧ cutErr (rEntry row s ⟨a, none⟩).2 := by
  cases h with
  | acc x hx h0 => exact acc_cut hx hs
  | ans k n hk hn h0 => exact ans_cut hk hn.2 hs

/-- The reader comes to where these bytes end. -/
theorem Tells.reads {T : List UInt8} {s : St} (h : Tells T s) : ∀ {row : ByteArray}, Stands row 0 T → ∃ s0 f c, rHead row ⟨0, none⟩ = (some s0, (rHead row ⟨0, none⟩).2) ∧ row.size + 1 ≤ f + T.length ∧ rLoop row (row.size + 1) s0 (rHead row ⟨0, none⟩).2 0 = rLoop row f s ⟨T.length, none⟩ c := by
  induction h with
  | head s h =>
    intro row hs
    have e := head_full h hs
    rw [Nat.zero_add] at e
    refine ⟨s, row.size + 1, 0, by rw [e], by omega, by rw [e]⟩
  | @more T s e s' h he ih =>
    intro row hs
    obtain ⟨g1, g2⟩ := hs.split
    obtain ⟨s0, f, c, h1, h2, h3⟩ := ih g1
    rw [Nat.zero_add] at g2
    have hp := he.pos
    have hin := g2.size (g2.inside (by intro e; rw [e] at hp; simp at hp))
    obtain ⟨f', rfl⟩ : ∃ f', f = f' + 1 := ⟨f - 1, by omega⟩
    refine ⟨s0, f', T.length, h1, by rw [List.length_append]; omega, h3.trans ?_⟩
    simp only [rLoop]
    rw [if_neg (by omega), he.full g2, List.length_append]

theorem Tells.whole {T : List UInt8} {s : St} (h : Tells T s) {row : ByteArray} (hr : row.data.toList = T) : opens row = some (s, T.length) := by
  obtain ⟨s0, f, c, h1, h2, h3⟩ := h.reads (row := row) ⟨[], by simp [hr]⟩
  have hl : T.length = row.size := by rw [← hr]; exact row_len row
  obtain ⟨f', rfl⟩ : ∃ f', f = f' + 1 := ⟨f - 1, by omega⟩
  have h4 : rLoop row (f' + 1) s ⟨T.length, none⟩ c = (s, T.length, ⟨T.length, none⟩) := by
    simp only [rLoop]
    rw [if_pos hl]
  unfold opens
  rw [h1]
  simp only
  rw [h3, h4]

theorem Tells.cut {T : List UInt8} {s s' : St} {e : List UInt8} (h : Tells T s) (he : Entry s e s') {row : ByteArray} {P Y : List UInt8} (hr : row.data.toList = T ++ P) (hY : Y ≠ []) (hP : P ++ Y = e) : opens row = some (s, T.length) := by
  obtain ⟨s0, f, c, h1, h2, h3⟩ := h.reads (row := row) ⟨P, by simp [hr]⟩
  have hl : T.length + P.length = row.size := by rw [← List.length_append, ← hr]; exact row_len row
  obtain ⟨f', rfl⟩ : ∃ f', f = f' + 1 := ⟨f - 1, by omega⟩
  by_cases hP0 : P = []
  · subst hP0
    refine Tells.whole h ?_
    simpa using hr
  · have hp := List.length_pos_iff.2 hP0
    have hends : Ends row T.length e := ⟨by omega, Y, hY, by rw [hr, List.drop_left, hP]⟩
    obtain ⟨g1, p, g2⟩ := he.cut hends
    have h4 : rLoop row (f' + 1) s ⟨T.length, none⟩ c = (s, T.length, (rEntry row s ⟨T.length, none⟩).2) := by
      simp only [rLoop]
      rw [if_neg (by omega), g1]
      cases f' with
      | zero => simp only [rLoop]
      | succ f'' =>
        simp only [rLoop]
        rw [g2]
    unfold opens
    rw [h1]
    simp only
    rw [h3, h4]
    simp only
    rw [g2]
    simp

end Go.Proofs.YthedkdbgfdjlkaaGreatDoor

/- What a relay's calls make of its bytes, by what they tell. -/
namespace Go.Proofs.YthedkdbgfdjlkaaGreatDoor
set_option linter.unusedVariables false
set_option linter.unusedSimpArgs false

theorem accept_changed {s : St} {x : Rec} (hf : s.fine) (hx : x.fits) (h : (accept s x).2 ≠ s) : (accept s x).1.2 = 0 ∧ x.tidy := by
  obtain ⟨f1, f2, f3, f4, _⟩ := hx
  unfold inInt at f1 f2 f3 f4
  unfold accept at h ⊢
  split at h
  · exact absurd rfl h
  · rename_i h1
    rw [if_neg h1]
    split at h
    · exact absurd rfl h
    · rename_i h2
      rw [if_neg h2]
      have hk : okKey x.key = true := by
        cases e : okKey x.key
        · exact absurd (.inl e) h2
        · rfl
      have hsz := okKey_size hk
      split at h
      · exact absurd rfl h
      · rename_i l hl
        have hle := hf.lane l (List.mem_of_getElem? hl)
        unfold acceptIn at h ⊢
        split at h
        · exact absurd rfl h
        · rename_i h3
          simp only at h ⊢
          split at h
          · exact absurd rfl h
          · rename_i h4
            split at h
            · exact absurd rfl h
            · rename_i h5
              split at h
              · exact absurd rfl h
              · rename_i h6
                split at h
                · exact absurd rfl h
                · rename_i h7
                  rw [if_neg h3, if_neg h4, if_neg h5, if_neg h6, if_neg h7]
                  exact ⟨rfl, ⟨by omega, by omega, by omega, by omega, hsz.2⟩⟩

theorem answer_changed {s : St} {k : ByteArray} {n : Int} (hn : n ≤ 9223372036854775807) (h : (answer s k n).2 ≠ s) : (answer s k n).1 = 0 ∧ k.size ≤ 6 ∧ 0 ≤ n ∧ n ≤ 9223372036854775807 := by
  unfold answer at h ⊢
  split at h
  · exact absurd rfl h
  · rename_i h1
    rw [if_neg h1]
    have hk : okKey k = true := by simpa using h1
    have hsz := okKey_size hk
    split at h
    · exact absurd rfl h
    · split at h
      · exact absurd rfl h
      · rename_i h2
        rw [if_neg h2]
        exact ⟨rfl, hsz.2, by omega, hn⟩

/-- The bytes go on, as the state does. -/
def Grow (T : List UInt8) (s : St) (T' : List UInt8) (s' : St) : Prop := (T' = T ∧ s' = s) ∨ ∃ e, Entry s e s' ∧ T' = T ++ e

theorem Tells.grow {T T' : List UInt8} {s s' : St} (h : Tells T s) (g : Grow T s T' s') : Tells T' s' := by
  rcases g with ⟨rfl, rfl⟩ | ⟨e, he, rfl⟩
  · exact h
  · exact .more h he

theorem grow_acc {T T' : List UInt8} {s : St} {x : Rec} (hf : s.fine) (hx : x.fits) (h : tapeAcc T x (some s) (accept? (some s) x).2 T') : Grow T s T' (accept s x).2 := by
  rcases h with ⟨rfl, h⟩ | ⟨rfl, h, _⟩
  · exact .inl ⟨rfl, Option.some.inj h⟩
  · have hne : (accept s x).2 ≠ s := fun e => h (by simp [accept?, e])
    obtain ⟨h0, ht⟩ := accept_changed hf hx hne
    exact .inr ⟨_, .acc x ht h0, rfl⟩

theorem grow_ans {T T' : List UInt8} {s : St} {k : ByteArray} {n : Int} (hn : n ≤ 9223372036854775807) (h : tapeAnsw T k n (some s) (answer? (some s) k n).2 T') : Grow T s T' (answer s k n).2 := by
  rcases h with ⟨rfl, h⟩ | ⟨rfl, h, _⟩
  · exact .inl ⟨rfl, Option.some.inj h⟩
  · have hne : (answer s k n).2 ≠ s := fun e => h (by simp [answer?, e])
    obtain ⟨h0, h1, h2⟩ := answer_changed hn hne
    exact .inr ⟨_, .ans k n h1 h2 h0, rfl⟩

theorem relT_tidy {T : List UInt8} {w : World} {a : Addr} {s : St} {F : Nat → Prop} (h : RelT T w a (some s) F) : s.tidy := by
  have h1 := relT_fine h
  have h2 := relT_good h
  obtain ⟨b, _, _, _, h⟩ := h
  obtain ⟨_, E, B, V, vk, vb, Q, ks, _, h5, h6, _, _, _, h10⟩ := h
  exact ⟨h1, h2, h10, h6.many, fun k hk => h5.led.fold k (by rw [← h6.keys]; exact hk)⟩

end Go.Proofs.YthedkdbgfdjlkaaGreatDoor

/- culvert.Open, WALKED. -/
namespace Go.Proofs.YthedkdbgfdjlkaaGreatDoor
set_option linter.unusedVariables false
set_option linter.unusedSimpArgs false
open Go.RowKit Go.Lib Go.Conc.Locks

theorem rHead_none {row : ByteArray} {r : Rs} (h : (rHead row r).1 = none) : ∃ e, (rHead row r).2.err = some e := by
  unfold rHead at h ⊢
  cases he : (rParts row r).2.2.2.err with
  | some e =>
    simp only
    exact ⟨e, he⟩
  | none =>
    rw [he] at h
    simp only at h ⊢
    cases hr : restore (rParts row r).1 (rParts row r).2.1 (rParts row r).2.2.1 with
    | none =>
      simp only
      rw [Rs.fail_none _ _ he]
      exact ⟨_, rfl⟩
    | some s =>
      rw [hr] at h
      cases h

theorem rHead_some {row : ByteArray} {r : Rs} {s : St} (h : (rHead row r).1 = some s) : (rHead row r).2.err = none ∧ 0 < (rHead row r).2.at_ := by
  unfold rHead at h ⊢
  cases he : (rParts row r).2.2.2.err with
  | some e =>
    rw [he] at h
    cases h
  | none =>
    rw [he] at h
    simp only at h ⊢
    cases hr : restore (rParts row r).1 (rParts row r).2.1 (rParts row r).2.2.1 with
    | none =>
      rw [hr] at h
      cases h
    | some s =>
      simp only
      exact ⟨he, rParts_pos he⟩

theorem rHead_fits (row : ByteArray) : (rHead row ⟨0, none⟩).2.at_ ≤ row.size := by
  have h1 : (rParts row ⟨0, none⟩).2.2.2.at_ ≤ row.size := ((Rs.on.mark row ⟨0, none⟩).trans (rParts_on row ⟨0, none⟩)).fits (Nat.zero_le _)
  unfold rHead
  split
  · exact h1
  · split
    · exact (Rs.on.fail row _ 2).fits h1
    · exact h1

theorem readR_le (row : ByteArray) : (readR row).2.1 ≤ row.size := rLoop_le row _ _ _ _ (rHead_fits row) (Nat.zero_le _)

/-- What Open makes of what Read tells. -/
theorem opens_readR (row : ByteArray) : opens row = if (readR row).2.1 = 0 then none else match (readR row).2.2.err with
    | none => some ((readR row).1, (readR row).2.1)
    | some (_, f) => if f = 1 then some ((readR row).1, (readR row).2.1) else none := by
  unfold opens readR
  cases h : (rHead row ⟨0, none⟩).1 with
  | none =>
    obtain ⟨e, he⟩ := rHead_none h
    rw [rLoop_err row _ _ _ _ he]
    simp
  | some s =>
    obtain ⟨he, ha⟩ := rHead_some h
    have hp := rLoop_pos row (row.size + 1) s (rHead row ⟨0, none⟩).2 0 ha (.inr ⟨he, by omega⟩)
    simp only [Option.getD_some]
    rw [if_neg (by omega)]
    cases (rLoop row (row.size + 1) s (rHead row ⟨0, none⟩).2 0).2.2.err with
    | none => rfl
    | some x => rfl

/-- A row of bytes made of a text. -/
theorem rowB_bytes (w : World) (t : ByteArray) : RowB (bytesWorld w 5 t) w.heap.size (.slice (some ⟨w.heap.size, 0, none⟩) t.size (grownCap w t.size 0 5)) t.data.toList := by
  have hl : t.data.toList.length = t.size := Array.length_toList
  have hge := grownCap_ge w t.size 0 5
  have hnew := bytesWorld_at_new w 5 t
  have hcs : (bytesCells w 5 t).size = grownCap w t.size 0 5 := by
    have : t.data.size = t.size := rfl
    simp [bytesCells]; omega
  refine .inr ⟨w.heap.size, _, by rw [hl], Nat.le_refl _, by rw [bytesWorld_size]; omega, by rw [hl]; exact hge, fun j u hj => ?_, fun j h5 h6 => ⟨?_, ?_⟩⟩
  · have hjl : j < t.data.toList.length := by
      have := (List.getElem?_eq_some_iff.1 hj).1
      rwa [bCells_len] at this
    have h6 := bytesWorld_cell w 5 t j (by omega)
    rw [h6]
    simp only [bCells, List.getElem?_map, List.getElem?_eq_getElem hjl, Option.map_some, Option.some.injEq] at hj
    rw [← hj]
    simp [List.getD, List.getElem?_eq_getElem hjl]
  · simp only [World.cell?, hnew]
    simp
    omega
  · simp only [World.frozen?, hnew]
    simp
    omega

theorem chg_bytes (w : World) (t : ByteArray) : Chg (fun _ => False) w (bytesWorld w 5 t) :=
  ⟨rfl, rfl, rfl, by rw [bytesWorld_size]; omega, fun k hk _ => bytesWorld_at_old w _ t k hk⟩

/-- A relay made of a flow and a row of bytes. -/
theorem relT_made {W : World} {lo : Nat} {E B : Nat → Int} {V : Nat → Value} {vk vb : Value} {Q : Nat → List Wt} {ks : List Ky} {s : St} {T : List UInt8} (hV : FlowV W lo E B V vk Q ks s) (hlo : lo ≤ W.heap.size) (hB : RowB W lo vb T) (hvb : ∀ k, vb.ownBlock = some k → ¬ Rows V vk k) :
    RelT T (W.alloc (.cells #[.int .i32 0, .int .u32 0, .int .u32 0, .int .i32 0, .int .u32 0, .bool false, .int .i64 (E 0), .int .i64 (B 0), V 0, .int .i64 (E 1), .int .i64 (B 1), V 1, .int .i64 (E 2), .int .i64 (B 2), V 2, .int .i64 (E 3), .int .i64 (B 3), V 3, vk, vb] 112)) ⟨W.heap.size, 0, none⟩ (some s) (fun k => lo ≤ k ∧ k < W.heap.size + 1) := by
  obtain ⟨w', hw⟩ : ∃ w', w' = W.alloc (.cells #[.int .i32 0, .int .u32 0, .int .u32 0, .int .i32 0, .int .u32 0, .bool false, .int .i64 (E 0), .int .i64 (B 0), V 0, .int .i64 (E 1), .int .i64 (B 1), V 1, .int .i64 (E 2), .int .i64 (B 2), V 2, .int .i64 (E 3), .int .i64 (B 3), V 3, vk, vb] 112) := ⟨_, rfl⟩
  have cA : Chg (fun _ => False) W w' := by rw [hw]; exact chg_alloc _ _
  have hs : w'.heap.size = W.heap.size + 1 := by rw [hw]; simp
  rw [← hw]
  have nb : ∀ k, Rows V vk k → k ≠ W.heap.size := fun k hk e => by have := hV.lt k hk; omega
  refine ⟨W.heap.size, rfl, ⟨hlo, by omega⟩, fun k hk => by rw [hs]; exact hk.2, ?_, E, B, V, vk, vb, Q, ks, ⟨⟨fun i hi => ?_, fun i hi => ?_, fun i hi => ?_, ?_⟩, fun j => ?_, fun i hi => cA.row' (hV.rows i hi) (fun _ _ h => h), cA.row' hV.keys (fun _ _ h => h), fun i hi e => nb _ (.inl ⟨i, hi, e⟩) rfl, fun e => nb _ (.inr e) rfl, hV.sep, hV.sepk, Nat.zero_le _⟩, hV.fit, hV.ties, fun k hk => ⟨hV.young k hk, by have := hV.lt k hk; omega⟩, ⟨?_, (hB.lower (Nat.zero_le _)).chg cA (fun _ _ h => h), fun e => by have := (hB.lt _ e).2; omega, hvb⟩, fun k hk => ⟨(hB.lt k hk).1, by have := (hB.lt k hk).2; omega⟩, hV.snd⟩
  · rw [hw]
    exact ⟨World.cell?_alloc_at _ _ _ _ rfl, World.cell?_alloc_at _ _ _ _ rfl, World.cell?_alloc_at _ _ _ _ rfl, World.cell?_alloc_at _ _ _ _ rfl, fun j => World.frozen?_alloc_at _ _ _ _ rfl⟩
  · rw [hw]
    rcases (by omega : i = 0 ∨ i = 1 ∨ i = 2 ∨ i = 3) with rfl | rfl | rfl | rfl <;> exact World.cell?_alloc_at _ _ _ _ rfl
  · rw [hw]
    rcases (by omega : i = 0 ∨ i = 1 ∨ i = 2 ∨ i = 3) with rfl | rfl | rfl | rfl <;> exact World.cell?_alloc_at _ _ _ _ rfl
  · rw [hw]
    rcases (by omega : i = 0 ∨ i = 1 ∨ i = 2 ∨ i = 3) with rfl | rfl | rfl | rfl <;> exact World.cell?_alloc_at _ _ _ _ rfl
  · rw [hw]
    exact World.cell?_alloc_at _ _ _ _ rfl
  · rw [hw]
    exact World.frozen?_alloc_at _ _ _ _ rfl
  · rw [hw]
    exact World.cell?_alloc_at _ _ _ _ rfl

theorem take_extract (row : ByteArray) (n : Nat) : (row.extract 0 n).data.toList = row.data.toList.take n := by
  rw [ByteArray.data_extract, Array.toList_extract]
  simp [List.extract_eq_take_drop]

def OpenRes (w w' : World) (row : ByteArray) (e : Ending) : Option (St × Nat) → Prop
  | none => e = .returned (.tuple #[.pointer none, .int .i64 10])
  | some (s, n) => ∃ a F, e = .returned (.tuple #[.pointer (some a), .int .i64 0]) ∧ RelT (row.data.toList.take n) w' a (some s) F ∧ (∀ k, F k → w.heap.size ≤ k)

set_option maxRecDepth 100000 in
set_option maxHeartbeats 4000000 in
theorem open_any (w : World) (row : ByteArray) (hrow : row.size ≤ maxLen) (hg : w.cell? ⟨0, 0, none⟩ = some (.iface 236 (.agg #[tyh 115]))) : Calls Tryz.prog 14 #[.string row] w fun e w' =>
    OpenRes w w' row e (opens row) ∧ Chg (fun _ => False) w w' := by
  have hop := opens_readR row
  have hle := readR_le row
  have hrd := read_any w row hrow
  obtain ⟨O, hO⟩ : ∃ O, O = opens row := ⟨_, rfl⟩
  rw [← hO] at hop ⊢
  clear hO
  have HO : Hid (O = if (readR row).2.1 = 0 then none else match (readR row).2.2.err with
    | none => some ((readR row).1, (readR row).2.1)
    | some (_, f) => if f = 1 then some ((readR row).1, (readR row).2.1) else none) := hop
  clear hop
  generalize readR row = R at hrd HO hle
  obtain ⟨s, n, rr⟩ := R
  simp only at hrd HO hle
  unfold flowVal at hrd
  go_enter Tryz.func14, Tryz.ntmps14
  go_upto_region 2 with (go_at_call 34; refine hrd.mono ?_; rintro _ w1 ⟨E, B, V, vk, Q, ks, ev, rfl, hV, hE, c1⟩; obtain ⟨p0, n0, hV0⟩ := row_any (hV.rows 0 (by omega)); obtain ⟨p1, n1, hV1⟩ := row_any (hV.rows 1 (by omega)); obtain ⟨p2, n2, hV2⟩ := row_any (hV.rows 2 (by omega)); obtain ⟨p3, n3, hV3⟩ := row_any (hV.rows 3 (by omega)); obtain ⟨pk2, nk2, hvk⟩ := row_any hV.keys; have HV0 : Hid (V 0 = .slice p0 (Q 0).length n0) := hV0; have HV1 : Hid (V 1 = .slice p1 (Q 1).length n1) := hV1; have HV2 : Hid (V 2 = .slice p2 (Q 2).length n2) := hV2; have HV3 : Hid (V 3 = .slice p3 (Q 3).length n3) := hV3; have HVK : Hid (vk = .slice pk2 ks.length nk2) := hvk; rw [hV0, hV1, hV2, hV3, hvk]; clear hV0 hV1 hV2 hV3 hvk)
  obtain ⟨W2, hW2⟩ : ∃ W2, W2 = w1.alloc (.cells #[.int .i64 (E 0), .int .i64 (B 0), .slice p0 (Q 0).length n0, .int .i64 (E 1), .int .i64 (B 1), .slice p1 (Q 1).length n1, .int .i64 (E 2), .int .i64 (B 2), .slice p2 (Q 2).length n2, .int .i64 (E 3), .int .i64 (B 3), .slice p3 (Q 3).length n3, .slice pk2 ks.length nk2] 98) := ⟨_, rfl⟩
  have c2 : Chg (fun _ => False) w1 W2 := by rw [hW2]; exact (Chg.refl _ w1).alloc _
  have fy : FlowCells W2 w1.heap.size 0 E B V vk := by
    rw [hW2, ← HV0.out, ← HV1.out, ← HV2.out, ← HV3.out, ← HVK.out]
    exact flow_alloc w1 98 E B V vk
  rw [← hW2]
  clear hW2 hrd
  have h02 : Chg (fun _ => False) w W2 := c1.trans c2 (fun _ _ h => h)
  have hcv := fun (W : World) (t : ByteArray) => Lib.run_convert_string_bytes (P := Tryz.prog) W 9 88 5 t Tryz.underlying9 Tryz.underlying88 Tryz.underlying5
  have hle' : (n : Int) ≤ (row.size : Int) := by omega
  by_cases hn : n = 0
  · have e : Hid (O = none) := by show _ = _; rw [HO.out, if_pos hn]
    clear HO
    subst hn
    go_wp2_with fail
    go_ret2
    exact ⟨by rw [e.out]; rfl, h02⟩
  · have HO1 : Hid (O = match rr.err with
      | none => some (s, n)
      | some (_, f) => if f = 1 then some (s, n) else none) := by show _ = _; rw [HO.out, if_neg hn]
    clear HO
    have hn' : ((n : Int) == 0) = false := by simp; omega
    cases hre : rr.err with
    | none =>
      rw [hre] at hE
      have hev : ev = .nilIface := hE
      subst hev
      have e : Hid (O = some (s, n)) := by show _ = _; rw [HO1.out, hre]
      clear HO1
      have fyb : FlowCells (bytesWorld W2.drew 5 (row.extract 0 n)) w1.heap.size 0 E B V vk := fy.chg ((Chg.refl (fun _ => False) W2).drew.trans (chg_bytes W2.drew _) (fun _ _ h => h)) id
      have y0 := fy.ep 0 (by omega)
      have y1 := fy.ba 0 (by omega)
      have y2 := fy.qu 0 (by omega)
      have y3 := fy.ep 1 (by omega)
      have y4 := fy.ba 1 (by omega)
      have y5 := fy.qu 1 (by omega)
      have y6 := fy.ep 2 (by omega)
      have y7 := fy.ba 2 (by omega)
      have y8 := fy.qu 2 (by omega)
      have y9 := fy.ep 3 (by omega)
      have y10 := fy.ba 3 (by omega)
      have y11 := fy.qu 3 (by omega)
      have y12 := fy.le
      simp only [Nat.zero_mul, Nat.one_mul, Nat.add_zero, Nat.zero_add, Nat.reduceMul, Nat.reduceAdd] at y0 y1 y2 y3 y4 y5 y6 y7 y8 y9 y10 y11 y12
      rw [HV0.out] at y2
      rw [HV1.out] at y5
      rw [HV2.out] at y8
      rw [HV3.out] at y11
      rw [HVK.out] at y12
      have v0 := fyb.ep 0 (by omega)
      have v1 := fyb.ba 0 (by omega)
      have v2 := fyb.qu 0 (by omega)
      have v3 := fyb.ep 1 (by omega)
      have v4 := fyb.ba 1 (by omega)
      have v5 := fyb.qu 1 (by omega)
      have v6 := fyb.ep 2 (by omega)
      have v7 := fyb.ba 2 (by omega)
      have v8 := fyb.qu 2 (by omega)
      have v9 := fyb.ep 3 (by omega)
      have v10 := fyb.ba 3 (by omega)
      have v11 := fyb.qu 3 (by omega)
      have v12 := fyb.le
      simp only [Nat.zero_mul, Nat.one_mul, Nat.add_zero, Nat.zero_add, Nat.reduceMul, Nat.reduceAdd] at v0 v1 v2 v3 v4 v5 v6 v7 v8 v9 v10 v11 v12
      rw [HV0.out] at v2
      rw [HV1.out] at v5
      rw [HV2.out] at v8
      rw [HV3.out] at v11
      rw [HVK.out] at v12
      go_upto_region 4 with fail
      go_region
      all_goals
        go_wp2_with fail
        go_ret2
        have hsz : (row.extract 0 n).size = n := by simp only [ByteArray.size_extract]; omega
        have cb : Chg (fun _ => False) W2 (bytesWorld W2.drew 5 (row.extract 0 n)) := (Chg.refl (fun _ => False) W2).drew.trans (chg_bytes W2.drew _) (fun _ _ h => h)
        have hrow := rowB_bytes W2.drew (row.extract 0 n)
        rw [hsz, take_extract] at hrow
        have hVb := (hV.chg (c2.trans cb (fun _ _ h => h)) (fun _ _ h => h))
        have hlo : w.heap.size ≤ W2.heap.size := h02.size
        have hmk := relT_made hVb (Nat.le_trans hlo cb.size) (hrow.lower hlo) (fun k hk h => by
          have h1 : W2.heap.size = k := by simpa [Value.ownBlock] using hk
          have := hV.lt k h
          have := c2.size
          omega)
        rw [HV0.out, HV1.out, HV2.out, HV3.out, HVK.out] at hmk
        refine ⟨?_, (h02.trans cb (fun _ _ h => h)).alloc _⟩
        rw [e.out]
        exact ⟨_, _, rfl, hmk, fun k hk => hk.1⟩
    | some x =>
      obtain ⟨ep, ef⟩ := x
      rw [hre] at hE
      obtain ⟨gp, rfl, eg⟩ := hE
      have hic := isCut_any gp ef W2 (h02.cellAt hg id) (c2.cellAt eg id)
      by_cases hef : ef = 1
      · have e : Hid (O = some (s, n)) := by show _ = _; rw [HO1.out, hre]; simp [hef]
        clear HO1
        rw [decide_eq_true hef] at hic
        go_upto_region 4 with (go_at_call 35; refine hic.mono ?_; rintro _ w3 ⟨rfl, c3⟩)
        have fy3 := fy.chg c3 id
        have c13 : Chg (fun _ => False) w1 w3 := c2.trans c3 (fun _ _ h => h)
        have h03 : Chg (fun _ => False) w w3 := h02.trans c3 (fun _ _ h => h)
        have fyb : FlowCells (bytesWorld w3.drew 5 (row.extract 0 n)) w1.heap.size 0 E B V vk := fy3.chg ((Chg.refl (fun _ => False) w3).drew.trans (chg_bytes w3.drew _) (fun _ _ h => h)) id
        have y0 := fy3.ep 0 (by omega)
        have y1 := fy3.ba 0 (by omega)
        have y2 := fy3.qu 0 (by omega)
        have y3 := fy3.ep 1 (by omega)
        have y4 := fy3.ba 1 (by omega)
        have y5 := fy3.qu 1 (by omega)
        have y6 := fy3.ep 2 (by omega)
        have y7 := fy3.ba 2 (by omega)
        have y8 := fy3.qu 2 (by omega)
        have y9 := fy3.ep 3 (by omega)
        have y10 := fy3.ba 3 (by omega)
        have y11 := fy3.qu 3 (by omega)
        have y12 := fy3.le
        simp only [Nat.zero_mul, Nat.one_mul, Nat.add_zero, Nat.zero_add, Nat.reduceMul, Nat.reduceAdd] at y0 y1 y2 y3 y4 y5 y6 y7 y8 y9 y10 y11 y12
        rw [HV0.out] at y2
        rw [HV1.out] at y5
        rw [HV2.out] at y8
        rw [HV3.out] at y11
        rw [HVK.out] at y12
        have v0 := fyb.ep 0 (by omega)
        have v1 := fyb.ba 0 (by omega)
        have v2 := fyb.qu 0 (by omega)
        have v3 := fyb.ep 1 (by omega)
        have v4 := fyb.ba 1 (by omega)
        have v5 := fyb.qu 1 (by omega)
        have v6 := fyb.ep 2 (by omega)
        have v7 := fyb.ba 2 (by omega)
        have v8 := fyb.qu 2 (by omega)
        have v9 := fyb.ep 3 (by omega)
        have v10 := fyb.ba 3 (by omega)
        have v11 := fyb.qu 3 (by omega)
        have v12 := fyb.le
        simp only [Nat.zero_mul, Nat.one_mul, Nat.add_zero, Nat.zero_add, Nat.reduceMul, Nat.reduceAdd] at v0 v1 v2 v3 v4 v5 v6 v7 v8 v9 v10 v11 v12
        rw [HV0.out] at v2
        rw [HV1.out] at v5
        rw [HV2.out] at v8
        rw [HV3.out] at v11
        rw [HVK.out] at v12
        go_region
        all_goals
          go_wp2_with fail
          go_ret2
          have hsz : (row.extract 0 n).size = n := by simp only [ByteArray.size_extract]; omega
          have cb : Chg (fun _ => False) w3 (bytesWorld w3.drew 5 (row.extract 0 n)) := (Chg.refl (fun _ => False) w3).drew.trans (chg_bytes w3.drew _) (fun _ _ h => h)
          have hrow := rowB_bytes w3.drew (row.extract 0 n)
          rw [hsz, take_extract] at hrow
          have hVb := (hV.chg (c13.trans cb (fun _ _ h => h)) (fun _ _ h => h))
          have hlo : w.heap.size ≤ w3.heap.size := h03.size
          have hmk := relT_made hVb (Nat.le_trans hlo cb.size) (hrow.lower hlo) (fun k hk h => by
            have h1 : w3.heap.size = k := by simpa [Value.ownBlock] using hk
            have := hV.lt k h
            have := c13.size
            omega)
          rw [HV0.out, HV1.out, HV2.out, HV3.out, HVK.out] at hmk
          refine ⟨?_, (h03.trans cb (fun _ _ h => h)).alloc _⟩
          rw [e.out]
          exact ⟨_, _, rfl, hmk, fun k hk => hk.1⟩
      · have e : Hid (O = none) := by show _ = _; rw [HO1.out, hre]; simp [hef]
        clear HO1
        rw [decide_eq_false hef] at hic
        go_wp2_with (go_at_call 35; refine hic.mono ?_; rintro _ w3 ⟨rfl, c3⟩)
        go_ret2
        exact ⟨by rw [e.out]; rfl, h02.trans c3 (fun _ _ h => h)⟩

end Go.Proofs.YthedkdbgfdjlkaaGreatDoor

/- THE SMALL FUNCTIONS OF THE STATEMENTS, WALKED. -/
namespace Go.Proofs.YthedkdbgfdjlkaaGreatDoor
set_option linter.unusedVariables false
set_option linter.unusedSimpArgs false
open Go.RowKit

def pickI (c n : Int) : Int := if c < 0 then (-(c + 1)) % n else c % n

theorem pickI_range {c n : Int} (hn : 0 < n) : 0 ≤ pickI c n ∧ pickI c n < n := by
  unfold pickI
  split
  · exact ⟨Int.emod_nonneg _ (by omega), Int.emod_lt_of_pos _ hn⟩
  · exact ⟨Int.emod_nonneg _ (by omega), Int.emod_lt_of_pos _ hn⟩

set_option maxHeartbeats 400000 in
theorem pick_neg (c n : Int) (w : World) (hc : inInt c) (hneg : c < 0) (hn : 0 < n) (hn2 : n ≤ 9223372036854775807) :
    Calls Tryz.prog 33 #[.int .i64 c, .int .i64 n] w fun e w' => e = .returned (.int .i64 (pickI c n)) ∧ w' = w := by
  obtain ⟨h1, h2⟩ := hc
  go_enter Tryz.func33, Tryz.ntmps33
  go_wp2
  go_ret
  refine ⟨?_, rfl⟩
  have e : -((c + 1).tmod n) = (-(c + 1)) % n := by rw [← Int.neg_tmod]; exact Int.tmod_eq_emod_of_nonneg (by omega)
  simp [pickI, hneg, e]

set_option maxHeartbeats 400000 in
theorem pick_pos (c n : Int) (w : World) (hc : inInt c) (hneg : ¬ c < 0) (hn : 0 < n) (hn2 : n ≤ 9223372036854775807) :
    Calls Tryz.prog 33 #[.int .i64 c, .int .i64 n] w fun e w' => e = .returned (.int .i64 (pickI c n)) ∧ w' = w := by
  obtain ⟨h1, h2⟩ := hc
  go_enter Tryz.func33, Tryz.ntmps33
  go_wp2
  go_ret
  exact ⟨by simp [pickI, show ¬ c < 0 by omega], rfl⟩

theorem pick_any (c n : Int) (w : World) (hc : inInt c) (hn : 0 < n) (hn2 : n ≤ 9223372036854775807) :
    Calls Tryz.prog 33 #[.int .i64 c, .int .i64 n] w fun e w' => e = .returned (.int .i64 (pickI c n)) ∧ w' = w := by
  by_cases h : c < 0
  · exact pick_neg c n w hc h hn hn2
  · exact pick_pos c n w hc h hn hn2

set_option maxHeartbeats 400000 in
theorem rec_any (a : Int) (k : ByteArray) (v : Int) (w : World) :
    Calls Tryz.prog 30 #[.int .i64 a, .string k, .int .i64 v] w fun e w' => e = .returned (.agg #[.int .i64 0, .int .i64 0, .int .i64 a, .string k, .int .i64 v]) ∧ Chg (fun _ => False) w w' := by
  go_enter Tryz.func30, Tryz.ntmps30
  go_wp2
  refine bodyPost_ret (v := .agg #[.int .i64 0, .int .i64 0, .int .i64 a, .string k, .int .i64 v]) ?_ rfl ⟨rfl, (Chg.refl _ _).alloc _⟩
  simp [results, Tryz.results30, go_sem]

theorem Api.alloc {R : World → Addr → Option St → (Nat → Prop) → Prop} (H : Api R) {w : World} {a : Addr} {o : Option St} {F : Nat → Prop} (hR : R w a o F) (b : Obj) : R (w.alloc b) a o F :=
  H.stable hR fun k hk => Below.heap_alloc _ _ _ (H.lt hR hk)

theorem size_alloc (w : World) (b : Obj) : (w.alloc b).heap.size = w.heap.size + 1 := by simp

/-- A step as a value. -/
structure Stp where
  kind : Int
  x : Rec
  key : ByteArray
  n : Int

def Stp.value' (o : Stp) : Value := .agg #[.int .i64 o.kind, .int .i64 o.x.session, .int .i64 o.x.epoch, .int .i64 o.x.number, .string o.x.key, .int .i64 o.x.value, .string o.key, .int .i64 o.n]

set_option maxHeartbeats 400000 in
/-- does at an Accept. -/
theorem does_accept {R : Nat → World → Addr → Option St → (Nat → Prop) → Prop} (H : ApiN R) {n0 : Nat} {w : World} {a : Addr} {o : Option St} {F : Nat → Prop} (p : Stp) (hk : p.kind = 0) (hR : R n0 w a o F) (hn0 : n0 ≤ roomy) (hx : p.x.fits) :
    Calls Tryz.prog 18 #[.pointer (some a), p.value'] w fun e w' =>
      ∃ F', e = .returned (.bool ((accept? o p.x).1.2 == 0)) ∧ R (n0 + 32) w' a (accept? o p.x).2 F' ∧ (∀ k, F' k → F k ∨ w.heap.size ≤ k) ∧ Chg F w w' := by
  obtain ⟨kind, ⟨s, e, n, k, v⟩, key, m⟩ := p
  simp only at hk hx
  subst hk
  simp only [Stp.value']
  go_enter Tryz.func18, Tryz.ntmps18
  go_wp2_with fail
  refine (H.acc ⟨s, e, n, k, v⟩ (H.alloc hR _) hn0 hx).mono ?_
  rintro _ w1 ⟨F', rfl, hR1, hF1, hc1⟩
  go_wp2
  go_ret
  refine ⟨F', rfl, hR1, fun k hk => (hF1 k hk).imp id (fun h => by rw [size_alloc] at h; omega), ?_⟩
  exact ((Chg.refl F w).alloc _).trans hc1 (fun _ _ h => h)

end Go.Proofs.YthedkdbgfdjlkaaGreatDoor

/- keeping: THE DOCUMENT'S EXAMPLE OF BYTES, WALKED. -/
namespace Go.Proofs.YthedkdbgfdjlkaaGreatDoor
set_option linter.unusedVariables false
set_option linter.unusedSimpArgs false
open Go.RowKit

/-- The variable that errors.As asks. -/
def HandleAt (w : World) : Prop := w.cell? ⟨0, 0, none⟩ = some (.iface 236 (.agg #[tyh 115]))

theorem HandleAt.chg {F : Nat → Prop} {w w' : World} (h : HandleAt w) (c : Chg F w w') (hF : ¬ F 0) : HandleAt w' := c.cellAt h hF
theorem HandleAt.pos {w : World} (h : HandleAt w) : 0 < w.heap.size := World.block_lt_of_cell? _ _ h

def kx : Rec := ⟨0, 0, 0, { data := #[115] }, 5⟩
theorem kx_fits : kx.fits := ⟨by unfold inInt; decide, by unfold inInt; decide, by unfold inInt; decide, by unfold inInt; decide, by decide⟩
def kSt : St := ⟨[⟨0, 1, []⟩, Ln.init, Ln.init, Ln.init], [⟨{ data := #[115] }, 1, 5, 0⟩]⟩
theorem k_a1 : (accept? (some St.init) kx).1 = (1, 0) := by rfl
theorem k_o1 : (accept? (some St.init) kx).2 = some kSt := by rfl

theorem relT_keep {T : List UInt8} {w w' : World} {a : Addr} {o : Option St} {F : Nat → Prop} (h : RelT T w a o F) (c : Chg (fun _ => False) w w') : RelT T w' a o F :=
  relT_stable h fun k hk => c.block k (relT_lt h hk) id

theorem relT_headLen {T : List UInt8} {w : World} {a : Addr} {s : St} {F : Nat → Prop} (h : RelT T w a (some s) F) : (encHead s).length ≤ 512 := by
  obtain ⟨b, _, _, _, h⟩ := h
  obtain ⟨_, E, B, V, vk, vb, Q, ks, _, h5, h6, _, _, _, h10⟩ := h
  exact head_short h6 h5 h10

theorem take_all (T : List UInt8) (n : Nat) (h : n = T.length) : (⟨T.toArray⟩ : ByteArray).data.toList.take n = T := by subst h; simp

theorem ba_size (T : List UInt8) : (⟨T.toArray⟩ : ByteArray).size = T.length := by
  show T.toArray.size = T.length
  simp

set_option maxRecDepth 100000 in
set_option maxHeartbeats 2000000 in
theorem keeping_any (w : World) (hg : HandleAt w) :
    Calls Tryz.prog 10 #[] w fun e w' => e = .returned (.bool true) ∧ Chg (fun _ => False) w w' := by
  go_enter Tryz.func10, Tryz.ntmps10
  go_wp2_with fail
  refine (relT_new w).mono ?_
  rintro _ w1 ⟨a, F1, rfl, hR1, hF1, hc1⟩
  go_wp2_with fail
  refine (rec_any _ _ _ _).mono ?_
  rintro _ w2 ⟨rfl, hc2⟩
  have hT0 : (encHead St.init).length ≤ 512 := relT_headLen hR1
  go_wp2_with fail
  refine (relT_accept kx (relT_keep hR1 hc2) (by omega) kx_fits).mono ?_
  rintro _ w3 ⟨F3, T3, rfl, hR3, hT3, hF3, hc3⟩
  have hgr := grow_acc (relT_fine hR1) kx_fits hT3
  have hte : Tells T3 kSt := (Tells.head St.init (relT_tidy hR1)).grow hgr
  have hTl : T3.length ≤ 600 := by
    rcases hT3 with ⟨rfl, _⟩ | ⟨rfl, _, h⟩
    · omega
    · rw [List.length_append]; omega
  rw [k_a1]
  rw [k_o1] at hR3
  have h02 : Chg (fun _ => False) w w2 := hc1.step hc2 (fun _ h => h.elim)
  have h03 : Chg (fun _ => False) w w3 := h02.step hc3 hF1
  have y3 := h02.young hF1 hF3
  clear hT3 hgr hF3 hc1 hc2 hc3 hR1 hF1 h02 hT0
  go_wp2_with fail
  refine (relT_bytes hR3).mono ?_
  rintro _ w4 ⟨rfl, hR4, hc4⟩
  have h04 : Chg (fun _ => False) w w4 := h03.step hc4 y3
  have hop := open_any w4 ⟨T3.toArray⟩ (by rw [ba_size]; unfold maxLen; omega) (hg.chg h04 id)
  rw [Tells.whole hte (by simp)] at hop
  have HOP := hop
  simp only [OpenRes] at HOP
  rw [take_all T3 _ rfl] at HOP
  simp only [bytes?]
  rw [show errno? (some kSt) = 0 from rfl]
  clear hop hR3 hc4 h03 hR4
  go_wp2_with (go_at_call 14; refine HOP.mono ?_; rintro _ w5 ⟨⟨b, F5, rfl, hR5, y5⟩, hc5⟩)
  refine (relT_state hR5).mono ?_
  rintro _ w6 ⟨vs, vk, rfl, hs6, hR6, hc6⟩
  obtain ⟨us, hu1, hu2, hu3⟩ := hs6.sess
  obtain ⟨p, cap, rfl⟩ := row_any hu2
  obtain ⟨g2, cap2, rfl, hg2, hcap2, hcell2⟩ := row_pos hs6.keys (by decide)
  have d0 : w6.cell? ⟨g2, 0, none⟩ = some (.string { data := #[115] }) := hcell2 0 _ rfl
  have d1 : w6.cell? ⟨g2, 1, none⟩ = some (.int .i64 1) := hcell2 1 _ rfl
  have d2 : w6.cell? ⟨g2, 2, none⟩ = some (.int .i64 5) := hcell2 2 _ rfl
  have d3 : w6.cell? ⟨g2, 3, none⟩ = some (.int .i64 0) := hcell2 3 _ rfl
  have hall : Chg (fun _ => False) w w6 := (h04.trans hc5 (fun _ _ h => h)).step hc6 (fun k hk => Nat.le_trans h04.size (y5 k hk))
  rw [show (state? (some kSt)).lanes.length = 4 from rfl, show (state? (some kSt)).keys.length = 1 from rfl, show errno? (some kSt) = 0 from rfl]
  clear hu1 hu2 hu3 hs6 hcell2 hcap2 hR5 hR6 hc5 hc6 h04 y3 hte hTl HOP y5
  have hal : ∀ (p : Addr) (v : Value), w6.cell? p = some v → ∀ ob, (w6.alloc ob).cell? p = some v := fun p v hv ob => (World.cell?_alloc_lt w6 ob p (World.block_lt_of_cell? _ _ hv)).trans hv
  have e0 := hal _ _ d0
  have e1 := hal _ _ d1
  have e2 := hal _ _ d2
  have e3 := hal _ _ d3
  go_wp2
  go_ret
  exact ⟨rfl, hall.alloc _⟩

end Go.Proofs.YthedkdbgfdjlkaaGreatDoor

/- What the laid variable gives a walk: the handle's cell. -/
namespace Go.Proofs.YthedkdbgfdjlkaaGreatDoor
set_option linter.unusedVariables false
set_option linter.unusedSimpArgs false
open Go.RowKit

theorem Tryz.laidAt : Tryz.prog.globalNamed "errors.errorType" = some 0 := by kernel_rfl
theorem Tryz.laidRt : (Tryz.prog.cutTypes.find? (·.1 == "internal/reflectlite.rtype")).map (·.2) = some 236 := by kernel_rfl
theorem Tryz.laidRow : ((List.range 338).filter fun t => Tryz.prog.rowNamed t [101, 114, 114, 111, 114]) = [115] := by kernel_rfl
theorem Tryz.laidSize : Tryz.prog.types.size = 338 := by kernel_rfl

def laidOne : List (String × DataW Unit) := [("errors.errorType", Rows.laid_errors_errorType)]

theorem handle_of_laid {W : World} (h : laidMetH Tryz.prog laidOne W) : HandleAt W := by
  have h' : laidMet Tryz.prog [] W ∧ handlesMet Tryz.prog laidOne W := h
  obtain ⟨name, u, ty, e1, e2, e3, e4, e5⟩ := h'.2 _ (List.mem_singleton.2 rfl)
  have en : name = [101, 114, 114, 111, 114] := (Option.some.inj e1).symm
  subst en
  obtain rfl := Option.some.inj (Tryz.laidRt.symm.trans e2)
  have hm : ty ∈ (List.range 338).filter fun t => Tryz.prog.rowNamed t [101, 114, 114, 111, 114] := List.mem_filter.2 ⟨List.mem_range.2 (by rw [← Tryz.laidSize]; exact e3), e4⟩
  rw [Tryz.laidRow] at hm
  obtain rfl := List.mem_singleton.1 hm
  have hh : typeHandle Tryz.prog 115 = .pointer (some ⟨2, 115, none⟩) := by kernel_rfl
  rw [hh] at e5
  have h0 := World.var?_cell Tryz.laidAt e5 0
  unfold HandleAt
  simpa using h0

end Go.Proofs.YthedkdbgfdjlkaaGreatDoor

/- ARGUMENTS OPENED: records, scripts of steps; what the bound gives. -/
namespace Go.Proofs.YthedkdbgfdjlkaaGreatDoor
set_option linter.unusedVariables false
set_option linter.unusedSimpArgs false
open Go.ChangeShapes Go.WideShapes Go.ChangeAt Go.RowKit Go.Deep

theorem Tryz.ownKnobK : ownKnob Tryz.prog.godebug = none := by kernel_rfl
theorem Tryz.laidOutK : laidOutB Tryz.prog = true := by kernel_rfl
theorem Tryz.bytesStepK : Tryz.prog.bytesOf 55 = 80 := by kernel_rfl
theorem Tryz.cellsStepK : Tryz.prog.cellsOf 55 = 8 := by kernel_rfl
theorem Tryz.cellsRecK : Tryz.prog.cellsOf 53 = 5 := by kernel_rfl
theorem Tryz.cellsIntK : Tryz.prog.cellsOf 3 = 1 := by kernel_rfl
theorem Tryz.cellsStrK : Tryz.prog.cellsOf 9 = 1 := by kernel_rfl

theorem wf_inIntK {n : Int} (h : (Lit.int .i64 n).wf = true) : inInt n := by
  simpa [Lit.wf, IntKind.min, IntKind.max, IntKind.signed, IntKind.bits, inInt] using h

theorem klen4 {α : Type} {l : List α} (h : l.length = 4) : ∃ a b c d, l = [a, b, c, d] := by
  match l, h with
  | [a, b, c, d], _ => exact ⟨a, b, c, d, rfl⟩
theorem klen5 {α : Type} {l : List α} (h : l.length = 5) : ∃ a b c d e, l = [a, b, c, d, e] := by
  match l, h with
  | [a, b, c, d, e], _ => exact ⟨a, b, c, d, e, rfl⟩
theorem klen8 {α : Type} {l : List α} (h : l.length = 8) : ∃ a b c d e f g i, l = [a, b, c, d, e, f, g, i] := by
  match l, h with
  | [a, b, c, d, e, f, g, i], _ => exact ⟨a, b, c, d, e, f, g, i, rfl⟩

/-- What the bound gives. -/
theorem kbulk_one {H : Type} (d : DataW H) : 1 ≤ Rows.uptoBulk d := by
  cases d with
  | lit l => cases l <;> simp [Rows.uptoBulk]
  | nil => simp [Rows.uptoBulk]
  | ptr d => simp [Rows.uptoBulk]
  | slice elems spare => simp [Rows.uptoBulk]
  | agg parts => simp [Rows.uptoBulk]
  | iface t d => simp [Rows.uptoBulk]
  | map entries => simp [Rows.uptoBulk]
  | held h => simp [Rows.uptoBulk]

theorem kbulk_length {H : Type} (l : List (DataW H)) : l.length ≤ Rows.uptoBulkAll l := by
  induction l with
  | nil => simp [Rows.uptoBulkAll]
  | cons x r ih => have := kbulk_one x; simp only [Rows.uptoBulkAll, List.length_cons]; omega

/-- A script of steps in memory. -/
structure StepsAt (W : World) (v : Value) (L : List Stp) : Prop where
  val : ∃ p c, v = .slice p L.length c
  room : L.length * 80 ≤ 140737488351232
  at_i : ∀ (i : Nat) (x : Stp), L[i]? = some x → ∃ b o c, v = .slice (some ⟨b, o, none⟩) L.length c ∧ W.cell? ⟨b, o + i * 8, none⟩ = some (.int .i64 x.kind) ∧ W.cell? ⟨b, o + i * 8 + 1, none⟩ = some (.int .i64 x.x.session) ∧ W.cell? ⟨b, o + i * 8 + 2, none⟩ = some (.int .i64 x.x.epoch) ∧ W.cell? ⟨b, o + i * 8 + 3, none⟩ = some (.int .i64 x.x.number) ∧ W.cell? ⟨b, o + i * 8 + 4, none⟩ = some (.string x.x.key) ∧ W.cell? ⟨b, o + i * 8 + 5, none⟩ = some (.int .i64 x.x.value) ∧ W.cell? ⟨b, o + i * 8 + 6, none⟩ = some (.string x.key) ∧ W.cell? ⟨b, o + i * 8 + 7, none⟩ = some (.int .i64 x.n)
  fits : ∀ x ∈ L, x.x.fits ∧ inInt x.kind ∧ inInt x.n ∧ x.key.size ≤ maxLen

section
variable {H : Type} {enc : TypeId × Value → H} {W : World} {sp : Nat → Bool} {held : Bool} {base : Nat}

theorem kopen_rec {n : Nat} {cs : List Value} {y : DataW H × List MemPlace} (h : DataW.trod enc Tryz.prog W base sp held n 53 cs = some y) :
    ∃ x : Rec, cs = [.int .i64 x.session, .int .i64 x.epoch, .int .i64 x.number, .string x.key, .int .i64 x.value] ∧ x.fits := by
  obtain ⟨xs, k, _, _, hlen, hxl, hf⟩ := DataW.trod_struct Tryz.underlying53 h
  rw [Tryz.cellsRecK] at hlen
  obtain ⟨y0, y1, y2, y3, y4, rfl⟩ := klen5 hxl
  obtain ⟨c0, c1, c2, c3, c4, rfl⟩ := klen5 hlen
  · clear hxl hlen h
    have g0 := hf 0 _ rfl
    have g1 := hf 1 _ rfl
    have g2 := hf 2 _ rfl
    have g3 := hf 3 _ rfl
    have g4 := hf 4 _ rfl
    simp [Tryz.cellsIntK, Tryz.cellsStrK] at g0 g1 g2 g3 g4
    obtain ⟨n0, e0, _, w0⟩ := DataW.trod_int Tryz.underlying3 g0
    obtain ⟨n1, e1, _, w1⟩ := DataW.trod_int Tryz.underlying3 g1
    obtain ⟨n2, e2, _, w2⟩ := DataW.trod_int Tryz.underlying3 g2
    obtain ⟨s3, e3, _, w3⟩ := DataW.trod_string Tryz.underlying9 g3
    obtain ⟨n4, e4, _, w4⟩ := DataW.trod_int Tryz.underlying3 g4
    simp at e0 e1 e2 e3 e4
    exact ⟨⟨n0, n1, n2, s3, n4⟩, by simp [e0, e1, e2, e3, e4], ⟨wf_inIntK w0, wf_inIntK w1, wf_inIntK w2, wf_inIntK w4, w3⟩⟩

set_option maxRecDepth 100000 in
/-- A record as an argument. -/
theorem kopen_record {v : Value} {d : DataW H} {p : List MemPlace} (hv : Value.okWide Tryz.prog W .any base 53 v) (h : DataW.Trod enc Tryz.prog W 0 (fun _ => true) true 53 v d p) : ∃ x : Rec, v = x.value' ∧ x.fits := by
  obtain ⟨cs, rfl, hs⟩ := okWide_struct Tryz.underlying53 hv
  obtain ⟨fuel, hf⟩ := h
  obtain ⟨x, hx, hfit⟩ := kopen_rec hf
  refine ⟨x, ?_, hfit⟩
  have hc : cs.toList = [.int .i64 x.session, .int .i64 x.epoch, .int .i64 x.number, .string x.key, .int .i64 x.value] := by simpa [Value.cells] using hx
  unfold Rec.value'
  congr 1
  rw [← Array.toList_inj, hc]

theorem kopen_step {n : Nat} {cs : List Value} {y : DataW H × List MemPlace} (h : DataW.trod enc Tryz.prog W base sp held n 55 cs = some y) :
    ∃ x : Stp, cs = [.int .i64 x.kind, .int .i64 x.x.session, .int .i64 x.x.epoch, .int .i64 x.x.number, .string x.x.key, .int .i64 x.x.value, .string x.key, .int .i64 x.n] ∧ x.x.fits ∧ inInt x.kind ∧ inInt x.n ∧ x.key.size ≤ maxLen := by
  obtain ⟨xs, k, _, _, hlen, hxl, hf⟩ := DataW.trod_struct Tryz.underlying55 h
  rw [Tryz.cellsStepK] at hlen
  obtain ⟨y0, y1, y2, y3, rfl⟩ := klen4 hxl
  obtain ⟨c0, c1, c2, c3, c4, c5, c6, c7, rfl⟩ := klen8 hlen
  · clear hxl hlen h
    have g0 := hf 0 _ rfl
    have g1 := hf 1 _ rfl
    have g2 := hf 2 _ rfl
    have g3 := hf 3 _ rfl
    simp [Tryz.cellsIntK, Tryz.cellsStrK, Tryz.cellsRecK] at g0 g1 g2 g3
    obtain ⟨n0, e0, _, w0⟩ := DataW.trod_int Tryz.underlying3 g0
    obtain ⟨x, e1, hx⟩ := kopen_rec g1
    obtain ⟨s2, e2, _, w2⟩ := DataW.trod_string Tryz.underlying9 g2
    obtain ⟨n3, e3, _, w3⟩ := DataW.trod_int Tryz.underlying3 g3
    simp at e0 e1 e2 e3
    exact ⟨⟨n0, x, s2, n3⟩, by simp [e0, e1, e2, e3], hx, wf_inIntK w0, wf_inIntK w3, w2⟩

set_option maxRecDepth 100000 in
theorem kopen_script {v : Value} {d : DataW H} {p : List MemPlace} (hv : Value.okWide Tryz.prog W .any base 25 v) (h : DataW.Trod enc Tryz.prog W 0 (fun _ => true) true 25 v d p) (hw : ∀ n ∈ DataW.weights Tryz.prog 25 d, n ≤ reachBytes) : ∃ L, StepsAt W v L ∧ (Rows.uptoBulk d ≤ 1048576 → L.length ≤ 1048576) := by
  obtain ⟨a0, len0, cap0, rfl⟩ := okWide_slice Tryz.underlying25 hv
  obtain ⟨fuel, hf⟩ := h
  rcases open_slice Tryz.underlying25 hf with ⟨hc, _⟩ | ⟨a, len, cap, m, n, D, Pl, hcs, _, hl, hm, hmm, hdp, hall⟩
  · simp [Value.cells] at hc
    obtain ⟨rfl, rfl, rfl⟩ := hc
    exact ⟨[], ⟨⟨none, 0, rfl⟩, by simp, fun i x hx => by simp at hx, by simp⟩, by simp⟩
  · simp [Value.cells] at hcs
    obtain ⟨rfl, rfl, rfl⟩ := hcs
    simp only [if_true] at hmm
    subst hmm
    have hd := (Prod.mk.inj hdp).1
    have hlen80 : len0 * 80 ≤ 140737488351232 := by
      rw [hd] at hw
      have := hw ((((List.range len0).map D).length + ((List.range (m - len0)).map fun j => D (len0 + j)).length) * Tryz.prog.bytesOf 55) (by simp [DataW.weights, Tryz.underlying25])
      rw [Tryz.bytesStepK] at this
      simp only [List.length_map, List.length_range] at this
      unfold reachBytes at this
      omega
    rw [Tryz.cellsStepK] at hall
    have each : ∀ i, i < m → ∃ x : Stp, (∀ j u, [.int .i64 x.kind, .int .i64 x.x.session, .int .i64 x.x.epoch, .int .i64 x.x.number, .string x.x.key, .int .i64 x.x.value, .string x.key, .int .i64 x.n][j]? = some u → W.cell? (a.add (i * 8 + j)) = some u) ∧ x.x.fits ∧ inInt x.kind ∧ inInt x.n ∧ x.key.size ≤ maxLen := fun i hi => by
      obtain ⟨cs', h1, h2⟩ := hall i hi
      obtain ⟨x, rfl, hx⟩ := kopen_step h2
      obtain ⟨_, _, hcell⟩ := World.cells?_some h1
      refine ⟨x, fun j u hu => ?_, hx⟩
      have hj : j < 8 := by
        have := (List.getElem?_eq_some_iff.1 hu).1
        simpa using this
      have := hcell j hj
      rw [add_add] at this
      rw [this]; exact hu
    obtain ⟨f, hfx⟩ := @choose_lt Stp ⟨⟨0, ⟨0, 0, 0, ⟨#[]⟩, 0⟩, ⟨#[]⟩, 0⟩⟩ _ _ each
    refine ⟨(List.range len0).map f, ⟨⟨some a, m, by simp⟩, by simp only [List.length_map, List.length_range]; exact hlen80, fun i x hx => ?_, fun x hx => ?_⟩, fun hb => ?_⟩
    · have hi : i < len0 := by
        have := (List.getElem?_eq_some_iff.1 hx).1
        simpa using this
      have hxe : f i = x := by
        rw [List.getElem?_map, List.getElem?_range hi] at hx
        simpa using hx
      subst hxe
      obtain ⟨sb, so, spot⟩ := a
      have hc := (hfx i (by omega)).1
      have hspot : spot = none := by
        have := World.cell?_spot ((hfx 0 (by omega)).1 0 _ rfl)
        simpa [Addr.add] using this
      subst hspot
      have hq : ∀ j u, [.int .i64 (f i).kind, .int .i64 (f i).x.session, .int .i64 (f i).x.epoch, .int .i64 (f i).x.number, .string (f i).x.key, .int .i64 (f i).x.value, .string (f i).key, .int .i64 (f i).n][j]? = some u → W.cell? ⟨sb, so + i * 8 + j, none⟩ = some u := fun j u hu => by
        have := hc j u hu
        rw [add_lit'] at this
        rw [show so + i * 8 + j = so + (i * 8 + j) by omega]
        exact this
      exact ⟨sb, so, m, by simp, hq 0 _ rfl, hq 1 _ rfl, hq 2 _ rfl, hq 3 _ rfl, hq 4 _ rfl, hq 5 _ rfl, hq 6 _ rfl, hq 7 _ rfl⟩
    · obtain ⟨i, hi, rfl⟩ := List.mem_map.1 hx
      exact (hfx i (by have := List.mem_range.1 hi; omega)).2
    · rw [hd] at hb
      simp only [Rows.uptoBulk] at hb
      have h1 := kbulk_length ((List.range len0).map D)
      simp only [List.length_map, List.length_range] at h1 ⊢
      omega

end
end Go.Proofs.YthedkdbgfdjlkaaGreatDoor

/- sameState: TWO STATES THAT ARE THE SAME, WALKED. -/
namespace Go.Proofs.YthedkdbgfdjlkaaGreatDoor
set_option linter.unusedVariables false
set_option linter.unusedSimpArgs false
open Go.RowKit

theorem sessCells_at : ∀ (ls : List Ln) (us : List Value) (i : Nat) (l : Ln) (u : Value), ls[i]? = some l → us[i]? = some u → (sessCells ls us)[i * 3]? = some (.int .i64 l.epoch) ∧ (sessCells ls us)[i * 3 + 1]? = some (.int .i64 l.base) ∧ (sessCells ls us)[i * 3 + 2]? = some u
  | [], _, i, l, u, h, _ => by simp at h
  | _ :: _, [], i, l, u, _, h => by simp at h
  | x :: r, v :: us, 0, l, u, h, h' => by
    simp at h h'
    subst h h'
    simp [sessCells]
  | x :: r, v :: us, i + 1, l, u, h, h' => by
    have := sessCells_at r us i l u (by simpa using h) (by simpa using h')
    rw [show (i + 1) * 3 = i * 3 + 3 by omega, show i * 3 + 3 + 1 = i * 3 + 1 + 3 by omega, show i * 3 + 3 + 2 = i * 3 + 2 + 3 by omega]
    simpa [sessCells] using this

theorem keyNeq (n : ByteArray) (c f h : Int) (W : World) : (binOp .neq 87 (.agg #[.string n, .int .i64 c, .int .i64 f, .int .i64 h]) (.agg #[.string n, .int .i64 c, .int .i64 f, .int .i64 h])).run Tryz.prog W = .ok (.bool false) W := by
  simp [go_sem]

set_option maxRecDepth 100000 in
set_option maxHeartbeats 4000000 in
theorem sameState_eq {w : World} {lo1 lo2 : Nat} {vs1 vk1 vs2 vk2 : Value} {s : St} (h1 : StateAt w lo1 vs1 vk1 s) (h2 : StateAt w lo2 vs2 vk2 s) (hl : s.lanes.length ≤ 1000) (hk : s.keys.length ≤ 1000) (hw : ∀ l ∈ s.lanes, l.ws.length ≤ 1000) :
    Calls Tryz.prog 17 #[.agg #[vs1, vk1], .agg #[vs2, vk2]] w fun e w' => e = .returned (.bool true) ∧ Chg (fun _ => False) w w' := by
  obtain ⟨us1, hu1, r1, q1⟩ := h1.sess
  obtain ⟨us2, hu2, r2, q2⟩ := h2.sess
  have k1 := h1.keys
  have k2 := h2.keys
  obtain ⟨ps1, cs1, rfl⟩ := row_any r1
  obtain ⟨ps2, cs2, rfl⟩ := row_any r2
  obtain ⟨pk1, ck1, rfl⟩ := row_any k1
  obtain ⟨pk2, ck2, rfl⟩ := row_any k2
  clear h1 h2
  obtain ⟨W0, hW0⟩ : ∃ W0, W0 = (w.alloc (Obj.cells #[.slice ps1 s.lanes.length cs1, .slice pk1 s.keys.length ck1] 46)).alloc (Obj.cells #[.slice ps2 s.lanes.length cs2, .slice pk2 s.keys.length ck2] 46) := ⟨_, rfl⟩
  have c0 : Chg (fun _ => False) w W0 := by rw [hW0]; exact ((Chg.refl _ w).alloc _).alloc _
  have hs0 : W0.heap.size = w.heap.size + 2 := by rw [hW0]; simp
  have a0 : W0.cell? ⟨w.heap.size, 0, none⟩ = some (.slice ps1 s.lanes.length cs1) := by rw [hW0]; exact ((Chg.refl (fun _ => False) _).alloc _).cellAt (World.cell?_alloc_at _ _ _ _ rfl) id
  have a1 : W0.cell? ⟨w.heap.size, 1, none⟩ = some (.slice pk1 s.keys.length ck1) := by rw [hW0]; exact ((Chg.refl (fun _ => False) _).alloc _).cellAt (World.cell?_alloc_at _ _ _ _ rfl) id
  have b0 : W0.cell? ⟨w.heap.size + 1, 0, none⟩ = some (.slice ps2 s.lanes.length cs2) := by rw [hW0]; exact World.cell?_alloc_at _ _ _ _ (by simp)
  have b1 : W0.cell? ⟨w.heap.size + 1, 1, none⟩ = some (.slice pk2 s.keys.length ck2) := by rw [hW0]; exact World.cell?_alloc_at _ _ _ _ (by simp)
  have HW0 : Hid (W0 = (w.alloc (Obj.cells #[.slice ps1 s.lanes.length cs1, .slice pk1 s.keys.length ck1] 46)).alloc (Obj.cells #[.slice ps2 s.lanes.length cs2, .slice pk2 s.keys.length ck2] 46)) := hW0
  have HS0 : Hid (W0.heap.size = w.heap.size + 2) := hs0
  have hneq := keyNeq
  clear hW0 hs0
  go_enter Tryz.func17, Tryz.ntmps17
  go_wp2_with fail
  go_loopw [5, 6, 7, 8] (fun si _ _ _ wr => ∃ (k : Nat), si = .int .i64 k ∧ k ≤ s.lanes.length ∧ Chg (fun _ => False) W0 wr) (fun si _ _ _ _ => s.lanes.length - (intOf si).toNat)
  case atStart => exact ⟨0, rfl, by omega, by rw [HW0.out]; exact Chg.refl _ _⟩
  case round =>
    obtain ⟨k, rfl, hk1, hc⟩ := hrel
    have d0 := hc.cellAt a0 id
    have d1 := hc.cellAt a1 id
    have e0 := hc.cellAt b0 id
    have e1 := hc.cellAt b1 id
    have hc' : Chg (fun _ => False) w wr := c0.trans hc (fun _ _ h => h)
    by_cases hkl : k < s.lanes.length
    · obtain ⟨l, hll⟩ : ∃ l, s.lanes[k]? = some l := ⟨_, List.getElem?_eq_getElem hkl⟩
      obtain ⟨u1, hh1⟩ : ∃ u, us1[k]? = some u := ⟨_, List.getElem?_eq_getElem (by omega)⟩
      obtain ⟨u2, hh2⟩ : ∃ u, us2[k]? = some u := ⟨_, List.getElem?_eq_getElem (by omega)⟩
      have x1 := sessCells_at _ _ _ _ _ hll hh1
      have x2 := sessCells_at _ _ _ _ _ hll hh2
      have t1 := q1 k l u1 hll hh1
      have t2 := q2 k l u2 hll hh2
      obtain ⟨pu1, cu1, rfl⟩ := row_any t1
      obtain ⟨pu2, cu2, rfl⟩ := row_any t2
      have hlw := hw l (List.mem_of_getElem? hll)
      obtain ⟨g1, cap1, hv1, _, _, hcell1⟩ := row_pos r1 (by omega)
      obtain ⟨g2, cap2, hv2, _, _, hcell2⟩ := row_pos r2 (by omega)
      simp only [Value.slice.injEq] at hv1 hv2
      obtain ⟨rfl, _, rfl⟩ := hv1
      obtain ⟨rfl, _, rfl⟩ := hv2
      have m0 := hc'.cellAt (hcell1 _ _ x1.1) id
      have m1 := hc'.cellAt (hcell1 _ _ x1.2.1) id
      have m2 := hc'.cellAt (hcell1 _ _ x1.2.2) id
      have n0 := hc'.cellAt (hcell2 _ _ x2.1) id
      have n1 := hc'.cellAt (hcell2 _ _ x2.2.1) id
      have n2 := hc'.cellAt (hcell2 _ _ x2.2.2) id
      have hkl' : (k : Int) < (s.lanes.length : Int) := by omega
      clear hcell1 hcell2 x1 x2
      have ee : ∀ ob, (wr.alloc ob).cell? ⟨w.heap.size + 1, 0, none⟩ = some (.slice (some ⟨g2, 0, none⟩) s.lanes.length cs2) := fun ob => ((Chg.refl (fun _ => False) wr).alloc ob).cellAt e0 id
      have nn0 : ∀ ob, (wr.alloc ob).cell? ⟨g2, k * 3, none⟩ = some (.int .i64 l.epoch) := fun ob => ((Chg.refl (fun _ => False) wr).alloc ob).cellAt n0 id
      have nn1 : ∀ ob, (wr.alloc ob).cell? ⟨g2, k * 3 + 1, none⟩ = some (.int .i64 l.base) := fun ob => ((Chg.refl (fun _ => False) wr).alloc ob).cellAt n1 id
      have nn2 : ∀ ob, (wr.alloc ob).cell? ⟨g2, k * 3 + 2, none⟩ = some (.slice pu2 l.ws.length cu2) := fun ob => ((Chg.refl (fun _ => False) wr).alloc ob).cellAt n2 id
      obtain ⟨W2, hW2⟩ : ∃ W2, W2 = (wr.alloc (Obj.cells #[.int .i64 l.epoch, .int .i64 l.base, .slice pu1 l.ws.length cu1] 121)).alloc (Obj.cells #[.int .i64 l.epoch, .int .i64 l.base, .slice pu2 l.ws.length cu2] 121) := ⟨_, rfl⟩
      have c2 : Chg (fun _ => False) wr W2 := by rw [hW2]; exact ((Chg.refl _ wr).alloc _).alloc _
      have y2 : W2.cell? ⟨wr.heap.size, 2, none⟩ = some (.slice pu1 l.ws.length cu1) := by rw [hW2]; exact ((Chg.refl (fun _ => False) _).alloc _).cellAt (World.cell?_alloc_at _ _ _ _ rfl) id
      have z2 : W2.cell? ⟨wr.heap.size + 1, 2, none⟩ = some (.slice pu2 l.ws.length cu2) := by rw [hW2]; exact World.cell?_alloc_at _ _ _ _ (by simp)
      have HW2 : Hid (W2 = (wr.alloc (Obj.cells #[.int .i64 l.epoch, .int .i64 l.base, .slice pu1 l.ws.length cu1] 121)).alloc (Obj.cells #[.int .i64 l.epoch, .int .i64 l.base, .slice pu2 l.ws.length cu2] 121)) := hW2
      clear hW2
      go_wp2_with fail
      go_loopw [8] (fun sj w2 => ∃ (j : Nat), sj = .int .i64 j ∧ j ≤ l.ws.length ∧ Chg (fun _ => False) W2 w2) (fun sj _ => l.ws.length - (intOf sj).toNat)
      case atStart => exact ⟨0, rfl, by omega, by rw [HW2.out]; exact Chg.refl _ _⟩
      case round =>
        obtain ⟨j, rfl, hj, hcj⟩ := hrel
        have v2 := hcj.cellAt y2 id
        have w2' := hcj.cellAt z2 id
        by_cases hjl : j < l.ws.length
        · obtain ⟨x, hx⟩ : ∃ x, l.ws[j]? = some x := ⟨_, List.getElem?_eq_getElem hjl⟩
          have hn : l.nums[j]? = some (.int .i64 x.num) := by simp [Ln.nums, hx]
          obtain ⟨gu1, capu1, hvu1, _, _, hcu1⟩ := row_pos t1 (by omega)
          obtain ⟨gu2, capu2, hvu2, _, _, hcu2⟩ := row_pos t2 (by omega)
          simp only [Value.slice.injEq] at hvu1 hvu2
          obtain ⟨rfl, _, rfl⟩ := hvu1
          obtain ⟨rfl, _, rfl⟩ := hvu2
          have hcc : Chg (fun _ => False) w wr := (hc'.trans c2 (fun _ _ h => h)).trans hcj (fun _ _ h => h)
          have p1 := hcc.cellAt (hcu1 _ _ hn) id
          have p2 := hcc.cellAt (hcu2 _ _ hn) id
          have hjl' : (j : Int) < (l.ws.length : Int) := by omega
          clear hcu1 hcu2
          go_wp2_with fail
          go_quiet (fail)
          go_wp2_with fail
          go_roundw
          case rel => exact ⟨j + 1, by go_num, by omega, hcj.trans (((Quiet.refl _).drewN _).chg _) (fun _ _ h => h)⟩
          case measure => simp [intOf]; omega
        · have hjl' : ¬ (j : Int) < (l.ws.length : Int) := by omega
          go_wp2_with fail
          go_roundw
          case rel => exact ⟨k + 1, by go_num, by omega, (hc.trans c2 (fun _ _ h => h)).trans hcj (fun _ _ h => h)⟩
          case measure => simp [intOf]; omega
    · have hkl' : ¬ (k : Int) < (s.lanes.length : Int) := by omega
      go_wp2_with fail
      go_loopw [9] (fun sj w2 => ∃ (j : Nat), sj = .int .i64 j ∧ j ≤ s.keys.length ∧ Chg (fun _ => False) wr w2) (fun sj _ => s.keys.length - (intOf sj).toNat)
      case atStart => exact ⟨0, rfl, by omega, Chg.refl _ _⟩
      case round =>
        obtain ⟨j, rfl, hj, hcj⟩ := hrel
        have v1 := hcj.cellAt d1 id
        have w1 := hcj.cellAt e1 id
        have hcc : Chg (fun _ => False) w wr := hc'.trans hcj (fun _ _ h => h)
        by_cases hjl : j < s.keys.length
        · obtain ⟨x, hx⟩ : ∃ x, s.keys[j]? = some x := ⟨_, List.getElem?_eq_getElem hjl⟩
          have cx := keyCells_at s.keys j x hx
          obtain ⟨gu1, capu1, hvu1, _, _, hcu1⟩ := row_pos k1 (by omega)
          obtain ⟨gu2, capu2, hvu2, _, _, hcu2⟩ := row_pos k2 (by omega)
          simp only [Value.slice.injEq] at hvu1 hvu2
          obtain ⟨rfl, _, rfl⟩ := hvu1
          obtain ⟨rfl, _, rfl⟩ := hvu2
          have p0 := hcc.cellAt (hcu1 _ _ cx.1) id
          have p1 := hcc.cellAt (hcu1 _ _ cx.2.1) id
          have p2 := hcc.cellAt (hcu1 _ _ cx.2.2.1) id
          have p3 := hcc.cellAt (hcu1 _ _ cx.2.2.2) id
          have o0 := hcc.cellAt (hcu2 _ _ cx.1) id
          have o1 := hcc.cellAt (hcu2 _ _ cx.2.1) id
          have o2 := hcc.cellAt (hcu2 _ _ cx.2.2.1) id
          have o3 := hcc.cellAt (hcu2 _ _ cx.2.2.2) id
          have hjl' : (j : Int) < (s.keys.length : Int) := by omega
          clear hcu1 hcu2
          go_wp2_with fail
          go_quiet (fail)
          go_wp2_with fail
          go_roundw
          case rel => exact ⟨j + 1, by go_num, by omega, hcj.trans (((Quiet.refl _).drewN _).chg _) (fun _ _ h => h)⟩
          case measure => simp [intOf]; omega
        · have hjl' : ¬ (j : Int) < (s.keys.length : Int) := by omega
          go_wp2_with fail
          go_ret
          exact ⟨rfl, hcc⟩

end Go.Proofs.YthedkdbgfdjlkaaGreatDoor

/- Foreign, WALKED. -/
namespace Go.Proofs.YthedkdbgfdjlkaaGreatDoor
set_option linter.unusedVariables false
set_option linter.unusedSimpArgs false
open Go.RowKit

theorem apart_grow {F F' G : Nat → Prop} {n : Nat} (h : ∀ k, F k → ¬ G k) (hF : ∀ k, F' k → F k ∨ n ≤ k) (hG : ∀ k, G k → k < n) : ∀ k, F' k → ¬ G k := fun k hk hg => by
  rcases hF k hk with h1 | h1
  · exact h k h1 hg
  · have := hG k hg; omega

theorem apart_sym {F G : Nat → Prop} (h : ∀ k, F k → ¬ G k) : ∀ k, G k → ¬ F k := fun k hk hf => h k hf hk

theorem relT_beside {T : List UInt8} {w w' : World} {a : Addr} {o : Option St} {F G : Nat → Prop} (h : RelT T w a o F) (c : Chg G w w') (hA : ∀ k, F k → ¬ G k) : RelT T w' a o F :=
  relT_stable h fun k hk => c.block k (relT_lt h hk) (hA k hk)

theorem tapeAcc_len {T T' : List UInt8} {x : Rec} {o o' : Option St} (h : tapeAcc T x o o' T') : T'.length ≤ T.length + 32 := by
  rcases h with ⟨rfl, _⟩ | ⟨rfl, _, h⟩
  · omega
  · rw [List.length_append]; omega

set_option maxRecDepth 100000 in
set_option maxHeartbeats 4000000 in
theorem foreign_any {w : World} (hg : HandleAt w) (row : ByteArray) (hrow : row.size ≤ 140737488351232) (x : Rec) (hx : x.fits) (key : ByteArray) (hkey : key.size ≤ maxLen) (held : Int) (hheld : inInt held) :
    Calls Tryz.prog 8 #[.string row, x.value', .string key, .int .i64 held] w fun e w' => e = .returned (.bool true) ∧ Chg (fun _ => False) w w' := by
  have hmax : row.size ≤ maxLen := by unfold maxLen; omega
  obtain ⟨W0, hW0⟩ : ∃ W0, W0 = w.alloc (.cells #[.int .i64 x.session, .int .i64 x.epoch, .int .i64 x.number, .string x.key, .int .i64 x.value] 53) := ⟨_, rfl⟩
  have c0 : Chg (fun _ => False) w W0 := by rw [hW0]; exact (Chg.refl _ w).alloc _
  have x0 : W0.cell? ⟨w.heap.size, 0, none⟩ = some (.int .i64 x.session) := by rw [hW0]; exact World.cell?_alloc_at _ _ _ _ rfl
  have x1 : W0.cell? ⟨w.heap.size, 1, none⟩ = some (.int .i64 x.epoch) := by rw [hW0]; exact World.cell?_alloc_at _ _ _ _ rfl
  have x2 : W0.cell? ⟨w.heap.size, 2, none⟩ = some (.int .i64 x.number) := by rw [hW0]; exact World.cell?_alloc_at _ _ _ _ rfl
  have x3 : W0.cell? ⟨w.heap.size, 3, none⟩ = some (.string x.key) := by rw [hW0]; exact World.cell?_alloc_at _ _ _ _ rfl
  have x4 : W0.cell? ⟨w.heap.size, 4, none⟩ = some (.int .i64 x.value) := by rw [hW0]; exact World.cell?_alloc_at _ _ _ _ rfl
  have hkp := keeping_any W0 (hg.chg c0 id)
  unfold Rec.value'
  go_enter Tryz.func8, Tryz.ntmps8
  go_wp2_with fail
  rw [← hW0]
  refine hkp.mono ?_
  rintro _ w1 ⟨rfl, c1⟩
  clear hkp hW0
  have h01 : Chg (fun _ => False) w w1 := c0.trans c1 (fun _ _ h => h)
  have ho1 := open_any w1 row hmax (hg.chg h01 id)
  have hs1 : w.heap.size < w1.heap.size := Nat.lt_of_lt_of_le (World.block_lt_of_cell? _ _ x0) c1.size
  have x0 := c1.cellAt x0 id
  have x1 := c1.cellAt x1 id
  have x2 := c1.cellAt x2 id
  have x3 := c1.cellAt x3 id
  have x4 := c1.cellAt x4 id
  have HO : Hid (∀ W, HandleAt W → Calls Tryz.prog 14 #[.string row] W fun e w' => OpenRes W w' row e (opens row) ∧ Chg (fun _ => False) W w') := fun W hW => open_any W row hmax hW
  cases hop : opens row with
  | none =>
    rw [hop] at ho1 HO
    simp only [OpenRes] at ho1 HO
    go_upto_region 3 with (go_at_call 14; refine ho1.mono ?_; rintro _ w2 ⟨rfl, c2⟩)
    have ho2 := HO.out w2 (hg.chg (h01.trans c2 (fun _ _ h => h)) id)
    go_wp2_with (go_at_call 14; refine ho2.mono ?_; rintro _ w3 ⟨rfl, c3⟩)
    go_ret
    exact ⟨rfl, (h01.trans c2 (fun _ _ h => h)).trans c3 (fun _ _ h => h)⟩
  | some p =>
    obtain ⟨s, n⟩ := p
    rw [hop] at ho1 HO
    simp only [OpenRes] at ho1 HO
    obtain ⟨T, hT⟩ : ∃ T, T = row.data.toList.take n := ⟨_, rfl⟩
    have hTl : T.length ≤ 140737488351232 := by
      rw [hT, List.length_take]
      have : row.data.toList.length = row.size := Array.length_toList
      omega
    rw [← hT] at ho1 HO
    clear hT hop
    go_upto_region 3 with (go_at_call 14; refine ho1.mono ?_; rintro _ w2 ⟨⟨a, F1, rfl, hR1, y1⟩, c2⟩)
    have ho2 := HO.out w2 (hg.chg (h01.trans c2 (fun _ _ h => h)) id)
    go_upto_region 8 with (go_at_call 14; refine ho2.mono ?_; rintro _ w3 ⟨⟨b, F2, rfl, hR2, y2⟩, c3⟩)
    have l1 : ∀ k, F1 k → k < w2.heap.size := fun k hk => relT_lt hR1 hk
    have hA : ∀ k, F1 k → ¬ F2 k := fun k hk h => by have := y2 k h; have := l1 k hk; omega
    have hR1 := relT_keep hR1 c3
    have h02 : Chg (fun _ => False) w w2 := h01.trans c2 (fun _ _ h => h)
    have h03 : Chg (fun _ => False) w w3 := h02.trans c3 (fun _ _ h => h)
    have Y1 : ∀ k, F1 k → w.heap.size < k := fun k hk => Nat.lt_of_lt_of_le hs1 (y1 k hk)
    have Y2 : ∀ k, F2 k → w.heap.size < k := fun k hk => Nat.lt_of_lt_of_le hs1 (Nat.le_trans c2.size (y2 k hk))
    have hs3 : w.heap.size < w3.heap.size := Nat.lt_of_lt_of_le hs1 (Nat.le_trans c2.size c3.size)
    have x0 := (c2.trans c3 (fun _ _ h => h)).cellAt x0 id
    have x1 := (c2.trans c3 (fun _ _ h => h)).cellAt x1 id
    have x2 := (c2.trans c3 (fun _ _ h => h)).cellAt x2 id
    have x3 := (c2.trans c3 (fun _ _ h => h)).cellAt x3 id
    have x4 := (c2.trans c3 (fun _ _ h => h)).cellAt x4 id
    clear ho1 ho2 HO c2 h01 h02 y1 y2 l1 c1 c0 hs1
    have hac := relT_accept x hR1 (by omega) hx
    simp only [accept?] at hac
    unfold Rec.value' at hac
    go_upto_region 9 with (go_at_call 22; refine hac.mono ?_; rintro _ w4 ⟨F1a, T1, rfl, hR1a, hT1, hF1, c4⟩)
    have hT1l := tapeAcc_len hT1
    have hR2a := relT_beside hR2 c4 (apart_sym hA)
    have n0 : ¬ F1 w.heap.size := fun h => Nat.lt_irrefl _ (Y1 _ h)
    have x0 := c4.cellAt x0 n0
    have x1 := c4.cellAt x1 n0
    have x2 := c4.cellAt x2 n0
    have x3 := c4.cellAt x3 n0
    have x4 := c4.cellAt x4 n0
    have hA1 := apart_grow hA hF1 (fun k hk => relT_lt hR2 hk)
    have Y1a : ∀ k, F1a k → w.heap.size < k := fun k hk => (hF1 k hk).elim (Y1 k) (fun h => Nat.lt_of_lt_of_le hs3 h)
    have h04 : Chg (fun _ => False) w w4 := h03.step c4 (fun k hk => Nat.le_of_lt (Y1 k hk))
    have hs4 : w.heap.size < w4.heap.size := Nat.lt_of_lt_of_le hs3 c4.size
    clear hac hT1 hA hF1 c4 h03 hR1 hR2 n0
    have hac := relT_accept x hR2a (by omega) hx
    simp only [accept?] at hac
    unfold Rec.value' at hac
    go_upto_region 10 with (go_at_call 22; refine hac.mono ?_; rintro _ w5 ⟨F2a, T2, rfl, hR2b, hT2, hF2, c5⟩)
    have hT2l := tapeAcc_len hT2
    have hR1b := relT_beside hR1a c5 hA1
    have hA2 := apart_grow (apart_sym hA1) hF2 (fun k hk => relT_lt hR1a hk)
    have Y2a : ∀ k, F2a k → w.heap.size < k := fun k hk => (hF2 k hk).elim (Y2 k) (fun h => Nat.lt_of_lt_of_le hs4 h)
    have h05 : Chg (fun _ => False) w w5 := h04.step c5 (fun k hk => Nat.le_of_lt (Y2 k hk))
    have hs5 : w.heap.size < w5.heap.size := Nat.lt_of_lt_of_le hs4 c5.size
    clear hac hT2 hA1 hF2 c5 h04 hR1a hR2a Y1 Y2
    generalize accept s x = A at hR1b hR2b ⊢
    obtain ⟨⟨ab, ae⟩, s1⟩ := A
    simp only at hR1b hR2b ⊢
    have han := relT_answer key held hR1b (by omega) hkey hheld
    simp only [answer?] at han
    go_upto_region 11 with (go_at_call 23; refine han.mono ?_; rintro _ w6 ⟨F1c, T3, rfl, hR1c, _, hF3, c6⟩)
    have hR2c := relT_beside hR2b c6 hA2
    have hA3 := apart_grow (apart_sym hA2) hF3 (fun k hk => relT_lt hR2b hk)
    have Y1c : ∀ k, F1c k → w.heap.size < k := fun k hk => (hF3 k hk).elim (Y1a k) (fun h => Nat.lt_of_lt_of_le hs5 h)
    have h06 : Chg (fun _ => False) w w6 := h05.step c6 (fun k hk => Nat.le_of_lt (Y1a k hk))
    have hs6 : w.heap.size < w6.heap.size := Nat.lt_of_lt_of_le hs5 c6.size
    clear han hA2 hF3 c6 h05 hR1b hR2b
    have han := relT_answer key held hR2c (by omega) hkey hheld
    simp only [answer?] at han
    go_upto_region 12 with (go_at_call 23; refine han.mono ?_; rintro _ w7 ⟨F2c, T4, rfl, hR2d, _, hF4, c7⟩)
    have hR1d := relT_beside hR1c c7 hA3
    have hA4 := apart_grow (apart_sym hA3) hF4 (fun k hk => relT_lt hR1c hk)
    have Y2c : ∀ k, F2c k → w.heap.size < k := fun k hk => (hF4 k hk).elim (Y2a k) (fun h => Nat.lt_of_lt_of_le hs6 h)
    have h07 : Chg (fun _ => False) w w7 := h06.step c7 (fun k hk => Nat.le_of_lt (Y2a k hk))
    have hs7 : w.heap.size < w7.heap.size := Nat.lt_of_lt_of_le hs6 c7.size
    clear han hA3 hF4 c7 h06 hR1c hR2c Y1a Y2a
    generalize answer s1 key held = A at hR1d hR2d ⊢
    obtain ⟨be, s2⟩ := A
    simp only at hR1d hR2d ⊢
    have hfine := relT_fine hR1d
    obtain ⟨_, _, sm1, sm2, sm3⟩ := hfine.small
    have hpt := relT_puts hR1d
    go_upto_region 13 with (go_at_call 19; refine hpt.mono ?_; rintro _ w8 ⟨vp, rfl, _, hR1e, c8⟩)
    have hR2e := relT_beside hR2d c8 hA4
    have h08 : Chg (fun _ => False) w w8 := h07.step c8 (fun k hk => Nat.le_of_lt (Y1c k hk))
    have hl1 : ∀ k, F1c k → k < w8.heap.size := fun k hk => relT_lt hR1e hk
    clear hpt c8 h07 hR1d hR2d hs7
    have hst := relT_state hR1e
    simp only [state?, errno?] at hst
    go_upto_region 14 with (go_at_call 16; refine hst.mono ?_; rintro _ w9 ⟨vs, vk, rfl, hs9, hR1f, c9⟩; obtain ⟨us, hu1, hu2, hu3⟩ := hs9.sess; obtain ⟨pa, ca, rfl⟩ := row_any hu2; obtain ⟨pb, cb, rfl⟩ := row_any hs9.keys)
    obtain ⟨W9, hW9⟩ : ∃ W9, W9 = w9.alloc (.cells #[.slice pa s2.lanes.length ca, .slice pb s2.keys.length cb] 46) := ⟨_, rfl⟩
    have cW9 : Chg (fun _ => False) w9 W9 := by rw [hW9]; exact (Chg.refl _ w9).alloc _
    have q0 : W9.cell? ⟨w9.heap.size, 0, none⟩ = some (.slice pa s2.lanes.length ca) := by rw [hW9]; exact World.cell?_alloc_at _ _ _ _ rfl
    have q1 : W9.cell? ⟨w9.heap.size, 1, none⟩ = some (.slice pb s2.keys.length cb) := by rw [hW9]; exact World.cell?_alloc_at _ _ _ _ rfl
    rw [← hW9]
    have hsW9 : W9.heap.size = w9.heap.size + 1 := by rw [hW9]; simp
    have HS9 : Hid (W9.heap.size = w9.heap.size + 1) := hsW9
    clear hW9 hsW9 hu1 hu2 hu3
    have hR1g := relT_keep hR1f cW9
    have hR2f := relT_keep (relT_beside hR2e c9 hA4) cW9
    have h09 : Chg (fun _ => False) w W9 := (h08.step c9 (fun k hk => Nat.le_of_lt (Y1c k hk))).trans cW9 (fun _ _ h => h)
    have h89 : w8.heap.size ≤ w9.heap.size := c9.size
    have hl2 : ∀ k, F2c k → k < w8.heap.size := fun k hk => relT_lt hR2e hk
    clear hst c9 h08 hR1e hR2e hR1f
    have hst := relT_state hR2f
    simp only [state?, errno?] at hst
    go_upto_region 15 with (go_at_call 16; refine hst.mono ?_; rintro _ w10 ⟨vs2, vk2, rfl, hs10, hR2g, c10⟩; obtain ⟨us, hu1, hu2, hu3⟩ := hs10.sess; obtain ⟨pc, cc, rfl⟩ := row_any hu2; obtain ⟨pd, cd, rfl⟩ := row_any hs10.keys)
    obtain ⟨W10, hW10⟩ : ∃ W10, W10 = w10.alloc (.cells #[.slice pc s2.lanes.length cc, .slice pd s2.keys.length cd] 46) := ⟨_, rfl⟩
    have cW10 : Chg (fun _ => False) w10 W10 := by rw [hW10]; exact (Chg.refl _ w10).alloc _
    have r0 : W10.cell? ⟨w10.heap.size, 0, none⟩ = some (.slice pc s2.lanes.length cc) := by rw [hW10]; exact World.cell?_alloc_at _ _ _ _ rfl
    have r1 : W10.cell? ⟨w10.heap.size, 1, none⟩ = some (.slice pd s2.keys.length cd) := by rw [hW10]; exact World.cell?_alloc_at _ _ _ _ rfl
    rw [← hW10]
    clear hW10 hu1 hu2 hu3
    have n9 : ¬ F2c w9.heap.size := fun h => by have := hl2 _ h; omega
    have q0 := cW10.cellAt (c10.cellAt q0 n9) id
    have q1 := cW10.cellAt (c10.cellAt q1 n9) id
    have hR1h := relT_keep (relT_beside hR1g c10 (apart_sym hA4)) cW10
    have h10 : Chg (fun _ => False) w W10 := (h09.step c10 (fun k hk => Nat.le_of_lt (Y2c k hk))).trans cW10 (fun _ _ h => h)
    have cA0 : Chg (fun k => k < w8.heap.size) w9 W10 := ((cW9.mono (fun _ h => h.elim)).trans c10 (fun k _ h => hl2 k h)).trans cW10 (fun _ _ h => h.elim)
    have cB0 : Chg (fun k => k < w8.heap.size) w10 W10 := cW10.mono (fun _ h => h.elim)
    have h9w10 : W9.heap.size ≤ w10.heap.size := c10.size
    have hw10 : w10.heap.size < W10.heap.size := World.block_lt_of_cell? _ _ r0
    rw [HS9.out] at h9w10
    clear hst c10 h09 hR1g hR2f hR2g cW10 cW9 hA4
    have hsh := relT_shrink hR1h
    go_upto_region 16 with (go_at_call 20; refine hsh.mono ?_; rintro _ w11 ⟨F1g, rfl, hR1i, hF5, c11⟩)
    have hG : ∀ k, F1g k → k < w8.heap.size ∨ W10.heap.size ≤ k := fun k hk => (hF5 k hk).imp (hl1 k) id
    have h11 : Chg (fun _ => False) w w11 := h10.step c11 (fun k hk => Nat.le_of_lt (Y1c k hk))
    have Yg : ∀ k, F1g k → w.heap.size ≤ k := fun k hk => (hF5 k hk).elim (fun h => Nat.le_of_lt (Y1c k h)) (fun h => Nat.le_trans h10.size h)
    have cS : Chg (fun k => k < w8.heap.size ∨ W10.heap.size ≤ k) W10 w11 := c11.mono (fun k h => .inl (hl1 k h))
    clear hsh c11 h10 hF5 hR1h
    have hcl := relT_close hR1i
    go_upto_region 17 with (go_at_call 24; refine hcl.mono ?_; rintro _ w12 ⟨rfl, hR1j, c12⟩)
    have h12 : Chg (fun _ => False) w w12 := h11.step c12 Yg
    have cS := cS.trans c12 (fun k _ h => hG k h)
    clear hcl c12 h11 hR1i
    have hby := relT_bytes hR1j
    go_upto_region 18 with (go_at_call 21; refine hby.mono ?_; rintro _ w13 ⟨rfl, _, c13⟩)
    have h13 : Chg (fun _ => False) w w13 := h12.step c13 Yg
    have cS := cS.trans c13 (fun k _ h => hG k h)
    clear hby c13 h12 hR1j
    have n9 : ¬ (w9.heap.size < w8.heap.size ∨ W10.heap.size ≤ w9.heap.size) := by omega
    have n10 : ¬ (w10.heap.size < w8.heap.size ∨ W10.heap.size ≤ w10.heap.size) := by omega
    have q0 := cS.cellAt q0 n9
    have q1 := cS.cellAt q1 n9
    have r0 := cS.cellAt r0 n10
    have r1 := cS.cellAt r1 n10
    have sA := hs9.kept ((cA0.mono (fun k h => Or.inl h)).trans cS (fun _ _ h => h)) (fun k h => h.elim (fun h => .inl (by omega)) (fun h => .inr (by omega)))
    have sB := hs10.kept ((cB0.mono (fun k h => Or.inl h)).trans cS (fun _ _ h => h)) (fun k h => h.elim (fun h => .inl (by rw [HS9.out]; omega)) (fun h => .inr (by omega)))
    have hsm := sameState_eq sA sB sm1 sm2 sm3
    clear cS cA0 cB0 sA sB hs9 hs10
    go_wp2_with (go_at_call 17; refine hsm.mono ?_; rintro _ w14 ⟨rfl, c14⟩)
    go_ret
    exact ⟨rfl, h13.trans c14 (fun _ _ h => h)⟩

end Go.Proofs.YthedkdbgfdjlkaaGreatDoor
