import Derived.Laws.IdiomStrings
import Derived.Lib.ConvBytes
import Derived.BigQuiet
import Derived.Deep.CutRange
import Derived.Deep.RegionLaw
import Derived.Test.YthedkdbgfdjlkaaGreatDoorRows
import Derived.LaidLaws
import Derived.LaidHandle
import Derived.ProofKit
import Derived.OpenShut
import Derived.Carry
import Derived.ChangeMaps5
import Derived.Deep.Slices
import Derived.Stop.Joined
import Derived.Test.YthedkdbgfdjlkaaGreatDoorPack1
import Derived.Test.YthedkdbgfdjlkaaGreatDoorPack2
import Derived.Test.YthedkdbgfdjlkaaGreatDoorPack3
import Derived.Test.YthedkdbgfdjlkaaGreatDoorPack4
import Derived.Test.YthedkdbgfdjlkaaGreatDoorPack5
import Derived.Test.YthedkdbgfdjlkaaGreatDoorPack6
import Derived.Test.YthedkdbgfdjlkaaGreatDoorPack7
import Derived.Test.YthedkdbgfdjlkaaGreatDoorPack8
import Derived.Test.YthedkdbgfdjlkaaGreatDoorPack9
/- The relay's calls, WALKED: Bytes. -/
namespace Go.Proofs.YthedkdbgfdjlkaaGreatDoor
set_option linter.unusedVariables false
set_option linter.unusedSimpArgs false
open Go.RowKit Go.Lib Go.Conc.Locks

theorem row_string {w : World} {lo : Nat} {v : Value} {T : List UInt8} (h : RowB w lo v T) : (convert 88 9 v).run Tryz.prog w = .ok (.string ⟨T.toArray⟩) w := by
  have key : ∀ (g cap : Nat), (∀ (j : Nat) (u : Value), (bCells T)[j]? = some u → w.cell? ⟨g, j, none⟩ = some u) → (convert 88 9 (.slice (some ⟨g, 0, none⟩) T.length cap)).run Tryz.prog w = .ok (.string ⟨T.toArray⟩) w := fun g cap hc => by
    refine run_convert_bytes_back w 88 9 5 ⟨g, 0, none⟩ cap T Tryz.underlying88 Tryz.underlying5 Tryz.underlying9 (fun j hj => ?_)
    rw [add_lit', Nat.zero_add]
    exact hc j _ (by simp [bCells, hj])
  rcases h with h | ⟨g, cap, rfl, _, _, _, hc, _⟩
  · have hcell := h
    rcases h.2 with ⟨rfl, hn⟩ | ⟨g, cap, cur, rfl, _, _, _⟩
    · obtain rfl : T = [] := List.eq_nil_of_length_eq_zero hn
      rw [run_convert_bytes_string w 88 9 5 none 0 0 Tryz.underlying88 Tryz.underlying5 Tryz.underlying9]
      rfl
    · exact key g cap (fun j u hu => by
        have := World.ownsRow.cells hcell (g := g) rfl j u hu
        rw [add_lit', Nat.zero_add] at this
        exact this)
  · exact key g _ hc

set_option maxHeartbeats 400000 in
theorem bytes_closed (b : Nat) (w : World) (h : Head w b 1 true) :
    Calls Tryz.prog 21 #[.pointer (some ⟨b, 0, none⟩)] w fun e w' => e = .returned (.tuple #[.string ⟨#[]⟩, .int .i64 1]) ∧ Head w' b 1 true ∧ Chg (fun k => k = b) w w' := by
  have hlk := lock_rel b _ h.mu (h.fz 0)
  go_enter_defers Tryz.func21, Tryz.ntmps21
  go_wp2_with (go_at_call 36; refine hlk.mono ?_; rintro _ w1 ⟨rfl, h1⟩; have c5 := (h1.slots.cell 5 (by omega)).trans h.cl)
  refine door (v := .tuple #[.string ⟨#[]⟩, .int .i64 1]) (h1.cell h.mu) ((h1.slots.frozen 0).trans (h.fz 0)) ?_ ⟨rfl, h.back h1.slots (fun j hj => .inl hj) (h1.cell h.mu), h1.chg.setCell (p := ⟨b, 0, none⟩) (fun _ => rfl) _⟩
  simp [results, Tryz.results21, go_sem]

set_option maxRecDepth 100000 in
set_option maxHeartbeats 1000000 in
theorem bytes_open {w : World} {lo b : Nat} {E B : Nat → Int} {V : Nat → Value} {vk vb : Value} {Q : Nat → List Wt} {ks : List Ky} {T : List UInt8} (h : Head w b 0 false) (hF : FlowAt w lo b 6 E B V vk Q ks) (hT : TapeAt w b V vk vb T) :
    Calls Tryz.prog 21 #[.pointer (some ⟨b, 0, none⟩)] w fun e w' => e = .returned (.tuple #[.string ⟨T.toArray⟩, .int .i64 0]) ∧
      Head w' b 0 false ∧ FlowAt w' lo b 6 E B V vk Q ks ∧ TapeAt w' b V vk vb T ∧ Chg (fun k => k = b) w w' := by
  have hbl : b < w.heap.size := World.block_lt_of_cell? _ _ h.mu
  have hlk := lock_rel b _ h.mu (h.fz 0)
  obtain ⟨pv, cv, rfl⟩ := hT.row.any
  go_enter_defers Tryz.func21, Tryz.ntmps21
  go_wp2_with (go_at_call 36; refine hlk.mono ?_; rintro _ w1 ⟨rfl, h1⟩; have c5 := (h1.slots.cell 5 (by omega)).trans h.cl; have hF1 := hF.beside h1.slots (fun j hj => .inl (by omega)) h1.chg; have hT1 := hT.beside h1.slots (by omega) h1.chg; have ct := hT1.cell; have hcv := row_string hT1.row)
  have hz01 := h1.chg.size
  have m1 := h1.cell h.mu
  have z1 := (h1.slots.frozen 0).trans (h.fz 0)
  have s12 : Slots b (fun j => j = 0) w1 (w1.setCell ⟨b, 0, none⟩ (.int .i32 0)) := (Slots.refl b _ w1).setCell (p := ⟨b, 0, none⟩) _ (fun _ => rfl)
  have g2 : Chg (fun k => k = b) w1 (w1.setCell ⟨b, 0, none⟩ (.int .i32 0)) := (Chg.refl (fun k => k = b) w1).setCell (p := ⟨b, 0, none⟩) (fun _ => rfl) _
  refine door (v := .tuple #[.string ⟨T.toArray⟩, .int .i64 0]) m1 z1 ?_ ⟨rfl, h.back h1.slots (fun j hj => .inl hj) m1, hF1.beside s12 (fun j hj => .inl (by omega)) g2, hT1.beside s12 (by omega) g2, h1.chg.trans g2 (fun _ _ h => h)⟩
  simp [results, Tryz.results21, go_sem]

def bytes? (T : List UInt8) : Option St → List UInt8
  | none => []
  | some _ => T

theorem relT_bytes {T : List UInt8} {w : World} {a : Addr} {o : Option St} {F : Nat → Prop} (h : RelT T w a o F) : Calls Tryz.prog 21 #[.pointer (some a)] w fun e w' =>
    e = .returned (.tuple #[.string ⟨(bytes? T o).toArray⟩, .int .i64 (errno? o)]) ∧ RelT T w' a o F ∧ Chg F w w' := by
  obtain ⟨b, rfl, hb, h1, h2⟩ := h
  cases o with
  | none =>
    refine (bytes_closed b w h2).mono ?_
    rintro e w' ⟨rfl, g1, g2⟩
    exact ⟨rfl, ⟨b, rfl, hb, fun k hk => Nat.lt_of_lt_of_le (h1 k hk) g2.size, g1⟩, g2.mono (fun k hk => by rw [hk]; exact hb)⟩
  | some s =>
    obtain ⟨h3, E, B, V, vk, vb, Q, ks, h4, h5, h6, h7, h8, h9, h10⟩ := h2
    refine (bytes_open h3 h4 h8).mono ?_
    rintro e w' ⟨rfl, g1, g2, g3, g4⟩
    exact ⟨rfl, ⟨b, rfl, hb, fun k hk => Nat.lt_of_lt_of_le (h1 k hk) g4.size, g1, E, B, V, vk, vb, Q, ks, g2, h5, h6, h7, g3, h9, h10⟩, g4.mono (fun k hk => by rw [hk]; exact hb)⟩

end Go.Proofs.YthedkdbgfdjlkaaGreatDoor

/- What a row of bytes tells, and what Open makes of it, cut anywhere. Pure. -/
namespace Go.Proofs.YthedkdbgfdjlkaaGreatDoor
set_option linter.unusedVariables false
set_option linter.unusedSimpArgs false

/-- An entry, and what it does. -/
inductive Entry (s : St) : List UInt8 → St → Prop
  | acc (x : Rec) (hx : x.tidy) (h0 : (accept s x).1.2 = 0) : Entry s (encAcc x) (accept s x).2
  | ans (k : ByteArray) (n : Int) (hk : k.size ≤ 6) (hn : 0 ≤ n ∧ n ≤ 9223372036854775807) (h0 : (answer s k n).1 = 0) : Entry s (encAns k n) (answer s k n).2

/-- These bytes tell this state. -/
inductive Tells : List UInt8 → St → Prop
  | head (s : St) (h : s.tidy) : Tells (encHead s) s
  | more {T : List UInt8} {s : St} {e : List UInt8} {s' : St} (h : Tells T s) (he : Entry s e s') : Tells (T ++ e) s'

theorem Entry.pos {s s' : St} {e : List UInt8} (h : Entry s e s') : 1 ≤ e.length := by
  cases h <;> simp [encAcc, encAns]

theorem Entry.full {s s' : St} {e : List UInt8} (h : Entry s e s') {row : ByteArray} {a : Nat} (hs : Stands row a e) : rEntry row s ⟨a, none⟩ = (s', ⟨a + e.length, none⟩) := by
  cases h with
  | acc x hx h0 => exact acc_full hx h0 hs
  | ans k n hk hn h0 => exact ans_full hk hn h0 hs

theorem Entry.cut {s s' : St} {e : List UInt8} (h : Entry s e s') {row : ByteArray} {a : Nat} (hs : Ends row a e) : (rEntry row s ⟨a, none⟩).1 = s ∧ cutErr (rEntry row s ⟨a, none⟩).2 := by
  cases h with
  | acc x hx h0 => exact acc_cut hx hs
  | ans k n hk hn h0 => exact ans_cut hk hn.2 hs

/-- The reader comes to where these bytes end. -/
theorem Tells.reads {T : List UInt8} {s : St} (h : Tells T s) : ∀ {row : ByteArray}, Stands row 0 T → ∃ s0 f c, rHead row ⟨0, none⟩ = (some s0, (rHead row ⟨0, none⟩).2) ∧ row.size + 1 ≤ f + T.length ∧ rLoop row (row.size + 1) s0 (rHead row ⟨0, none⟩).2 0 = rLoop row f s ⟨T.length, none⟩ c := by
  induction h with
  | head s h =>
    intro row hs
    have e := head_full h hs
    rw [Nat.zero_add] at e
    refine ⟨s, row.size + 1, 0, by rw [e], by omega, by rw [e]⟩
  | @more T s e s' h he ih =>
    intro row hs
    obtain ⟨g1, g2⟩ := hs.split
    obtain ⟨s0, f, c, h1, h2, h3⟩ := ih g1
    rw [Nat.zero_add] at g2
    have hp := he.pos
    have hin := g2.size (g2.inside (by intro e; rw [e] at hp; simp at hp))
    obtain ⟨f', rfl⟩ : ∃ f', f = f' + 1 := ⟨f - 1, by omega⟩
    refine ⟨s0, f', T.length, h1, by rw [List.length_append]; omega, h3.trans ?_⟩
    simp only [rLoop]
    rw [if_neg (by omega), he.full g2, List.length_append]

theorem Tells.whole {T : List UInt8} {s : St} (h : Tells T s) {row : ByteArray} (hr : row.data.toList = T) : opens row = some (s, T.length) := by
  obtain ⟨s0, f, c, h1, h2, h3⟩ := h.reads (row := row) ⟨[], by simp [hr]⟩
  have hl : T.length = row.size := by rw [← hr]; exact row_len row
  obtain ⟨f', rfl⟩ : ∃ f', f = f' + 1 := ⟨f - 1, by omega⟩
  have h4 : rLoop row (f' + 1) s ⟨T.length, none⟩ c = (s, T.length, ⟨T.length, none⟩) := by
    simp only [rLoop]
    rw [if_pos hl]
  unfold opens
  rw [h1]
  simp only
  rw [h3, h4]

theorem Tells.cut {T : List UInt8} {s s' : St} {e : List UInt8} (h : Tells T s) (he : Entry s e s') {row : ByteArray} {P Y : List UInt8} (hr : row.data.toList = T ++ P) (hY : Y ≠ []) (hP : P ++ Y = e) : opens row = some (s, T.length) := by
  obtain ⟨s0, f, c, h1, h2, h3⟩ := h.reads (row := row) ⟨P, by simp [hr]⟩
  have hl : T.length + P.length = row.size := by rw [← List.length_append, ← hr]; exact row_len row
  obtain ⟨f', rfl⟩ : ∃ f', f = f' + 1 := ⟨f - 1, by omega⟩
  by_cases hP0 : P = []
  · subst hP0
    refine Tells.whole h ?_
    simpa using hr
  · have hp := List.length_pos_iff.2 hP0
    have hends : Ends row T.length e := ⟨by omega, Y, hY, by rw [hr, List.drop_left, hP]⟩
    obtain ⟨g1, p, g2⟩ := he.cut hends
    have h4 : rLoop row (f' + 1) s ⟨T.length, none⟩ c = (s, T.length, (rEntry row s ⟨T.length, none⟩).2) := by
      simp only [rLoop]
      rw [if_neg (by omega), g1]
      cases f' with
      | zero => simp only [rLoop]
      | succ f'' =>
        simp only [rLoop]
        rw [g2]
    unfold opens
    rw [h1]
    simp only
    rw [h3, h4]
    simp only
    rw [g2]
    simp

end Go.Proofs.YthedkdbgfdjlkaaGreatDoor

/- What a relay's calls make of its bytes, by what they tell. -/
namespace Go.Proofs.YthedkdbgfdjlkaaGreatDoor
set_option linter.unusedVariables false
set_option linter.unusedSimpArgs false

theorem accept_changed {s : St} {x : Rec} (hf : s.fine) (hx : x.fits) (h : (accept s x).2 ≠ s) : (accept s x).1.2 = 0 ∧ x.tidy := by
  obtain ⟨f1, f2, f3, f4, _⟩ := hx
  unfold inInt at f1 f2 f3 f4
  unfold accept at h ⊢
  split at h
  · exact absurd rfl h
  · rename_i h1
    rw [if_neg h1]
    split at h
    · exact absurd rfl h
    · rename_i h2
      rw [if_neg h2]
      have hk : okKey x.key = true := by
        cases e : okKey x.key
        · exact absurd (.inl e) h2
        · rfl
      have hsz := okKey_size hk
      split at h
      · exact absurd rfl h
      · rename_i l hl
        have hle := hf.lane l (List.mem_of_getElem? hl)
        unfold acceptIn at h ⊢
        split at h
        · exact absurd rfl h
        · rename_i h3
          simp only at h ⊢
          split at h
          · exact absurd rfl h
          · rename_i h4
            split at h
            · exact absurd rfl h
            · rename_i h5
              split at h
              · exact absurd rfl h
              · rename_i h6
                split at h
                · exact absurd rfl h
                · rename_i h7
                  rw [if_neg h3, if_neg h4, if_neg h5, if_neg h6, if_neg h7]
                  exact ⟨rfl, ⟨by omega, by omega, by omega, by omega, hsz.2⟩⟩

theorem answer_changed {s : St} {k : ByteArray} {n : Int} (hn : n ≤ 9223372036854775807) (h : (answer s k n).2 ≠ s) : (answer s k n).1 = 0 ∧ k.size ≤ 6 ∧ 0 ≤ n ∧ n ≤ 9223372036854775807 := by
  unfold answer at h ⊢
  split at h
  · exact absurd rfl h
  · rename_i h1
    rw [if_neg h1]
    have hk : okKey k = true := by simpa using h1
    have hsz := okKey_size hk
    split at h
    · exact absurd rfl h
    · split at h
      · exact absurd rfl h
      · rename_i h2
        rw [if_neg h2]
        exact ⟨rfl, hsz.2, by omega, hn⟩

/-- The bytes go on, as the state does. -/
def Grow (T : List UInt8) (s : St) (T' : List UInt8) (s' : St) : Prop := (T' = T ∧ s' = s) ∨ ∃ e, Entry s e s' ∧ T' = T ++ e

theorem Tells.grow {T T' : List UInt8} {s s' : St} (h : Tells T s) (g : Grow T s T' s') : Tells T' s' := by
  rcases g with ⟨rfl, rfl⟩ | ⟨e, he, rfl⟩
  · exact h
  · exact .more h he

theorem grow_acc {T T' : List UInt8} {s : St} {x : Rec} (hf : s.fine) (hx : x.fits) (h : tapeAcc T x (some s) (accept? (some s) x).2 T') : Grow T s T' (accept s x).2 := by
  rcases h with ⟨rfl, h⟩ | ⟨rfl, h, _⟩
  · exact .inl ⟨rfl, Option.some.inj h⟩
  · have hne : (accept s x).2 ≠ s := fun e => h (by simp [accept?, e])
    obtain ⟨h0, ht⟩ := accept_changed hf hx hne
    exact .inr ⟨_, .acc x ht h0, rfl⟩

theorem grow_ans {T T' : List UInt8} {s : St} {k : ByteArray} {n : Int} (hn : n ≤ 9223372036854775807) (h : tapeAnsw T k n (some s) (answer? (some s) k n).2 T') : Grow T s T' (answer s k n).2 := by
  rcases h with ⟨rfl, h⟩ | ⟨rfl, h, _⟩
  · exact .inl ⟨rfl, Option.some.inj h⟩
  · have hne : (answer s k n).2 ≠ s := fun e => h (by simp [answer?, e])
    obtain ⟨h0, h1, h2⟩ := answer_changed hn hne
    exact .inr ⟨_, .ans k n h1 h2 h0, rfl⟩

theorem relT_tidy {T : List UInt8} {w : World} {a : Addr} {s : St} {F : Nat → Prop} (h : RelT T w a (some s) F) : s.tidy := by
  have h1 := relT_fine h
  have h2 := relT_good h
  obtain ⟨b, _, _, _, h⟩ := h
  obtain ⟨_, E, B, V, vk, vb, Q, ks, _, h5, h6, _, _, _, h10⟩ := h
  exact ⟨h1, h2, h10, h6.many, fun k hk => h5.led.fold k (by rw [← h6.keys]; exact hk)⟩

end Go.Proofs.YthedkdbgfdjlkaaGreatDoor

/- culvert.Open, WALKED. -/
namespace Go.Proofs.YthedkdbgfdjlkaaGreatDoor
set_option linter.unusedVariables false
set_option linter.unusedSimpArgs false
open Go.RowKit Go.Lib Go.Conc.Locks

theorem rHead_none {row : ByteArray} {r : Rs} (h : (rHead row r).1 = none) : ∃ e, (rHead row r).2.err = some e := by
  unfold rHead at h ⊢
  cases he : (rParts row r).2.2.2.err with
  | some e =>
    simp only
    exact ⟨e, he⟩
  | none =>
    rw [he] at h
    simp only at h ⊢
    cases hr : restore (rParts row r).1 (rParts row r).2.1 (rParts row r).2.2.1 with
    | none =>
      simp only
      rw [Rs.fail_none _ _ he]
      exact ⟨_, rfl⟩
    | some s =>
      rw [hr] at h
      cases h

theorem rHead_some {row : ByteArray} {r : Rs} {s : St} (h : (rHead row r).1 = some s) : (rHead row r).2.err = none ∧ 0 < (rHead row r).2.at_ := by
  unfold rHead at h ⊢
  cases he : (rParts row r).2.2.2.err with
  | some e =>
    rw [he] at h
    cases h
  | none =>
    rw [he] at h
    simp only at h ⊢
    cases hr : restore (rParts row r).1 (rParts row r).2.1 (rParts row r).2.2.1 with
    | none =>
      rw [hr] at h
      cases h
    | some s =>
      simp only
      exact ⟨he, rParts_pos he⟩

theorem rHead_fits (row : ByteArray) : (rHead row ⟨0, none⟩).2.at_ ≤ row.size := by
  have h1 : (rParts row ⟨0, none⟩).2.2.2.at_ ≤ row.size := ((Rs.on.mark row ⟨0, none⟩).trans (rParts_on row ⟨0, none⟩)).fits (Nat.zero_le _)
  unfold rHead
  split
  · exact h1
  · split
    · exact (Rs.on.fail row _ 2).fits h1
    · exact h1

theorem readR_le (row : ByteArray) : (readR row).2.1 ≤ row.size := rLoop_le row _ _ _ _ (rHead_fits row) (Nat.zero_le _)

/-- What Open makes of what Read tells. -/
theorem opens_readR (row : ByteArray) : opens row = if (readR row).2.1 = 0 then none else match (readR row).2.2.err with
    | none => some ((readR row).1, (readR row).2.1)
    | some (_, f) => if f = 1 then some ((readR row).1, (readR row).2.1) else none := by
  unfold opens readR
  cases h : (rHead row ⟨0, none⟩).1 with
  | none =>
    obtain ⟨e, he⟩ := rHead_none h
    rw [rLoop_err row _ _ _ _ he]
    simp
  | some s =>
    obtain ⟨he, ha⟩ := rHead_some h
    have hp := rLoop_pos row (row.size + 1) s (rHead row ⟨0, none⟩).2 0 ha (.inr ⟨he, by omega⟩)
    simp only [Option.getD_some]
    rw [if_neg (by omega)]
    cases (rLoop row (row.size + 1) s (rHead row ⟨0, none⟩).2 0).2.2.err with
    | none => rfl
    | some x => rfl

/-- A row of bytes made of a text. -/
theorem rowB_bytes (w : World) (t : ByteArray) : RowB (bytesWorld w 5 t) w.heap.size (.slice (some ⟨w.heap.size, 0, none⟩) t.size (grownCap w t.size 0 5)) t.data.toList := by
  have hl : t.data.toList.length = t.size := Array.length_toList
  have hge := grownCap_ge w t.size 0 5
  have hnew := bytesWorld_at_new w 5 t
  have hcs : (bytesCells w 5 t).size = grownCap w t.size 0 5 := by
    have : t.data.size = t.size := rfl
    simp [bytesCells]; omega
  refine .inr ⟨w.heap.size, _, by rw [hl], Nat.le_refl _, by rw [bytesWorld_size]; omega, by rw [hl]; exact hge, fun j u hj => ?_, fun j h5 h6 => ⟨?_, ?_⟩⟩
  · have hjl : j < t.data.toList.length := by
      have := (List.getElem?_eq_some_iff.1 hj).1
      rwa [bCells_len] at this
    have h6 := bytesWorld_cell w 5 t j (by omega)
    rw [h6]
    simp only [bCells, List.getElem?_map, List.getElem?_eq_getElem hjl, Option.map_some, Option.some.injEq] at hj
    rw [← hj]
    simp [List.getD, List.getElem?_eq_getElem hjl]
  · simp only [World.cell?, hnew]
    simp
    omega
  · simp only [World.frozen?, hnew]
    simp
    omega

theorem chg_bytes (w : World) (t : ByteArray) : Chg (fun _ => False) w (bytesWorld w 5 t) :=
  ⟨rfl, rfl, rfl, by rw [bytesWorld_size]; omega, fun k hk _ => bytesWorld_at_old w _ t k hk⟩

/-- A relay made of a flow and a row of bytes. -/
theorem relT_made {W : World} {lo : Nat} {E B : Nat → Int} {V : Nat → Value} {vk vb : Value} {Q : Nat → List Wt} {ks : List Ky} {s : St} {T : List UInt8} (hV : FlowV W lo E B V vk Q ks s) (hlo : lo ≤ W.heap.size) (hB : RowB W lo vb T) (hvb : ∀ k, vb.ownBlock = some k → ¬ Rows V vk k) :
    RelT T (W.alloc (.cells #[.int .i32 0, .int .u32 0, .int .u32 0, .int .i32 0, .int .u32 0, .bool false, .int .i64 (E 0), .int .i64 (B 0), V 0, .int .i64 (E 1), .int .i64 (B 1), V 1, .int .i64 (E 2), .int .i64 (B 2), V 2, .int .i64 (E 3), .int .i64 (B 3), V 3, vk, vb] 112)) ⟨W.heap.size, 0, none⟩ (some s) (fun k => lo ≤ k ∧ k < W.heap.size + 1) := by
  obtain ⟨w', hw⟩ : ∃ w', w' = W.alloc (.cells #[.int .i32 0, .int .u32 0, .int .u32 0, .int .i32 0, .int .u32 0, .bool false, .int .i64 (E 0), .int .i64 (B 0), V 0, .int .i64 (E 1), .int .i64 (B 1), V 1, .int .i64 (E 2), .int .i64 (B 2), V 2, .int .i64 (E 3), .int .i64 (B 3), V 3, vk, vb] 112) := ⟨_, rfl⟩
  have cA : Chg (fun _ => False) W w' := by rw [hw]; exact chg_alloc _ _
  have hs : w'.heap.size = W.heap.size + 1 := by rw [hw]; simp
  rw [← hw]
  have nb : ∀ k, Rows V vk k → k ≠ W.heap.size := fun k hk e => by have := hV.lt k hk; omega
  refine ⟨W.heap.size, rfl, ⟨hlo, by omega⟩, fun k hk => by rw [hs]; exact hk.2, ?_, E, B, V, vk, vb, Q, ks, ⟨⟨fun i hi => ?_, fun i hi => ?_, fun i hi => ?_, ?_⟩, fun j => ?_, fun i hi => cA.row' (hV.rows i hi) (fun _ _ h => h), cA.row' hV.keys (fun _ _ h => h), fun i hi e => nb _ (.inl ⟨i, hi, e⟩) rfl, fun e => nb _ (.inr e) rfl, hV.sep, hV.sepk, Nat.zero_le _⟩, hV.fit, hV.ties, fun k hk => ⟨hV.young k hk, by have := hV.lt k hk; omega⟩, ⟨?_, (hB.lower (Nat.zero_le _)).chg cA (fun _ _ h => h), fun e => by have := (hB.lt _ e).2; omega, hvb⟩, fun k hk => ⟨(hB.lt k hk).1, by have := (hB.lt k hk).2; omega⟩, hV.snd⟩
  · rw [hw]
    exact ⟨World.cell?_alloc_at _ _ _ _ rfl, World.cell?_alloc_at _ _ _ _ rfl, World.cell?_alloc_at _ _ _ _ rfl, World.cell?_alloc_at _ _ _ _ rfl, fun j => World.frozen?_alloc_at _ _ _ _ rfl⟩
  · rw [hw]
    rcases (by omega : i = 0 ∨ i = 1 ∨ i = 2 ∨ i = 3) with rfl | rfl | rfl | rfl <;> exact World.cell?_alloc_at _ _ _ _ rfl
  · rw [hw]
    rcases (by omega : i = 0 ∨ i = 1 ∨ i = 2 ∨ i = 3) with rfl | rfl | rfl | rfl <;> exact World.cell?_alloc_at _ _ _ _ rfl
  · rw [hw]
    rcases (by omega : i = 0 ∨ i = 1 ∨ i = 2 ∨ i = 3) with rfl | rfl | rfl | rfl <;> exact World.cell?_alloc_at _ _ _ _ rfl
  · rw [hw]
    exact World.cell?_alloc_at _ _ _ _ rfl
  · rw [hw]
    exact World.frozen?_alloc_at _ _ _ _ rfl
  · rw [hw]
    exact World.cell?_alloc_at _ _ _ _ rfl

theorem take_extract (row : ByteArray) (n : Nat) : (row.extract 0 n).data.toList = row.data.toList.take n := by
  rw [ByteArray.data_extract, Array.toList_extract]
  simp [List.extract_eq_take_drop]

def OpenRes (w w' : World) (row : ByteArray) (e : Ending) : Option (St × Nat) → Prop
  | none => e = .returned (.tuple #[.pointer none, .int .i64 10])
  | some (s, n) => ∃ a F, e = .returned (.tuple #[.pointer (some a), .int .i64 0]) ∧ RelT (row.data.toList.take n) w' a (some s) F ∧ (∀ k, F k → w.heap.size ≤ k)

set_option maxRecDepth 100000 in
set_option maxHeartbeats 4000000 in
theorem open_any (w : World) (row : ByteArray) (hrow : row.size ≤ maxLen) (hg : w.cell? ⟨0, 0, none⟩ = some (.iface 236 (.agg #[tyh 115]))) : Calls Tryz.prog 14 #[.string row] w fun e w' =>
    OpenRes w w' row e (opens row) ∧ Chg (fun _ => False) w w' := by
  have hop := opens_readR row
  have hle := readR_le row
  have hrd := read_any w row hrow
  obtain ⟨O, hO⟩ : ∃ O, O = opens row := ⟨_, rfl⟩
  rw [← hO] at hop ⊢
  clear hO
  have HO : Hid (O = if (readR row).2.1 = 0 then none else match (readR row).2.2.err with
    | none => some ((readR row).1, (readR row).2.1)
    | some (_, f) => if f = 1 then some ((readR row).1, (readR row).2.1) else none) := hop
  clear hop
  generalize readR row = R at hrd HO hle
  obtain ⟨s, n, rr⟩ := R
  simp only at hrd HO hle
  unfold flowVal at hrd
  go_enter Tryz.func14, Tryz.ntmps14
  go_upto_region 2 with (go_at_call 34; refine hrd.mono ?_; rintro _ w1 ⟨E, B, V, vk, Q, ks, ev, rfl, hV, hE, c1⟩; obtain ⟨p0, n0, hV0⟩ := row_any (hV.rows 0 (by omega)); obtain ⟨p1, n1, hV1⟩ := row_any (hV.rows 1 (by omega)); obtain ⟨p2, n2, hV2⟩ := row_any (hV.rows 2 (by omega)); obtain ⟨p3, n3, hV3⟩ := row_any (hV.rows 3 (by omega)); obtain ⟨pk2, nk2, hvk⟩ := row_any hV.keys; have HV0 : Hid (V 0 = .slice p0 (Q 0).length n0) := hV0; have HV1 : Hid (V 1 = .slice p1 (Q 1).length n1) := hV1; have HV2 : Hid (V 2 = .slice p2 (Q 2).length n2) := hV2; have HV3 : Hid (V 3 = .slice p3 (Q 3).length n3) := hV3; have HVK : Hid (vk = .slice pk2 ks.length nk2) := hvk; rw [hV0, hV1, hV2, hV3, hvk]; clear hV0 hV1 hV2 hV3 hvk)
  obtain ⟨W2, hW2⟩ : ∃ W2, W2 = w1.alloc (.cells #[.int .i64 (E 0), .int .i64 (B 0), .slice p0 (Q 0).length n0, .int .i64 (E 1), .int .i64 (B 1), .slice p1 (Q 1).length n1, .int .i64 (E 2), .int .i64 (B 2), .slice p2 (Q 2).length n2, .int .i64 (E 3), .int .i64 (B 3), .slice p3 (Q 3).length n3, .slice pk2 ks.length nk2] 98) := ⟨_, rfl⟩
  have c2 : Chg (fun _ => False) w1 W2 := by rw [hW2]; exact (Chg.refl _ w1).alloc _
  have fy : FlowCells W2 w1.heap.size 0 E B V vk := by
    rw [hW2, ← HV0.out, ← HV1.out, ← HV2.out, ← HV3.out, ← HVK.out]
    exact flow_alloc w1 98 E B V vk
  rw [← hW2]
  clear hW2 hrd
  have h02 : Chg (fun _ => False) w W2 := c1.trans c2 (fun _ _ h => h)
  have hcv := fun (W : World) (t : ByteArray) => Lib.run_convert_string_bytes (P := Tryz.prog) W 9 88 5 t Tryz.underlying9 Tryz.underlying88 Tryz.underlying5
  have hle' : (n : Int) ≤ (row.size : Int) := by omega
  by_cases hn : n = 0
  · have e : Hid (O = none) := by show _ = _; rw [HO.out, if_pos hn]
    clear HO
    subst hn
    go_wp2_with fail
    go_ret2
    exact ⟨by rw [e.out]; rfl, h02⟩
  · have HO1 : Hid (O = match rr.err with
      | none => some (s, n)
      | some (_, f) => if f = 1 then some (s, n) else none) := by show _ = _; rw [HO.out, if_neg hn]
    clear HO
    have hn' : ((n : Int) == 0) = false := by simp; omega
    cases hre : rr.err with
    | none =>
      rw [hre] at hE
      have hev : ev = .nilIface := hE
      subst hev
      have e : Hid (O = some (s, n)) := by show _ = _; rw [HO1.out, hre]
      clear HO1
      have fyb : FlowCells (bytesWorld W2.drew 5 (row.extract 0 n)) w1.heap.size 0 E B V vk := fy.chg ((Chg.refl (fun _ => False) W2).drew.trans (chg_bytes W2.drew _) (fun _ _ h => h)) id
      have y0 := fy.ep 0 (by omega)
      have y1 := fy.ba 0 (by omega)
      have y2 := fy.qu 0 (by omega)
      have y3 := fy.ep 1 (by omega)
      have y4 := fy.ba 1 (by omega)
      have y5 := fy.qu 1 (by omega)
      have y6 := fy.ep 2 (by omega)
      have y7 := fy.ba 2 (by omega)
      have y8 := fy.qu 2 (by omega)
      have y9 := fy.ep 3 (by omega)
      have y10 := fy.ba 3 (by omega)
      have y11 := fy.qu 3 (by omega)
      have y12 := fy.le
      simp only [Nat.zero_mul, Nat.one_mul, Nat.add_zero, Nat.zero_add, Nat.reduceMul, Nat.reduceAdd] at y0 y1 y2 y3 y4 y5 y6 y7 y8 y9 y10 y11 y12
      rw [HV0.out] at y2
      rw [HV1.out] at y5
      rw [HV2.out] at y8
      rw [HV3.out] at y11
      rw [HVK.out] at y12
      have v0 := fyb.ep 0 (by omega)
      have v1 := fyb.ba 0 (by omega)
      have v2 := fyb.qu 0 (by omega)
      have v3 := fyb.ep 1 (by omega)
      have v4 := fyb.ba 1 (by omega)
      have v5 := fyb.qu 1 (by omega)
      have v6 := fyb.ep 2 (by omega)
      have v7 := fyb.ba 2 (by omega)
      have v8 := fyb.qu 2 (by omega)
      have v9 := fyb.ep 3 (by omega)
      have v10 := fyb.ba 3 (by omega)
      have v11 := fyb.qu 3 (by omega)
      have v12 := fyb.le
      simp only [Nat.zero_mul, Nat.one_mul, Nat.add_zero, Nat.zero_add, Nat.reduceMul, Nat.reduceAdd] at v0 v1 v2 v3 v4 v5 v6 v7 v8 v9 v10 v11 v12
      rw [HV0.out] at v2
      rw [HV1.out] at v5
      rw [HV2.out] at v8
      rw [HV3.out] at v11
      rw [HVK.out] at v12
      go_upto_region 4 with fail
      go_region
      all_goals
        go_wp2_with fail
        go_ret2
        have hsz : (row.extract 0 n).size = n := by simp only [ByteArray.size_extract]; omega
        have cb : Chg (fun _ => False) W2 (bytesWorld W2.drew 5 (row.extract 0 n)) := (Chg.refl (fun _ => False) W2).drew.trans (chg_bytes W2.drew _) (fun _ _ h => h)
        have hrow := rowB_bytes W2.drew (row.extract 0 n)
        rw [hsz, take_extract] at hrow
        have hVb := (hV.chg (c2.trans cb (fun _ _ h => h)) (fun _ _ h => h))
        have hlo : w.heap.size ≤ W2.heap.size := h02.size
        have hmk := relT_made hVb (Nat.le_trans hlo cb.size) (hrow.lower hlo) (fun k hk h => by
          have h1 : W2.heap.size = k := by simpa [Value.ownBlock] using hk
          have := hV.lt k h
          have := c2.size
          omega)
        rw [HV0.out, HV1.out, HV2.out, HV3.out, HVK.out] at hmk
        refine ⟨?_, (h02.trans cb (fun _ _ h => h)).alloc _⟩
        rw [e.out]
        exact ⟨_, _, rfl, hmk, fun k hk => hk.1⟩
    | some x =>
      obtain ⟨ep, ef⟩ := x
      rw [hre] at hE
      obtain ⟨gp, rfl, eg⟩ := hE
      have hic := isCut_any gp ef W2 (h02.cellAt hg id) (c2.cellAt eg id)
      by_cases hef : ef = 1
      · have e : Hid (O = some (s, n)) := by show _ = _; rw [HO1.out, hre]; simp [hef]
        clear HO1
        rw [decide_eq_true hef] at hic
        go_upto_region 4 with (go_at_call 35; refine hic.mono ?_; rintro _ w3 ⟨rfl, c3⟩)
        have fy3 := fy.chg c3 id
        have c13 : Chg (fun _ => False) w1 w3 := c2.trans c3 (fun _ _ h => h)
        have h03 : Chg (fun _ => False) w w3 := h02.trans c3 (fun _ _ h => h)
        have fyb : FlowCells (bytesWorld w3.drew 5 (row.extract 0 n)) w1.heap.size 0 E B V vk := fy3.chg ((Chg.refl (fun _ => False) w3).drew.trans (chg_bytes w3.drew _) (fun _ _ h => h)) id
        have y0 := fy3.ep 0 (by omega)
        have y1 := fy3.ba 0 (by omega)
        have y2 := fy3.qu 0 (by omega)
        have y3 := fy3.ep 1 (by omega)
        have y4 := fy3.ba 1 (by omega)
        have y5 := fy3.qu 1 (by omega)
        have y6 := fy3.ep 2 (by omega)
        have y7 := fy3.ba 2 (by omega)
        have y8 := fy3.qu 2 (by omega)
        have y9 := fy3.ep 3 (by omega)
        have y10 := fy3.ba 3 (by omega)
        have y11 := fy3.qu 3 (by omega)
        have y12 := fy3.le
        simp only [Nat.zero_mul, Nat.one_mul, Nat.add_zero, Nat.zero_add, Nat.reduceMul, Nat.reduceAdd] at y0 y1 y2 y3 y4 y5 y6 y7 y8 y9 y10 y11 y12
        rw [HV0.out] at y2
        rw [HV1.out] at y5
        rw [HV2.out] at y8
        rw [HV3.out] at y11
        rw [HVK.out] at y12
        have v0 := fyb.ep 0 (by omega)
        have v1 := fyb.ba 0 (by omega)
        have v2 := fyb.qu 0 (by omega)
        have v3 := fyb.ep 1 (by omega)
        have v4 := fyb.ba 1 (by omega)
        have v5 := fyb.qu 1 (by omega)
        have v6 := fyb.ep 2 (by omega)
        have v7 := fyb.ba 2 (by omega)
        have v8 := fyb.qu 2 (by omega)
        have v9 := fyb.ep 3 (by omega)
        have v10 := fyb.ba 3 (by omega)
        have v11 := fyb.qu 3 (by omega)
        have v12 := fyb.le
        simp only [Nat.zero_mul, Nat.one_mul, Nat.add_zero, Nat.zero_add, Nat.reduceMul, Nat.reduceAdd] at v0 v1 v2 v3 v4 v5 v6 v7 v8 v9 v10 v11 v12
        rw [HV0.out] at v2
        rw [HV1.out] at v5
        rw [HV2.out] at v8
        rw [HV3.out] at v11
        rw [HVK.out] at v12
        go_region
        all_goals
          go_wp2_with fail
          go_ret2
          have hsz : (row.extract 0 n).size = n := by simp only [ByteArray.size_extract]; omega
          have cb : Chg (fun _ => False) w3 (bytesWorld w3.drew 5 (row.extract 0 n)) := (Chg.refl (fun _ => False) w3).drew.trans (chg_bytes w3.drew _) (fun _ _ h => h)
          have hrow := rowB_bytes w3.drew (row.extract 0 n)
          rw [hsz, take_extract] at hrow
          have hVb := (hV.chg (c13.trans cb (fun _ _ h => h)) (fun _ _ h => h))
          have hlo : w.heap.size ≤ w3.heap.size := h03.size
          have hmk := relT_made hVb (Nat.le_trans hlo cb.size) (hrow.lower hlo) (fun k hk h => by
            have h1 : w3.heap.size = k := by simpa [Value.ownBlock] using hk
            have := hV.lt k h
            have := c13.size
            omega)
          rw [HV0.out, HV1.out, HV2.out, HV3.out, HVK.out] at hmk
          refine ⟨?_, (h03.trans cb (fun _ _ h => h)).alloc _⟩
          rw [e.out]
          exact ⟨_, _, rfl, hmk, fun k hk => hk.1⟩
      · have e : Hid (O = none) := by show _ = _; rw [HO1.out, hre]; simp [hef]
        clear HO1
        rw [decide_eq_false hef] at hic
        go_wp2_with (go_at_call 35; refine hic.mono ?_; rintro _ w3 ⟨rfl, c3⟩)
        go_ret2
        exact ⟨by rw [e.out]; rfl, h02.trans c3 (fun _ _ h => h)⟩

end Go.Proofs.YthedkdbgfdjlkaaGreatDoor

/- THE SMALL FUNCTIONS OF THE STATEMENTS, WALKED. -/
namespace Go.Proofs.YthedkdbgfdjlkaaGreatDoor
set_option linter.unusedVariables false
set_option linter.unusedSimpArgs false
open Go.RowKit

def pickI (c n : Int) : Int := if c < 0 then (-(c + 1)) % n else c % n

theorem pickI_range {c n : Int} (hn : 0 < n) : 0 ≤ pickI c n ∧ pickI c n < n := by
  unfold pickI
  split
  · exact ⟨Int.emod_nonneg _ (by omega), Int.emod_lt_of_pos _ hn⟩
  · exact ⟨Int.emod_nonneg _ (by omega), Int.emod_lt_of_pos _ hn⟩

set_option maxHeartbeats 400000 in
theorem pick_neg (c n : Int) (w : World) (hc : inInt c) (hneg : c < 0) (hn : 0 < n) (hn2 : n ≤ 9223372036854775807) :
    Calls Tryz.prog 33 #[.int .i64 c, .int .i64 n] w fun e w' => e = .returned (.int .i64 (pickI c n)) ∧ w' = w := by
  obtain ⟨h1, h2⟩ := hc
  go_enter Tryz.func33, Tryz.ntmps33
  go_wp2
  go_ret
  refine ⟨?_, rfl⟩
  have e : -((c + 1).tmod n) = (-(c + 1)) % n := by rw [← Int.neg_tmod]; exact Int.tmod_eq_emod_of_nonneg (by omega)
  simp [pickI, hneg, e]

set_option maxHeartbeats 400000 in
theorem pick_pos (c n : Int) (w : World) (hc : inInt c) (hneg : ¬ c < 0) (hn : 0 < n) (hn2 : n ≤ 9223372036854775807) :
    Calls Tryz.prog 33 #[.int .i64 c, .int .i64 n] w fun e w' => e = .returned (.int .i64 (pickI c n)) ∧ w' = w := by
  obtain ⟨h1, h2⟩ := hc
  go_enter Tryz.func33, Tryz.ntmps33
  go_wp2
  go_ret
  exact ⟨by simp [pickI, show ¬ c < 0 by omega], rfl⟩

theorem pick_any (c n : Int) (w : World) (hc : inInt c) (hn : 0 < n) (hn2 : n ≤ 9223372036854775807) :
    Calls Tryz.prog 33 #[.int .i64 c, .int .i64 n] w fun e w' => e = .returned (.int .i64 (pickI c n)) ∧ w' = w := by
  by_cases h : c < 0
  · exact pick_neg c n w hc h hn hn2
  · exact pick_pos c n w hc h hn hn2

set_option maxHeartbeats 400000 in
theorem rec_any (a : Int) (k : ByteArray) (v : Int) (w : World) :
    Calls Tryz.prog 30 #[.int .i64 a, .string k, .int .i64 v] w fun e w' => e = .returned (.agg #[.int .i64 0, .int .i64 0, .int .i64 a, .string k, .int .i64 v]) ∧ Chg (fun _ => False) w w' := by
  go_enter Tryz.func30, Tryz.ntmps30
  go_wp2
  refine bodyPost_ret (v := .agg #[.int .i64 0, .int .i64 0, .int .i64 a, .string k, .int .i64 v]) ?_ rfl ⟨rfl, (Chg.refl _ _).alloc _⟩
  simp [results, Tryz.results30, go_sem]

theorem Api.alloc {R : World → Addr → Option St → (Nat → Prop) → Prop} (H : Api R) {w : World} {a : Addr} {o : Option St} {F : Nat → Prop} (hR : R w a o F) (b : Obj) : R (w.alloc b) a o F :=
  H.stable hR fun k hk => Below.heap_alloc _ _ _ (H.lt hR hk)

theorem size_alloc (w : World) (b : Obj) : (w.alloc b).heap.size = w.heap.size + 1 := by simp

/-- A step as a value. -/
structure Stp where
  kind : Int
  x : Rec
  key : ByteArray
  n : Int

def Stp.value' (o : Stp) : Value := .agg #[.int .i64 o.kind, .int .i64 o.x.session, .int .i64 o.x.epoch, .int .i64 o.x.number, .string o.x.key, .int .i64 o.x.value, .string o.key, .int .i64 o.n]

set_option maxHeartbeats 400000 in
/-- does at an Accept. -/
theorem does_accept {R : Nat → World → Addr → Option St → (Nat → Prop) → Prop} (H : ApiN R) {n0 : Nat} {w : World} {a : Addr} {o : Option St} {F : Nat → Prop} (p : Stp) (hk : p.kind = 0) (hR : R n0 w a o F) (hn0 : n0 ≤ roomy) (hx : p.x.fits) :
    Calls Tryz.prog 18 #[.pointer (some a), p.value'] w fun e w' =>
      ∃ F', e = .returned (.bool ((accept? o p.x).1.2 == 0)) ∧ R (n0 + 32) w' a (accept? o p.x).2 F' ∧ (∀ k, F' k → F k ∨ w.heap.size ≤ k) ∧ Chg F w w' := by
  obtain ⟨kind, ⟨s, e, n, k, v⟩, key, m⟩ := p
  simp only at hk hx
  subst hk
  simp only [Stp.value']
  go_enter Tryz.func18, Tryz.ntmps18
  go_wp2_with fail
  refine (H.acc ⟨s, e, n, k, v⟩ (H.alloc hR _) hn0 hx).mono ?_
  rintro _ w1 ⟨F', rfl, hR1, hF1, hc1⟩
  go_wp2
  go_ret
  refine ⟨F', rfl, hR1, fun k hk => (hF1 k hk).imp id (fun h => by rw [size_alloc] at h; omega), ?_⟩
  exact ((Chg.refl F w).alloc _).trans hc1 (fun _ _ h => h)

end Go.Proofs.YthedkdbgfdjlkaaGreatDoor

/- keeping: THE DOCUMENT'S EXAMPLE OF BYTES, WALKED. -/
namespace Go.Proofs.YthedkdbgfdjlkaaGreatDoor
set_option linter.unusedVariables false
set_option linter.unusedSimpArgs false
open Go.RowKit

/-- The variable that errors.As asks. -/
def HandleAt (w : World) : Prop := w.cell? ⟨0, 0, none⟩ = some (.iface 236 (.agg #[tyh 115]))

theorem HandleAt.chg {F : Nat → Prop} {w w' : World} (h : HandleAt w) (c : Chg F w w') (hF : ¬ F 0) : HandleAt w' := c.cellAt h hF
theorem HandleAt.pos {w : World} (h : HandleAt w) : 0 < w.heap.size := World.block_lt_of_cell? _ _ h

def kx : Rec := ⟨0, 0, 0, { data := #[115] }, 5⟩
theorem kx_fits : kx.fits := ⟨by unfold inInt; decide, by unfold inInt; decide, by unfold inInt; decide, by unfold inInt; decide, by decide⟩
def kSt : St := ⟨[⟨0, 1, []⟩, Ln.init, Ln.init, Ln.init], [⟨{ data := #[115] }, 1, 5, 0⟩]⟩
theorem k_a1 : (accept? (some St.init) kx).1 = (1, 0) := by rfl
theorem k_o1 : (accept? (some St.init) kx).2 = some kSt := by rfl

theorem relT_keep {T : List UInt8} {w w' : World} {a : Addr} {o : Option St} {F : Nat → Prop} (h : RelT T w a o F) (c : Chg (fun _ => False) w w') : RelT T w' a o F :=
  relT_stable h fun k hk => c.block k (relT_lt h hk) id

theorem relT_headLen {T : List UInt8} {w : World} {a : Addr} {s : St} {F : Nat → Prop} (h : RelT T w a (some s) F) : (encHead s).length ≤ 512 := by
  obtain ⟨b, _, _, _, h⟩ := h
  obtain ⟨_, E, B, V, vk, vb, Q, ks, _, h5, h6, _, _, _, h10⟩ := h
  exact head_short h6 h5 h10

theorem take_all (T : List UInt8) (n : Nat) (h : n = T.length) : (⟨T.toArray⟩ : ByteArray).data.toList.take n = T := by subst h; simp

theorem ba_size (T : List UInt8) : (⟨T.toArray⟩ : ByteArray).size = T.length := by
  show T.toArray.size = T.length
  simp

set_option maxRecDepth 100000 in
set_option maxHeartbeats 2000000 in
theorem keeping_any (w : World) (hg : HandleAt w) :
    Calls Tryz.prog 10 #[] w fun e w' => e = .returned (.bool true) ∧ Chg (fun _ => False) w w' := by
  go_enter Tryz.func10, Tryz.ntmps10
  go_wp2_with fail
  refine (relT_new w).mono ?_
  rintro _ w1 ⟨a, F1, rfl, hR1, hF1, hc1⟩
  go_wp2_with fail
  refine (rec_any _ _ _ _).mono ?_
  rintro _ w2 ⟨rfl, hc2⟩
  have hT0 : (encHead St.init).length ≤ 512 := relT_headLen hR1
  go_wp2_with fail
  refine (relT_accept kx (relT_keep hR1 hc2) (by omega) kx_fits).mono ?_
  rintro _ w3 ⟨F3, T3, rfl, hR3, hT3, hF3, hc3⟩
  have hgr := grow_acc (relT_fine hR1) kx_fits hT3
  have hte : Tells T3 kSt := (Tells.head St.init (relT_tidy hR1)).grow hgr
  have hTl : T3.length ≤ 600 := by
    rcases hT3 with ⟨rfl, _⟩ | ⟨rfl, _, h⟩
    · omega
    · rw [List.length_append]; omega
  rw [k_a1]
  rw [k_o1] at hR3
  have h02 : Chg (fun _ => False) w w2 := hc1.step hc2 (fun _ h => h.elim)
  have h03 : Chg (fun _ => False) w w3 := h02.step hc3 hF1
  have y3 := h02.young hF1 hF3
  clear hT3 hgr hF3 hc1 hc2 hc3 hR1 hF1 h02 hT0
  go_wp2_with fail
  refine (relT_bytes hR3).mono ?_
  rintro _ w4 ⟨rfl, hR4, hc4⟩
  have h04 : Chg (fun _ => False) w w4 := h03.step hc4 y3
  have hop := open_any w4 ⟨T3.toArray⟩ (by rw [ba_size]; unfold maxLen; omega) (hg.chg h04 id)
  rw [Tells.whole hte (by simp)] at hop
  have HOP := hop
  simp only [OpenRes] at HOP
  rw [take_all T3 _ rfl] at HOP
  simp only [bytes?]
  rw [show errno? (some kSt) = 0 from rfl]
  clear hop hR3 hc4 h03 hR4
  go_wp2_with (go_at_call 14; refine HOP.mono ?_; rintro _ w5 ⟨⟨b, F5, rfl, hR5, y5⟩, hc5⟩)
  refine (relT_state hR5).mono ?_
  rintro _ w6 ⟨vs, vk, rfl, hs6, hR6, hc6⟩
  obtain ⟨us, hu1, hu2, hu3⟩ := hs6.sess
  obtain ⟨p, cap, rfl⟩ := row_any hu2
  obtain ⟨g2, cap2, rfl, hg2, hcap2, hcell2⟩ := row_pos hs6.keys (by decide)
  have d0 : w6.cell? ⟨g2, 0, none⟩ = some (.string { data := #[115] }) := hcell2 0 _ rfl
  have d1 : w6.cell? ⟨g2, 1, none⟩ = some (.int .i64 1) := hcell2 1 _ rfl
  have d2 : w6.cell? ⟨g2, 2, none⟩ = some (.int .i64 5) := hcell2 2 _ rfl
  have d3 : w6.cell? ⟨g2, 3, none⟩ = some (.int .i64 0) := hcell2 3 _ rfl
  have hall : Chg (fun _ => False) w w6 := (h04.trans hc5 (fun _ _ h => h)).step hc6 (fun k hk => Nat.le_trans h04.size (y5 k hk))
  rw [show (state? (some kSt)).lanes.length = 4 from rfl, show (state? (some kSt)).keys.length = 1 from rfl, show errno? (some kSt) = 0 from rfl]
  clear hu1 hu2 hu3 hs6 hcell2 hcap2 hR5 hR6 hc5 hc6 h04 y3 hte hTl HOP y5
  have hal : ∀ (p : Addr) (v : Value), w6.cell? p = some v → ∀ ob, (w6.alloc ob).cell? p = some v := fun p v hv ob => (World.cell?_alloc_lt w6 ob p (World.block_lt_of_cell? _ _ hv)).trans hv
  have e0 := hal _ _ d0
  have e1 := hal _ _ d1
  have e2 := hal _ _ d2
  have e3 := hal _ _ d3
  go_wp2
  go_ret
  exact ⟨rfl, hall.alloc _⟩

end Go.Proofs.YthedkdbgfdjlkaaGreatDoor

/- does, WALKED, by the relay's bytes. -/
namespace Go.Proofs.YthedkdbgfdjlkaaGreatDoor
set_option linter.unusedVariables false
set_option linter.unusedSimpArgs false
open Go.RowKit

def stepSt (s : St) (p : Stp) : St := if p.kind = 0 then (accept s p.x).2 else if p.kind = 1 then (answer s p.key p.n).2 else s
def stepT (T : List UInt8) (s : St) (p : Stp) (T' : List UInt8) : Prop := if p.kind = 2 then T' = encHead s else Grow T s T' (stepSt s p)

theorem tapeAnsw_len {T T' : List UInt8} {key : ByteArray} {n : Int} {o o' : Option St} (h : tapeAnsw T key n o o' T') : T'.length ≤ T.length + 32 := by
  rcases h with ⟨rfl, _⟩ | ⟨rfl, _, h⟩
  · omega
  · rw [List.length_append]; omega

theorem tapeAcc_len' {T T' : List UInt8} {x : Rec} {o o' : Option St} (h : tapeAcc T x o o' T') : T'.length ≤ T.length + 32 := by
  rcases h with ⟨rfl, _⟩ | ⟨rfl, _, h⟩
  · omega
  · rw [List.length_append]; omega

structure Stp.fits (p : Stp) : Prop where
  x : p.x.fits
  kind : inInt p.kind
  n : inInt p.n
  key : p.key.size ≤ maxLen

set_option maxHeartbeats 1000000 in
theorem does_rel {T : List UInt8} {w : World} {a : Addr} {s : St} {F : Nat → Prop} (p : Stp) (h : RelT T w a (some s) F) (hTl : T.length ≤ 140737488330000) (hp : p.fits) :
    Calls Tryz.prog 18 #[.pointer (some a), p.value'] w fun e w' => ∃ F' T' d, e = .returned (.bool d) ∧ RelT T' w' a (some (stepSt s p)) F' ∧ stepT T s p T' ∧ (T'.length ≤ T.length + 32 ∨ T'.length ≤ 512) ∧ (∀ k, F' k → F k ∨ w.heap.size ≤ k) ∧ Chg F w w' := by
  obtain ⟨kind, ⟨se, ep, n, k, v⟩, key, m⟩ := p
  have hx := hp.x
  have hk := hp.kind
  have hn := hp.n
  have hkey := hp.key
  simp only at hx hk hn hkey
  clear hp
  simp only [Stp.value']
  obtain ⟨W0, hW0⟩ : ∃ W0, W0 = w.alloc (.cells #[.int .i64 kind, .int .i64 se, .int .i64 ep, .int .i64 n, .string k, .int .i64 v, .string key, .int .i64 m] 55) := ⟨_, rfl⟩
  have c0 : Chg (fun _ => False) w W0 := by rw [hW0]; exact (Chg.refl _ w).alloc _
  have hs0 : w.heap.size ≤ W0.heap.size := c0.size
  have h0 := relT_keep h c0
  by_cases h1 : kind = 0
  · have hac := relT_accept ⟨se, ep, n, k, v⟩ h0 hTl hx
    have hfine := relT_fine h0
    subst h1
    unfold Rec.value' at hac
    simp only at hac
    rw [hW0] at hac
    go_enter Tryz.func18, Tryz.ntmps18
    go_wp2_with (go_at_call 22; refine hac.mono ?_; rintro _ w1 ⟨F', T', rfl, hR1, hT1, hF1, c1⟩)
    go_ret
    rw [← hW0] at hF1 c1
    refine ⟨F', T', _, rfl, ?_, ?_, .inl (tapeAcc_len' hT1), fun k hk => (hF1 k hk).imp id (fun h => Nat.le_trans hs0 h), (c0.mono (fun _ h => h.elim)).trans c1 (fun _ _ h => h)⟩
    · simpa [stepSt, accept?] using hR1
    · unfold stepT stepSt
      rw [if_neg (by simp), if_pos rfl]
      exact grow_acc hfine hx hT1
  · have h1' : (kind == 0) = false := by simpa using h1
    by_cases h2 : kind = 1
    · have hac := relT_answer key m h0 hTl hkey hn
      subst h2
      rw [hW0] at hac
      go_enter Tryz.func18, Tryz.ntmps18
      go_wp2_with (go_at_call 23; refine hac.mono ?_; rintro _ w1 ⟨F', T', rfl, hR1, hT1, hF1, c1⟩)
      go_ret
      rw [← hW0] at hF1 c1
      refine ⟨F', T', _, rfl, ?_, ?_, .inl (tapeAnsw_len hT1), fun k hk => (hF1 k hk).imp id (fun h => Nat.le_trans hs0 h), (c0.mono (fun _ h => h.elim)).trans c1 (fun _ _ h => h)⟩
      · simpa [stepSt, answer?] using hR1
      · unfold stepT stepSt
        rw [if_neg (by simp), if_neg (by simp), if_pos rfl]
        exact grow_ans hn.2 hT1
    · have h2' : (kind == 1) = false := by simpa using h2
      by_cases h3 : kind = 2
      · have hac := relT_shrink h0
        have hlen := relT_headLen h0
        subst h3
        rw [hW0] at hac
        go_enter Tryz.func18, Tryz.ntmps18
        go_wp2_with (go_at_call 20; refine hac.mono ?_; rintro _ w1 ⟨F', rfl, hR1, hF1, c1⟩)
        go_ret
        rw [← hW0] at hF1 c1
        refine ⟨F', encHead s, _, rfl, ?_, ?_, .inr hlen, fun k hk => (hF1 k hk).imp id (fun h => Nat.le_trans hs0 h), (c0.mono (fun _ h => h.elim)).trans c1 (fun _ _ h => h)⟩
        · simpa [stepSt, tapeShr] using hR1
        · unfold stepT
          rw [if_pos rfl]
      · have h3' : (kind == 2) = false := by simpa using h3
        go_enter Tryz.func18, Tryz.ntmps18
        go_wp2_with fail
        go_ret
        rw [← hW0]
        refine ⟨F, T, _, rfl, ?_, ?_, .inl (by omega), fun k hk => .inl hk, c0.mono (fun _ h => h.elim)⟩
        · unfold stepSt
          rw [if_neg h1, if_neg h2]
          exact h0
        · unfold stepT stepSt
          rw [if_neg h3, if_neg h1, if_neg h2]
          exact .inl ⟨rfl, rfl⟩

end Go.Proofs.YthedkdbgfdjlkaaGreatDoor

/- A relay's trail: its bytes and states behind each step; what is opened of it. Pure. -/
namespace Go.Proofs.YthedkdbgfdjlkaaGreatDoor
set_option linter.unusedVariables false
set_option linter.unusedSimpArgs false

structure Ent where
  T : List UInt8
  s : St
  n : Nat

/-- The bytes go on from one to the next. -/
structure TrailOK (L : List Ent) : Prop where
  pos : 0 < L.length
  head : ∀ e, L[0]? = some e → Tells e.T e.s
  chain : ∀ (i : Nat) (e f : Ent), L[i]? = some e → L[i + 1]? = some f → Grow e.T e.s f.T f.s

theorem TrailOK.tells {L : List Ent} (h : TrailOK L) : ∀ (i : Nat) (e : Ent), L[i]? = some e → Tells e.T e.s
  | 0, e, he => h.head e he
  | i + 1, e, he => by
    have hi : i < L.length := by have := (List.getElem?_eq_some_iff.1 he).1; omega
    exact (h.tells i L[i] (List.getElem?_eq_getElem hi)).grow (h.chain i L[i] e (List.getElem?_eq_getElem hi) he)

theorem Grow.pre {T T' : List UInt8} {s s' : St} (h : Grow T s T' s') : ∃ R, T' = T ++ R := by
  rcases h with ⟨rfl, _⟩ | ⟨e, _, rfl⟩
  · exact ⟨[], by simp⟩
  · exact ⟨e, rfl⟩

theorem TrailOK.pre {L : List Ent} (h : TrailOK L) {i : Nat} {e : Ent} (he : L[i]? = some e) : ∀ (d : Nat) (f : Ent), L[i + d]? = some f → ∃ R, f.T = e.T ++ R
  | 0, f, hf => by
    rw [Nat.add_zero, he] at hf
    cases hf
    exact ⟨[], by simp⟩
  | d + 1, f, hf => by
    have hi : i + d < L.length := by have := (List.getElem?_eq_some_iff.1 hf).1; omega
    obtain ⟨R, hR⟩ := h.pre he d L[i + d] (List.getElem?_eq_getElem hi)
    obtain ⟨R', hR'⟩ := (h.chain (i + d) L[i + d] f (List.getElem?_eq_getElem hi) hf).pre
    exact ⟨R ++ R', by rw [hR', hR, List.append_assoc]⟩

theorem TrailOK.preOf {L : List Ent} (h : TrailOK L) {i j : Nat} {e f : Ent} (he : L[i]? = some e) (hf : L[j]? = some f) (hij : i ≤ j) : ∃ R, f.T = e.T ++ R := by
  obtain ⟨d, rfl⟩ : ∃ d, j = i + d := ⟨j - i, by omega⟩
  exact h.pre he d f hf

theorem TrailOK.len {L : List Ent} (h : TrailOK L) {i j : Nat} {e f : Ent} (he : L[i]? = some e) (hf : L[j]? = some f) (hij : i ≤ j) : e.T.length ≤ f.T.length := by
  obtain ⟨R, hR⟩ := h.preOf he hf hij
  rw [hR, List.length_append]; omega

/-- Which entry so many bytes tell: the last that is not longer. -/
structure Opens (L : List Ent) (n k : Nat) : Prop where
  lt : k < L.length
  le : ∀ e, L[k]? = some e → e.T.length ≤ n
  last : ∀ i e, k < i → L[i]? = some e → n < e.T.length

theorem TrailOK.opens {L : List Ent} (h : TrailOK L) {n k : Nat} {e z : Ent} (hk : Opens L n k) (he : L[k]? = some e) (hz : L[L.length - 1]? = some z) (hn : n ≤ z.T.length) (row : ByteArray) (hrow : row.data.toList = z.T.take n) : opens row = some (e.s, e.T.length) := by
  have hle := hk.le e he
  have ht := h.tells k e he
  by_cases hl : k = L.length - 1
  · subst hl
    rw [hz] at he
    cases he
    have : n = e.T.length := by omega
    subst this
    rw [List.take_length] at hrow
    exact ht.whole hrow
  · have hk1 := hk.lt
    have h1 : k + 1 < L.length := by omega
    obtain ⟨f, hf⟩ : ∃ f, L[k + 1]? = some f := ⟨_, List.getElem?_eq_getElem h1⟩
    have hlf := hk.last (k + 1) f (by omega) hf
    obtain ⟨R, hR⟩ := h.preOf hf hz (by omega)
    rcases h.chain k e f he hf with ⟨e1, _⟩ | ⟨en, hen, e1⟩
    · rw [e1] at hlf; omega
    · have hlen : f.T.length = e.T.length + en.length := by rw [e1, List.length_append]
      refine ht.cut hen (row := row) (P := en.take (n - e.T.length)) (Y := en.drop (n - e.T.length)) ?_ ?_ (List.take_append_drop _ _)
      · rw [hrow, hR, e1, List.append_assoc, List.take_append, List.take_of_length_le hle, List.take_append]
        have : n - e.T.length - en.length = 0 := by omega
        rw [this]; simp
      · intro e0
        have := congrArg List.length e0
        rw [List.length_drop, List.length_nil] at this
        omega

/-- What a script comes to. -/
def runSt (s : St) (L : List Stp) : St := L.foldl stepSt s

/-- The trail behind i steps. -/
structure TrailBy (S : List Stp) (i : Nat) (s : St) (L : List Ent) : Prop where
  ok : TrailOK L
  last : ∀ e, L[L.length - 1]? = some e → e.s = s ∧ e.n = i
  runs : ∀ (j : Nat) (e : Ent), L[j]? = some e → e.n ≤ i ∧ runSt e.s ((S.take i).drop e.n) = s

theorem trailBy_one {S : List Stp} {i : Nat} {T : List UInt8} {s : St} (h : Tells T s) : TrailBy S i s [⟨T, s, i⟩] := by
  refine ⟨⟨by simp, fun e he => ?_, fun j e f he hf => ?_⟩, fun e he => ?_, fun j e he => ?_⟩
  · simp at he; subst he; exact h
  · simp at hf
  · simp at he; subst he; exact ⟨rfl, rfl⟩
  · cases j with
    | zero =>
      simp at he; subst he
      refine ⟨Nat.le_refl _, ?_⟩
      rw [List.drop_eq_nil_of_le (by rw [List.length_take]; simp only; omega)]
      rfl
    | succ j => simp at he

theorem runSt_snoc {S : List Stp} {i n : Nat} {p : Stp} (hp : S[i]? = some p) (hn : n ≤ i) (s : St) : runSt s ((S.take (i + 1)).drop n) = stepSt (runSt s ((S.take i).drop n)) p := by
  have hi : i < S.length := (List.getElem?_eq_some_iff.1 hp).1
  rw [List.take_add_one, hp, List.drop_append_of_le_length (by rw [List.length_take]; omega)]
  unfold runSt
  rw [List.foldl_append]
  rfl

theorem TrailBy.more {S : List Stp} {i : Nat} {s : St} {L : List Ent} {z : Ent} {p : Stp} {T' : List UInt8} (h : TrailBy S i s L) (hz : L[L.length - 1]? = some z) (hp : S[i]? = some p) (hg : Grow z.T s T' (stepSt s p)) : TrailBy S (i + 1) (stepSt s p) (L ++ [⟨T', stepSt s p, i + 1⟩]) := by
  have hpos := h.ok.pos
  refine ⟨⟨by simp, fun e he => ?_, fun j e f he hf => ?_⟩, fun e he => ?_, fun j e he => ?_⟩
  · rw [List.getElem?_append_left hpos] at he
    exact h.ok.head e he
  · have hjl : j + 1 < (L ++ [(⟨T', stepSt s p, i + 1⟩ : Ent)]).length := (List.getElem?_eq_some_iff.1 hf).1
    rw [List.length_append, List.length_singleton] at hjl
    rw [List.getElem?_append_left (by omega)] at he
    by_cases hj : j + 1 < L.length
    · rw [List.getElem?_append_left hj] at hf
      exact h.ok.chain j e f he hf
    · have hj' : j = L.length - 1 := by omega
      subst hj'
      rw [hz] at he
      cases he
      rw [List.getElem?_append_right (by omega), show L.length - 1 + 1 - L.length = 0 by omega] at hf
      simp at hf
      subst hf
      rw [(h.last z hz).1]
      exact hg
  · rw [List.length_append, List.length_singleton, Nat.add_sub_cancel, List.getElem?_append_right (Nat.le_refl _), Nat.sub_self] at he
    simp at he
    subst he
    exact ⟨rfl, rfl⟩
  · by_cases hj : j < L.length
    · rw [List.getElem?_append_left hj] at he
      obtain ⟨h1, h2⟩ := h.runs j e he
      refine ⟨by omega, ?_⟩
      rw [runSt_snoc hp h1, h2]
    · have hjl : j < (L ++ [(⟨T', stepSt s p, i + 1⟩ : Ent)]).length := (List.getElem?_eq_some_iff.1 he).1
      rw [List.length_append, List.length_singleton] at hjl
      rw [List.getElem?_append_right (by omega), show j - L.length = 0 by omega] at he
      simp at he
      subst he
      refine ⟨Nat.le_refl _, ?_⟩
      rw [List.drop_eq_nil_of_le (by rw [List.length_take]; simp only; omega)]
      rfl

end Go.Proofs.YthedkdbgfdjlkaaGreatDoor

/- sameState: TWO STATES THAT ARE THE SAME, WALKED. -/
namespace Go.Proofs.YthedkdbgfdjlkaaGreatDoor
set_option linter.unusedVariables false
set_option linter.unusedSimpArgs false
open Go.RowKit

theorem sessCells_at : ∀ (ls : List Ln) (us : List Value) (i : Nat) (l : Ln) (u : Value), ls[i]? = some l → us[i]? = some u → (sessCells ls us)[i * 3]? = some (.int .i64 l.epoch) ∧ (sessCells ls us)[i * 3 + 1]? = some (.int .i64 l.base) ∧ (sessCells ls us)[i * 3 + 2]? = some u
  | [], _, i, l, u, h, _ => by simp at h
  | _ :: _, [], i, l, u, _, h => by simp at h
  | x :: r, v :: us, 0, l, u, h, h' => by
    simp at h h'
    subst h h'
    simp [sessCells]
  | x :: r, v :: us, i + 1, l, u, h, h' => by
    have := sessCells_at r us i l u (by simpa using h) (by simpa using h')
    rw [show (i + 1) * 3 = i * 3 + 3 by omega, show i * 3 + 3 + 1 = i * 3 + 1 + 3 by omega, show i * 3 + 3 + 2 = i * 3 + 2 + 3 by omega]
    simpa [sessCells] using this

theorem keyNeq (n : ByteArray) (c f h : Int) (W : World) : (binOp .neq 87 (.agg #[.string n, .int .i64 c, .int .i64 f, .int .i64 h]) (.agg #[.string n, .int .i64 c, .int .i64 f, .int .i64 h])).run Tryz.prog W = .ok (.bool false) W := by
  simp [go_sem]

set_option maxRecDepth 100000 in
set_option maxHeartbeats 4000000 in
theorem sameState_eq {w : World} {lo1 lo2 : Nat} {vs1 vk1 vs2 vk2 : Value} {s : St} (h1 : StateAt w lo1 vs1 vk1 s) (h2 : StateAt w lo2 vs2 vk2 s) (hl : s.lanes.length ≤ 1000) (hk : s.keys.length ≤ 1000) (hw : ∀ l ∈ s.lanes, l.ws.length ≤ 1000) :
    Calls Tryz.prog 17 #[.agg #[vs1, vk1], .agg #[vs2, vk2]] w fun e w' => e = .returned (.bool true) ∧ Chg (fun _ => False) w w' := by
  obtain ⟨us1, hu1, r1, q1⟩ := h1.sess
  obtain ⟨us2, hu2, r2, q2⟩ := h2.sess
  have k1 := h1.keys
  have k2 := h2.keys
  obtain ⟨ps1, cs1, rfl⟩ := row_any r1
  obtain ⟨ps2, cs2, rfl⟩ := row_any r2
  obtain ⟨pk1, ck1, rfl⟩ := row_any k1
  obtain ⟨pk2, ck2, rfl⟩ := row_any k2
  clear h1 h2
  obtain ⟨W0, hW0⟩ : ∃ W0, W0 = (w.alloc (Obj.cells #[.slice ps1 s.lanes.length cs1, .slice pk1 s.keys.length ck1] 46)).alloc (Obj.cells #[.slice ps2 s.lanes.length cs2, .slice pk2 s.keys.length ck2] 46) := ⟨_, rfl⟩
  have c0 : Chg (fun _ => False) w W0 := by rw [hW0]; exact ((Chg.refl _ w).alloc _).alloc _
  have hs0 : W0.heap.size = w.heap.size + 2 := by rw [hW0]; simp
  have a0 : W0.cell? ⟨w.heap.size, 0, none⟩ = some (.slice ps1 s.lanes.length cs1) := by rw [hW0]; exact ((Chg.refl (fun _ => False) _).alloc _).cellAt (World.cell?_alloc_at _ _ _ _ rfl) id
  have a1 : W0.cell? ⟨w.heap.size, 1, none⟩ = some (.slice pk1 s.keys.length ck1) := by rw [hW0]; exact ((Chg.refl (fun _ => False) _).alloc _).cellAt (World.cell?_alloc_at _ _ _ _ rfl) id
  have b0 : W0.cell? ⟨w.heap.size + 1, 0, none⟩ = some (.slice ps2 s.lanes.length cs2) := by rw [hW0]; exact World.cell?_alloc_at _ _ _ _ (by simp)
  have b1 : W0.cell? ⟨w.heap.size + 1, 1, none⟩ = some (.slice pk2 s.keys.length ck2) := by rw [hW0]; exact World.cell?_alloc_at _ _ _ _ (by simp)
  have HW0 : Hid (W0 = (w.alloc (Obj.cells #[.slice ps1 s.lanes.length cs1, .slice pk1 s.keys.length ck1] 46)).alloc (Obj.cells #[.slice ps2 s.lanes.length cs2, .slice pk2 s.keys.length ck2] 46)) := hW0
  have HS0 : Hid (W0.heap.size = w.heap.size + 2) := hs0
  have hneq := keyNeq
  clear hW0 hs0
  go_enter Tryz.func17, Tryz.ntmps17
  go_wp2_with fail
  go_loopw [5, 6, 7, 8] (fun si _ _ _ wr => ∃ (k : Nat), si = .int .i64 k ∧ k ≤ s.lanes.length ∧ Chg (fun _ => False) W0 wr) (fun si _ _ _ _ => s.lanes.length - (intOf si).toNat)
  case atStart => exact ⟨0, rfl, by omega, by rw [HW0.out]; exact Chg.refl _ _⟩
  case round =>
    obtain ⟨k, rfl, hk1, hc⟩ := hrel
    have d0 := hc.cellAt a0 id
    have d1 := hc.cellAt a1 id
    have e0 := hc.cellAt b0 id
    have e1 := hc.cellAt b1 id
    have hc' : Chg (fun _ => False) w wr := c0.trans hc (fun _ _ h => h)
    by_cases hkl : k < s.lanes.length
    · obtain ⟨l, hll⟩ : ∃ l, s.lanes[k]? = some l := ⟨_, List.getElem?_eq_getElem hkl⟩
      obtain ⟨u1, hh1⟩ : ∃ u, us1[k]? = some u := ⟨_, List.getElem?_eq_getElem (by omega)⟩
      obtain ⟨u2, hh2⟩ : ∃ u, us2[k]? = some u := ⟨_, List.getElem?_eq_getElem (by omega)⟩
      have x1 := sessCells_at _ _ _ _ _ hll hh1
      have x2 := sessCells_at _ _ _ _ _ hll hh2
      have t1 := q1 k l u1 hll hh1
      have t2 := q2 k l u2 hll hh2
      obtain ⟨pu1, cu1, rfl⟩ := row_any t1
      obtain ⟨pu2, cu2, rfl⟩ := row_any t2
      have hlw := hw l (List.mem_of_getElem? hll)
      obtain ⟨g1, cap1, hv1, _, _, hcell1⟩ := row_pos r1 (by omega)
      obtain ⟨g2, cap2, hv2, _, _, hcell2⟩ := row_pos r2 (by omega)
      simp only [Value.slice.injEq] at hv1 hv2
      obtain ⟨rfl, _, rfl⟩ := hv1
      obtain ⟨rfl, _, rfl⟩ := hv2
      have m0 := hc'.cellAt (hcell1 _ _ x1.1) id
      have m1 := hc'.cellAt (hcell1 _ _ x1.2.1) id
      have m2 := hc'.cellAt (hcell1 _ _ x1.2.2) id
      have n0 := hc'.cellAt (hcell2 _ _ x2.1) id
      have n1 := hc'.cellAt (hcell2 _ _ x2.2.1) id
      have n2 := hc'.cellAt (hcell2 _ _ x2.2.2) id
      have hkl' : (k : Int) < (s.lanes.length : Int) := by omega
      clear hcell1 hcell2 x1 x2
      have ee : ∀ ob, (wr.alloc ob).cell? ⟨w.heap.size + 1, 0, none⟩ = some (.slice (some ⟨g2, 0, none⟩) s.lanes.length cs2) := fun ob => ((Chg.refl (fun _ => False) wr).alloc ob).cellAt e0 id
      have nn0 : ∀ ob, (wr.alloc ob).cell? ⟨g2, k * 3, none⟩ = some (.int .i64 l.epoch) := fun ob => ((Chg.refl (fun _ => False) wr).alloc ob).cellAt n0 id
      have nn1 : ∀ ob, (wr.alloc ob).cell? ⟨g2, k * 3 + 1, none⟩ = some (.int .i64 l.base) := fun ob => ((Chg.refl (fun _ => False) wr).alloc ob).cellAt n1 id
      have nn2 : ∀ ob, (wr.alloc ob).cell? ⟨g2, k * 3 + 2, none⟩ = some (.slice pu2 l.ws.length cu2) := fun ob => ((Chg.refl (fun _ => False) wr).alloc ob).cellAt n2 id
      obtain ⟨W2, hW2⟩ : ∃ W2, W2 = (wr.alloc (Obj.cells #[.int .i64 l.epoch, .int .i64 l.base, .slice pu1 l.ws.length cu1] 121)).alloc (Obj.cells #[.int .i64 l.epoch, .int .i64 l.base, .slice pu2 l.ws.length cu2] 121) := ⟨_, rfl⟩
      have c2 : Chg (fun _ => False) wr W2 := by rw [hW2]; exact ((Chg.refl _ wr).alloc _).alloc _
      have y2 : W2.cell? ⟨wr.heap.size, 2, none⟩ = some (.slice pu1 l.ws.length cu1) := by rw [hW2]; exact ((Chg.refl (fun _ => False) _).alloc _).cellAt (World.cell?_alloc_at _ _ _ _ rfl) id
      have z2 : W2.cell? ⟨wr.heap.size + 1, 2, none⟩ = some (.slice pu2 l.ws.length cu2) := by rw [hW2]; exact World.cell?_alloc_at _ _ _ _ (by simp)
      have HW2 : Hid (W2 = (wr.alloc (Obj.cells #[.int .i64 l.epoch, .int .i64 l.base, .slice pu1 l.ws.length cu1] 121)).alloc (Obj.cells #[.int .i64 l.epoch, .int .i64 l.base, .slice pu2 l.ws.length cu2] 121)) := hW2
      clear hW2
      go_wp2_with fail
      go_loopw [8] (fun sj w2 => ∃ (j : Nat), sj = .int .i64 j ∧ j ≤ l.ws.length ∧ Chg (fun _ => False) W2 w2) (fun sj _ => l.ws.length - (intOf sj).toNat)
      case atStart => exact ⟨0, rfl, by omega, by rw [HW2.out]; exact Chg.refl _ _⟩
      case round =>
        obtain ⟨j, rfl, hj, hcj⟩ := hrel
        have v2 := hcj.cellAt y2 id
        have w2' := hcj.cellAt z2 id
        by_cases hjl : j < l.ws.length
        · obtain ⟨x, hx⟩ : ∃ x, l.ws[j]? = some x := ⟨_, List.getElem?_eq_getElem hjl⟩
          have hn : l.nums[j]? = some (.int .i64 x.num) := by simp [Ln.nums, hx]
          obtain ⟨gu1, capu1, hvu1, _, _, hcu1⟩ := row_pos t1 (by omega)
          obtain ⟨gu2, capu2, hvu2, _, _, hcu2⟩ := row_pos t2 (by omega)
          simp only [Value.slice.injEq] at hvu1 hvu2
          obtain ⟨rfl, _, rfl⟩ := hvu1
          obtain ⟨rfl, _, rfl⟩ := hvu2
          have hcc : Chg (fun _ => False) w wr := (hc'.trans c2 (fun _ _ h => h)).trans hcj (fun _ _ h => h)
          have p1 := hcc.cellAt (hcu1 _ _ hn) id
          have p2 := hcc.cellAt (hcu2 _ _ hn) id
          have hjl' : (j : Int) < (l.ws.length : Int) := by omega
          clear hcu1 hcu2
          go_wp2_with fail
          go_quiet (fail)
          go_wp2_with fail
          go_roundw
          case rel => exact ⟨j + 1, by go_num, by omega, hcj.trans (((Quiet.refl _).drewN _).chg _) (fun _ _ h => h)⟩
          case measure => simp [intOf]; omega
        · have hjl' : ¬ (j : Int) < (l.ws.length : Int) := by omega
          go_wp2_with fail
          go_roundw
          case rel => exact ⟨k + 1, by go_num, by omega, (hc.trans c2 (fun _ _ h => h)).trans hcj (fun _ _ h => h)⟩
          case measure => simp [intOf]; omega
    · have hkl' : ¬ (k : Int) < (s.lanes.length : Int) := by omega
      go_wp2_with fail
      go_loopw [9] (fun sj w2 => ∃ (j : Nat), sj = .int .i64 j ∧ j ≤ s.keys.length ∧ Chg (fun _ => False) wr w2) (fun sj _ => s.keys.length - (intOf sj).toNat)
      case atStart => exact ⟨0, rfl, by omega, Chg.refl _ _⟩
      case round =>
        obtain ⟨j, rfl, hj, hcj⟩ := hrel
        have v1 := hcj.cellAt d1 id
        have w1 := hcj.cellAt e1 id
        have hcc : Chg (fun _ => False) w wr := hc'.trans hcj (fun _ _ h => h)
        by_cases hjl : j < s.keys.length
        · obtain ⟨x, hx⟩ : ∃ x, s.keys[j]? = some x := ⟨_, List.getElem?_eq_getElem hjl⟩
          have cx := keyCells_at s.keys j x hx
          obtain ⟨gu1, capu1, hvu1, _, _, hcu1⟩ := row_pos k1 (by omega)
          obtain ⟨gu2, capu2, hvu2, _, _, hcu2⟩ := row_pos k2 (by omega)
          simp only [Value.slice.injEq] at hvu1 hvu2
          obtain ⟨rfl, _, rfl⟩ := hvu1
          obtain ⟨rfl, _, rfl⟩ := hvu2
          have p0 := hcc.cellAt (hcu1 _ _ cx.1) id
          have p1 := hcc.cellAt (hcu1 _ _ cx.2.1) id
          have p2 := hcc.cellAt (hcu1 _ _ cx.2.2.1) id
          have p3 := hcc.cellAt (hcu1 _ _ cx.2.2.2) id
          have o0 := hcc.cellAt (hcu2 _ _ cx.1) id
          have o1 := hcc.cellAt (hcu2 _ _ cx.2.1) id
          have o2 := hcc.cellAt (hcu2 _ _ cx.2.2.1) id
          have o3 := hcc.cellAt (hcu2 _ _ cx.2.2.2) id
          have hjl' : (j : Int) < (s.keys.length : Int) := by omega
          clear hcu1 hcu2
          go_wp2_with fail
          go_quiet (fail)
          go_wp2_with fail
          go_roundw
          case rel => exact ⟨j + 1, by go_num, by omega, hcj.trans (((Quiet.refl _).drewN _).chg _) (fun _ _ h => h)⟩
          case measure => simp [intOf]; omega
        · have hjl' : ¬ (j : Int) < (s.keys.length : Int) := by omega
          go_wp2_with fail
          go_ret
          exact ⟨rfl, hcc⟩

end Go.Proofs.YthedkdbgfdjlkaaGreatDoor

/- A trail in memory; note, WALKED. -/
namespace Go.Proofs.YthedkdbgfdjlkaaGreatDoor
set_option linter.unusedVariables false
set_option linter.unusedSimpArgs false
open Go.RowKit Go.Lib

/-- A told state, its rows in the blocks of G. -/
structure StIn (w : World) (G : Nat → Prop) (vs vk : Value) (s : St) : Prop where
  sess : ∃ us : List Value, us.length = s.lanes.length ∧ w.ownsRow 0 121 3 vs s.lanes.length (sessCells s.lanes us) ∧
    ∀ (i : Nat) (l : Ln) (u : Value), s.lanes[i]? = some l → us[i]? = some u → w.ownsRow 0 3 1 u l.ws.length l.nums ∧ ∀ g, u.ownBlock = some g → G g
  keys : w.ownsRow 0 87 4 vk s.keys.length (keyCells s.keys)
  inS : ∀ g, vs.ownBlock = some g → G g
  inK : ∀ g, vk.ownBlock = some g → G g

theorem StIn.stateAt {w : World} {G : Nat → Prop} {vs vk : Value} {s : St} (h : StIn w G vs vk s) : StateAt w 0 vs vk s := by
  obtain ⟨us, h1, h2, h3⟩ := h.sess
  exact ⟨⟨us, h1, h2, fun i l u hl hu => (h3 i l u hl hu).1⟩, h.keys⟩

theorem stIn_of {w : World} {lo : Nat} {vs vk : Value} {s : St} (h : StateAt w lo vs vk s) : StIn w (fun k => lo ≤ k ∧ k < w.heap.size) vs vk s := by
  obtain ⟨us, h1, h2, h3⟩ := h.sess
  exact ⟨⟨us, h1, row_lower h2 (Nat.zero_le _), fun i l u hl hu => ⟨row_lower (h3 i l u hl hu) (Nat.zero_le _), fun g hg => (h3 i l u hl hu).lt g hg⟩⟩, row_lower h.keys (Nat.zero_le _), fun g hg => h2.lt g hg, fun g hg => h.keys.lt g hg⟩

theorem StIn.chg {w w' : World} {G K : Nat → Prop} {vs vk : Value} {s : St} (h : StIn w G vs vk s) (c : Chg K w w') (hK : ∀ k, G k → ¬ K k) : StIn w' G vs vk s := by
  obtain ⟨us, h1, h2, h3⟩ := h.sess
  exact ⟨⟨us, h1, c.row' h2 (fun k hk => hK k (h.inS k hk)), fun i l u hl hu => ⟨c.row' (h3 i l u hl hu).1 (fun k hk => hK k ((h3 i l u hl hu).2 k hk)), (h3 i l u hl hu).2⟩⟩, c.row' h.keys (fun k hk => hK k (h.inK k hk)), h.inS, h.inK⟩

theorem StIn.mono {w : World} {G G' : Nat → Prop} {vs vk : Value} {s : St} (h : StIn w G vs vk s) (hG : ∀ k, G k → G' k) : StIn w G' vs vk s := by
  obtain ⟨us, h1, h2, h3⟩ := h.sess
  exact ⟨⟨us, h1, h2, fun i l u hl hu => ⟨(h3 i l u hl hu).1, fun g hg => hG g ((h3 i l u hl hu).2 g hg)⟩⟩, h.keys, fun g hg => hG g (h.inS g hg), fun g hg => hG g (h.inK g hg)⟩

def entB (L : List Ent) : List Value := L.map fun e => .string ⟨e.T.toArray⟩
def entN (L : List Ent) : List Value := L.map fun e => .int .i64 e.n
def uCells : List (Value × Value) → List Value
  | [] => []
  | u :: r => u.1 :: u.2 :: uCells r

theorem uCells_at : ∀ (U : List (Value × Value)) (i : Nat) (u : Value × Value), U[i]? = some u → (uCells U)[i * 2]? = some u.1 ∧ (uCells U)[i * 2 + 1]? = some u.2
  | [], i, u, h => by simp at h
  | y :: r, 0, u, h => by simp at h; subst h; simp [uCells]
  | y :: r, i + 1, u, h => by
    have := uCells_at r i u (by simpa using h)
    rw [show (i + 1) * 2 = i * 2 + 1 + 1 by omega]
    simp only [uCells, List.getElem?_cons_succ]
    exact this

theorem uCells_snoc : ∀ (U : List (Value × Value)) (u : Value × Value), uCells (U ++ [u]) = uCells U ++ [u.1, u.2]
  | [], u => rfl
  | y :: r, u => by simp [uCells, uCells_snoc r u]

/-- A trail's cells and rows. -/
structure TrailV (w : World) (tb : Nat) (G H : Nat → Prop) (L : List Ent) (vb vs vn : Value) (U : List (Value × Value)) : Prop where
  c0 : w.cell? ⟨tb, 0, none⟩ = some vb
  c1 : w.cell? ⟨tb, 1, none⟩ = some vs
  c2 : w.cell? ⟨tb, 2, none⟩ = some vn
  fz : ∀ j, w.frozen? ⟨tb, j, none⟩ = false
  bytes : w.ownsRow 0 9 1 vb L.length (entB L)
  states : w.ownsRow 0 46 2 vs L.length (uCells U)
  steps : w.ownsRow 0 3 1 vn L.length (entN L)
  ulen : U.length = L.length
  told : ∀ (i : Nat) (e : Ent) (u : Value × Value), L[i]? = some e → U[i]? = some u → StIn w G u.1 u.2 e.s
  inB : ∀ g, vb.ownBlock = some g → H g ∧ g ≠ tb
  inS : ∀ g, vs.ownBlock = some g → H g ∧ g ≠ tb
  inN : ∀ g, vn.ownBlock = some g → H g ∧ g ≠ tb
  own : H tb
  apart : ∀ k, G k → ¬ H k
  lt : ∀ k, G k ∨ H k → k < w.heap.size

def TrailAt (w : World) (tb : Nat) (G H : Nat → Prop) (L : List Ent) : Prop := ∃ vb vs vn U, TrailV w tb G H L vb vs vn U

theorem TrailV.chg {w w' : World} {tb : Nat} {G H K : Nat → Prop} {L : List Ent} {vb vs vn : Value} {U : List (Value × Value)} (h : TrailV w tb G H L vb vs vn U) (c : Chg K w w') (hK : ∀ k, G k ∨ H k → ¬ K k) : TrailV w' tb G H L vb vs vn U :=
  ⟨c.cellAt h.c0 (hK tb (.inr h.own)), c.cellAt h.c1 (hK tb (.inr h.own)), c.cellAt h.c2 (hK tb (.inr h.own)), fun j => (World.frozen?_of_block (w := w) (c.block tb (h.lt tb (.inr h.own)) (hK tb (.inr h.own)))).trans (h.fz j),
   c.row' h.bytes (fun k hk => hK k (.inr (h.inB k hk).1)), c.row' h.states (fun k hk => hK k (.inr (h.inS k hk).1)), c.row' h.steps (fun k hk => hK k (.inr (h.inN k hk).1)), h.ulen, fun i e u he hu => (h.told i e u he hu).chg c (fun k hk => hK k (.inl hk)), h.inB, h.inS, h.inN, h.own, h.apart, fun k hk => Nat.lt_of_lt_of_le (h.lt k hk) c.size⟩

theorem Tryz.infoTs : (Tryz.prog.info? 9).map (fun i => (i.zero, i.size, i.bytes)) = some (some (.string ⟨#[]⟩), 1, 16) := by kernel_rfl
theorem Tryz.infoTt : (Tryz.prog.info? 46).map (fun i => (i.zero, i.size, i.bytes)) = some (some (.agg #[.slice none 0 0, .slice none 0 0]), 2, 48) := by kernel_rfl
theorem Tryz.infoTi : (Tryz.prog.info? 3).map (fun i => (i.zero, i.size, i.bytes)) = some (some (.int .i64 0), 1, 8) := by kernel_rfl

theorem extract_pre (T Z : List UInt8) (R : List UInt8) (h : T = Z ++ R) : (⟨T.toArray⟩ : ByteArray).extract 0 Z.length = ⟨Z.toArray⟩ := by
  apply ByteArray.ext
  rw [ByteArray.data_extract]
  apply Array.toList_inj.1
  rw [Array.toList_extract]
  simp [List.extract_eq_take_drop, h]

/-- What stays of a trail where a Shrink was. -/
def noteL (shrunk : Bool) (L : List Ent) : List Ent := if shrunk then [] else L

set_option maxRecDepth 100000 in
set_option maxHeartbeats 8000000 in
theorem note_any {w : World} {a : Addr} {T : List UInt8} {s : St} {F G H : Nat → Prop} {tb : Nat} {L : List Ent} (n : Nat) (shrunk : Bool) (hR : RelT T w a (some s) F) (hT : TrailAt w tb G H L) (hF : ∀ k, F k → ¬ (G k ∨ H k)) (hlen : L.length ≤ 1759218604500) (hTl : T.length ≤ 140737488330000) (hn : n ≤ 1759218604500)
    (hpre : shrunk = false → ∀ z, L[L.length - 1]? = some z → ∃ R, T = z.T ++ R) :
    Calls Tryz.prog 32 #[.pointer (some ⟨tb, 0, none⟩), .pointer (some a), .int .i64 n, .bool shrunk] w fun e w' => ∃ G' H', e = .returned (.bool true) ∧ RelT T w' a (some s) F ∧ TrailAt w' tb G' H' (noteL shrunk L ++ [⟨T, s, n⟩]) ∧ (∀ k, G' k ∨ H' k → (G k ∨ H k) ∨ w.heap.size ≤ k) ∧ Chg (fun k => F k ∨ H k) w w' := by
  obtain ⟨vb, vs, vn, U, hV⟩ := hT
  have HF : Hid (∀ k, F k → ¬ (G k ∨ H k)) := hF
  have HGF : Hid (∀ k, G k ∨ H k → ¬ F k) := fun k hk hf => hF k hf hk
  have HPRE : Hid (shrunk = false → ∀ z, L[L.length - 1]? = some z → ∃ R, T = z.T ++ R) := hpre
  clear hF hpre
  have hby := relT_bytes hR
  simp only [bytes?, errno?] at hby
  obtain ⟨B, hB⟩ : ∃ B : ByteArray, B = ⟨T.toArray⟩ := ⟨_, rfl⟩
  rw [← hB] at hby
  have HB : Hid (B = ⟨T.toArray⟩) := hB
  have HBs : Hid (B.size = T.length) := by show _ = _; rw [hB]; exact ba_size T
  clear hB
  go_enter Tryz.func32, Tryz.ntmps32
  go_upto_region 2 with (go_at_call 21; refine hby.mono ?_; rintro _ w1 ⟨rfl, hR1, c1⟩)
  have hst := relT_state hR1
  simp only [state?, errno?] at hst
  go_upto_region 3 with (go_at_call 16; refine hst.mono ?_; rintro _ w2 ⟨vS, vK, rfl, s2, hR2, c2⟩; obtain ⟨us, hu1, hu2, hu3⟩ := s2.sess; obtain ⟨pa, ca, rfl⟩ := row_any hu2; obtain ⟨pb, cb, rfl⟩ := row_any s2.keys)
  clear hby hst hu1 hu2 hu3
  obtain ⟨W2, hW2⟩ : ∃ W2, W2 = w2.alloc (.cells #[.slice pa s.lanes.length ca, .slice pb s.keys.length cb] 46) := ⟨_, rfl⟩
  have cW2 : Chg (fun _ => False) w2 W2 := by rw [hW2]; exact (Chg.refl _ w2).alloc _
  have q0 : W2.cell? ⟨w2.heap.size, 0, none⟩ = some (.slice pa s.lanes.length ca) := by rw [hW2]; exact World.cell?_alloc_at _ _ _ _ rfl
  have q1 : W2.cell? ⟨w2.heap.size, 1, none⟩ = some (.slice pb s.keys.length cb) := by rw [hW2]; exact World.cell?_alloc_at _ _ _ _ rfl
  rw [← hW2]
  clear hW2
  have zW2 : w2.heap.size < W2.heap.size := World.block_lt_of_cell? _ _ q0
  have z1 := c1.size
  have z2 := c2.size
  have hV2 : TrailV W2 tb G H L vb vs vn U := ((hV.chg c1 HGF.out).chg c2 HGF.out).chg cW2 (fun _ _ h => h)
  have hRW := relT_keep hR2 cW2
  have sIn : Hid (StIn W2 (fun k => w1.heap.size ≤ k ∧ k < w2.heap.size) (.slice pa s.lanes.length ca) (.slice pb s.keys.length cb) s) := (stIn_of s2).chg cW2 (fun _ _ h => h)
  have cw2 : Chg (fun k => F k ∨ H k) w W2 := ((c1.mono (fun k h => .inl h)).trans c2 (fun k _ h => .inl h)).trans cW2 (fun _ _ h => h.elim)
  have HLT : Hid (∀ k, G k ∨ H k → k < w.heap.size) := hV.lt
  obtain ⟨L0, hL0⟩ : ∃ L0 : List Ent, L0 = noteL shrunk L := ⟨_, rfl⟩
  have HL0 : Hid (L0 = noteL shrunk L) := hL0
  clear hL0 hV hR hR1 hR2 c1 c2 cW2 s2
  have d0 := hV2.c0
  have d1 := hV2.c1
  have d2 := hV2.c2
  have f0 := hV2.fz 0
  have f1 := hV2.fz 1
  have f2 := hV2.fz 2
  obtain ⟨bp, bc, hvb⟩ := row_any hV2.bytes
  obtain ⟨sp, sc, hvs⟩ := row_any hV2.states
  obtain ⟨np, nc, hvn⟩ := row_any hV2.steps
  subst hvb hvs hvn
  go_upto_if 35 with fail
  go_cut [13, 33, 34] from 36 to 82 (fun _ _ _ wc => (∃ vb' vs' vn' U', Hid (TrailV wc tb G H L0 vb' vs' vn' U')) ∧ Chg (fun k => k = tb) W2 wc)
  case first =>
    cases shrunk with
    | true =>
      go_wp2_with fail
      go_meet
      have c0 : Chg (fun k => k = tb) W2 (((W2.setCell ⟨tb, 0, none⟩ (.slice none 0 0)).setCell ⟨tb, 1, none⟩ (.slice none 0 0)).setCell ⟨tb, 2, none⟩ (.slice none 0 0)) := (((Chg.refl (fun k => k = tb) W2).setCell (p := ⟨tb, 0, none⟩) (fun _ => rfl) _).setCell (p := ⟨tb, 1, none⟩) (fun _ => rfl) _).setCell (p := ⟨tb, 2, none⟩) (fun _ => rfl) _
      have sl : Slots tb (fun _ => True) W2 (((W2.setCell ⟨tb, 0, none⟩ (.slice none 0 0)).setCell ⟨tb, 1, none⟩ (.slice none 0 0)).setCell ⟨tb, 2, none⟩ (.slice none 0 0)) := (((Slots.refl tb (fun _ => True) W2).setCell (p := ⟨tb, 0, none⟩) _ (fun _ => trivial)).setCell (p := ⟨tb, 1, none⟩) _ (fun _ => trivial)).setCell (p := ⟨tb, 2, none⟩) _ (fun _ => trivial)
      refine ⟨⟨.slice none 0 0, .slice none 0 0, .slice none 0 0, [], ?_⟩, c0⟩
      have e0 : L0 = [] := by rw [HL0.out]; rfl
      subst e0
      exact ⟨(World.cell?_setCell_other _ _ _ _ (by simp)).trans ((World.cell?_setCell_other _ _ _ _ (by simp)).trans (World.cell?_setCell_same _ _ _ d0)), (World.cell?_setCell_other _ _ _ _ (by simp)).trans (World.cell?_setCell_same _ _ _ ((World.cell?_setCell_other _ _ _ _ (by simp)).trans d1)), World.cell?_setCell_same _ _ _ ((World.cell?_setCell_other _ _ _ _ (by simp)).trans ((World.cell?_setCell_other _ _ _ _ (by simp)).trans d2)), fun j => (sl.frozen j).trans (hV2.fz j), World.ownsRow_nil _ _ _ _, World.ownsRow_nil _ _ _ _, World.ownsRow_nil _ _ _ _, rfl, fun i e u he => by simp at he, fun g hg => by simp [Value.ownBlock] at hg, fun g hg => by simp [Value.ownBlock] at hg, fun g hg => by simp [Value.ownBlock] at hg, hV2.own, hV2.apart, fun k hk => Nat.lt_of_lt_of_le (hV2.lt k hk) c0.size⟩
    | false =>
      have e0 : L0 = L := by rw [HL0.out]; rfl
      by_cases hL : L = []
      · have hm : L.length = 0 := by rw [hL]; rfl
        have HLN : Hid (L = []) := hL
        clear hL
        go_wp2_with fail
        go_quiet (fail)
        go_wp2_with fail
        go_meet
        have cq : Chg (fun _ => False) W2 (W2.drewN nq) := (Chg.refl _ W2).drewN' _
        have hfin := hV2.chg cq (fun _ _ h => h)
        rw [← e0] at hfin
        exact ⟨⟨_, _, _, U, hfin⟩, cq.mono (fun _ h => h.elim)⟩
      · obtain ⟨m, hm⟩ : ∃ m, L.length = m + 1 := ⟨L.length - 1, by have := List.length_pos_iff.2 hL; omega⟩
        obtain ⟨z, hz⟩ : ∃ z, L[m]? = some z := ⟨_, List.getElem?_eq_getElem (by omega)⟩
        obtain ⟨R, hRz⟩ := HPRE.out rfl z (by rw [hm]; exact hz)
        obtain ⟨g, cap', hv, _, _, hcell⟩ := row_pos hV2.bytes (by omega)
        simp only [Value.slice.injEq] at hv
        obtain ⟨rfl, _, rfl⟩ := hv
        obtain ⟨Z, hZ⟩ : ∃ Z : ByteArray, Z = ⟨z.T.toArray⟩ := ⟨_, rfl⟩
        have gz : W2.cell? ⟨g, m, none⟩ = some (.string Z) := hcell m _ (by rw [hZ]; simp [entB, hz])
        have hZs : Z.size = z.T.length := by rw [hZ]; exact ba_size z.T
        have hex : B.extract 0 Z.size = Z := by rw [hZs, HB.out, hZ]; exact extract_pre T z.T R hRz
        have hsz : Z.size ≤ B.size := by rw [hZs, HBs.out, hRz, List.length_append]; omega
        have hsz' : ¬ (B.size : Int) < (Z.size : Int) := by omega
        have HRZ : Hid (T = z.T ++ R) := hRz
        have hwm : IntKind.i64.wrap ((L.length : Int) - 1) = (m : Int) := by rw [show ((L.length : Int) - 1) = ((m : Nat) : Int) by omega]; exact w64_of m (by omega)
        have hmi : (m : Int) < (L.length : Int) := by omega
        have hgt : decide ((0 : Int) < (L.length : Int)) = true := decide_eq_true (by omega)
        have hgn : decide (0 < L.length) = true := decide_eq_true (by omega)
        have hgp : 0 < L.length := by omega
        have hsn : decide (B.size < Z.size) = false := decide_eq_false (by omega)
        have hsd : decide ((B.size : Int) < (Z.size : Int)) = false := decide_eq_false hsz'
        have HM : Hid (L.length = m + 1) := hm
        clear hm
        clear hcell hZ hZs hRz hL hz
        go_wp2_with fail
        go_quiet (fail)
        go_wp2_with fail
        go_meet
        have cq : Chg (fun _ => False) W2 (W2.drewN nq) := (Chg.refl _ W2).drewN' _
        have hfin := hV2.chg cq (fun _ _ h => h)
        rw [← e0] at hfin
        exact ⟨⟨_, _, _, U, hfin⟩, cq.mono (fun _ h => h.elim)⟩
  case rest =>
    obtain ⟨⟨vb', vs', vn', U', HV3⟩, c3⟩ := hcut
    have hlen0 : L0.length ≤ 1759218604500 := by
      rw [HL0.out]
      unfold noteL
      split
      · simp
      · exact hlen
    have htbw : tb < w.heap.size := HLT.out tb (.inr hV2.own)
    have zc := c3.size
    have q0 := c3.cellAt q0 (by omega)
    have q1 := c3.cellAt q1 (by omega)
    have HOWN : Hid (H tb) := hV2.own
    have HAP : Hid (∀ k, G k → ¬ H k) := hV2.apart
    clear d0 d1 d2 f0 f1 f2 hV2
    have d0 := HV3.out.c0
    have d1 := HV3.out.c1
    have d2 := HV3.out.c2
    have fz := HV3.out.fz
    have f0 := fz 0
    have f1 := fz 1
    have f2 := fz 2
    obtain ⟨bp', bc', hvb⟩ := row_any HV3.out.bytes
    obtain ⟨sp', sc', hvs⟩ := row_any HV3.out.states
    obtain ⟨np', nc', hvn⟩ := row_any HV3.out.steps
    subst hvb hvs hvn
    obtain ⟨iS, hS0, hS1, hS2, hS3⟩ := info_parts Tryz.infoTs
    obtain ⟨iT, hT0, hT1, hT2, hT3⟩ := info_parts Tryz.infoTt
    obtain ⟨iI, hI0, hI1, hI2, hI3⟩ := info_parts Tryz.infoTi
    have nB : Hid (∀ g, (Value.slice bp' L0.length bc').ownBlock = some g → H g ∧ g ≠ tb) := HV3.out.inB
    have nS : Hid (∀ g, (Value.slice sp' L0.length sc').ownBlock = some g → H g ∧ g ≠ tb) := HV3.out.inS
    have nN : Hid (∀ g, (Value.slice np' L0.length nc').ownBlock = some g → H g ∧ g ≠ tb) := HV3.out.inN
    have tB : ¬ (Value.slice bp' L0.length bc').ownBlock = some tb := fun e => (nB.out tb e).2 rfl
    have tS : ¬ (Value.slice sp' L0.length sc').ownBlock = some tb := fun e => (nS.out tb e).2 rfl
    have tN : ¬ (Value.slice np' L0.length nc').ownBlock = some tb := fun e => (nN.out tb e).2 rfl
    have zq : w2.heap.size < wc.heap.size := by omega
    have xB : ¬ (Value.slice bp' L0.length bc').ownBlock = some w2.heap.size := fun e => by have := HLT.out _ (.inr (nB.out _ e).1); omega
    have xS : ¬ (Value.slice sp' L0.length sc').ownBlock = some w2.heap.size := fun e => by have := HLT.out _ (.inr (nS.out _ e).1); omega
    obtain ⟨v1, w3, hrun1, r1, g1, h1⟩ := run_append_where (P := Tryz.prog) (wc.alloc (.cells #[.string B] 9)) 0 34 34 9 iS _ 1 16 Tryz.underlying34 hS0 hS1 hS2 hS3 rfl (by decide) (.slice bp' L0.length bc') L0.length _ (HV3.out.bytes.alloc _) ⟨wc.heap.size, 0, none⟩ 1 1 [.string B] rfl
      (fun j u hu => by rw [add_lit', Nat.zero_add]; rcases j with _ | j <;> simp at hu; subst hu; exact World.cell?_alloc_at _ _ _ _ rfl)
      (fun u hu => by simp at hu; subst hu; rfl) (by unfold maxLen; omega) (by omega) (Nat.zero_le _)
    have c13 := grown_chg g1
    have z3 := c13.size
    have e0 := c13.cellAt d0 tB
    have e1 := c13.cellAt d1 tB
    have e2 := c13.cellAt d2 tB
    have e3 := c13.cellAt q0 xB
    have e4 := c13.cellAt q1 xB
    have ef : ∀ j, w3.frozen? ⟨tb, j, none⟩ = false := fun j => (World.frozen?_of_block (w := wc) (c13.block tb (by omega) tB)).trans (fz j)
    have ef0 := ef 0
    have hs3 := c13.row' HV3.out.states (fun k hk e => row_kinds0 HV3.out.states HV3.out.bytes (by decide) k hk e)
    have hn3 := c13.row' HV3.out.steps (fun k hk e => row_kinds0 HV3.out.steps HV3.out.bytes (by decide) k hk e)
    have t1 : ∀ k, v1.ownBlock = some k → k ≠ tb := fun k hk e => by
      rcases h1 with h | h
      · rw [h] at hk; exact tB (e ▸ hk)
      · have := h k hk; simp at this; omega
    obtain ⟨p1, k1, hv1⟩ := row_any r1
    subst hv1
    go_upto_region 13 with (at_builtin; refine Lib.wpList_append_run _ rfl _ _ 34 34 rfl _ _ rfl rfl _ w3 hrun1 ?_)
    obtain ⟨W3, hW3⟩ : ∃ W3, W3 = w3.setCell ⟨tb, 0, none⟩ (.slice p1 (L0.length + 1) k1) := ⟨_, rfl⟩
    have cS3 : Chg (fun k => k = tb) w3 W3 := by rw [hW3]; exact (Chg.refl (fun k => k = tb) w3).setCell (p := ⟨tb, 0, none⟩) (fun _ => rfl) _
    have sl3 : Slots tb (fun j => j = 0) w3 W3 := by rw [hW3]; exact (Slots.refl tb (fun j => j = 0) w3).setCell (p := ⟨tb, 0, none⟩) _ (fun _ => rfl)
    have a0 : W3.cell? ⟨tb, 0, none⟩ = some (.slice p1 (L0.length + 1) k1) := by rw [hW3]; exact World.cell?_setCell_same _ _ _ e0
    rw [← hW3]
    clear hW3
    have a1 := (sl3.cell 1 (by omega)).trans e1
    have a2 := (sl3.cell 2 (by omega)).trans e2
    have af : ∀ j, W3.frozen? ⟨tb, j, none⟩ = false := fun j => (sl3.frozen j).trans (ef j)
    have x2b : ¬ w2.heap.size = tb := by omega
    have a3 := cS3.cellAt e3 x2b
    have a4 := cS3.cellAt e4 x2b
    have r1W := cS3.row' r1 (fun k hk e => t1 k hk e)
    have hs3W := cS3.row' hs3 (fun k hk e => tS (e ▸ hk))
    have hn3W := cS3.row' hn3 (fun k hk e => tN (e ▸ hk))
    have zW3 := cS3.size
    clear d0 d1 d2 f0 f1 f2 e0 e1 e2 e3 e4 ef ef0 q0 q1
    obtain ⟨OB, hOB⟩ : ∃ OB, OB = Obj.cells #[.slice pa s.lanes.length ca, .slice pb s.keys.length cb] 46 := ⟨_, rfl⟩
    have cD : Chg (fun _ => False) W3 ((W3.alloc OB).drew) := ((Chg.refl _ W3).alloc _).drew
    obtain ⟨v2, w4, hrun2, r2, g2, h2⟩ := run_append_where (P := Tryz.prog) ((W3.alloc OB).drew) 0 35 35 46 iT _ 2 48 Tryz.underlying35 hT0 hT1 hT2 hT3 rfl (by decide) (.slice sp' L0.length sc') L0.length _ (cD.row' hs3W (fun _ _ h => h)) ⟨W3.heap.size, 0, none⟩ 1 1 [.slice pa s.lanes.length ca, .slice pb s.keys.length cb] rfl
      (fun j u hu => by rw [add_lit', Nat.zero_add, hOB]; rcases j with _ | _ | j <;> simp at hu <;> subst hu <;> exact World.cell?_alloc_at _ _ _ _ rfl)
      (fun u hu => by simp at hu; rcases hu with rfl | rfl <;> rfl) (by unfold maxLen; omega) (by omega) (Nat.zero_le _)
    have c34 : Chg (fun k => (Value.slice sp' L0.length sc').ownBlock = some k) W3 w4 := (cD.mono (fun _ h => h.elim)).trans (G := fun k => (Value.slice sp' L0.length sc').ownBlock = some k) ⟨g2.os, g2.tape, g2.output, g2.size, fun k hk hne => g2.block k hk (fun e => hne e.symm)⟩ (fun _ _ h => h)
    have z4 := c34.size
    have b0 := c34.cellAt a0 tS
    have b1 := c34.cellAt a1 tS
    have b2 := c34.cellAt a2 tS
    have bf : ∀ j, w4.frozen? ⟨tb, j, none⟩ = false := fun j => (World.frozen?_of_block (w := W3) (c34.block tb (by omega) tS)).trans (af j)
    have bf1 := bf 1
    have r1X := c34.row' r1W (fun k hk e => row_kinds0 r1W hs3W (by decide) k hk e)
    have hn4 := c34.row' hn3W (fun k hk e => row_kinds0 hn3W hs3W (by decide) k hk e)
    have t2 : ∀ k, v2.ownBlock = some k → k ≠ tb := fun k hk e => by
      rcases h2 with h | h
      · rw [h] at hk; exact tS (e ▸ hk)
      · have := h k hk; have hz : (W3.alloc OB).drew.heap.size = W3.heap.size + 1 := by show (W3.alloc OB).heap.size = _; simp
        omega
    obtain ⟨p2, k2, hv2⟩ := row_any r2
    subst hv2
    rw [hOB] at hrun2
    have af1 := af 1
    have a1' := fun ob => ((Chg.refl (fun _ => False) W3).alloc ob).cellAt a1 id
    go_region_law (refine step_run rfl (.tmp 97) (.tmp 99) 35 35 rfl _ _ (by simp [Act.eval, Act.put]) (by simp [Act.eval, Act.put]) _ _ hrun2 ?_)
    all_goals
      go_upto_region 14 with fail
      obtain ⟨W4, hW4⟩ : ∃ W4, W4 = w4.setCell ⟨tb, 1, none⟩ (.slice p2 (L0.length + 1) k2) := ⟨_, rfl⟩
      have cS4 : Chg (fun k => k = tb) w4 W4 := by rw [hW4]; exact (Chg.refl (fun k => k = tb) w4).setCell (p := ⟨tb, 1, none⟩) (fun _ => rfl) _
      have sl4 : Slots tb (fun j => j = 1) w4 W4 := by rw [hW4]; exact (Slots.refl tb (fun j => j = 1) w4).setCell (p := ⟨tb, 1, none⟩) _ (fun _ => rfl)
      have g1' : W4.cell? ⟨tb, 1, none⟩ = some (.slice p2 (L0.length + 1) k2) := by rw [hW4]; exact World.cell?_setCell_same _ _ _ b1
      rw [← hW4]
      clear hW4
      have g0' := (sl4.cell 0 (by omega)).trans b0
      have g2' := (sl4.cell 2 (by omega)).trans b2
      have gf : ∀ j, W4.frozen? ⟨tb, j, none⟩ = false := fun j => (sl4.frozen j).trans (bf j)
      have r1Y := cS4.row' r1X (fun k hk e => t1 k hk e)
      have r2Y := cS4.row' r2 (fun k hk e => t2 k hk e)
      have hn4Y := cS4.row' hn4 (fun k hk e => tN (e ▸ hk))
      have zW4 := cS4.size
      clear a0 a1 a2 a3 a4 af af1 a1' b0 b1 b2 bf bf1
      obtain ⟨v3, w5, hrun3, r3, g3, h3⟩ := run_append_where (P := Tryz.prog) (W4.alloc (.cells #[.int .i64 n] 3)) 0 36 36 3 iI _ 1 8 Tryz.underlying36 hI0 hI1 hI2 hI3 rfl (by decide) (.slice np' L0.length nc') L0.length _ (hn4Y.alloc _) ⟨W4.heap.size, 0, none⟩ 1 1 [.int .i64 n] rfl
        (fun j u hu => by rw [add_lit', Nat.zero_add]; rcases j with _ | j <;> simp at hu; subst hu; exact World.cell?_alloc_at _ _ _ _ rfl)
        (fun u hu => by simp at hu; subst hu; rfl) (by unfold maxLen; omega) (by omega) (Nat.zero_le _)
      have c45 := grown_chg g3
      have z5 := c45.size
      have b0 := c45.cellAt g0' tN
      have b1 := c45.cellAt g1' tN
      have b2 := c45.cellAt g2' tN
      have bf : ∀ j, w5.frozen? ⟨tb, j, none⟩ = false := fun j => (World.frozen?_of_block (w := W4) (c45.block tb (by omega) tN)).trans (gf j)
      have bf2 := bf 2
      have gf2 := gf 2
      have r1Z := c45.row' r1Y (fun k hk e => row_kinds0 r1Y hn4Y (by decide) k hk e)
      have r2Z := c45.row' r2Y (fun k hk e => row_kinds0 r2Y hn4Y (by decide) k hk e)
      have t3 : ∀ k, v3.ownBlock = some k → k ≠ tb := fun k hk e => by
        rcases h3 with h | h
        · rw [h] at hk; exact tN (e ▸ hk)
        · have := h k hk; simp at this; omega
      obtain ⟨p3, k3, hv3⟩ := row_any r3
      subst hv3
      go_wp2_with (at_builtin; refine Lib.wpList_append_run _ rfl _ _ 36 36 rfl _ _ rfl rfl _ w5 hrun3 ?_)
      go_ret
      obtain ⟨W5, hW5⟩ : ∃ W5, W5 = w5.setCell ⟨tb, 2, none⟩ (.slice p3 (L0.length + 1) k3) := ⟨_, rfl⟩
      have cS5 : Chg (fun k => k = tb) w5 W5 := by rw [hW5]; exact (Chg.refl (fun k => k = tb) w5).setCell (p := ⟨tb, 2, none⟩) (fun _ => rfl) _
      have sl5 : Slots tb (fun j => j = 2) w5 W5 := by rw [hW5]; exact (Slots.refl tb (fun j => j = 2) w5).setCell (p := ⟨tb, 2, none⟩) _ (fun _ => rfl)
      have u2 : W5.cell? ⟨tb, 2, none⟩ = some (.slice p3 (L0.length + 1) k3) := by rw [hW5]; exact World.cell?_setCell_same _ _ _ b2
      rw [← hW5]
      clear hW5
      have zW5 := cS5.size
      have cAll : Chg H wc W5 := (((((c13.mono (fun k hk => (nB.out k hk).1)).trans cS3 (fun k _ e => by have e' : k = tb := e; rw [e']; exact HOWN.out)).trans c34 (fun k _ hk => (nS.out k hk).1)).trans cS4 (fun k _ e => by have e' : k = tb := e; rw [e']; exact HOWN.out)).trans c45 (fun k _ hk => (nN.out k hk).1)).trans cS5 (fun k _ e => by have e' : k = tb := e; rw [e']; exact HOWN.out)
      have zA := cAll.size
      refine ⟨fun k => G k ∨ (w1.heap.size ≤ k ∧ k < w2.heap.size), fun k => H k ∨ (W2.heap.size ≤ k ∧ k < W5.heap.size), rfl, ?_, ⟨.slice p1 (L0.length + 1) k1, .slice p2 (L0.length + 1) k2, .slice p3 (L0.length + 1) k3, U' ++ [(.slice pa s.lanes.length ca, .slice pb s.keys.length cb)], ?_⟩, ?_, ?_⟩
      · exact relT_stable (relT_stable hRW (fun k hk => c3.block k (relT_lt hRW hk) (fun e => HF.out k hk (.inr (by have e' : k = tb := e; rw [e']; exact HOWN.out))))) (fun k hk => cAll.block k (Nat.lt_of_lt_of_le (relT_lt hRW hk) c3.size) (fun h => HF.out k hk (.inr h)))
      · rw [← HL0.out]
        have hel : (L0 ++ [(⟨T, s, n⟩ : Ent)]).length = L0.length + 1 := by simp
        have y1 : ∀ g, (Value.slice p1 (L0.length + 1) k1).ownBlock = some g → (H g ∨ (W2.heap.size ≤ g ∧ g < W5.heap.size)) ∧ g ≠ tb := fun g hg => ⟨by
          rcases h1 with h | h
          · rw [h] at hg; exact .inl (nB.out g hg).1
          · have h5 := h g hg
            have hz : (wc.alloc (.cells #[.string B] 9)).heap.size = wc.heap.size + 1 := by simp
            have := (r1.lt g hg).2
            exact .inr ⟨by omega, by omega⟩, t1 g hg⟩
        have y2 : ∀ g, (Value.slice p2 (L0.length + 1) k2).ownBlock = some g → (H g ∨ (W2.heap.size ≤ g ∧ g < W5.heap.size)) ∧ g ≠ tb := fun g hg => ⟨by
          rcases h2 with h | h
          · rw [h] at hg; exact .inl (nS.out g hg).1
          · have h5 := h g hg
            have hz : (W3.alloc OB).drew.heap.size = W3.heap.size + 1 := by show (W3.alloc OB).heap.size = _; simp
            have := (r2.lt g hg).2
            exact .inr ⟨by omega, by omega⟩, t2 g hg⟩
        have y3 : ∀ g, (Value.slice p3 (L0.length + 1) k3).ownBlock = some g → (H g ∨ (W2.heap.size ≤ g ∧ g < W5.heap.size)) ∧ g ≠ tb := fun g hg => ⟨by
          rcases h3 with h | h
          · rw [h] at hg; exact .inl (nN.out g hg).1
          · have h5 := h g hg
            have hz : (W4.alloc (.cells #[.int .i64 n] 3)).heap.size = W4.heap.size + 1 := by simp
            have := (r3.lt g hg).2
            exact .inr ⟨by omega, by omega⟩, t3 g hg⟩
        refine ⟨(sl5.cell 0 (by omega)).trans b0, (sl5.cell 1 (by omega)).trans b1, u2, fun j => (sl5.frozen j).trans (bf j), ?_, ?_, ?_, by simp [HV3.out.ulen], fun i e u he hu => ?_, y1, y2, y3, .inl HOWN.out, fun k hk h => ?_, fun k hk => ?_⟩
        · rw [hel]
          have := cS5.row' r1Z (fun k hk e => t1 k hk e)
          simpa [entB, HB.out] using this
        · rw [hel, uCells_snoc]
          exact cS5.row' r2Z (fun k hk e => t2 k hk e)
        · rw [hel]
          have := cS5.row' r3 (fun k hk e => t3 k hk e)
          simpa [entN] using this
        · by_cases hi : i < L0.length
          · rw [List.getElem?_append_left hi] at he
            rw [List.getElem?_append_left (by rw [HV3.out.ulen]; exact hi)] at hu
            exact ((HV3.out.told i e u he hu).chg cAll HAP.out).mono (fun k hk => .inl hk)
          · have hil : i < (L0 ++ [(⟨T, s, n⟩ : Ent)]).length := (List.getElem?_eq_some_iff.1 he).1
            rw [hel] at hil
            rw [List.getElem?_append_right (by omega), show i - L0.length = 0 by omega] at he
            rw [List.getElem?_append_right (by rw [HV3.out.ulen]; omega), HV3.out.ulen, show i - L0.length = 0 by omega] at hu
            simp at he hu
            subst he hu
            exact ((sIn.out.chg c3 (fun k hk e => by have e' : k = tb := e; omega)).chg cAll (fun k hk h => by have := HLT.out k (.inr h); omega)).mono (fun k hk => .inr hk)
        · rcases hk with hk | hk
          · rcases h with h | h
            · exact HAP.out k hk h
            · have := HLT.out k (.inl hk); omega
          · rcases h with h | h
            · have := HLT.out k (.inr h); omega
            · omega
        · rcases hk with (hk | hk) | (hk | hk)
          · have := HLT.out k (.inl hk); omega
          · omega
          · have := HLT.out k (.inr hk); omega
          · omega
      · intro k hk
        rcases hk with (hk | hk) | (hk | hk)
        · exact .inl (.inl hk)
        · exact .inr (by omega)
        · exact .inl (.inr hk)
        · exact .inr (by omega)
      · exact (cw2.trans c3 (fun k _ e => .inr (by have e' : k = tb := e; rw [e']; exact HOWN.out))).trans cAll (fun k _ h => .inr h)

end Go.Proofs.YthedkdbgfdjlkaaGreatDoor

/- What the laid variable gives a walk: the handle's cell. -/
namespace Go.Proofs.YthedkdbgfdjlkaaGreatDoor
set_option linter.unusedVariables false
set_option linter.unusedSimpArgs false
open Go.RowKit

theorem Tryz.laidAt : Tryz.prog.globalNamed "errors.errorType" = some 0 := by kernel_rfl
theorem Tryz.laidRt : (Tryz.prog.cutTypes.find? (·.1 == "internal/reflectlite.rtype")).map (·.2) = some 236 := by kernel_rfl
theorem Tryz.laidRow : ((List.range 338).filter fun t => Tryz.prog.rowNamed t [101, 114, 114, 111, 114]) = [115] := by kernel_rfl
theorem Tryz.laidSize : Tryz.prog.types.size = 338 := by kernel_rfl

def laidOne : List (String × DataW Unit) := [("errors.errorType", Rows.laid_errors_errorType)]

theorem handle_of_laid {W : World} (h : laidMetH Tryz.prog laidOne W) : HandleAt W := by
  have h' : laidMet Tryz.prog [] W ∧ handlesMet Tryz.prog laidOne W := h
  obtain ⟨name, u, ty, e1, e2, e3, e4, e5⟩ := h'.2 _ (List.mem_singleton.2 rfl)
  have en : name = [101, 114, 114, 111, 114] := (Option.some.inj e1).symm
  subst en
  obtain rfl := Option.some.inj (Tryz.laidRt.symm.trans e2)
  have hm : ty ∈ (List.range 338).filter fun t => Tryz.prog.rowNamed t [101, 114, 114, 111, 114] := List.mem_filter.2 ⟨List.mem_range.2 (by rw [← Tryz.laidSize]; exact e3), e4⟩
  rw [Tryz.laidRow] at hm
  obtain rfl := List.mem_singleton.1 hm
  have hh : typeHandle Tryz.prog 115 = .pointer (some ⟨2, 115, none⟩) := by kernel_rfl
  rw [hh] at e5
  have h0 := World.var?_cell Tryz.laidAt e5 0
  unfold HandleAt
  simpa using h0

end Go.Proofs.YthedkdbgfdjlkaaGreatDoor

/- ARGUMENTS OPENED: records, scripts of steps; what the bound gives. -/
namespace Go.Proofs.YthedkdbgfdjlkaaGreatDoor
set_option linter.unusedVariables false
set_option linter.unusedSimpArgs false
open Go.ChangeShapes Go.WideShapes Go.ChangeAt Go.RowKit Go.Deep

theorem Tryz.ownKnobK : ownKnob Tryz.prog.godebug = none := by kernel_rfl
theorem Tryz.laidOutK : laidOutB Tryz.prog = true := by kernel_rfl
theorem Tryz.bytesStepK : Tryz.prog.bytesOf 55 = 80 := by kernel_rfl
theorem Tryz.cellsStepK : Tryz.prog.cellsOf 55 = 8 := by kernel_rfl
theorem Tryz.cellsRecK : Tryz.prog.cellsOf 53 = 5 := by kernel_rfl
theorem Tryz.cellsIntK : Tryz.prog.cellsOf 3 = 1 := by kernel_rfl
theorem Tryz.cellsStrK : Tryz.prog.cellsOf 9 = 1 := by kernel_rfl

theorem wf_inIntK {n : Int} (h : (Lit.int .i64 n).wf = true) : inInt n := by
  simpa [Lit.wf, IntKind.min, IntKind.max, IntKind.signed, IntKind.bits, inInt] using h

theorem klen4 {α : Type} {l : List α} (h : l.length = 4) : ∃ a b c d, l = [a, b, c, d] := by
  match l, h with
  | [a, b, c, d], _ => exact ⟨a, b, c, d, rfl⟩
theorem klen5 {α : Type} {l : List α} (h : l.length = 5) : ∃ a b c d e, l = [a, b, c, d, e] := by
  match l, h with
  | [a, b, c, d, e], _ => exact ⟨a, b, c, d, e, rfl⟩
theorem klen8 {α : Type} {l : List α} (h : l.length = 8) : ∃ a b c d e f g i, l = [a, b, c, d, e, f, g, i] := by
  match l, h with
  | [a, b, c, d, e, f, g, i], _ => exact ⟨a, b, c, d, e, f, g, i, rfl⟩

/-- What the bound gives. -/
theorem kbulk_one {H : Type} (d : DataW H) : 1 ≤ Rows.uptoBulk d := by
  cases d with
  | lit l => cases l <;> simp [Rows.uptoBulk]
  | nil => simp [Rows.uptoBulk]
  | ptr d => simp [Rows.uptoBulk]
  | slice elems spare => simp [Rows.uptoBulk]
  | agg parts => simp [Rows.uptoBulk]
  | iface t d => simp [Rows.uptoBulk]
  | map entries => simp [Rows.uptoBulk]
  | held h => simp [Rows.uptoBulk]

theorem kbulk_length {H : Type} (l : List (DataW H)) : l.length ≤ Rows.uptoBulkAll l := by
  induction l with
  | nil => simp [Rows.uptoBulkAll]
  | cons x r ih => have := kbulk_one x; simp only [Rows.uptoBulkAll, List.length_cons]; omega

/-- A script of steps in memory. -/
structure StepsAt (W : World) (v : Value) (L : List Stp) : Prop where
  val : ∃ p c, v = .slice p L.length c
  room : L.length * 80 ≤ 140737488351232
  at_i : ∀ (i : Nat) (x : Stp), L[i]? = some x → ∃ b o c, v = .slice (some ⟨b, o, none⟩) L.length c ∧ W.cell? ⟨b, o + i * 8, none⟩ = some (.int .i64 x.kind) ∧ W.cell? ⟨b, o + i * 8 + 1, none⟩ = some (.int .i64 x.x.session) ∧ W.cell? ⟨b, o + i * 8 + 2, none⟩ = some (.int .i64 x.x.epoch) ∧ W.cell? ⟨b, o + i * 8 + 3, none⟩ = some (.int .i64 x.x.number) ∧ W.cell? ⟨b, o + i * 8 + 4, none⟩ = some (.string x.x.key) ∧ W.cell? ⟨b, o + i * 8 + 5, none⟩ = some (.int .i64 x.x.value) ∧ W.cell? ⟨b, o + i * 8 + 6, none⟩ = some (.string x.key) ∧ W.cell? ⟨b, o + i * 8 + 7, none⟩ = some (.int .i64 x.n)
  fits : ∀ x ∈ L, x.x.fits ∧ inInt x.kind ∧ inInt x.n ∧ x.key.size ≤ maxLen

section
variable {H : Type} {enc : TypeId × Value → H} {W : World} {sp : Nat → Bool} {held : Bool} {base : Nat}

theorem kopen_rec {n : Nat} {cs : List Value} {y : DataW H × List MemPlace} (h : DataW.trod enc Tryz.prog W base sp held n 53 cs = some y) :
    ∃ x : Rec, cs = [.int .i64 x.session, .int .i64 x.epoch, .int .i64 x.number, .string x.key, .int .i64 x.value] ∧ x.fits := by
  obtain ⟨xs, k, _, _, hlen, hxl, hf⟩ := DataW.trod_struct Tryz.underlying53 h
  rw [Tryz.cellsRecK] at hlen
  obtain ⟨y0, y1, y2, y3, y4, rfl⟩ := klen5 hxl
  obtain ⟨c0, c1, c2, c3, c4, rfl⟩ := klen5 hlen
  · clear hxl hlen h
    have g0 := hf 0 _ rfl
    have g1 := hf 1 _ rfl
    have g2 := hf 2 _ rfl
    have g3 := hf 3 _ rfl
    have g4 := hf 4 _ rfl
    simp [Tryz.cellsIntK, Tryz.cellsStrK] at g0 g1 g2 g3 g4
    obtain ⟨n0, e0, _, w0⟩ := DataW.trod_int Tryz.underlying3 g0
    obtain ⟨n1, e1, _, w1⟩ := DataW.trod_int Tryz.underlying3 g1
    obtain ⟨n2, e2, _, w2⟩ := DataW.trod_int Tryz.underlying3 g2
    obtain ⟨s3, e3, _, w3⟩ := DataW.trod_string Tryz.underlying9 g3
    obtain ⟨n4, e4, _, w4⟩ := DataW.trod_int Tryz.underlying3 g4
    simp at e0 e1 e2 e3 e4
    exact ⟨⟨n0, n1, n2, s3, n4⟩, by simp [e0, e1, e2, e3, e4], ⟨wf_inIntK w0, wf_inIntK w1, wf_inIntK w2, wf_inIntK w4, w3⟩⟩

set_option maxRecDepth 100000 in
/-- A record as an argument. -/
theorem kopen_record {v : Value} {d : DataW H} {p : List MemPlace} (hv : Value.okWide Tryz.prog W .any base 53 v) (h : DataW.Trod enc Tryz.prog W 0 (fun _ => true) true 53 v d p) : ∃ x : Rec, v = x.value' ∧ x.fits := by
  obtain ⟨cs, rfl, hs⟩ := okWide_struct Tryz.underlying53 hv
  obtain ⟨fuel, hf⟩ := h
  obtain ⟨x, hx, hfit⟩ := kopen_rec hf
  refine ⟨x, ?_, hfit⟩
  have hc : cs.toList = [.int .i64 x.session, .int .i64 x.epoch, .int .i64 x.number, .string x.key, .int .i64 x.value] := by simpa [Value.cells] using hx
  unfold Rec.value'
  congr 1
  rw [← Array.toList_inj, hc]

theorem kopen_step {n : Nat} {cs : List Value} {y : DataW H × List MemPlace} (h : DataW.trod enc Tryz.prog W base sp held n 55 cs = some y) :
    ∃ x : Stp, cs = [.int .i64 x.kind, .int .i64 x.x.session, .int .i64 x.x.epoch, .int .i64 x.x.number, .string x.x.key, .int .i64 x.x.value, .string x.key, .int .i64 x.n] ∧ x.x.fits ∧ inInt x.kind ∧ inInt x.n ∧ x.key.size ≤ maxLen := by
  obtain ⟨xs, k, _, _, hlen, hxl, hf⟩ := DataW.trod_struct Tryz.underlying55 h
  rw [Tryz.cellsStepK] at hlen
  obtain ⟨y0, y1, y2, y3, rfl⟩ := klen4 hxl
  obtain ⟨c0, c1, c2, c3, c4, c5, c6, c7, rfl⟩ := klen8 hlen
  · clear hxl hlen h
    have g0 := hf 0 _ rfl
    have g1 := hf 1 _ rfl
    have g2 := hf 2 _ rfl
    have g3 := hf 3 _ rfl
    simp [Tryz.cellsIntK, Tryz.cellsStrK, Tryz.cellsRecK] at g0 g1 g2 g3
    obtain ⟨n0, e0, _, w0⟩ := DataW.trod_int Tryz.underlying3 g0
    obtain ⟨x, e1, hx⟩ := kopen_rec g1
    obtain ⟨s2, e2, _, w2⟩ := DataW.trod_string Tryz.underlying9 g2
    obtain ⟨n3, e3, _, w3⟩ := DataW.trod_int Tryz.underlying3 g3
    simp at e0 e1 e2 e3
    exact ⟨⟨n0, x, s2, n3⟩, by simp [e0, e1, e2, e3], hx, wf_inIntK w0, wf_inIntK w3, w2⟩

set_option maxRecDepth 100000 in
theorem kopen_script {v : Value} {d : DataW H} {p : List MemPlace} (hv : Value.okWide Tryz.prog W .any base 25 v) (h : DataW.Trod enc Tryz.prog W 0 (fun _ => true) true 25 v d p) (hw : ∀ n ∈ DataW.weights Tryz.prog 25 d, n ≤ reachBytes) : ∃ L, StepsAt W v L ∧ (Rows.uptoBulk d ≤ 1048576 → L.length ≤ 1048576) := by
  obtain ⟨a0, len0, cap0, rfl⟩ := okWide_slice Tryz.underlying25 hv
  obtain ⟨fuel, hf⟩ := h
  rcases open_slice Tryz.underlying25 hf with ⟨hc, _⟩ | ⟨a, len, cap, m, n, D, Pl, hcs, _, hl, hm, hmm, hdp, hall⟩
  · simp [Value.cells] at hc
    obtain ⟨rfl, rfl, rfl⟩ := hc
    exact ⟨[], ⟨⟨none, 0, rfl⟩, by simp, fun i x hx => by simp at hx, by simp⟩, by simp⟩
  · simp [Value.cells] at hcs
    obtain ⟨rfl, rfl, rfl⟩ := hcs
    simp only [if_true] at hmm
    subst hmm
    have hd := (Prod.mk.inj hdp).1
    have hlen80 : len0 * 80 ≤ 140737488351232 := by
      rw [hd] at hw
      have := hw ((((List.range len0).map D).length + ((List.range (m - len0)).map fun j => D (len0 + j)).length) * Tryz.prog.bytesOf 55) (by simp [DataW.weights, Tryz.underlying25])
      rw [Tryz.bytesStepK] at this
      simp only [List.length_map, List.length_range] at this
      unfold reachBytes at this
      omega
    rw [Tryz.cellsStepK] at hall
    have each : ∀ i, i < m → ∃ x : Stp, (∀ j u, [.int .i64 x.kind, .int .i64 x.x.session, .int .i64 x.x.epoch, .int .i64 x.x.number, .string x.x.key, .int .i64 x.x.value, .string x.key, .int .i64 x.n][j]? = some u → W.cell? (a.add (i * 8 + j)) = some u) ∧ x.x.fits ∧ inInt x.kind ∧ inInt x.n ∧ x.key.size ≤ maxLen := fun i hi => by
      obtain ⟨cs', h1, h2⟩ := hall i hi
      obtain ⟨x, rfl, hx⟩ := kopen_step h2
      obtain ⟨_, _, hcell⟩ := World.cells?_some h1
      refine ⟨x, fun j u hu => ?_, hx⟩
      have hj : j < 8 := by
        have := (List.getElem?_eq_some_iff.1 hu).1
        simpa using this
      have := hcell j hj
      rw [add_add] at this
      rw [this]; exact hu
    obtain ⟨f, hfx⟩ := @choose_lt Stp ⟨⟨0, ⟨0, 0, 0, ⟨#[]⟩, 0⟩, ⟨#[]⟩, 0⟩⟩ _ _ each
    refine ⟨(List.range len0).map f, ⟨⟨some a, m, by simp⟩, by simp only [List.length_map, List.length_range]; exact hlen80, fun i x hx => ?_, fun x hx => ?_⟩, fun hb => ?_⟩
    · have hi : i < len0 := by
        have := (List.getElem?_eq_some_iff.1 hx).1
        simpa using this
      have hxe : f i = x := by
        rw [List.getElem?_map, List.getElem?_range hi] at hx
        simpa using hx
      subst hxe
      obtain ⟨sb, so, spot⟩ := a
      have hc := (hfx i (by omega)).1
      have hspot : spot = none := by
        have := World.cell?_spot ((hfx 0 (by omega)).1 0 _ rfl)
        simpa [Addr.add] using this
      subst hspot
      have hq : ∀ j u, [.int .i64 (f i).kind, .int .i64 (f i).x.session, .int .i64 (f i).x.epoch, .int .i64 (f i).x.number, .string (f i).x.key, .int .i64 (f i).x.value, .string (f i).key, .int .i64 (f i).n][j]? = some u → W.cell? ⟨sb, so + i * 8 + j, none⟩ = some u := fun j u hu => by
        have := hc j u hu
        rw [add_lit'] at this
        rw [show so + i * 8 + j = so + (i * 8 + j) by omega]
        exact this
      exact ⟨sb, so, m, by simp, hq 0 _ rfl, hq 1 _ rfl, hq 2 _ rfl, hq 3 _ rfl, hq 4 _ rfl, hq 5 _ rfl, hq 6 _ rfl, hq 7 _ rfl⟩
    · obtain ⟨i, hi, rfl⟩ := List.mem_map.1 hx
      exact (hfx i (by have := List.mem_range.1 hi; omega)).2
    · rw [hd] at hb
      simp only [Rows.uptoBulk] at hb
      have h1 := kbulk_length ((List.range len0).map D)
      simp only [List.length_map, List.length_range] at h1 ⊢
      omega

end
end Go.Proofs.YthedkdbgfdjlkaaGreatDoor
