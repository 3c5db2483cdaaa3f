/- Once: what holds from call to call. -/
import Derived.Test.YtdoedjmdcmgddaaGreatLaw12
namespace Go.Proofs.YtdoedjmdcmgddaaGreat
set_option linter.unusedVariables false
set_option linter.unusedSimpArgs false
open Go.RowKit Go.Lib

variable {R : World → Addr → Option St → (Nat → Prop) → Prop}

/-- The relay, the order and the records beside one another. -/
structure Half (R : World → Addr → Option St → (Nat → Prop) → Prop) (w : World) (a : Addr) (ob lo : Nat) (va vl : Value) (all ol : List Rec) (s : St) (F : Nat → Prop) (B : Nat → Int) : Prop where
  rel : R w a (some s) F
  ord : OrdAt w ob lo vl ol B
  row : w.ownsRow lo 37 5 va all.length (recCells all)
  fo : ¬ F ob
  fl : ∀ k, vl.ownBlock = some k → ¬ F k
  fa : ∀ k, va.ownBlock = some k → ¬ F k
  ao : va.ownBlock ≠ some ob
  sep : ∀ g, va.ownBlock = some g → vl.ownBlock ≠ some g
  lo : lo ≤ w.heap.size

theorem Half.keep (H : Api R) {w w' : World} {a : Addr} {ob lo : Nat} {va vl : Value} {all ol : List Rec} {s : St} {F : Nat → Prop} {B : Nat → Int} (h : Half R w a ob lo va vl all ol s F B) (c : Chg (fun _ => False) w w') : Half R w' a ob lo va vl all ol s F B :=
  ⟨H.keep h.rel c, h.ord.chg c id (fun _ _ h => h), c.row' h.row (fun _ _ h => h), h.fo, h.fl, h.fa, h.ao, h.sep, Nat.le_trans h.lo c.size⟩

theorem Half.accept {w w' : World} {a : Addr} {ob lo : Nat} {va vl : Value} {all ol : List Rec} {s s' : St} {F F' : Nat → Prop} {B : Nat → Int} (h : Half R w a ob lo va vl all ol s F B) (c : Chg F w w') (hF : ∀ k, F' k → F k ∨ w.heap.size ≤ k) (hR : R w' a (some s') F') : Half R w' a ob lo va vl all ol s' F' B := by
  have hob : ob < w.heap.size := World.block_lt_of_cell? _ _ h.ord.list
  refine ⟨hR, h.ord.chg c h.fo h.fl, c.row' h.row h.fa, fun hk => ?_, fun k hk hf => ?_, fun k hk hf => ?_, h.ao, h.sep, Nat.le_trans h.lo c.size⟩
  · rcases hF _ hk with e | e
    · exact h.fo e
    · omega
  · rcases hF _ hf with e | e
    · exact h.fl k hk e
    · have := (h.ord.row.lt k hk).2; omega
  · rcases hF _ hf with e | e
    · exact h.fa k hk e
    · have := (h.row.lt k hk).2; omega

theorem Half.more (H : Api R) {w w' : World} {a : Addr} {ob lo : Nat} {va vl vl' : Value} {all ol ol' : List Rec} {s : St} {F : Nat → Prop} {B B' : Nat → Int} (h : Half R w a ob lo va vl all ol s F B) (ho : OrdAt w' ob lo vl' ol' B') (hW : Wh w.heap.size vl vl') (c : Chg (fun k => k = ob ∨ vl.ownBlock = some k) w w') : Half R w' a ob lo va vl' all ol' s F B' := by
  refine ⟨H.stable h.rel (fun k hk => c.block k (H.lt h.rel hk) (fun e => ?_)), ho, c.row' h.row (fun k hk e => ?_), h.fo, fun k hk hf => ?_, h.fa, h.ao, fun g hg hv => ?_, Nat.le_trans h.lo c.size⟩
  · rcases e with e | e
    · exact h.fo (by rw [← e]; exact hk)
    · exact h.fl k e hk
  · rcases e with e | e
    · exact h.ao (by rw [← e]; exact hk)
    · exact h.sep k hk e
  · rcases hW with e | e
    · exact h.fl k (by rw [← e]; exact hk) hf
    · have := e k hk
      have := H.lt h.rel hf
      omega
  · rcases hW with e | e
    · exact h.sep g hg (by rw [← e]; exact hv)
    · have := e g hv
      have := (h.row.lt g hg).2
      omega

/-- What is young stays so. -/
theorem young_more {w0 w w' : World} {ob : Nat} {vl : Value} {ol : List Rec} {B : Nat → Int} (h : Chg (fun _ => False) w0 w) (ho : OrdAt w ob w0.heap.size vl ol B) (hob : w0.heap.size ≤ ob) (c : Chg (fun k => k = ob ∨ vl.ownBlock = some k) w w') : Chg (fun _ => False) w0 w' :=
  h.step c (fun k hk => by
    rcases hk with e | e
    · omega
    · exact (ho.row.lt k e).1)

def basesOf (s : St) (B : Nat → Int) : Prop := ∀ (j : Nat) (l : Ln), s.lanes[j]? = some l → l.base = B j

theorem Took.bases {all ol : List Rec} {s : St} {i : Nat} {l : Ln} {x : Rec} {b : Int} (h : Took all ol s i l x b) {B : Nat → Int} (hB : basesOf s B) : basesOf (accept s x).2 (fun j => if j = i then b else B j) := by
  intro j l' hl'
  by_cases e : j = i
  · subst e
    obtain ⟨l2, h1, h2⟩ := h.here
    rw [h1] at hl'
    have := Option.some.inj hl'
    subst this
    simp [h2]
  · rw [h.there j e] at hl'
    simp [e]
    exact hB j l' hl'

theorem numbered_at {all : List Rec} (hN : Numbered all) {p : Nat} {x : Rec} (hx : all[p]? = some x) {i : Nat} (hi : x.session = i) : x.number = (ofS (all.take p) i).length := by
  obtain ⟨hl, e⟩ := List.getElem?_eq_some_iff.1 hx
  have h1 : all = all.take p ++ x :: all.drop (p + 1) := by
    conv => lhs; rw [← List.take_append_drop p all]
    rw [List.drop_eq_getElem_cons hl, e]
  refine hN.num i _ x ?_
  conv => lhs; arg 1; rw [h1]
  unfold ofS
  rw [List.filter_append, List.getElem?_append_right (Nat.le_refl _), Nat.sub_self, List.filter_cons, if_pos (by simp [hi])]
  rfl

theorem ofS_take_next {all : List Rec} {p : Nat} {x : Rec} (hx : all[p]? = some x) (j : Nat) : (ofS (all.take (p + 1)) j).length = (ofS (all.take p) j).length + if x.session = j then 1 else 0 := by
  obtain ⟨hl, e⟩ := List.getElem?_eq_some_iff.1 hx
  rw [List.take_succ_eq_append_getElem hl, e, ofS_snoc]
  split <;> simp

theorem basesOf_init : basesOf St.init (fun _ => 0) := by
  intro j l h
  have := List.mem_of_getElem? h
  simp [St.init] at this
  subst this
  rfl

/-- A list of numbers in memory. -/
structure IntsAt (w : World) (v : Value) (P : List Int) : Prop where
  val : ∃ p cap, v = .slice p P.length cap
  len : P.length ≤ 9223372036854775807
  cells : ∀ i x, P[i]? = some x → ∃ sb so cap, v = .slice (some ⟨sb, so, none⟩) P.length cap ∧ w.cell? ⟨sb, so + i, none⟩ = some (.int .i64 x)
  fits : ∀ x ∈ P, inInt x

end Go.Proofs.YtdoedjmdcmgddaaGreat
