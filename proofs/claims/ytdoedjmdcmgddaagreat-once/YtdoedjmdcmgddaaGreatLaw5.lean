/- Bounded, WALKED: what it takes beside, and what it counts. -/
import Derived.Test.YtdoedjmdcmgddaaGreatLaw4
namespace Go.Proofs.YtdoedjmdcmgddaaGreat
set_option linter.unusedVariables false
set_option linter.unusedSimpArgs false
open Go.RowKit

variable {R : World → Addr → Option St → (Nat → Prop) → Prop}

/-- What a state keeps to, beside 'fine'. -/
structure St.good (s : St) : Prop where
  few : s.keys.length ≤ 4
  sorted : s.keys.Pairwise fun a b => less a.name b.name = true
  wait : ∀ l ∈ s.lanes, (l.ws.Pairwise fun a b => a.num < b.num) ∧ ∀ y ∈ l.ws, l.base < y.num ∧ y.num < l.base + 4

/-- Nothing but what the sink holds may differ. -/
structure St.butHeld (s t : St) : Prop where
  lanes : t.lanes = s.lanes
  counts : counts t.keys = counts s.keys

/-- The other calls that change a relay. -/
structure ApiB (R : World → Addr → Option St → (Nat → Prop) → Prop) : Prop where
  good : ∀ {w a s F}, R w a (some s) F → s.good
  answer : ∀ {w a s F} (key : ByteArray) (n : Int), R w a (some s) F → key.size ≤ maxLen → inInt n → Calls Tryz.prog 30 #[.pointer (some a), .string key, .int .i64 n] w fun e w' =>
    ∃ F' er t, e = .returned (.int .i64 er) ∧ R w' a (some t) F' ∧ s.butHeld t ∧ (er ≠ 0 → t = s) ∧ (∀ k, F' k → F k ∨ w.heap.size ≤ k) ∧ Chg F w w'
  shrink : ∀ {w a s F}, R w a (some s) F → Calls Tryz.prog 31 #[.pointer (some a)] w fun e w' =>
    ∃ F' er, e = .returned (.int .i64 er) ∧ R w' a (some s) F' ∧ (∀ k, F' k → F k ∨ w.heap.size ≤ k) ∧ Chg F w w'

theorem St.butHeld.records {s t : St} (h : s.butHeld t) : t.records = s.records := by
  unfold St.records; rw [h.lanes, h.counts]

/-- An error changes nothing. -/
theorem accept_err {s : St} {x : Rec} (h : (accept s x).1.2 ≠ 0) : (accept s x).2 = s := by
  unfold accept at h ⊢
  split
  · rfl
  · split
    · rfl
    · rename_i h1 h2
      rw [if_neg h1, if_neg h2] at h
      split
      · rfl
      · rename_i l hl
        rw [hl] at h
        simp only at h
        unfold acceptIn at h ⊢
        simp only at h ⊢
        split
        · rfl
        · split
          · rfl
          · split
            · rfl
            · split
              · rfl
              · split
                · rfl
                · rename_i g1 g2 g3 g4 g5
                  rw [if_neg g1, if_neg g2, if_neg g3, if_neg g4, if_neg g5] at h
                  exact absurd rfl h

theorem putW_length (x : Wt) : ∀ l : List Wt, (putW x l).length = l.length + 1
  | [] => rfl
  | y :: r => by
    unfold putW
    split
    · simp
    · simp [putW_length x r]

theorem drain_len : ∀ (b : Int) (ws : List Wt) (ks : List Ky), counts (drainW b ws ks).2.2 + (drainW b ws ks).2.1.length = counts ks + ws.length
  | b, [], ks => by simp [drainW]
  | b, x :: r, ks => by
    by_cases hb : x.num = b
    · have := drain_len (b + 1) r (takeKy x.key x.val ks)
      rw [counts_takeKy] at this
      simp only [drainW, if_pos hb]
      simp; omega
    · simp only [drainW, if_neg hb]

theorem waits_set : ∀ (ls : List Ln) (i : Nat) (l l' : Ln), ls[i]? = some l → waits (ls.set i l') = waits ls - l.ws.length + l'.ws.length
  | [], i, l, l', h => by simp at h
  | x :: r, 0, l, l', h => by
    simp at h; subst h
    simp [waits]; omega
  | x :: r, i + 1, l, l', h => by
    have := waits_set r i l l' (by simpa using h)
    simp [waits, this]; omega

/-- An Accept adds one record at most. -/
theorem accept_records (s : St) (x : Rec) : (accept s x).2.records ≤ s.records + 1 := by
  unfold accept
  split
  · simp only; omega
  · split
    · simp only; omega
    · split
      · simp only; omega
      · rename_i l hl
        unfold acceptIn
        simp only
        split
        · simp only; omega
        · split
          · simp only; omega
          · split
            · simp only; omega
            · split
              · simp only; omega
              · split
                · simp only; omega
                · simp only
                  have h1 := drain_len (l.turned x.epoch).base (putW ⟨x.number, x.key, x.value⟩ (l.turned x.epoch).ws) s.keys
                  rw [putW_length] at h1
                  have h2 : ((l.turned x.epoch).ws.length : Int) ≤ l.ws.length := by
                    unfold Ln.turned
                    split
                    · simp
                    · omega
                  unfold St.records
                  simp only
                  rw [waits_set _ _ _ _ hl]
                  simp only
                  omega

/-- What a step may add. -/
def gain (d : Bool) (kind : Int) : Int := if d = true ∧ kind = 0 then 1 else 0

theorem gain_pos (d : Bool) (kind : Int) : 0 ≤ gain d kind ∧ gain d kind ≤ 1 := by
  unfold gain; split <;> omega

/-- What a step makes of a state: was it done? -/
structure StepOK (s : St) (kind : Int) (d : Bool) (t : St) : Prop where
  same : d = false ∨ 1 < kind → t = s
  more : t.records ≤ s.records + gain d kind

set_option maxHeartbeats 1000000 in
theorem does_any (H : Api R) (HB : ApiB R) {w : World} {a : Addr} {s : St} {F : Nat → Prop} (p : Stp) (hR : R w a (some s) F) (hx : p.x.fits) (hm : inInt p.kind ∧ inInt p.n ∧ p.key.size ≤ maxLen) :
    Calls Tryz.prog 15 #[.pointer (some a), p.value'] w fun e w' => ∃ F' d t, e = .returned (.bool d) ∧ R w' a (some t) F' ∧ (∀ k, F' k → F k ∨ w.heap.size ≤ k) ∧ Chg F w w' ∧ StepOK s p.kind d t := by
  by_cases h0 : p.kind = 0
  · refine (does_accept H p h0 hR hx).mono ?_
    rintro e w' ⟨F', rfl, h1, h2, h3⟩
    refine ⟨F', _, _, rfl, h1, h2, h3, fun h => ?_, ?_⟩
    · rcases h with h | h
      · refine accept_err fun e => ?_
        simp only [accept?] at h
        rw [e] at h
        cases h
      · omega
    · have := accept_records s p.x
      by_cases e : (accept s p.x).1.2 = 0
      · have hg : gain ((accept? (some s) p.x).1.2 == 0) p.kind = 1 := by
          unfold gain; rw [if_pos]; exact ⟨by simp only [accept?]; simpa using e, h0⟩
        rw [hg]
        exact this
      · have hg := (gain_pos ((accept s p.x).1.2 == 0) p.kind).1
        have e2 : (accept s p.x).2 = s := accept_err e
        simp only [accept?]
        rw [e2]
        omega
  · obtain ⟨kind, ⟨se, ep, n, k, v⟩, key, m⟩ := p
    simp only at h0 hx hm
    simp only [Stp.value']
    have c0 : Chg F w (w.alloc (.cells #[.int .i64 kind, .int .i64 se, .int .i64 ep, .int .i64 n, .string k, .int .i64 v, .string key, .int .i64 m] 47)) := (Chg.refl F w).alloc _
    have hz : w.heap.size ≤ (w.alloc (.cells #[.int .i64 kind, .int .i64 se, .int .i64 ep, .int .i64 n, .string k, .int .i64 v, .string key, .int .i64 m] 47)).heap.size := c0.size
    have h0' : (kind == 0) = false := by simpa using h0
    by_cases h1 : kind = 1
    · have h1' : (kind == 1) = true := by simpa using h1
      have han := HB.answer key m (H.alloc hR (.cells #[.int .i64 kind, .int .i64 se, .int .i64 ep, .int .i64 n, .string k, .int .i64 v, .string key, .int .i64 m] 47)) hm.2.2 hm.2.1
      have H1 : Hid (kind = 1) := h1
      clear h1 h0
      go_enter Tryz.func15, Tryz.ntmps15
      go_wp2_with fail
      refine han.mono ?_
      rintro _ w1 ⟨F', er, t, rfl, hR1, hb, hs, hF1, hc1⟩
      clear han
      go_wp2
      go_ret
      refine ⟨F', _, t, rfl, hR1, fun k hk => (hF1 k hk).imp id (fun h => by omega), c0.trans hc1 (fun _ _ h => h), fun h => ?_, by rw [hb.records]; have := (gain_pos (er == 0) kind).1; omega⟩
      rcases h with h | h
      · exact hs (by simpa using h)
      · have := H1.out; omega
    · have h1' : (kind == 1) = false := by simpa using h1
      by_cases h2 : kind = 2
      · have h2' : (kind == 2) = true := by simpa using h2
        have hsh := HB.shrink (H.alloc hR (.cells #[.int .i64 kind, .int .i64 se, .int .i64 ep, .int .i64 n, .string k, .int .i64 v, .string key, .int .i64 m] 47))
        clear h2 h1 h0
        go_enter Tryz.func15, Tryz.ntmps15
        go_wp2_with fail
        refine hsh.mono ?_
        rintro _ w1 ⟨F', er, rfl, hR1, hF1, hc1⟩
        clear hsh
        go_wp2
        go_ret
        exact ⟨F', _, s, rfl, hR1, fun k hk => (hF1 k hk).imp id (fun h => by omega), c0.trans hc1 (fun _ _ h => h), fun _ => rfl, by have := fun d => (gain_pos d kind).1; first | (have := this true; omega) | (have := this false; omega) | exact Int.le_add_of_nonneg_right (this _)⟩
      · have h2' : (kind == 2) = false := by simpa using h2
        clear h2 h1 h0
        go_enter Tryz.func15, Tryz.ntmps15
        go_wp2
        go_ret
        exact ⟨F, _, s, rfl, H.alloc hR _, fun k hk => .inl hk, c0, fun _ => rfl, by have := fun d => (gain_pos d kind).1; first | (have := this true; omega) | (have := this false; omega) | exact Int.le_add_of_nonneg_right (this _)⟩

end Go.Proofs.YtdoedjmdcmgddaaGreat
