/- THE SMALL FUNCTIONS OF THE STATEMENTS, WALKED. -/
import Derived.Test.YtdoedjmdcmgddaaGreatApi
namespace Go.Proofs.YtdoedjmdcmgddaaGreat
set_option linter.unusedVariables false
set_option linter.unusedSimpArgs false
open Go.RowKit

def pickI (c n : Int) : Int := if c < 0 then (-(c + 1)) % n else c % n

theorem pickI_range {c n : Int} (hn : 0 < n) : 0 ≤ pickI c n ∧ pickI c n < n := by
  unfold pickI
  split
  · exact ⟨Int.emod_nonneg _ (by omega), Int.emod_lt_of_pos _ hn⟩
  · exact ⟨Int.emod_nonneg _ (by omega), Int.emod_lt_of_pos _ hn⟩

set_option maxHeartbeats 400000 in
theorem pick_neg (c n : Int) (w : World) (hc : inInt c) (hneg : c < 0) (hn : 0 < n) (hn2 : n ≤ 9223372036854775807) :
    Calls Tryz.prog 11 #[.int .i64 c, .int .i64 n] w fun e w' => e = .returned (.int .i64 (pickI c n)) ∧ w' = w := by
  obtain ⟨h1, h2⟩ := hc
  go_enter Tryz.func11, Tryz.ntmps11
  go_wp2
  go_ret
  refine ⟨?_, rfl⟩
  have e : -((c + 1).tmod n) = (-(c + 1)) % n := by rw [← Int.neg_tmod]; exact Int.tmod_eq_emod_of_nonneg (by omega)
  simp [pickI, hneg, e]

set_option maxHeartbeats 400000 in
theorem pick_pos (c n : Int) (w : World) (hc : inInt c) (hneg : ¬ c < 0) (hn : 0 < n) (hn2 : n ≤ 9223372036854775807) :
    Calls Tryz.prog 11 #[.int .i64 c, .int .i64 n] w fun e w' => e = .returned (.int .i64 (pickI c n)) ∧ w' = w := by
  obtain ⟨h1, h2⟩ := hc
  go_enter Tryz.func11, Tryz.ntmps11
  go_wp2
  go_ret
  exact ⟨by simp [pickI, show ¬ c < 0 by omega], rfl⟩

theorem pick_any (c n : Int) (w : World) (hc : inInt c) (hn : 0 < n) (hn2 : n ≤ 9223372036854775807) :
    Calls Tryz.prog 11 #[.int .i64 c, .int .i64 n] w fun e w' => e = .returned (.int .i64 (pickI c n)) ∧ w' = w := by
  by_cases h : c < 0
  · exact pick_neg c n w hc h hn hn2
  · exact pick_pos c n w hc h hn hn2

set_option maxHeartbeats 400000 in
theorem rec_any (a : Int) (k : ByteArray) (v : Int) (w : World) :
    Calls Tryz.prog 24 #[.int .i64 a, .string k, .int .i64 v] w fun e w' => e = .returned (.agg #[.int .i64 0, .int .i64 0, .int .i64 a, .string k, .int .i64 v]) ∧ Chg (fun _ => False) w w' := by
  go_enter Tryz.func24, Tryz.ntmps24
  go_wp2
  refine bodyPost_ret (v := .agg #[.int .i64 0, .int .i64 0, .int .i64 a, .string k, .int .i64 v]) ?_ rfl ⟨rfl, (Chg.refl _ _).alloc _⟩
  simp [results, Tryz.results24, go_sem]

theorem Api.alloc {R : World → Addr → Option St → (Nat → Prop) → Prop} (H : Api R) {w : World} {a : Addr} {o : Option St} {F : Nat → Prop} (hR : R w a o F) (b : Obj) : R (w.alloc b) a o F :=
  H.stable hR fun k hk => Below.heap_alloc _ _ _ (H.lt hR hk)

theorem size_alloc (w : World) (b : Obj) : (w.alloc b).heap.size = w.heap.size + 1 := by simp

/-- A step as a value. -/
structure Stp where
  kind : Int
  x : Rec
  key : ByteArray
  n : Int

def Stp.value' (o : Stp) : Value := .agg #[.int .i64 o.kind, .int .i64 o.x.session, .int .i64 o.x.epoch, .int .i64 o.x.number, .string o.x.key, .int .i64 o.x.value, .string o.key, .int .i64 o.n]

set_option maxHeartbeats 400000 in
/-- does at an Accept. -/
theorem does_accept {R : World → Addr → Option St → (Nat → Prop) → Prop} (H : Api R) {w : World} {a : Addr} {o : Option St} {F : Nat → Prop} (p : Stp) (hk : p.kind = 0) (hR : R w a o F) (hx : p.x.fits) :
    Calls Tryz.prog 15 #[.pointer (some a), p.value'] w fun e w' =>
      ∃ F', e = .returned (.bool ((accept? o p.x).1.2 == 0)) ∧ R w' a (accept? o p.x).2 F' ∧ (∀ k, F' k → F k ∨ w.heap.size ≤ k) ∧ Chg F w w' := by
  obtain ⟨kind, ⟨s, e, n, k, v⟩, key, m⟩ := p
  simp only at hk hx
  subst hk
  simp only [Stp.value']
  go_enter Tryz.func15, Tryz.ntmps15
  go_wp2_with fail
  refine (H.accept ⟨s, e, n, k, v⟩ (H.alloc hR _) hx).mono ?_
  rintro _ w1 ⟨F', rfl, hR1, hF1, hc1⟩
  go_wp2
  go_ret
  refine ⟨F', rfl, hR1, fun k hk => (hF1 k hk).imp id (fun h => by rw [size_alloc] at h; omega), ?_⟩
  exact ((Chg.refl F w).alloc _).trans hc1 (fun _ _ h => h)

end Go.Proofs.YtdoedjmdcmgddaaGreat
