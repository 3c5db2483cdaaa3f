/- The other calls that change a relay, at this commit: they look whether it is closed. -/
import Derived.Test.YtdoedjmdcmgddaaGreatR1
import Derived.Test.YtdoedjmdcmgddaaGreatLaw5
namespace Go.Proofs.YtdoedjmdcmgddaaGreat
set_option linter.unusedVariables false
set_option linter.unusedSimpArgs false
open Go.RowKit Go.Lib Go.Conc.Locks

theorem rel_good {w : World} {a : Addr} {s : St} {F : Nat → Prop} (h : RelAt w a (some s) F) : s.good := by
  obtain ⟨b, _, _, _, h⟩ := h
  obtain ⟨_, E, B, V, vk, Q, ks, _, h5, h6, _⟩ := h
  refine ⟨by rw [h6.keys]; exact h5.kl, by rw [h6.keys]; exact h5.led.sorted, fun l hl => ?_⟩
  obtain ⟨i, hi, e⟩ := List.getElem_of_mem hl
  have hi4 : i < 4 := by rw [← h6.four]; exact hi
  obtain ⟨l', g1, g2⟩ := h6.lane i hi4
  have : l' = l := by rw [List.getElem?_eq_getElem hi, e] at g1; exact (Option.some.inj g1).symm
  subst this
  exact ⟨g2.up, fun y hy => by rw [g2.ba]; exact g2.win y hy⟩

/-- A call that only looks whether the relay is closed. -/
theorem rel_look {w w' : World} {b : Nat} {s : St} {F : Nat → Prop} (hb : F b) (h1 : ∀ k, F k → k < w.heap.size) (h2 : RelCase w b F (some s)) (hh : Head w' b 0 false) (hs : Slots b (fun j => j = 0) w w') (hc : Chg (fun k => k = b) w w') : RelAt w' ⟨b, 0, none⟩ (some s) F := by
  obtain ⟨_, E, B, V, vk, Q, ks, h4, h5, h6, h7⟩ := h2
  exact ⟨b, rfl, hb, fun k hk => Nat.lt_of_lt_of_le (h1 k hk) hc.size, hh, E, B, V, vk, Q, ks, h4.beside hs (fun j hj => by omega) hc, h5, h6, h7⟩

theorem rel_answer {w : World} {a : Addr} {s : St} {F : Nat → Prop} (key : ByteArray) (n : Int) (h : RelAt w a (some s) F) : Calls Tryz.prog 30 #[.pointer (some a), .string key, .int .i64 n] w fun e w' =>
    ∃ F' er t, e = .returned (.int .i64 er) ∧ RelAt w' a (some t) F' ∧ s.butHeld t ∧ (er ≠ 0 → t = s) ∧ (∀ k, F' k → F k ∨ w.heap.size ≤ k) ∧ Chg F w w' := by
  obtain ⟨b, rfl, hb, h1, h2⟩ := h
  have hck := check_any h2.1
  go_enter Tryz.func30, Tryz.ntmps30
  go_wp2_with fail
  refine hck.mono ?_
  rintro _ w' ⟨rfl, g1, g2, g3⟩
  go_wp2
  go_ret
  exact ⟨F, 0, s, rfl, rel_look hb h1 h2 g1 g2 g3, ⟨rfl, rfl⟩, fun _ => rfl, fun k hk => .inl hk, g3.mono (fun k hk => by rw [hk]; exact hb)⟩

theorem rel_shrink {w : World} {a : Addr} {s : St} {F : Nat → Prop} (h : RelAt w a (some s) F) : Calls Tryz.prog 31 #[.pointer (some a)] w fun e w' =>
    ∃ F' er, e = .returned (.int .i64 er) ∧ RelAt w' a (some s) F' ∧ (∀ k, F' k → F k ∨ w.heap.size ≤ k) ∧ Chg F w w' := by
  obtain ⟨b, rfl, hb, h1, h2⟩ := h
  have hck := check_any h2.1
  go_enter Tryz.func31, Tryz.ntmps31
  go_wp2_with fail
  refine hck.mono ?_
  rintro _ w' ⟨rfl, g1, g2, g3⟩
  go_wp2
  go_ret
  exact ⟨F, 0, rfl, rel_look hb h1 h2 g1 g2 g3, fun k hk => .inl hk, g3.mono (fun k hk => by rw [hk]; exact hb)⟩

theorem apiB : ApiB RelAt := ⟨rel_good, fun key n h _ _ => rel_answer key n h, rel_shrink⟩

end Go.Proofs.YtdoedjmdcmgddaaGreat
