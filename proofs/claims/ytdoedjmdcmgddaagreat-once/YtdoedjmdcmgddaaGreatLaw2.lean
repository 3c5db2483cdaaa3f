/- taking: THE DOCUMENT'S FIRST EXAMPLE, WALKED. -/
import Derived.Test.YtdoedjmdcmgddaaGreatLaw1
namespace Go.Proofs.YtdoedjmdcmgddaaGreat
set_option linter.unusedVariables false
set_option linter.unusedSimpArgs false
open Go.RowKit

variable {R : World → Addr → Option St → (Nat → Prop) → Prop}

/-- A relay stays as it is where nothing that was there turns. -/
theorem Api.keep (H : Api R) {w w' : World} {a : Addr} {o : Option St} {F : Nat → Prop} (hR : R w a o F) (hc : Chg (fun _ => False) w w') : R w' a o F :=
  H.stable hR fun k hk => hc.block k (H.lt hR hk) id

def exS : ByteArray := { data := #[115] }
def ex0 : Rec := ⟨0, 0, 0, exS, 5⟩
def ex2 : Rec := ⟨0, 0, 2, exS, 7⟩
def ex1 : Rec := ⟨0, 0, 1, exS, 6⟩
def ex7 : Rec := ⟨0, 0, 7, exS, 1⟩
def exO1 : Option St := (accept? (some St.init) ex0).2
def exO2 : Option St := (accept? exO1 ex2).2
def exO3 : Option St := (accept? exO2 ex1).2
def exSt : St := ⟨[⟨0, 3, []⟩, Ln.init, Ln.init, Ln.init], [⟨exS, 3, 18, 0⟩]⟩

theorem ex0_fits : ex0.fits := ⟨by unfold inInt; decide, by unfold inInt; decide, by unfold inInt; decide, by unfold inInt; decide, by decide⟩
theorem ex1_fits : ex1.fits := ⟨by unfold inInt; decide, by unfold inInt; decide, by unfold inInt; decide, by unfold inInt; decide, by decide⟩
theorem ex2_fits : ex2.fits := ⟨by unfold inInt; decide, by unfold inInt; decide, by unfold inInt; decide, by unfold inInt; decide, by decide⟩
theorem ex7_fits : ex7.fits := ⟨by unfold inInt; decide, by unfold inInt; decide, by unfold inInt; decide, by unfold inInt; decide, by decide⟩
theorem ex_a1 : (accept? (some St.init) ex0).1 = (1, 0) := by rfl
theorem ex_a2 : (accept? exO1 ex2).1 = (1, 0) := by rfl
theorem ex_a3 : (accept? exO2 ex1).1 = (3, 0) := by rfl
theorem ex_a4 : (accept? exO3 ex7).1 = (0, 5) := by rfl
theorem ex_o3 : exO3 = some exSt := by rfl

set_option maxHeartbeats 1000000 in
theorem taking_any (H : Api R) (w : World) :
    Calls Tryz.prog 8 #[] w fun e w' => e = .returned (.bool true) ∧ Chg (fun _ => False) w w' := by
  go_enter Tryz.func8, Tryz.ntmps8
  go_wp2_with fail
  refine (H.new w).mono ?_
  rintro _ w1 ⟨a, F1, rfl, hR1, hF1, hc1⟩
  go_wp2_with fail
  refine (rec_any _ _ _ _).mono ?_
  rintro _ w2 ⟨rfl, hc2⟩
  go_wp2_with fail
  refine (H.accept ex0 (H.keep hR1 hc2) ex0_fits).mono ?_
  rintro _ w3 ⟨F3, rfl, hR3, hF3, hc3⟩
  rw [ex_a1]
  go_wp2_with fail
  refine (rec_any _ _ _ _).mono ?_
  rintro _ w4 ⟨rfl, hc4⟩
  go_wp2_with fail
  refine (H.accept ex2 (H.keep hR3 hc4) ex2_fits).mono ?_
  rintro _ w5 ⟨F5, rfl, hR5, hF5, hc5⟩
  rw [show (accept? (accept? (some St.init) ex0).2 ex2).1 = (1, 0) from ex_a2]
  go_wp2_with fail
  refine (rec_any _ _ _ _).mono ?_
  rintro _ w6 ⟨rfl, hc6⟩
  go_wp2_with fail
  refine (H.accept ex1 (H.keep hR5 hc6) ex1_fits).mono ?_
  rintro _ w7 ⟨F7, rfl, hR7, hF7, hc7⟩
  rw [show (accept? (accept? (accept? (some St.init) ex0).2 ex2).2 ex1).1 = (3, 0) from ex_a3]
  replace hR7 : R w7 a (some exSt) F7 := hR7
  go_wp2_with fail
  refine (H.state hR7).mono ?_
  rintro _ w8 ⟨vs, vk, rfl, hs8, hR8, hc8⟩
  obtain ⟨us, hu1, hu2, hu3⟩ := hs8.sess
  obtain ⟨g, cap, rfl, hg, hcap, hcell⟩ := row_pos hu2 (by decide)
  obtain ⟨g2, cap2, rfl, hg2, hcap2, hcell2⟩ := row_pos hs8.keys (by decide)
  obtain ⟨u0, us1, rfl⟩ : ∃ u0 us1, us = u0 :: us1 := by
    cases us with
    | nil => simp [exSt, state?] at hu1
    | cons x y => exact ⟨x, y, rfl⟩
  have c1 : w8.cell? ⟨g, 1, none⟩ = some (.int .i64 3) := hcell 1 _ rfl
  have d0 : w8.cell? ⟨g2, 0, none⟩ = some (.string { data := #[115] }) := hcell2 0 _ rfl
  have d1 : w8.cell? ⟨g2, 1, none⟩ = some (.int .i64 3) := hcell2 1 _ rfl
  have d2 : w8.cell? ⟨g2, 2, none⟩ = some (.int .i64 18) := hcell2 2 _ rfl
  have d3 : w8.cell? ⟨g2, 3, none⟩ = some (.int .i64 0) := hcell2 3 _ rfl
  have hF8 : ∀ k, F7 k → k < w7.heap.size := fun k hk => H.lt hR7 hk
  have hlanes : (state? (some exSt)).lanes.length = 4 := rfl
  have hkeys : (state? (some exSt)).keys.length = 1 := rfl
  have herr : errno? (some exSt) = 0 := rfl
  rw [hlanes, hkeys, herr]
  clear hu1 hu2 hu3 hs8 hcell hcell2 hcap hcap2 hlanes hkeys herr
  go_wp2_with fail
  refine (rec_any _ _ _ _).mono ?_
  rintro _ w9 ⟨rfl, hc9⟩
  go_wp2_with fail
  refine (H.accept ex7 (H.keep (H.alloc hR8 _) hc9) ex7_fits).mono ?_
  rintro _ w10 ⟨F10, rfl, hR10, hF10, hc10⟩
  rw [show (accept? (some exSt) ex7).1 = (0, 5) from rfl]
  have hw8 : Chg F7 w8 w10 := (((Chg.refl F7 w8).alloc _).trans hc9 (fun _ _ h => h.elim)).trans hc10 (fun _ _ h => h)
  have hlt := hc8.size
  replace c1 := hw8.cellAt c1 (fun h => by have := hF8 _ h; omega)
  replace d0 := hw8.cellAt d0 (fun h => by have := hF8 _ h; omega)
  replace d1 := hw8.cellAt d1 (fun h => by have := hF8 _ h; omega)
  replace d2 := hw8.cellAt d2 (fun h => by have := hF8 _ h; omega)
  replace d3 := hw8.cellAt d3 (fun h => by have := hF8 _ h; omega)
  have s0 := hc10.cellAt (hc9.cellAt (World.cell?_alloc_at (w := w8) #[.slice (some ⟨g, 0, none⟩) 4 cap, .slice (some ⟨g2, 0, none⟩) 1 cap2] 52 w8.heap.size 0 rfl) id) (fun h => by have := hF8 _ h; omega)
  have s1 := hc10.cellAt (hc9.cellAt (World.cell?_alloc_at (w := w8) #[.slice (some ⟨g, 0, none⟩) 4 cap, .slice (some ⟨g2, 0, none⟩) 1 cap2] 52 w8.heap.size 1 rfl) id) (fun h => by have := hF8 _ h; omega)
  have h3 := hc1.step hc2 (fun _ h => h.elim)
  have y3 := h3.young hF1 hF3
  have h4 := (h3.step hc3 hF1).step hc4 (fun _ h => h.elim)
  have y5 := h4.young y3 hF5
  have h6 := (h4.step hc5 y3).step hc6 (fun _ h => h.elim)
  have y7 := h6.young y5 hF7
  have hall := ((h6.step hc7 y5).step hc8 y7).step hw8 y7
  clear hR1 hF1 hc1 hc2 hR3 hF3 hc3 hc4 hR5 hF5 hc5 hc6 hF7 hc7 hR7 hR8 hc8 hF8 hg hg2 hc9 hR10 hF10 hc10 hw8 hlt h3 y3 h4 y5 h6 y7
  go_wp2
  go_ret
  exact ⟨rfl, hall⟩

end Go.Proofs.YtdoedjmdcmgddaaGreat
