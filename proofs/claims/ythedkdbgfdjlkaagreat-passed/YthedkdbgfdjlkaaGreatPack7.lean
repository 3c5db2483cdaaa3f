import Derived.BigQuiet
import Derived.Test.YthedkdbgfdjlkaaGreatRows
import Derived.ProofKit
import Derived.OpenShut
import Derived.Carry
import Derived.Deep.Slices
import Derived.Test.YthedkdbgfdjlkaaGreatPack1
import Derived.Test.YthedkdbgfdjlkaaGreatPack2
import Derived.Test.YthedkdbgfdjlkaaGreatPack3
import Derived.Test.YthedkdbgfdjlkaaGreatPack4
import Derived.Test.YthedkdbgfdjlkaaGreatPack5
import Derived.Test.YthedkdbgfdjlkaaGreatPack6
/- THE SMALL FUNCTIONS OF THE STATEMENTS, WALKED. -/
namespace Go.Proofs.YthedkdbgfdjlkaaGreat
set_option linter.unusedVariables false
set_option linter.unusedSimpArgs false
open Go.RowKit

def pickI (c n : Int) : Int := if c < 0 then (-(c + 1)) % n else c % n

theorem pickI_range {c n : Int} (hn : 0 < n) : 0 ≤ pickI c n ∧ pickI c n < n := by
  unfold pickI
  split
  · exact ⟨Int.emod_nonneg _ (by omega), Int.emod_lt_of_pos _ hn⟩
  · exact ⟨Int.emod_nonneg _ (by omega), Int.emod_lt_of_pos _ hn⟩

set_option maxHeartbeats 400000 in
theorem pick_neg (c n : Int) (w : World) (hc : inInt c) (hneg : c < 0) (hn : 0 < n) (hn2 : n ≤ 9223372036854775807) :
    Calls Tryz.prog 10 #[.int .i64 c, .int .i64 n] w fun e w' => e = .returned (.int .i64 (pickI c n)) ∧ w' = w := by
  obtain ⟨h1, h2⟩ := hc
  go_enter Tryz.func10, Tryz.ntmps10
  go_wp2
  go_ret
  refine ⟨?_, rfl⟩
  have e : -((c + 1).tmod n) = (-(c + 1)) % n := by rw [← Int.neg_tmod]; exact Int.tmod_eq_emod_of_nonneg (by omega)
  simp [pickI, hneg, e]

set_option maxHeartbeats 400000 in
theorem pick_pos (c n : Int) (w : World) (hc : inInt c) (hneg : ¬ c < 0) (hn : 0 < n) (hn2 : n ≤ 9223372036854775807) :
    Calls Tryz.prog 10 #[.int .i64 c, .int .i64 n] w fun e w' => e = .returned (.int .i64 (pickI c n)) ∧ w' = w := by
  obtain ⟨h1, h2⟩ := hc
  go_enter Tryz.func10, Tryz.ntmps10
  go_wp2
  go_ret
  exact ⟨by simp [pickI, show ¬ c < 0 by omega], rfl⟩

theorem pick_any (c n : Int) (w : World) (hc : inInt c) (hn : 0 < n) (hn2 : n ≤ 9223372036854775807) :
    Calls Tryz.prog 10 #[.int .i64 c, .int .i64 n] w fun e w' => e = .returned (.int .i64 (pickI c n)) ∧ w' = w := by
  by_cases h : c < 0
  · exact pick_neg c n w hc h hn hn2
  · exact pick_pos c n w hc h hn hn2

set_option maxHeartbeats 400000 in
theorem rec_any (a : Int) (k : ByteArray) (v : Int) (w : World) :
    Calls Tryz.prog 23 #[.int .i64 a, .string k, .int .i64 v] w fun e w' => e = .returned (.agg #[.int .i64 0, .int .i64 0, .int .i64 a, .string k, .int .i64 v]) ∧ Chg (fun _ => False) w w' := by
  go_enter Tryz.func23, Tryz.ntmps23
  go_wp2
  refine bodyPost_ret (v := .agg #[.int .i64 0, .int .i64 0, .int .i64 a, .string k, .int .i64 v]) ?_ rfl ⟨rfl, (Chg.refl _ _).alloc _⟩
  simp [results, Tryz.results23, go_sem]

theorem Api.alloc {R : World → Addr → Option St → (Nat → Prop) → Prop} (H : Api R) {w : World} {a : Addr} {o : Option St} {F : Nat → Prop} (hR : R w a o F) (b : Obj) : R (w.alloc b) a o F :=
  H.stable hR fun k hk => Below.heap_alloc _ _ _ (H.lt hR hk)

theorem size_alloc (w : World) (b : Obj) : (w.alloc b).heap.size = w.heap.size + 1 := by simp

/-- A step as a value. -/
structure Stp where
  kind : Int
  x : Rec
  key : ByteArray
  n : Int

def Stp.value' (o : Stp) : Value := .agg #[.int .i64 o.kind, .int .i64 o.x.session, .int .i64 o.x.epoch, .int .i64 o.x.number, .string o.x.key, .int .i64 o.x.value, .string o.key, .int .i64 o.n]

set_option maxHeartbeats 400000 in
/-- does at an Accept. -/
theorem does_accept {R : Nat → World → Addr → Option St → (Nat → Prop) → Prop} (H : ApiN R) {n0 : Nat} {w : World} {a : Addr} {o : Option St} {F : Nat → Prop} (p : Stp) (hk : p.kind = 0) (hR : R n0 w a o F) (hn0 : n0 ≤ roomy) (hx : p.x.fits) :
    Calls Tryz.prog 14 #[.pointer (some a), p.value'] w fun e w' =>
      ∃ F', e = .returned (.bool ((accept? o p.x).1.2 == 0)) ∧ R (n0 + 32) w' a (accept? o p.x).2 F' ∧ (∀ k, F' k → F k ∨ w.heap.size ≤ k) ∧ Chg F w w' := by
  obtain ⟨kind, ⟨s, e, n, k, v⟩, key, m⟩ := p
  simp only at hk hx
  subst hk
  simp only [Stp.value']
  go_enter Tryz.func14, Tryz.ntmps14
  go_wp2_with fail
  refine (H.acc ⟨s, e, n, k, v⟩ (H.alloc hR _) hn0 hx).mono ?_
  rintro _ w1 ⟨F', rfl, hR1, hF1, hc1⟩
  go_wp2
  go_ret
  refine ⟨F', rfl, hR1, fun k hk => (hF1 k hk).imp id (fun h => by rw [size_alloc] at h; omega), ?_⟩
  exact ((Chg.refl F w).alloc _).trans hc1 (fun _ _ h => h)

end Go.Proofs.YthedkdbgfdjlkaaGreat

/- taking: THE DOCUMENT'S FIRST EXAMPLE, WALKED. -/
namespace Go.Proofs.YthedkdbgfdjlkaaGreat
set_option linter.unusedVariables false
set_option linter.unusedSimpArgs false
open Go.RowKit

variable {R : World → Addr → Option St → (Nat → Prop) → Prop}

/-- A relay stays as it is where nothing that was there turns. -/
theorem Api.keep (H : Api R) {w w' : World} {a : Addr} {o : Option St} {F : Nat → Prop} (hR : R w a o F) (hc : Chg (fun _ => False) w w') : R w' a o F :=
  H.stable hR fun k hk => hc.block k (H.lt hR hk) id

def exS : ByteArray := { data := #[115] }
def ex0 : Rec := ⟨0, 0, 0, exS, 5⟩
def ex2 : Rec := ⟨0, 0, 2, exS, 7⟩
def ex1 : Rec := ⟨0, 0, 1, exS, 6⟩
def ex7 : Rec := ⟨0, 0, 7, exS, 1⟩
def exO1 : Option St := (accept? (some St.init) ex0).2
def exO2 : Option St := (accept? exO1 ex2).2
def exO3 : Option St := (accept? exO2 ex1).2
def exSt : St := ⟨[⟨0, 3, []⟩, Ln.init, Ln.init, Ln.init], [⟨exS, 3, 18, 0⟩]⟩

theorem ex0_fits : ex0.fits := ⟨by unfold inInt; decide, by unfold inInt; decide, by unfold inInt; decide, by unfold inInt; decide, by decide⟩
theorem ex1_fits : ex1.fits := ⟨by unfold inInt; decide, by unfold inInt; decide, by unfold inInt; decide, by unfold inInt; decide, by decide⟩
theorem ex2_fits : ex2.fits := ⟨by unfold inInt; decide, by unfold inInt; decide, by unfold inInt; decide, by unfold inInt; decide, by decide⟩
theorem ex7_fits : ex7.fits := ⟨by unfold inInt; decide, by unfold inInt; decide, by unfold inInt; decide, by unfold inInt; decide, by decide⟩
theorem ex_a1 : (accept? (some St.init) ex0).1 = (1, 0) := by rfl
theorem ex_a2 : (accept? exO1 ex2).1 = (1, 0) := by rfl
theorem ex_a3 : (accept? exO2 ex1).1 = (3, 0) := by rfl
theorem ex_a4 : (accept? exO3 ex7).1 = (0, 5) := by rfl
theorem ex_o3 : exO3 = some exSt := by rfl

set_option maxHeartbeats 1000000 in
theorem taking_any (H : Api R) (w : World) :
    Calls Tryz.prog 7 #[] w fun e w' => e = .returned (.bool true) ∧ Chg (fun _ => False) w w' := by
  go_enter Tryz.func7, Tryz.ntmps7
  go_wp2_with fail
  refine (H.new w).mono ?_
  rintro _ w1 ⟨a, F1, rfl, hR1, hF1, hc1⟩
  go_wp2_with fail
  refine (rec_any _ _ _ _).mono ?_
  rintro _ w2 ⟨rfl, hc2⟩
  go_wp2_with fail
  refine (H.accept ex0 (H.keep hR1 hc2) rfl ex0_fits).mono ?_
  rintro _ w3 ⟨F3, rfl, hR3, hF3, hc3⟩
  rw [ex_a1]
  go_wp2_with fail
  refine (rec_any _ _ _ _).mono ?_
  rintro _ w4 ⟨rfl, hc4⟩
  go_wp2_with fail
  refine (H.accept ex2 (H.keep hR3 hc4) rfl ex2_fits).mono ?_
  rintro _ w5 ⟨F5, rfl, hR5, hF5, hc5⟩
  rw [show (accept? (accept? (some St.init) ex0).2 ex2).1 = (1, 0) from ex_a2]
  go_wp2_with fail
  refine (rec_any _ _ _ _).mono ?_
  rintro _ w6 ⟨rfl, hc6⟩
  go_wp2_with fail
  refine (H.accept ex1 (H.keep hR5 hc6) rfl ex1_fits).mono ?_
  rintro _ w7 ⟨F7, rfl, hR7, hF7, hc7⟩
  rw [show (accept? (accept? (accept? (some St.init) ex0).2 ex2).2 ex1).1 = (3, 0) from ex_a3]
  replace hR7 : R w7 a (some exSt) F7 := hR7
  go_wp2_with fail
  refine (H.state hR7).mono ?_
  rintro _ w8 ⟨vs, vk, rfl, hs8, hR8, hc8⟩
  obtain ⟨us, hu1, hu2, hu3⟩ := hs8.sess
  obtain ⟨g, cap, rfl, hg, hcap, hcell⟩ := row_pos hu2 (by decide)
  obtain ⟨g2, cap2, rfl, hg2, hcap2, hcell2⟩ := row_pos hs8.keys (by decide)
  obtain ⟨u0, us1, rfl⟩ : ∃ u0 us1, us = u0 :: us1 := by
    cases us with
    | nil => simp [exSt, state?] at hu1
    | cons x y => exact ⟨x, y, rfl⟩
  have c1 : w8.cell? ⟨g, 1, none⟩ = some (.int .i64 3) := hcell 1 _ rfl
  have d0 : w8.cell? ⟨g2, 0, none⟩ = some (.string { data := #[115] }) := hcell2 0 _ rfl
  have d1 : w8.cell? ⟨g2, 1, none⟩ = some (.int .i64 3) := hcell2 1 _ rfl
  have d2 : w8.cell? ⟨g2, 2, none⟩ = some (.int .i64 18) := hcell2 2 _ rfl
  have d3 : w8.cell? ⟨g2, 3, none⟩ = some (.int .i64 0) := hcell2 3 _ rfl
  have hF8 : ∀ k, F7 k → k < w7.heap.size := fun k hk => H.lt hR7 hk
  have hlanes : (state? (some exSt)).lanes.length = 4 := rfl
  have hkeys : (state? (some exSt)).keys.length = 1 := rfl
  have herr : errno? (some exSt) = 0 := rfl
  rw [hlanes, hkeys, herr]
  clear hu1 hu2 hu3 hs8 hcell hcell2 hcap hcap2 hlanes hkeys herr
  go_wp2_with fail
  refine (rec_any _ _ _ _).mono ?_
  rintro _ w9 ⟨rfl, hc9⟩
  go_wp2_with fail
  refine (H.accept ex7 (H.keep (H.alloc hR8 _) hc9) rfl ex7_fits).mono ?_
  rintro _ w10 ⟨F10, rfl, hR10, hF10, hc10⟩
  rw [show (accept? (some exSt) ex7).1 = (0, 5) from rfl]
  have hw8 : Chg F7 w8 w10 := (((Chg.refl F7 w8).alloc _).trans hc9 (fun _ _ h => h.elim)).trans hc10 (fun _ _ h => h)
  have hlt := hc8.size
  replace c1 := hw8.cellAt c1 (fun h => by have := hF8 _ h; omega)
  replace d0 := hw8.cellAt d0 (fun h => by have := hF8 _ h; omega)
  replace d1 := hw8.cellAt d1 (fun h => by have := hF8 _ h; omega)
  replace d2 := hw8.cellAt d2 (fun h => by have := hF8 _ h; omega)
  replace d3 := hw8.cellAt d3 (fun h => by have := hF8 _ h; omega)
  have s0 := hc10.cellAt (hc9.cellAt (World.cell?_alloc_at (w := w8) #[.slice (some ⟨g, 0, none⟩) 4 cap, .slice (some ⟨g2, 0, none⟩) 1 cap2] 49 w8.heap.size 0 rfl) id) (fun h => by have := hF8 _ h; omega)
  have s1 := hc10.cellAt (hc9.cellAt (World.cell?_alloc_at (w := w8) #[.slice (some ⟨g, 0, none⟩) 4 cap, .slice (some ⟨g2, 0, none⟩) 1 cap2] 49 w8.heap.size 1 rfl) id) (fun h => by have := hF8 _ h; omega)
  have h3 := hc1.step hc2 (fun _ h => h.elim)
  have y3 := h3.young hF1 hF3
  have h4 := (h3.step hc3 hF1).step hc4 (fun _ h => h.elim)
  have y5 := h4.young y3 hF5
  have h6 := (h4.step hc5 y3).step hc6 (fun _ h => h.elim)
  have y7 := h6.young y5 hF7
  have hall := ((h6.step hc7 y5).step hc8 y7).step hw8 y7
  clear hR1 hF1 hc1 hc2 hR3 hF3 hc3 hc4 hR5 hF5 hc5 hc6 hF7 hc7 hR7 hR8 hc8 hF8 hg hg2 hc9 hR10 hF10 hc10 hw8 hlt h3 y3 h4 y5 h6 y7
  go_wp2
  go_ret
  exact ⟨rfl, hall⟩

end Go.Proofs.YthedkdbgfdjlkaaGreat

/- sameState: TWO STATES THAT ARE THE SAME, WALKED. -/
namespace Go.Proofs.YthedkdbgfdjlkaaGreat
set_option linter.unusedVariables false
set_option linter.unusedSimpArgs false
open Go.RowKit

theorem sessCells_at : ∀ (ls : List Ln) (us : List Value) (i : Nat) (l : Ln) (u : Value), ls[i]? = some l → us[i]? = some u → (sessCells ls us)[i * 3]? = some (.int .i64 l.epoch) ∧ (sessCells ls us)[i * 3 + 1]? = some (.int .i64 l.base) ∧ (sessCells ls us)[i * 3 + 2]? = some u
  | [], _, i, l, u, h, _ => by simp at h
  | _ :: _, [], i, l, u, _, h => by simp at h
  | x :: r, v :: us, 0, l, u, h, h' => by
    simp at h h'
    subst h h'
    simp [sessCells]
  | x :: r, v :: us, i + 1, l, u, h, h' => by
    have := sessCells_at r us i l u (by simpa using h) (by simpa using h')
    rw [show (i + 1) * 3 = i * 3 + 3 by omega, show i * 3 + 3 + 1 = i * 3 + 1 + 3 by omega, show i * 3 + 3 + 2 = i * 3 + 2 + 3 by omega]
    simpa [sessCells] using this

theorem keyNeq (n : ByteArray) (c f h : Int) (W : World) : (binOp .neq 57 (.agg #[.string n, .int .i64 c, .int .i64 f, .int .i64 h]) (.agg #[.string n, .int .i64 c, .int .i64 f, .int .i64 h])).run Tryz.prog W = .ok (.bool false) W := by
  simp [go_sem]

set_option maxRecDepth 100000 in
set_option maxHeartbeats 4000000 in
theorem sameState_eq {w : World} {lo1 lo2 : Nat} {vs1 vk1 vs2 vk2 : Value} {s : St} (h1 : StateAt w lo1 vs1 vk1 s) (h2 : StateAt w lo2 vs2 vk2 s) (hl : s.lanes.length ≤ 1000) (hk : s.keys.length ≤ 1000) (hw : ∀ l ∈ s.lanes, l.ws.length ≤ 1000) :
    Calls Tryz.prog 16 #[.agg #[vs1, vk1], .agg #[vs2, vk2]] w fun e w' => e = .returned (.bool true) ∧ Chg (fun _ => False) w w' := by
  obtain ⟨us1, hu1, r1, q1⟩ := h1.sess
  obtain ⟨us2, hu2, r2, q2⟩ := h2.sess
  have k1 := h1.keys
  have k2 := h2.keys
  obtain ⟨ps1, cs1, rfl⟩ := row_any r1
  obtain ⟨ps2, cs2, rfl⟩ := row_any r2
  obtain ⟨pk1, ck1, rfl⟩ := row_any k1
  obtain ⟨pk2, ck2, rfl⟩ := row_any k2
  clear h1 h2
  obtain ⟨W0, hW0⟩ : ∃ W0, W0 = (w.alloc (Obj.cells #[.slice ps1 s.lanes.length cs1, .slice pk1 s.keys.length ck1] 49)).alloc (Obj.cells #[.slice ps2 s.lanes.length cs2, .slice pk2 s.keys.length ck2] 49) := ⟨_, rfl⟩
  have c0 : Chg (fun _ => False) w W0 := by rw [hW0]; exact ((Chg.refl _ w).alloc _).alloc _
  have hs0 : W0.heap.size = w.heap.size + 2 := by rw [hW0]; simp
  have a0 : W0.cell? ⟨w.heap.size, 0, none⟩ = some (.slice ps1 s.lanes.length cs1) := by rw [hW0]; exact ((Chg.refl (fun _ => False) _).alloc _).cellAt (World.cell?_alloc_at _ _ _ _ rfl) id
  have a1 : W0.cell? ⟨w.heap.size, 1, none⟩ = some (.slice pk1 s.keys.length ck1) := by rw [hW0]; exact ((Chg.refl (fun _ => False) _).alloc _).cellAt (World.cell?_alloc_at _ _ _ _ rfl) id
  have b0 : W0.cell? ⟨w.heap.size + 1, 0, none⟩ = some (.slice ps2 s.lanes.length cs2) := by rw [hW0]; exact World.cell?_alloc_at _ _ _ _ (by simp)
  have b1 : W0.cell? ⟨w.heap.size + 1, 1, none⟩ = some (.slice pk2 s.keys.length ck2) := by rw [hW0]; exact World.cell?_alloc_at _ _ _ _ (by simp)
  have HW0 : Hid (W0 = (w.alloc (Obj.cells #[.slice ps1 s.lanes.length cs1, .slice pk1 s.keys.length ck1] 49)).alloc (Obj.cells #[.slice ps2 s.lanes.length cs2, .slice pk2 s.keys.length ck2] 49)) := hW0
  have HS0 : Hid (W0.heap.size = w.heap.size + 2) := hs0
  have hneq := keyNeq
  clear hW0 hs0
  go_enter Tryz.func16, Tryz.ntmps16
  go_wp2_with fail
  go_loopw [5, 6, 7, 8] (fun si _ _ _ wr => ∃ (k : Nat), si = .int .i64 k ∧ k ≤ s.lanes.length ∧ Chg (fun _ => False) W0 wr) (fun si _ _ _ _ => s.lanes.length - (intOf si).toNat)
  case atStart => exact ⟨0, rfl, by omega, by rw [HW0.out]; exact Chg.refl _ _⟩
  case round =>
    obtain ⟨k, rfl, hk1, hc⟩ := hrel
    have d0 := hc.cellAt a0 id
    have d1 := hc.cellAt a1 id
    have e0 := hc.cellAt b0 id
    have e1 := hc.cellAt b1 id
    have hc' : Chg (fun _ => False) w wr := c0.trans hc (fun _ _ h => h)
    by_cases hkl : k < s.lanes.length
    · obtain ⟨l, hll⟩ : ∃ l, s.lanes[k]? = some l := ⟨_, List.getElem?_eq_getElem hkl⟩
      obtain ⟨u1, hh1⟩ : ∃ u, us1[k]? = some u := ⟨_, List.getElem?_eq_getElem (by omega)⟩
      obtain ⟨u2, hh2⟩ : ∃ u, us2[k]? = some u := ⟨_, List.getElem?_eq_getElem (by omega)⟩
      have x1 := sessCells_at _ _ _ _ _ hll hh1
      have x2 := sessCells_at _ _ _ _ _ hll hh2
      have t1 := q1 k l u1 hll hh1
      have t2 := q2 k l u2 hll hh2
      obtain ⟨pu1, cu1, rfl⟩ := row_any t1
      obtain ⟨pu2, cu2, rfl⟩ := row_any t2
      have hlw := hw l (List.mem_of_getElem? hll)
      obtain ⟨g1, cap1, hv1, _, _, hcell1⟩ := row_pos r1 (by omega)
      obtain ⟨g2, cap2, hv2, _, _, hcell2⟩ := row_pos r2 (by omega)
      simp only [Value.slice.injEq] at hv1 hv2
      obtain ⟨rfl, _, rfl⟩ := hv1
      obtain ⟨rfl, _, rfl⟩ := hv2
      have m0 := hc'.cellAt (hcell1 _ _ x1.1) id
      have m1 := hc'.cellAt (hcell1 _ _ x1.2.1) id
      have m2 := hc'.cellAt (hcell1 _ _ x1.2.2) id
      have n0 := hc'.cellAt (hcell2 _ _ x2.1) id
      have n1 := hc'.cellAt (hcell2 _ _ x2.2.1) id
      have n2 := hc'.cellAt (hcell2 _ _ x2.2.2) id
      have hkl' : (k : Int) < (s.lanes.length : Int) := by omega
      clear hcell1 hcell2 x1 x2
      have ee : ∀ ob, (wr.alloc ob).cell? ⟨w.heap.size + 1, 0, none⟩ = some (.slice (some ⟨g2, 0, none⟩) s.lanes.length cs2) := fun ob => ((Chg.refl (fun _ => False) wr).alloc ob).cellAt e0 id
      have nn0 : ∀ ob, (wr.alloc ob).cell? ⟨g2, k * 3, none⟩ = some (.int .i64 l.epoch) := fun ob => ((Chg.refl (fun _ => False) wr).alloc ob).cellAt n0 id
      have nn1 : ∀ ob, (wr.alloc ob).cell? ⟨g2, k * 3 + 1, none⟩ = some (.int .i64 l.base) := fun ob => ((Chg.refl (fun _ => False) wr).alloc ob).cellAt n1 id
      have nn2 : ∀ ob, (wr.alloc ob).cell? ⟨g2, k * 3 + 2, none⟩ = some (.slice pu2 l.ws.length cu2) := fun ob => ((Chg.refl (fun _ => False) wr).alloc ob).cellAt n2 id
      obtain ⟨W2, hW2⟩ : ∃ W2, W2 = (wr.alloc (Obj.cells #[.int .i64 l.epoch, .int .i64 l.base, .slice pu1 l.ws.length cu1] 53)).alloc (Obj.cells #[.int .i64 l.epoch, .int .i64 l.base, .slice pu2 l.ws.length cu2] 53) := ⟨_, rfl⟩
      have c2 : Chg (fun _ => False) wr W2 := by rw [hW2]; exact ((Chg.refl _ wr).alloc _).alloc _
      have y2 : W2.cell? ⟨wr.heap.size, 2, none⟩ = some (.slice pu1 l.ws.length cu1) := by rw [hW2]; exact ((Chg.refl (fun _ => False) _).alloc _).cellAt (World.cell?_alloc_at _ _ _ _ rfl) id
      have z2 : W2.cell? ⟨wr.heap.size + 1, 2, none⟩ = some (.slice pu2 l.ws.length cu2) := by rw [hW2]; exact World.cell?_alloc_at _ _ _ _ (by simp)
      have HW2 : Hid (W2 = (wr.alloc (Obj.cells #[.int .i64 l.epoch, .int .i64 l.base, .slice pu1 l.ws.length cu1] 53)).alloc (Obj.cells #[.int .i64 l.epoch, .int .i64 l.base, .slice pu2 l.ws.length cu2] 53)) := hW2
      clear hW2
      go_wp2_with fail
      go_loopw [8] (fun sj w2 => ∃ (j : Nat), sj = .int .i64 j ∧ j ≤ l.ws.length ∧ Chg (fun _ => False) W2 w2) (fun sj _ => l.ws.length - (intOf sj).toNat)
      case atStart => exact ⟨0, rfl, by omega, by rw [HW2.out]; exact Chg.refl _ _⟩
      case round =>
        obtain ⟨j, rfl, hj, hcj⟩ := hrel
        have v2 := hcj.cellAt y2 id
        have w2' := hcj.cellAt z2 id
        by_cases hjl : j < l.ws.length
        · obtain ⟨x, hx⟩ : ∃ x, l.ws[j]? = some x := ⟨_, List.getElem?_eq_getElem hjl⟩
          have hn : l.nums[j]? = some (.int .i64 x.num) := by simp [Ln.nums, hx]
          obtain ⟨gu1, capu1, hvu1, _, _, hcu1⟩ := row_pos t1 (by omega)
          obtain ⟨gu2, capu2, hvu2, _, _, hcu2⟩ := row_pos t2 (by omega)
          simp only [Value.slice.injEq] at hvu1 hvu2
          obtain ⟨rfl, _, rfl⟩ := hvu1
          obtain ⟨rfl, _, rfl⟩ := hvu2
          have hcc : Chg (fun _ => False) w wr := (hc'.trans c2 (fun _ _ h => h)).trans hcj (fun _ _ h => h)
          have p1 := hcc.cellAt (hcu1 _ _ hn) id
          have p2 := hcc.cellAt (hcu2 _ _ hn) id
          have hjl' : (j : Int) < (l.ws.length : Int) := by omega
          clear hcu1 hcu2
          go_wp2_with fail
          go_quiet (fail)
          go_wp2_with fail
          go_roundw
          case rel => exact ⟨j + 1, by go_num, by omega, hcj.trans (((Quiet.refl _).drewN _).chg _) (fun _ _ h => h)⟩
          case measure => simp [intOf]; omega
        · have hjl' : ¬ (j : Int) < (l.ws.length : Int) := by omega
          go_wp2_with fail
          go_roundw
          case rel => exact ⟨k + 1, by go_num, by omega, (hc.trans c2 (fun _ _ h => h)).trans hcj (fun _ _ h => h)⟩
          case measure => simp [intOf]; omega
    · have hkl' : ¬ (k : Int) < (s.lanes.length : Int) := by omega
      go_wp2_with fail
      go_loopw [9] (fun sj w2 => ∃ (j : Nat), sj = .int .i64 j ∧ j ≤ s.keys.length ∧ Chg (fun _ => False) wr w2) (fun sj _ => s.keys.length - (intOf sj).toNat)
      case atStart => exact ⟨0, rfl, by omega, Chg.refl _ _⟩
      case round =>
        obtain ⟨j, rfl, hj, hcj⟩ := hrel
        have v1 := hcj.cellAt d1 id
        have w1 := hcj.cellAt e1 id
        have hcc : Chg (fun _ => False) w wr := hc'.trans hcj (fun _ _ h => h)
        by_cases hjl : j < s.keys.length
        · obtain ⟨x, hx⟩ : ∃ x, s.keys[j]? = some x := ⟨_, List.getElem?_eq_getElem hjl⟩
          have cx := keyCells_at s.keys j x hx
          obtain ⟨gu1, capu1, hvu1, _, _, hcu1⟩ := row_pos k1 (by omega)
          obtain ⟨gu2, capu2, hvu2, _, _, hcu2⟩ := row_pos k2 (by omega)
          simp only [Value.slice.injEq] at hvu1 hvu2
          obtain ⟨rfl, _, rfl⟩ := hvu1
          obtain ⟨rfl, _, rfl⟩ := hvu2
          have p0 := hcc.cellAt (hcu1 _ _ cx.1) id
          have p1 := hcc.cellAt (hcu1 _ _ cx.2.1) id
          have p2 := hcc.cellAt (hcu1 _ _ cx.2.2.1) id
          have p3 := hcc.cellAt (hcu1 _ _ cx.2.2.2) id
          have o0 := hcc.cellAt (hcu2 _ _ cx.1) id
          have o1 := hcc.cellAt (hcu2 _ _ cx.2.1) id
          have o2 := hcc.cellAt (hcu2 _ _ cx.2.2.1) id
          have o3 := hcc.cellAt (hcu2 _ _ cx.2.2.2) id
          have hjl' : (j : Int) < (s.keys.length : Int) := by omega
          clear hcu1 hcu2
          go_wp2_with fail
          go_quiet (fail)
          go_wp2_with fail
          go_roundw
          case rel => exact ⟨j + 1, by go_num, by omega, hcj.trans (((Quiet.refl _).drewN _).chg _) (fun _ _ h => h)⟩
          case measure => simp [intOf]; omega
        · have hjl' : ¬ (j : Int) < (s.keys.length : Int) := by omega
          go_wp2_with fail
          go_ret
          exact ⟨rfl, hcc⟩

end Go.Proofs.YthedkdbgfdjlkaaGreat

/- Anew, WALKED. -/
namespace Go.Proofs.YthedkdbgfdjlkaaGreat
set_option linter.unusedVariables false
set_option linter.unusedSimpArgs false
open Go.RowKit

variable {R : Nat → World → Addr → Option St → (Nat → Prop) → Prop}

/-- A script in memory. -/
structure ScriptAt (w : World) (v : Value) (L : List Stp) : Prop where
  val : ∃ p cap, v = .slice p L.length cap
  len : L.length * 80 ≤ 140737488351232
  cells : ∀ i x, L[i]? = some x → ∃ sb so cap, v = .slice (some ⟨sb, so, none⟩) L.length cap ∧ w.cell? ⟨sb, so + i * 8, none⟩ = some (.int .i64 x.kind) ∧ w.cell? ⟨sb, so + i * 8 + 1, none⟩ = some (.int .i64 x.x.session) ∧
    w.cell? ⟨sb, so + i * 8 + 2, none⟩ = some (.int .i64 x.x.epoch) ∧ w.cell? ⟨sb, so + i * 8 + 3, none⟩ = some (.int .i64 x.x.number) ∧ w.cell? ⟨sb, so + i * 8 + 4, none⟩ = some (.string x.x.key) ∧ w.cell? ⟨sb, so + i * 8 + 5, none⟩ = some (.int .i64 x.x.value) ∧
    w.cell? ⟨sb, so + i * 8 + 6, none⟩ = some (.string x.key) ∧ w.cell? ⟨sb, so + i * 8 + 7, none⟩ = some (.int .i64 x.n)
  fits : ∀ x ∈ L, x.x.fits
  more : ∀ x ∈ L, inInt x.kind ∧ inInt x.n ∧ x.key.size ≤ maxLen

def exC : ByteArray := { data := #[99] }

/-- What an Accept of a new epoch's first record answers. -/
theorem anew_accept {s : St} (hf : s.fine) {k : Nat} (hk : k < 4) {l : Ln} (hl : s.lanes[k]? = some l) {e v : Int} (he : l.epoch < e) (hv : 0 ≤ v ∧ v ≤ 4294967295) :
    accept s ⟨k, e, 0, exC, v⟩ = ((0, 6), s) ∨ accept s ⟨k, e, 0, exC, v⟩ = ((0, 7), s) ∨ accept s ⟨k, e, 0, exC, v⟩ = ((1, 0), ⟨s.lanes.set k ⟨e, 1, []⟩, takeKy exC v s.keys⟩) := by
  have hA : accept s ⟨k, e, 0, exC, v⟩ = acceptIn s k l ⟨k, e, 0, exC, v⟩ := by
    unfold accept
    rw [if_neg (by simp only; omega), if_neg (by simp only; rintro (h | h | h) <;> first | exact absurd h (by decide) | omega)]
    simp only [Int.toNat_natCast, hl]
  rw [hA]
  unfold acceptIn
  rw [if_neg (by simp only; omega)]
  have ht : l.turned e = ⟨e, 0, []⟩ := by unfold Ln.turned; rw [if_pos he]
  simp only [ht]
  rw [if_neg (by omega), if_neg (by simp)]
  by_cases h6 : isIn exC (⟨s.lanes.set k ⟨e, 0, []⟩, s.keys⟩ : St).names = false ∧ 4 ≤ distinct (⟨s.lanes.set k ⟨e, 0, []⟩, s.keys⟩ : St).names
  · rw [if_pos h6]; exact .inl rfl
  · rw [if_neg h6]
    by_cases h7 : 1000 ≤ (⟨s.lanes.set k ⟨e, 0, []⟩, s.keys⟩ : St).records
    · rw [if_pos h7]; exact .inr (.inl rfl)
    · rw [if_neg h7]
      refine .inr (.inr ?_)
      simp [putW, drainW]

theorem old_accept {s : St} {k : Nat} (hk : k < 4) {l : Ln} (hl : s.lanes[k]? = some l) {e v : Int} (he : e < l.epoch) (hv : 0 ≤ v ∧ v ≤ 4294967295) : accept s ⟨k, e, 0, exC, v⟩ = ((0, 4), s) := by
  unfold accept
  rw [if_neg (by simp only; omega), if_neg (by simp only; rintro (h | h | h) <;> first | exact absurd h (by decide) | omega)]
  simp only [Int.toNat_natCast, hl]
  unfold acceptIn
  rw [if_pos he]

set_option maxRecDepth 100000 in
set_option maxHeartbeats 4000000 in
theorem anew_walk (H : ApiN R) (H0 : ∀ w, Calls Tryz.prog 7 #[] w fun e w' => e = .returned (.bool true) ∧ Chg (fun _ => False) w w') (w : World) (v : Value) (L : List Stp) (se by' va : Int) (hS : ScriptAt w v L) (hse : inInt se) (hby : inInt by') (hva : inInt va) :
    Calls Tryz.prog 4 #[v, .int .i64 se, .int .i64 by', .int .i64 va] w fun e w' => e = .returned (.bool true) ∧ Chg (fun _ => False) w w' := by
  obtain ⟨pv, cv, rfl⟩ := hS.val
  have hlen := hS.len
  have hnot : ∀ (x : Bool) (w : World), (Op.unary .not (.bool x)).run Tryz.prog w = .ok (.bool (!x)) w := fun _ _ => rfl
  go_enter Tryz.func4, Tryz.ntmps4
  go_wp2_with fail
  refine (H0 w).mono ?_
  rintro _ w1 ⟨rfl, c1⟩
  go_wp2_with fail
  refine (H.new w1).mono ?_
  rintro _ w2 ⟨a, F2, rfl, hR2, hF2, c2⟩
  have c02 : Chg (fun _ => False) w w2 := c1.trans c2 (fun _ _ h => h)
  have hF02 : ∀ k, F2 k → w.heap.size ≤ k := fun k hk => Nat.le_trans c1.size (hF2 k hk)
  clear c1 c2 hF2
  go_wp2_with fail
  go_loopw [11] (fun si wr => ∃ (k : Nat) (s : St) (F : Nat → Prop), si = .int .i64 k ∧ k ≤ L.length ∧ R (512 + 32 * k) wr a (some s) F ∧ (∀ k, F k → w.heap.size ≤ k) ∧ Chg (fun _ => False) w wr) (fun si _ => L.length - (intOf si).toNat)
  case atStart => exact ⟨0, _, F2, rfl, by omega, hR2, hF02, c02⟩
  case round =>
    obtain ⟨k, s, F, rfl, hk, hR, hFw, hc⟩ := hrel
    clear hR2 hF02 c02
    by_cases hkl : k < L.length
    · obtain ⟨x, hx⟩ : ∃ x, L[k]? = some x := ⟨_, List.getElem?_eq_getElem hkl⟩
      obtain ⟨sb, so, cap, hv, y0, y1, y2, y3, y4, y5, y6, y7⟩ := hS.cells k x hx
      simp only [Value.slice.injEq] at hv
      obtain ⟨rfl, _, rfl⟩ := hv
      replace y0 := hc.cellAt y0 id
      replace y1 := hc.cellAt y1 id
      replace y2 := hc.cellAt y2 id
      replace y3 := hc.cellAt y3 id
      replace y4 := hc.cellAt y4 id
      replace y5 := hc.cellAt y5 id
      replace y6 := hc.cellAt y6 id
      replace y7 := hc.cellAt y7 id
      have hkl' : (k : Int) < (L.length : Int) := by omega
      have hxf := hS.fits x (List.mem_of_getElem? hx)
      by_cases hk0 : x.kind = 0
      · rw [hk0] at y0
        have hdo := does_accept H x hk0 hR (by unfold roomy; omega) hxf
        unfold Stp.value' at hdo
        rw [hk0] at hdo
        go_wp2_with fail
        refine hdo.mono ?_
        rintro _ w3 ⟨F3, rfl, hR3, hF3, c3⟩
        clear hdo y0 y1 y2 y3 y4 y5 y6 y7
        go_wp2_with fail
        go_roundw
        case rel => exact ⟨k + 1, _, F3, by go_num, by omega, H.mono hR3 (by omega), hc.young hFw hF3, hc.step c3 hFw⟩
        case measure => simp [intOf]; omega
      · have hk0' : (x.kind == 0) = false := by simpa using hk0
        go_wp2_with fail
        go_roundw
        case rel => exact ⟨k + 1, s, F, by go_num, by omega, H.mono hR (by omega), hFw, hc⟩
        case measure => simp [intOf]; omega
    · have hkl' : ¬ (k : Int) < (L.length : Int) := by omega
      have hroom : 512 + 32 * k ≤ roomy := by unfold roomy; omega
      have hroom2 : 512 + 32 * k + 32 ≤ roomy := by unfold roomy; omega
      have hroom3 : 512 + 32 * k + 32 + 32 ≤ roomy := by unfold roomy; omega
      have hf := H.fine hR
      have hp4 := pickI_range (c := se) (n := 4) (by omega)
      obtain ⟨kn, ekn⟩ : ∃ kn : Nat, pickI se 4 = kn := ⟨(pickI se 4).toNat, by omega⟩
      have hkn : kn < 4 := by omega
      have hpk := pick_any se 4 wr hse (by omega) (by omega)
      rw [ekn] at hpk
      have hp1000 := pickI_range (c := by') (n := 1000) (by omega)
      have hpv := pickI_range (c := va) (n := 4294967296) (by omega)
      obtain ⟨PB, ePB⟩ : ∃ PB, PB = pickI by' 1000 := ⟨_, rfl⟩
      obtain ⟨PV, ePV⟩ : ∃ PV, PV = pickI va 4294967296 := ⟨_, rfl⟩
      have HB : Hid (∀ W, Calls Tryz.prog 10 #[.int .i64 by', .int .i64 1000] W fun e w' => e = .returned (.int .i64 PB) ∧ w' = W) := fun W => by rw [ePB]; exact pick_any by' 1000 W hby (by omega) (by omega)
      have HV : Hid (∀ W, Calls Tryz.prog 10 #[.int .i64 va, .int .i64 4294967296] W fun e w' => e = .returned (.int .i64 PV) ∧ w' = W) := fun W => by rw [ePV]; exact pick_any va 4294967296 W hva (by omega) (by omega)
      rw [← ePB] at hp1000
      rw [← ePV] at hpv
      obtain ⟨l, hl⟩ : ∃ l, s.lanes[kn]? = some l := ⟨_, List.getElem?_eq_getElem (by rw [hf.four]; exact hkn)⟩
      have hlf := hf.lane l (List.mem_of_getElem? hl)
      clear hp4 ekn ePB ePV
      go_wp2_with fail
      refine hpk.mono ?_
      rintro _ wp ⟨rfl, ewp⟩
      rw [ewp]
      clear hpk ewp wp
      go_wp2_with fail
      refine (H.state hR).mono ?_
      rintro _ w3 ⟨vs, vk, rfl, hs3, hR3, c3⟩
      simp only [errno?, state?] at hs3 ⊢
      obtain ⟨us, hu1, hu2, hu3⟩ := hs3.sess
      have hk3 := hs3.keys
      rw [hf.four] at hu1 hu2
      obtain ⟨g, cap, rfl, hg, hcap, hcell⟩ := row_pos hu2 (by omega)
      obtain ⟨pk, ck, rfl⟩ := row_any hk3
      obtain ⟨u, hu⟩ : ∃ u, us[kn]? = some u := ⟨_, List.getElem?_eq_getElem (by omega)⟩
      have x1 := sessCells_at _ _ _ _ _ hl hu
      have z0 : ∀ ob, (w3.alloc ob).cell? ⟨g, kn * 3, none⟩ = some (.int .i64 l.epoch) := fun ob => ((Chg.refl (fun _ => False) w3).alloc ob).cellAt (hcell _ _ x1.1) id
      have hkn' : (kn : Int) < 4 := by omega
      clear hcell x1 hu1 hu2 hu3
      have hFr : ∀ k, F k → k < wr.heap.size := fun k hk => H.lt hR hk
      have cw3 : Chg (fun _ => False) w w3 := hc.step c3 hFw
      by_cases hmax : l.epoch = 9223372036854775807
      · rw [hmax] at z0
        have hlt : wrap64 (wrap64 9223372036854775808 + PB) < 9223372036854775807 := by unfold wrap64; omega
        go_wp2_with fail
        refine (HB.out _).mono ?_
        rintro _ wp ⟨rfl, ewp⟩
        rw [ewp]
        clear ewp wp
        go_wp2_with fail
        go_ret
        exact ⟨rfl, cw3.alloc _⟩
      by_cases hbig : l.epoch + 1 + PB ≤ 9223372036854775807
      · have hnlt : ¬ l.epoch + 1 + PB < l.epoch := by omega
        go_wp2_with fail
        refine (HB.out _).mono ?_
        rintro _ wp ⟨rfl, ewp⟩
        rw [ewp]
        clear ewp wp HB
        go_wp2_with fail
        refine (HV.out _).mono ?_
        rintro _ wp ⟨rfl, ewp⟩
        rw [ewp]
        clear ewp wp HV
        have hPV : 0 ≤ PV ∧ PV ≤ 4294967295 := by omega
        obtain ⟨NE, hNE⟩ : ∃ NE, NE = l.epoch + 1 + PB := ⟨_, rfl⟩
        rw [← hNE] at hbig hnlt ⊢
        have hNE1 : l.epoch < NE := by omega
        clear hNE hnlt hmax hp1000 hpv
        obtain ⟨W4, hW4⟩ : ∃ W4, W4 = (w3.alloc (Obj.cells #[.slice (some ⟨g, 0, none⟩) 4 cap, .slice pk s.keys.length ck] 49)).alloc (Obj.cells #[.int .i64 kn, .int .i64 NE, .int .i64 0, .string { data := #[99] }, .int .i64 PV] 34) := ⟨_, rfl⟩
        have c34 : Chg (fun _ => False) w3 W4 := by rw [hW4]; exact ((Chg.refl _ w3).alloc _).alloc _
        have hs4 : W4.heap.size = w3.heap.size + 2 := by rw [hW4]; simp
        have s0 : W4.cell? ⟨w3.heap.size, 0, none⟩ = some (.slice (some ⟨g, 0, none⟩) 4 cap) := by rw [hW4]; exact ((Chg.refl (fun _ => False) _).alloc _).cellAt (World.cell?_alloc_at _ _ _ _ rfl) id
        have s1 : W4.cell? ⟨w3.heap.size, 1, none⟩ = some (.slice pk s.keys.length ck) := by rw [hW4]; exact ((Chg.refl (fun _ => False) _).alloc _).cellAt (World.cell?_alloc_at _ _ _ _ rfl) id
        have x0 : W4.cell? ⟨w3.heap.size + 1, 0, none⟩ = some (.int .i64 kn) := by rw [hW4]; exact World.cell?_alloc_at _ _ _ _ (by simp)
        have x1 : W4.cell? ⟨w3.heap.size + 1, 1, none⟩ = some (.int .i64 NE) := by rw [hW4]; exact World.cell?_alloc_at _ _ _ _ (by simp)
        have x2 : W4.cell? ⟨w3.heap.size + 1, 2, none⟩ = some (.int .i64 0) := by rw [hW4]; exact World.cell?_alloc_at _ _ _ _ (by simp)
        have x3 : W4.cell? ⟨w3.heap.size + 1, 3, none⟩ = some (.string { data := #[99] }) := by rw [hW4]; exact World.cell?_alloc_at _ _ _ _ (by simp)
        have x4 : W4.cell? ⟨w3.heap.size + 1, 4, none⟩ = some (.int .i64 PV) := by rw [hW4]; exact World.cell?_alloc_at _ _ _ _ (by simp)
        have xf : W4.frozen? ⟨w3.heap.size + 1, 1, none⟩ = false := by rw [hW4]; exact World.frozen?_alloc_at _ _ _ _ (by simp)
        have HS4 : Hid (W4.heap.size = w3.heap.size + 2) := hs4
        have hw3 : wr.heap.size ≤ w3.heap.size := c3.size
        have hsm := hf.small
        have hacc := H.acc ⟨kn, NE, 0, exC, PV⟩ (H.keep hR3 c34) hroom ⟨by unfold inInt; simp only; omega, by unfold inInt; simp only; omega, by unfold inInt; simp only; omega, by unfold inInt; simp only; omega, (show exC.size ≤ maxLen by decide)⟩
        go_wp2_with fail
        rw [← hW4]
        clear hW4 hs4
        refine hacc.mono ?_
        rintro _ w5 ⟨F5, rfl, hR5, hF5, c45⟩
        clear hacc
        simp only [accept?] at hR5 ⊢
        rcases anew_accept hf hkn hl hNE1 hPV with e | e | e
        · rw [e] at hR5 ⊢
          simp only at hR5 ⊢
          go_wp2_with fail
          refine (H.state hR5).mono ?_
          rintro _ w6 ⟨vs6, vk6, rfl, hs6, hR6, c56⟩
          simp only [errno?, state?] at hs6 ⊢
          have c46 : Chg F W4 w6 := c45.chain hF5 c56
          have c36 : Chg F w3 w6 := (c34.mono (fun _ h => h.elim)).trans c46 (fun _ _ h => h)
          have hs36 := hs3.kept c36 (fun k hk => .inl (by have := hFr k hk; omega))
          obtain ⟨_, _, r6, _⟩ := hs6.sess
          obtain ⟨p6, cp6, rfl⟩ := row_any r6
          obtain ⟨pk6, ck6, rfl⟩ := row_any hs6.keys
          rw [hf.four] at hs6 ⊢
          have d0 : ∀ ob, (w6.alloc ob).cell? ⟨w3.heap.size, 0, none⟩ = some (.slice (some ⟨g, 0, none⟩) 4 cap) := fun ob => ((Chg.refl (fun _ => False) w6).alloc ob).cellAt (c46.cellAt s0 (fun h => by have := hFr _ h; omega)) id
          have d1 : ∀ ob, (w6.alloc ob).cell? ⟨w3.heap.size, 1, none⟩ = some (.slice pk s.keys.length ck) := fun ob => ((Chg.refl (fun _ => False) w6).alloc ob).cellAt (c46.cellAt s1 (fun h => by have := hFr _ h; omega)) id
          have hss := fun ob => sameState_eq (hs36.kept ((Chg.refl (fun _ => False) w6).alloc ob) (fun _ h => h.elim)) (hs6.kept ((Chg.refl (fun _ => False) w6).alloc ob) (fun _ h => h.elim)) hsm.2.2.1 hsm.2.2.2.1 hsm.2.2.2.2
          clear hs36 r6
          go_wp2_with fail
          refine (hss _).mono ?_
          rintro _ w8 ⟨rfl, c78⟩
          clear hss d0 d1
          go_wp2_with fail
          go_ret
          exact ⟨rfl, ((cw3.step c36 hFw).alloc _).trans c78 (fun _ _ h => h)⟩
        · rw [e] at hR5 ⊢
          simp only at hR5 ⊢
          go_wp2_with fail
          refine (H.state hR5).mono ?_
          rintro _ w6 ⟨vs6, vk6, rfl, hs6, hR6, c56⟩
          simp only [errno?, state?] at hs6 ⊢
          have c46 : Chg F W4 w6 := c45.chain hF5 c56
          have c36 : Chg F w3 w6 := (c34.mono (fun _ h => h.elim)).trans c46 (fun _ _ h => h)
          have hs36 := hs3.kept c36 (fun k hk => .inl (by have := hFr k hk; omega))
          obtain ⟨_, _, r6, _⟩ := hs6.sess
          obtain ⟨p6, cp6, rfl⟩ := row_any r6
          obtain ⟨pk6, ck6, rfl⟩ := row_any hs6.keys
          rw [hf.four] at hs6 ⊢
          have d0 : ∀ ob, (w6.alloc ob).cell? ⟨w3.heap.size, 0, none⟩ = some (.slice (some ⟨g, 0, none⟩) 4 cap) := fun ob => ((Chg.refl (fun _ => False) w6).alloc ob).cellAt (c46.cellAt s0 (fun h => by have := hFr _ h; omega)) id
          have d1 : ∀ ob, (w6.alloc ob).cell? ⟨w3.heap.size, 1, none⟩ = some (.slice pk s.keys.length ck) := fun ob => ((Chg.refl (fun _ => False) w6).alloc ob).cellAt (c46.cellAt s1 (fun h => by have := hFr _ h; omega)) id
          have hss := fun ob => sameState_eq (hs36.kept ((Chg.refl (fun _ => False) w6).alloc ob) (fun _ h => h.elim)) (hs6.kept ((Chg.refl (fun _ => False) w6).alloc ob) (fun _ h => h.elim)) hsm.2.2.1 hsm.2.2.2.1 hsm.2.2.2.2
          clear hs36 r6
          go_wp2_with fail
          refine (hss _).mono ?_
          rintro _ w8 ⟨rfl, c78⟩
          clear hss d0 d1
          go_wp2_with fail
          go_ret
          exact ⟨rfl, ((cw3.step c36 hFw).alloc _).trans c78 (fun _ _ h => h)⟩
        · rw [e] at hR5 ⊢
          simp only at hR5 ⊢
          obtain ⟨T, hT⟩ : ∃ T, T = (⟨s.lanes.set kn ⟨NE, 1, []⟩, takeKy exC PV s.keys⟩ : St) := ⟨_, rfl⟩
          have hTl : T.lanes[kn]? = some ⟨NE, 1, []⟩ := by rw [hT]; simp [hf.four, hkn]
          have hTk : counts T.keys = counts s.keys + 1 := by rw [hT]; exact counts_takeKy _ _ _
          rw [← hT] at hR5
          clear hT
          have hfT := H.fine hR5
          have hsmT := hfT.small
          have hF5l : ∀ k, F5 k → k < w5.heap.size := fun k hk => H.lt hR5 hk
          go_wp2_with fail
          refine (H.state hR5).mono ?_
          rintro _ w6 ⟨vs6, vk6, rfl, hs6, hR6, c56⟩
          simp only [errno?, state?] at hs6 ⊢
          have c46 : Chg F W4 w6 := c45.chain hF5 c56
          have h45 := c45.size
          have h56 := c56.size
          obtain ⟨us6, hu6, r6, q6⟩ := hs6.sess
          rw [hfT.four] at r6 hu6
          obtain ⟨g6, cap6, rfl, hg6, hcap6, hcell6⟩ := row_pos r6 (by omega)
          have hk6 := hs6.keys
          obtain ⟨pk6, ck6, rfl⟩ := row_any hk6
          obtain ⟨u6, hu6'⟩ : ∃ u, us6[kn]? = some u := ⟨_, List.getElem?_eq_getElem (by omega)⟩
          have y6 := sessCells_at _ _ _ _ _ hTl hu6'
          have t6 := q6 kn _ u6 hTl hu6'
          obtain ⟨pu6, cu6, rfl⟩ := row_any t6
          have hxF : ¬ F (w3.heap.size + 1) := fun h => by have := hFr _ h; omega
          have e0 : ∀ ob, (w6.alloc ob).cell? ⟨w3.heap.size + 1, 0, none⟩ = some (.int .i64 kn) := fun ob => ((Chg.refl (fun _ => False) w6).alloc ob).cellAt (c46.cellAt x0 hxF) id
          have e1 : ∀ ob, (w6.alloc ob).cell? ⟨w3.heap.size + 1, 1, none⟩ = some (.int .i64 NE) := fun ob => ((Chg.refl (fun _ => False) w6).alloc ob).cellAt (c46.cellAt x1 hxF) id
          have e2 : ∀ ob, (w6.alloc ob).cell? ⟨w3.heap.size + 1, 2, none⟩ = some (.int .i64 0) := fun ob => ((Chg.refl (fun _ => False) w6).alloc ob).cellAt (c46.cellAt x2 hxF) id
          have e3 : ∀ ob, (w6.alloc ob).cell? ⟨w3.heap.size + 1, 3, none⟩ = some (.string { data := #[99] }) := fun ob => ((Chg.refl (fun _ => False) w6).alloc ob).cellAt (c46.cellAt x3 hxF) id
          have e4 : ∀ ob, (w6.alloc ob).cell? ⟨w3.heap.size + 1, 4, none⟩ = some (.int .i64 PV) := fun ob => ((Chg.refl (fun _ => False) w6).alloc ob).cellAt (c46.cellAt x4 hxF) id
          have hb4 : w3.heap.size + 1 < W4.heap.size := by rw [HS4.out]; omega
          have ef : ∀ ob, (w6.alloc ob).frozen? ⟨w3.heap.size + 1, 1, none⟩ = false := fun ob => (World.frozen?_of_block (w := W4) ((c46.mono (fun _ h => h) : Chg F W4 w6).trans ((Chg.refl (fun _ => False) w6).alloc ob) (fun _ _ h => h.elim) |>.block (w3.heap.size + 1) hb4 hxF)).trans xf
          obtain ⟨W7, hW7⟩ : ∃ W7, W7 = (w6.alloc (Obj.cells #[.slice (some ⟨g6, 0, none⟩) 4 cap6, .slice pk6 T.keys.length ck6] 49)).setCell ⟨w3.heap.size + 1, 1, none⟩ (.int .i64 l.epoch) := ⟨_, rfl⟩
          have c67 : Chg (fun k => k = w3.heap.size + 1) w6 W7 := by rw [hW7]; exact ((Chg.refl (fun k => k = w3.heap.size + 1) w6).alloc _).setCell (p := ⟨w3.heap.size + 1, 1, none⟩) (fun _ => rfl) _
          have hs7 : W7.heap.size = w6.heap.size + 1 := by rw [hW7]; simp
          have hF5x : ∀ k, F5 k → k ≠ w3.heap.size + 1 := fun k hk e => by
            rcases hF5 k hk with h | h
            · have := hFr k h; omega
            · rw [HS4.out] at h; omega
          have hR7 : R (512 + 32 * k + 32) W7 a (some T) F5 := H.stable hR6 (fun k hk => c67.block k (H.lt hR6 hk) (hF5x k hk))
          have hne6 : ¬ w6.heap.size = w3.heap.size + 1 := by rw [HS4.out] at h45; omega
          have tv0 : W7.cell? ⟨w6.heap.size, 0, none⟩ = some (.slice (some ⟨g6, 0, none⟩) 4 cap6) := by
            rw [hW7]; exact (World.cell?_setCell_other _ _ _ _ (fun e => hne6 (congrArg Addr.block e).symm)).trans (World.cell?_alloc_at _ _ _ _ rfl)
          have tv1 : W7.cell? ⟨w6.heap.size, 1, none⟩ = some (.slice pk6 T.keys.length ck6) := by
            rw [hW7]; exact (World.cell?_setCell_other _ _ _ _ (fun e => hne6 (congrArg Addr.block e).symm)).trans (World.cell?_alloc_at _ _ _ _ rfl)
          have xx0 : W7.cell? ⟨w3.heap.size + 1, 0, none⟩ = some (.int .i64 kn) := by rw [hW7]; exact (World.cell?_setCell_other _ _ _ _ (by simp)).trans (e0 _)
          have xx1 : W7.cell? ⟨w3.heap.size + 1, 1, none⟩ = some (.int .i64 l.epoch) := by rw [hW7]; exact World.cell?_setCell_same _ _ _ (e1 _)
          have xx2 : W7.cell? ⟨w3.heap.size + 1, 2, none⟩ = some (.int .i64 0) := by rw [hW7]; exact (World.cell?_setCell_other _ _ _ _ (by simp)).trans (e2 _)
          have xx3 : W7.cell? ⟨w3.heap.size + 1, 3, none⟩ = some (.string { data := #[99] }) := by rw [hW7]; exact (World.cell?_setCell_other _ _ _ _ (by simp)).trans (e3 _)
          have xx4 : W7.cell? ⟨w3.heap.size + 1, 4, none⟩ = some (.int .i64 PV) := by rw [hW7]; exact (World.cell?_setCell_other _ _ _ _ (by simp)).trans (e4 _)
          have HS7 : Hid (W7.heap.size = w6.heap.size + 1) := hs7
          have hacc := H.acc ⟨kn, l.epoch, 0, exC, PV⟩ hR7 hroom2 ⟨by unfold inInt; simp only; omega, by unfold inInt; simp only; omega, by unfold inInt; simp only; omega, by unfold inInt; simp only; omega, (show exC.size ≤ maxLen by decide)⟩
          simp only [accept?] at hacc
          rw [old_accept hkn hTl hNE1 hPV] at hacc
          simp only at hacc
          clear x0 x1 x2 x3 x4 xf hs7
          go_wp2_with fail
          rw [← hW7]
          clear hW7 e0 e1 e2 e3 e4 ef
          refine hacc.mono ?_
          rintro _ w8 ⟨F8, rfl, hR8, hF8, c78⟩
          clear hacc
          have z78 := c78.size
          go_wp2_with fail
          refine (H.close hR8).mono ?_
          rintro _ w9 ⟨rfl, hR9, c89⟩
          simp only [errno?]
          have z89 := c89.size
          go_wp2_with fail
          refine (H.close hR9).mono ?_
          rintro _ w10 ⟨rfl, hR10, c910⟩
          simp only [errno?]
          have z910 := c910.size
          have c7_10 : Chg F5 W7 w10 := (c78.chain hF8 c89).chain hF8 c910
          replace xx0 := c7_10.cellAt xx0 (fun h => hF5x _ h rfl)
          replace xx1 := c7_10.cellAt xx1 (fun h => hF5x _ h rfl)
          replace xx2 := c7_10.cellAt xx2 (fun h => hF5x _ h rfl)
          replace xx3 := c7_10.cellAt xx3 (fun h => hF5x _ h rfl)
          replace xx4 := c7_10.cellAt xx4 (fun h => hF5x _ h rfl)
          have hacc := H.acc ⟨kn, l.epoch, 0, exC, PV⟩ hR10 hroom3 ⟨by unfold inInt; simp only; omega, by unfold inInt; simp only; omega, by unfold inInt; simp only; omega, by unfold inInt; simp only; omega, (show exC.size ≤ maxLen by decide)⟩
          simp only [accept?] at hacc
          go_wp2_with fail
          refine hacc.mono ?_
          rintro _ w11 ⟨F11, rfl, hR11, hF11, c1011⟩
          clear hacc xx0 xx1 xx2 xx3 xx4
          have c7 : Chg F5 W7 w11 := c7_10.chain hF8 c1011
          have hlw5 : ∀ k, w5.heap.size ≤ k → ¬ F5 k := fun k h hk => by have := hF5l k hk; omega
          replace tv0 := c7.cellAt tv0 (hlw5 _ h56)
          replace tv1 := c7.cellAt tv1 (hlw5 _ h56)
          have hgx : ∀ k, w5.heap.size ≤ k → ¬ k = w3.heap.size + 1 := fun k h e => by rw [HS4.out] at h45; omega
          have m0 := c7.cellAt (c67.cellAt (hcell6 _ _ y6.1) (hgx _ hg6)) (hlw5 _ hg6)
          have m1 := c7.cellAt (c67.cellAt (hcell6 _ _ y6.2.1) (hgx _ hg6)) (hlw5 _ hg6)
          have m2 := c7.cellAt (c67.cellAt (hcell6 _ _ y6.2.2) (hgx _ hg6)) (hlw5 _ hg6)
          simp only [List.length_nil] at m2
          -- the first state, as it was told
          have c411 : Chg (fun k => F k ∨ k = w3.heap.size + 1) W4 w11 := (((c46.mono (fun _ h => .inl h)).trans c67 (fun _ _ h => .inr h)).trans c7 (fun n hn h => (hF5 n h).elim .inl (fun h => by omega)))
          have hsF : ¬ (F w3.heap.size ∨ w3.heap.size = w3.heap.size + 1) := by
            rintro (h | h)
            · have := hFr _ h; omega
            · omega
          have sv0 := c411.cellAt s0 hsF
          have sv1 := c411.cellAt s1 hsF
          have hkS : w11.ownsRow wr.heap.size 57 4 (.slice pk s.keys.length ck) s.keys.length (keyCells s.keys) := by
            refine c411.row' (c34.row' hk3 (fun _ _ h => h)) (fun k hk hf => ?_)
            have hb := hk3.lt k hk
            rcases hf with h | h
            · have := hFr _ h; omega
            · omega
          have hkT : w11.ownsRow w5.heap.size 57 4 (.slice pk6 T.keys.length ck6) T.keys.length (keyCells T.keys) := by
            refine c7.row' (c67.row' hk6 (fun k hk e => ?_)) (fun k hk => hlw5 k (hk6.lt k hk).1)
            exact hgx k (hk6.lt k hk).1 e
          have call : Chg (fun _ => False) w w11 := by
            refine (cw3.trans c34 (fun _ _ h => h)).trans c411 (fun n hn h => ?_)
            have := cw3.size
            rcases h with h | h
            · have := hFw n h; omega
            · omega
          clear hcell6 y6 t6 q6 r6 s0 s1 z0 hs3 hs6 hk3 hk6 hR hR3 hR5 hR6 hR7 hR8 hR9 hR10 hR11 c34 c45 c56 c46 c67 c78 c89 c910 c1011 c7_10 c7 c411 hF5 hF8 hF11 hF5x hF5l hlw5 hgx hsF c3 cw3 hc
          have hup := counts_upto (ks := s.keys) (fun k hk => (hf.key k hk).1)
          have hupT := counts_upto (ks := T.keys) (fun k hk => (hfT.key k hk).1)
          have HTK : Hid (counts T.keys = counts s.keys + 1) := hTk
          clear hTk
          go_wp2_with fail
          go_loopw [29, 31] (fun sn si wq => ∃ (j : Nat) (n : Int), si = .int .i64 j ∧ j ≤ s.keys.length ∧ sn = .int .i64 n ∧ Hid (n = counts (s.keys.take j)) ∧ Chg (fun _ => False) w11 wq) (fun _ si _ => s.keys.length - (intOf si).toNat)
          case atStart => exact ⟨0, 0, rfl, by omega, rfl, (show _ = _ by simp [counts]), Chg.refl _ _⟩
          case round =>
            obtain ⟨j, n, rfl, hj, rfl, HN, hcj⟩ := hrel
            have sw1 := hcj.cellAt sv1 id
            by_cases hjl : j < s.keys.length
            · obtain ⟨x, hx⟩ : ∃ x, s.keys[j]? = some x := ⟨_, List.getElem?_eq_getElem hjl⟩
              have cx := keyCells_at s.keys j x hx
              obtain ⟨gk, capk, hvk, _, _, hck⟩ := row_pos hkS (by omega)
              simp only [Value.slice.injEq] at hvk
              obtain ⟨rfl, _, rfl⟩ := hvk
              have p1 := hcj.cellAt (hck _ _ cx.2.1) id
              have hjl' : (j : Int) < (s.keys.length : Int) := by omega
              have hn := counts_next s.keys j x hx
              have hn1 := hup j
              have hn2 := hup (j + 1)
              have hnx : 0 ≤ n ∧ n ≤ 1000 ∧ 0 ≤ n + x.count ∧ n + x.count ≤ 1000 := by rw [HN.out]; omega
              clear hck cx hn1 hn2 hup hupT
              have HNX : Hid (counts (s.keys.take (j + 1)) = counts (s.keys.take j) + x.count) := hn
              clear hn
              go_wp2_with fail
              go_roundw
              case rel => exact ⟨j + 1, n + x.count, by go_num, by omega, by go_num, (show _ = _ by rw [HNX.out, HN.out]), hcj⟩
              case measure => simp [intOf]; omega
            · have hjl' : ¬ (j : Int) < (s.keys.length : Int) := by omega
              obtain rfl : j = s.keys.length := by omega
              have HN' : Hid (n = counts s.keys) := by show _ = _; rw [HN.out, List.take_length]
              have hn0 : 0 ≤ n ∧ n ≤ 1000 := by rw [HN'.out]; omega
              clear HN hup
              go_wp2_with fail
              go_loopw [30, 32] (fun sn si wq => ∃ (j : Nat) (m : Int), si = .int .i64 j ∧ j ≤ T.keys.length ∧ sn = .int .i64 m ∧ Hid (m = counts (T.keys.take j)) ∧ Chg (fun _ => False) w11 wq) (fun _ si _ => T.keys.length - (intOf si).toNat)
              case atStart => exact ⟨0, 0, rfl, by omega, rfl, (show _ = _ by simp [counts]), hcj⟩
              case round =>
                obtain ⟨j, m, rfl, hj, rfl, HM, hcm⟩ := hrel
                have tw1 := hcm.cellAt tv1 id
                by_cases hjl : j < T.keys.length
                · obtain ⟨x, hx⟩ : ∃ x, T.keys[j]? = some x := ⟨_, List.getElem?_eq_getElem hjl⟩
                  have cx := keyCells_at T.keys j x hx
                  obtain ⟨gk, capk, hvk, _, _, hck⟩ := row_pos hkT (by omega)
                  simp only [Value.slice.injEq] at hvk
                  obtain ⟨rfl, _, rfl⟩ := hvk
                  have p1 := hcm.cellAt (hck _ _ cx.2.1) id
                  have hjl' : (j : Int) < (T.keys.length : Int) := by omega
                  have hn := counts_next T.keys j x hx
                  have hn1 := hupT j
                  have hn2 := hupT (j + 1)
                  have hnx : 0 ≤ m ∧ m ≤ 1000 ∧ 0 ≤ m + x.count ∧ m + x.count ≤ 1000 := by rw [HM.out]; omega
                  clear hck cx hn1 hn2 hupT
                  have HNX : Hid (counts (T.keys.take (j + 1)) = counts (T.keys.take j) + x.count) := hn
                  clear hn
                  go_wp2_with fail
                  go_roundw
                  case rel => exact ⟨j + 1, m + x.count, by go_num, by omega, by go_num, (show _ = _ by rw [HNX.out, HM.out]), hcm⟩
                  case measure => simp [intOf]; omega
                · have hjl' : ¬ (j : Int) < (T.keys.length : Int) := by omega
                  obtain rfl : j = T.keys.length := by omega
                  have hm : m = n + 1 := by rw [HM.out, List.take_length, HTK.out, HN'.out]
                  subst hm
                  go_wp2_with fail
                  go_ret
                  exact ⟨rfl, call.trans hcm (fun _ _ h => h)⟩
      · have hlt : wrap64 (l.epoch + 1 + PB) < l.epoch := by unfold wrap64; omega
        go_wp2_with fail
        refine (HB.out _).mono ?_
        rintro _ wp ⟨rfl, ewp⟩
        rw [ewp]
        clear ewp wp
        go_wp2_with fail
        go_ret
        exact ⟨rfl, cw3.alloc _⟩

end Go.Proofs.YthedkdbgfdjlkaaGreat

/- A SCRIPT AS AN ARGUMENT, OPENED. -/
namespace Go.Proofs.YthedkdbgfdjlkaaGreat
set_option linter.unusedVariables false
set_option linter.unusedSimpArgs false
open Go.ChangeShapes Go.WideShapes Go.ChangeAt Go.RowKit Go.Deep

theorem Tryz.ownKnob : ownKnob Tryz.prog.godebug = none := by kernel_rfl
theorem Tryz.laidOut : laidOutB Tryz.prog = true := by kernel_rfl
theorem Tryz.bytesStep : Tryz.prog.bytesOf 44 = 80 := by kernel_rfl
theorem Tryz.cellsStep : Tryz.prog.cellsOf 44 = 8 := by kernel_rfl
theorem Tryz.cellsRec : Tryz.prog.cellsOf 34 = 5 := by kernel_rfl
theorem Tryz.cellsInt : Tryz.prog.cellsOf 3 = 1 := by kernel_rfl
theorem Tryz.cellsStr : Tryz.prog.cellsOf 9 = 1 := by kernel_rfl

theorem wf_inInt {n : Int} (h : (Lit.int .i64 n).wf = true) : inInt n := by
  simpa [Lit.wf, IntKind.min, IntKind.max, IntKind.signed, IntKind.bits, inInt] using h

theorem len4 {α : Type} {l : List α} (h : l.length = 4) : ∃ a b c d, l = [a, b, c, d] := by
  match l, h with
  | [a, b, c, d], _ => exact ⟨a, b, c, d, rfl⟩
theorem len5 {α : Type} {l : List α} (h : l.length = 5) : ∃ a b c d e, l = [a, b, c, d, e] := by
  match l, h with
  | [a, b, c, d, e], _ => exact ⟨a, b, c, d, e, rfl⟩
theorem len8 {α : Type} {l : List α} (h : l.length = 8) : ∃ a b c d e f g i, l = [a, b, c, d, e, f, g, i] := by
  match l, h with
  | [a, b, c, d, e, f, g, i], _ => exact ⟨a, b, c, d, e, f, g, i, rfl⟩

section
variable {H : Type} {enc : TypeId × Value → H} {W : World} {sp : Nat → Bool} {held : Bool} {base : Nat}

theorem open_rec {n : Nat} {cs : List Value} {y : DataW H × List MemPlace} (h : DataW.trod enc Tryz.prog W base sp held n 34 cs = some y) :
    ∃ x : Rec, cs = [.int .i64 x.session, .int .i64 x.epoch, .int .i64 x.number, .string x.key, .int .i64 x.value] ∧ x.fits := by
  obtain ⟨xs, k, _, _, hlen, hxl, hf⟩ := DataW.trod_struct Tryz.underlying34 h
  rw [Tryz.cellsRec] at hlen
  obtain ⟨y0, y1, y2, y3, y4, rfl⟩ := len5 hxl
  obtain ⟨c0, c1, c2, c3, c4, rfl⟩ := len5 hlen
  · clear hxl hlen h
    have g0 := hf 0 _ rfl
    have g1 := hf 1 _ rfl
    have g2 := hf 2 _ rfl
    have g3 := hf 3 _ rfl
    have g4 := hf 4 _ rfl
    simp [Tryz.cellsInt, Tryz.cellsStr] at g0 g1 g2 g3 g4
    obtain ⟨n0, e0, _, w0⟩ := DataW.trod_int Tryz.underlying3 g0
    obtain ⟨n1, e1, _, w1⟩ := DataW.trod_int Tryz.underlying3 g1
    obtain ⟨n2, e2, _, w2⟩ := DataW.trod_int Tryz.underlying3 g2
    obtain ⟨s3, e3, _, w3⟩ := DataW.trod_string Tryz.underlying9 g3
    obtain ⟨n4, e4, _, w4⟩ := DataW.trod_int Tryz.underlying3 g4
    simp at e0 e1 e2 e3 e4
    exact ⟨⟨n0, n1, n2, s3, n4⟩, by simp [e0, e1, e2, e3, e4], ⟨wf_inInt w0, wf_inInt w1, wf_inInt w2, wf_inInt w4, w3⟩⟩

theorem open_step {n : Nat} {cs : List Value} {y : DataW H × List MemPlace} (h : DataW.trod enc Tryz.prog W base sp held n 44 cs = some y) :
    ∃ x : Stp, cs = [.int .i64 x.kind, .int .i64 x.x.session, .int .i64 x.x.epoch, .int .i64 x.x.number, .string x.x.key, .int .i64 x.x.value, .string x.key, .int .i64 x.n] ∧ x.x.fits ∧ inInt x.kind ∧ inInt x.n ∧ x.key.size ≤ maxLen := by
  obtain ⟨xs, k, _, _, hlen, hxl, hf⟩ := DataW.trod_struct Tryz.underlying44 h
  rw [Tryz.cellsStep] at hlen
  obtain ⟨y0, y1, y2, y3, rfl⟩ := len4 hxl
  obtain ⟨c0, c1, c2, c3, c4, c5, c6, c7, rfl⟩ := len8 hlen
  · clear hxl hlen h
    have g0 := hf 0 _ rfl
    have g1 := hf 1 _ rfl
    have g2 := hf 2 _ rfl
    have g3 := hf 3 _ rfl
    simp [Tryz.cellsInt, Tryz.cellsStr, Tryz.cellsRec] at g0 g1 g2 g3
    obtain ⟨n0, e0, _, w0⟩ := DataW.trod_int Tryz.underlying3 g0
    obtain ⟨x, e1, hx⟩ := open_rec g1
    obtain ⟨s2, e2, _, w2⟩ := DataW.trod_string Tryz.underlying9 g2
    obtain ⟨n3, e3, _, w3⟩ := DataW.trod_int Tryz.underlying3 g3
    simp at e0 e1 e2 e3
    exact ⟨⟨n0, x, s2, n3⟩, by simp [e0, e1, e2, e3], hx, wf_inInt w0, wf_inInt w3, w2⟩

set_option maxRecDepth 100000 in
theorem open_script {v : Value} {d : DataW H} {p : List MemPlace} (hv : Value.okWide Tryz.prog W .any base 42 v) (h : DataW.Trod enc Tryz.prog W 0 (fun _ => true) true 42 v d p) (hw : ∀ n ∈ DataW.weights Tryz.prog 42 d, n ≤ reachBytes) : ∃ L, ScriptAt W v L := by
  obtain ⟨a0, len0, cap0, rfl⟩ := okWide_slice Tryz.underlying42 hv
  obtain ⟨fuel, hf⟩ := h
  rcases open_slice Tryz.underlying42 hf with ⟨hc, _⟩ | ⟨a, len, cap, m, n, D, Pl, hcs, _, hl, hm, hmm, hdp, hall⟩
  · simp [Value.cells] at hc
    obtain ⟨rfl, rfl, rfl⟩ := hc
    exact ⟨[], ⟨none, 0, rfl⟩, by simp, fun i x hx => by simp at hx, by simp, by simp⟩
  · simp [Value.cells] at hcs
    obtain ⟨rfl, rfl, rfl⟩ := hcs
    simp only [if_true] at hmm
    subst hmm
    have hlen80 : len0 * 80 ≤ 140737488351232 := by
      have hd := (Prod.mk.inj hdp).1
      rw [hd] at hw
      have := hw ((((List.range len0).map D).length + ((List.range (m - len0)).map fun j => D (len0 + j)).length) * Tryz.prog.bytesOf 44) (by simp [DataW.weights, Tryz.underlying42])
      rw [Tryz.bytesStep] at this
      simp only [List.length_map, List.length_range] at this
      unfold reachBytes at this
      omega
    rw [Tryz.cellsStep] at hall
    have each : ∀ i, i < m → ∃ x : Stp, (∀ j u, [.int .i64 x.kind, .int .i64 x.x.session, .int .i64 x.x.epoch, .int .i64 x.x.number, .string x.x.key, .int .i64 x.x.value, .string x.key, .int .i64 x.n][j]? = some u → W.cell? (a.add (i * 8 + j)) = some u) ∧ x.x.fits ∧ inInt x.kind ∧ inInt x.n ∧ x.key.size ≤ maxLen := fun i hi => by
      obtain ⟨cs', h1, h2⟩ := hall i hi
      obtain ⟨x, rfl, hx⟩ := open_step h2
      obtain ⟨_, _, hcell⟩ := World.cells?_some h1
      refine ⟨x, fun j u hu => ?_, hx⟩
      have hj : j < 8 := by
        have := (List.getElem?_eq_some_iff.1 hu).1
        simpa using this
      have := hcell j hj
      rw [add_add] at this
      rw [this]; exact hu
    obtain ⟨f, hfx⟩ := @choose_lt Stp ⟨⟨0, ⟨0, 0, 0, ⟨#[]⟩, 0⟩, ⟨#[]⟩, 0⟩⟩ _ _ each
    refine ⟨(List.range len0).map f, ⟨some a, m, by simp⟩, by simp only [List.length_map, List.length_range]; exact hlen80, fun i x hx => ?_, fun x hx => ?_, fun x hx => ?_⟩
    · have hi : i < len0 := by
        have := (List.getElem?_eq_some_iff.1 hx).1
        simpa using this
      have hxe : f i = x := by
        rw [List.getElem?_map, List.getElem?_range hi] at hx
        simpa using hx
      subst hxe
      obtain ⟨sb, so, spot⟩ := a
      have hc := (hfx i (by omega)).1
      have hspot : spot = none := by
        have := World.cell?_spot ((hfx 0 (by omega)).1 0 _ rfl)
        simpa [Addr.add] using this
      subst hspot
      have hq : ∀ j u, [.int .i64 (f i).kind, .int .i64 (f i).x.session, .int .i64 (f i).x.epoch, .int .i64 (f i).x.number, .string (f i).x.key, .int .i64 (f i).x.value, .string (f i).key, .int .i64 (f i).n][j]? = some u → W.cell? ⟨sb, so + i * 8 + j, none⟩ = some u := fun j u hu => by
        have := hc j u hu
        rw [add_lit'] at this
        rw [show so + i * 8 + j = so + (i * 8 + j) by omega]
        exact this
      exact ⟨sb, so, m, by simp, hq 0 _ rfl, hq 1 _ rfl, hq 2 _ rfl, hq 3 _ rfl, hq 4 _ rfl, hq 5 _ rfl, hq 6 _ rfl, hq 7 _ rfl⟩
    · obtain ⟨i, hi, rfl⟩ := List.mem_map.1 hx
      exact (hfx i (by have := List.mem_range.1 hi; omega)).2.1
    · obtain ⟨i, hi, rfl⟩ := List.mem_map.1 hx
      exact (hfx i (by have := List.mem_range.1 hi; omega)).2.2

end
end Go.Proofs.YthedkdbgfdjlkaaGreat

/- Bounded, WALKED: what it takes beside, and what it counts. -/
namespace Go.Proofs.YthedkdbgfdjlkaaGreat
set_option linter.unusedVariables false
set_option linter.unusedSimpArgs false
open Go.RowKit

variable {R : Nat → World → Addr → Option St → (Nat → Prop) → Prop}

/-- What a step may add. -/
def gain (d : Bool) (kind : Int) : Int := if d = true ∧ kind = 0 then 1 else 0

theorem gain_pos (d : Bool) (kind : Int) : 0 ≤ gain d kind ∧ gain d kind ≤ 1 := by
  unfold gain; split <;> omega

/-- What a step makes of a state: was it done? -/
structure StepOK (s : St) (kind : Int) (d : Bool) (t : St) : Prop where
  same : d = false ∨ 1 < kind → t = s
  more : t.records ≤ s.records + gain d kind

set_option maxHeartbeats 1000000 in
theorem does_any (H : ApiN R) (HB : ApiB R) {n0 : Nat} {w : World} {a : Addr} {s : St} {F : Nat → Prop} (p : Stp) (hR : R n0 w a (some s) F) (hn0 : n0 ≤ roomy) (hn1 : 512 ≤ n0) (hx : p.x.fits) (hm : inInt p.kind ∧ inInt p.n ∧ p.key.size ≤ maxLen) :
    Calls Tryz.prog 14 #[.pointer (some a), p.value'] w fun e w' => ∃ F' d t, e = .returned (.bool d) ∧ R (n0 + 32) w' a (some t) F' ∧ (∀ k, F' k → F k ∨ w.heap.size ≤ k) ∧ Chg F w w' ∧ StepOK s p.kind d t := by
  by_cases h0 : p.kind = 0
  · refine (does_accept H p h0 hR hn0 hx).mono ?_
    rintro e w' ⟨F', rfl, h1, h2, h3⟩
    refine ⟨F', _, _, rfl, h1, h2, h3, fun h => ?_, ?_⟩
    · rcases h with h | h
      · refine accept_err fun e => ?_
        simp only [accept?] at h
        rw [e] at h
        cases h
      · omega
    · have := accept_records s p.x
      by_cases e : (accept s p.x).1.2 = 0
      · have hg : gain ((accept? (some s) p.x).1.2 == 0) p.kind = 1 := by
          unfold gain; rw [if_pos]; exact ⟨by simp only [accept?]; simpa using e, h0⟩
        rw [hg]
        exact this
      · have hg := (gain_pos ((accept s p.x).1.2 == 0) p.kind).1
        have e2 : (accept s p.x).2 = s := accept_err e
        simp only [accept?]
        rw [e2]
        omega
  · obtain ⟨kind, ⟨se, ep, n, k, v⟩, key, m⟩ := p
    simp only at h0 hx hm
    simp only [Stp.value']
    have c0 : Chg F w (w.alloc (.cells #[.int .i64 kind, .int .i64 se, .int .i64 ep, .int .i64 n, .string k, .int .i64 v, .string key, .int .i64 m] 44)) := (Chg.refl F w).alloc _
    have hz : w.heap.size ≤ (w.alloc (.cells #[.int .i64 kind, .int .i64 se, .int .i64 ep, .int .i64 n, .string k, .int .i64 v, .string key, .int .i64 m] 44)).heap.size := c0.size
    have h0' : (kind == 0) = false := by simpa using h0
    by_cases h1 : kind = 1
    · have h1' : (kind == 1) = true := by simpa using h1
      have han := HB.answer key m (H.alloc hR (.cells #[.int .i64 kind, .int .i64 se, .int .i64 ep, .int .i64 n, .string k, .int .i64 v, .string key, .int .i64 m] 44)) hn0 hm.2.2 hm.2.1
      have H1 : Hid (kind = 1) := h1
      clear h1 h0
      go_enter Tryz.func14, Tryz.ntmps14
      go_wp2_with fail
      refine han.mono ?_
      rintro _ w1 ⟨F', er, t, rfl, hR1, hb, hs, hF1, hc1⟩
      clear han
      go_wp2
      go_ret
      refine ⟨F', _, t, rfl, hR1, fun k hk => (hF1 k hk).imp id (fun h => by omega), c0.trans hc1 (fun _ _ h => h), fun h => ?_, by rw [hb.records]; have := (gain_pos (er == 0) kind).1; omega⟩
      rcases h with h | h
      · exact hs (by simpa using h)
      · have := H1.out; omega
    · have h1' : (kind == 1) = false := by simpa using h1
      by_cases h2 : kind = 2
      · have h2' : (kind == 2) = true := by simpa using h2
        have hsh := HB.shrink (H.alloc hR (.cells #[.int .i64 kind, .int .i64 se, .int .i64 ep, .int .i64 n, .string k, .int .i64 v, .string key, .int .i64 m] 44))
        clear h2 h1 h0
        go_enter Tryz.func14, Tryz.ntmps14
        go_wp2_with fail
        refine hsh.mono ?_
        rintro _ w1 ⟨F', er, rfl, hR1, hF1, hc1⟩
        clear hsh
        go_wp2
        go_ret
        exact ⟨F', _, s, rfl, H.mono hR1 (by omega), fun k hk => (hF1 k hk).imp id (fun h => by omega), c0.trans hc1 (fun _ _ h => h), fun _ => rfl, by have := fun d => (gain_pos d kind).1; first | (have := this true; omega) | (have := this false; omega) | exact Int.le_add_of_nonneg_right (this _)⟩
      · have h2' : (kind == 2) = false := by simpa using h2
        clear h2 h1 h0
        go_enter Tryz.func14, Tryz.ntmps14
        go_wp2
        go_ret
        exact ⟨F, _, s, rfl, H.mono (H.alloc hR _) (by omega), fun k hk => .inl hk, c0, fun _ => rfl, by have := fun d => (gain_pos d kind).1; first | (have := this true; omega) | (have := this false; omega) | exact Int.le_add_of_nonneg_right (this _)⟩

end Go.Proofs.YthedkdbgfdjlkaaGreat

/- Once, THE PURE PART: what the document's relay makes of records that producers number by sessions. -/
namespace Go.Proofs.YthedkdbgfdjlkaaGreat
set_option linter.unusedVariables false
set_option linter.unusedSimpArgs false
open Go.RowKit

def Rec.wt (x : Rec) : Wt := ⟨x.number, x.key, x.value⟩

/-- The ledger behind these records, one after another. -/
def keysOf (l : List Rec) (ks : List Ky) : List Ky := l.foldl (fun ks x => takeKy x.key x.value ks) ks

/-- Those of one session. -/
def ofS (all : List Rec) (i : Nat) : List Rec := all.filter (fun x => x.session == (i : Int))

def kC : ByteArray := { data := #[99] }
def kS : ByteArray := { data := #[115] }
def kL : ByteArray := { data := #[108, 97, 115, 116] }
def kM : ByteArray := { data := #[109, 97, 120] }
def names4 : List ByteArray := [kC, kS, kL, kM]

/-- Records as producers send them. -/
structure Numbered (all : List Rec) : Prop where
  few : all.length ≤ 900
  each : ∀ x ∈ all, 0 ≤ x.session ∧ x.session < 4 ∧ x.epoch = 0 ∧ x.key ∈ names4 ∧ 0 ≤ x.value ∧ x.value ≤ 4294967295
  num : ∀ (i n : Nat) (x : Rec), (ofS all i)[n]? = some x → x.number = n

structure LnInv (A : List Rec) (l : Ln) : Prop where
  ep : l.epoch = 0
  lo : 0 ≤ l.base
  hi : l.base ≤ A.length
  up : l.ws.Pairwise fun a b => a.num < b.num
  win : ∀ y ∈ l.ws, l.base < y.num ∧ y.num < l.base + 4
  wt : ∀ y ∈ l.ws, ∃ x, A[y.num.toNat]? = some x ∧ y = x.wt

def bases : List Ln → Int
  | [] => 0
  | l :: r => l.base + bases r

structure OInv (all ol : List Rec) (s : St) : Prop where
  four : s.lanes.length = 4
  keys : s.keys = keysOf ol []
  lane : ∀ (i : Nat) (l : Ln), s.lanes[i]? = some l → LnInv (ofS all i) l
  sum : (ol.length : Int) = bases s.lanes
  sub : ∀ x ∈ ol, x ∈ all

theorem keysOf_append (a b : List Rec) (ks : List Ky) : keysOf (a ++ b) ks = keysOf b (keysOf a ks) := List.foldl_append

theorem counts_keysOf : ∀ (l : List Rec) (ks : List Ky), counts (keysOf l ks) = counts ks + l.length
  | [], ks => by simp [keysOf]
  | x :: r, ks => by
    have := counts_keysOf r (takeKy x.key x.value ks)
    rw [counts_takeKy] at this
    simp only [keysOf, List.foldl_cons] at this ⊢
    rw [this]
    simp
    omega

theorem bases_set : ∀ (ls : List Ln) (i : Nat) (l l' : Ln), ls[i]? = some l → bases (ls.set i l') = bases ls - l.base + l'.base
  | [], i, l, l', h => by simp at h
  | x :: r, 0, l, l', h => by
    simp at h; subst h
    simp [bases]; omega
  | x :: r, i + 1, l, l', h => by
    have := bases_set r i l l' (by simpa using h)
    simp [bases, this]; omega

theorem up_len : ∀ (ws : List Wt) (a b : Int), (ws.Pairwise fun a b => a.num < b.num) → (∀ y ∈ ws, a ≤ y.num ∧ y.num < b) → ws = [] ∨ (ws.length : Int) ≤ b - a
  | [], a, b, _, _ => .inl rfl
  | x :: r, a, b, hu, hm => by
    right
    obtain ⟨h1, h2⟩ := List.pairwise_cons.1 hu
    have hx := hm x (by simp)
    rcases up_len r (x.num + 1) b h2 (fun y hy => ⟨h1 y hy, (hm y (by simp [hy])).2⟩) with h | h
    · subst h; simp; omega
    · simp; omega

theorem LnInv.room {A : List Rec} {l : Ln} (h : LnInv A l) : l.base + l.ws.length ≤ A.length := by
  rcases up_len l.ws (l.base + 1) A.length h.up (fun y hy => ⟨(h.win y hy).1, by
    obtain ⟨x, hx, _⟩ := h.wt y hy
    have := (List.getElem?_eq_some_iff.1 hx).1
    have := (h.win y hy).1
    have := h.lo
    omega⟩) with e | e
  · have := h.hi
    rw [e]; simpa using this
  · omega

theorem ofS_total : ∀ (all : List Rec), (∀ x ∈ all, 0 ≤ x.session ∧ x.session < 4) → (ofS all 0).length + (ofS all 1).length + (ofS all 2).length + (ofS all 3).length = all.length
  | [], _ => rfl
  | x :: r, h => by
    have ih := ofS_total r (fun y hy => h y (by simp [hy]))
    have hx := h x (by simp)
    unfold ofS at ih ⊢
    rcases (by omega : x.session = 0 ∨ x.session = 1 ∨ x.session = 2 ∨ x.session = 3) with e | e | e | e <;> simp [List.filter_cons, e] at ih ⊢ <;> omega

theorem OInv.total {all ol : List Rec} {s : St} (h : OInv all ol s) (hn : Numbered all) : s.records ≤ all.length := by
  have ht := ofS_total all (fun x hx => ⟨(hn.each x hx).1, (hn.each x hx).2.1⟩)
  have hk : counts s.keys = bases s.lanes := by rw [h.keys, counts_keysOf, ← h.sum]; simp [counts]
  unfold St.records
  rw [hk]
  have h4 := h.four
  have hl := h.lane
  match hs : s.lanes, h4 with
  | [l0, l1, l2, l3], _ =>
    rw [hs] at hl
    have r0 := (hl 0 l0 rfl).room
    have r1 := (hl 1 l1 rfl).room
    have r2 := (hl 2 l2 rfl).room
    have r3 := (hl 3 l3 rfl).room
    simp only [bases, waits]
    omega

/-- What is taken, one behind another. -/
theorem drain_once (A : List Rec) : ∀ (ws : List Wt) (b : Int) (ks : List Ky), 0 ≤ b → (ws.Pairwise fun a b => a.num < b.num) → (∀ y ∈ ws, b ≤ y.num ∧ ∃ x, A[y.num.toNat]? = some x ∧ y = x.wt) →
    ∃ n : Nat, drainW b ws ks = (b + n, ws.drop n, keysOf ((A.drop b.toNat).take n) ks) ∧ n ≤ ws.length ∧ (n = 0 ∨ b + n ≤ A.length) ∧ (∀ y ∈ ws.drop n, b + n < y.num) ∧ (∀ y, ws.head? = some y → y.num = b → 0 < n)
  | [], b, ks, _, _, _ => ⟨0, by simp [drainW, keysOf], by simp, .inl rfl, by simp, by simp⟩
  | x :: r, b, ks, hb, hu, hm => by
    obtain ⟨h1, h2⟩ := List.pairwise_cons.1 hu
    obtain ⟨hx1, x0, hx2, hx3⟩ := hm x (by simp)
    by_cases e : x.num = b
    · obtain ⟨n, g1, g2, g3, g4, _⟩ := drain_once A r (b + 1) (takeKy x.key x.val ks) (by omega) h2 (fun y hy => ⟨by have := h1 y hy; omega, (hm y (by simp [hy])).2⟩)
      have hlen := (List.getElem?_eq_some_iff.1 hx2).1
      rw [e] at hx2 hlen
      have hd : A.drop b.toNat = x0 :: A.drop (b.toNat + 1) := by
        rw [List.drop_eq_getElem_cons hlen, (List.getElem?_eq_some_iff.1 hx2).2]
      refine ⟨n + 1, ?_, by simp; omega, .inr (by rcases g3 with g3 | g3 <;> omega), fun y hy => ?_, fun _ _ _ => by omega⟩
      · simp only [drainW, if_pos e]
        rw [g1, hd]
        have e1 : (b + 1).toNat = b.toNat + 1 := by omega
        have e2 : b + 1 + (n : Int) = b + ((n + 1 : Nat) : Int) := by omega
        rw [e1, e2]
        simp only [List.take_succ_cons, List.drop_succ_cons, keysOf, List.foldl_cons]
        rw [hx3]
        rfl
      · have := g4 y (by simpa using hy)
        omega
    · refine ⟨0, by simp [drainW, if_neg e, keysOf], by simp, .inl rfl, fun y hy => ?_, fun y hy he => ?_⟩
      · simp at hy
        rcases hy with rfl | hy
        · omega
        · have := h1 y hy; omega
      · simp at hy; subst hy; exact absurd he e

theorem mem_putW (x : Wt) : ∀ (l : List Wt) (y : Wt), y ∈ putW x l ↔ y = x ∨ y ∈ l
  | [], y => by simp [putW]
  | z :: r, y => by
    unfold putW
    split
    · simp
    · simp only [List.mem_cons, mem_putW x r y]
      constructor
      · rintro (h | h | h) <;> simp [h]
      · rintro (h | h | h) <;> simp [h]

theorem putW_up (x : Wt) : ∀ {l : List Wt}, (l.Pairwise fun a b => a.num < b.num) → (∀ y ∈ l, y.num ≠ x.num) → (putW x l).Pairwise fun a b => a.num < b.num
  | [], _, _ => by simp [putW]
  | z :: r, hu, hn => by
    obtain ⟨h1, h2⟩ := List.pairwise_cons.1 hu
    unfold putW
    split
    · rename_i h
      refine List.pairwise_cons.2 ⟨fun y hy => ?_, hu⟩
      rcases List.mem_cons.1 hy with rfl | hy
      · exact h
      · have := h1 y hy; omega
    · rename_i h
      refine List.pairwise_cons.2 ⟨fun y hy => ?_, putW_up x h2 (fun y hy => hn y (by simp [hy]))⟩
      rcases (mem_putW x r y).1 hy with rfl | hy
      · have := hn z (by simp); omega
      · exact h1 y hy

theorem putW_head (x : Wt) : ∀ {l : List Wt}, (∀ y ∈ l, x.num < y.num) → (putW x l).head? = some x
  | [], _ => rfl
  | z :: r, h => by
    have := h z (by simp)
    simp [putW, this]

theorem isIn_mem (k : ByteArray) (r : List ByteArray) : isIn k r = true ↔ k ∈ r := by
  unfold isIn
  rw [List.any_eq_true]
  constructor
  · rintro ⟨y, hy, e⟩
    have e : y = k := by simpa using e
    rw [← e]; exact hy
  · intro h
    exact ⟨k, h, by simp⟩

theorem distinct_le (m : List ByteArray) : ∀ (l : List ByteArray), (∀ k ∈ l, k ∈ m) → distinct l ≤ m.length := by
  intro l
  suffices h : ∀ l : List ByteArray, ∃ N : List ByteArray, N.Nodup ∧ (∀ x ∈ N, x ∈ l) ∧ N.length = distinct l by
    intro hl
    obtain ⟨N, h1, h2, h3⟩ := h l
    rw [← h3]
    exact h1.length_le_of_subset (fun x hx => hl x (h2 x hx))
  intro l
  induction l with
  | nil => exact ⟨[], List.nodup_nil, by simp, rfl⟩
  | cons k r ih =>
    obtain ⟨N, h1, h2, h3⟩ := ih
    unfold distinct
    split
    · exact ⟨N, h1, fun x hx => by simp [h2 x hx], h3⟩
    · rename_i hk
      refine ⟨k :: N, List.nodup_cons.2 ⟨fun h => hk ((isIn_mem k r).2 (h2 k h)), h1⟩, fun x hx => ?_, by simp [h3]⟩
      rcases List.mem_cons.1 hx with rfl | hx
      · simp
      · simp [h2 x hx]

theorem keysOf_names : ∀ (l : List Rec) (ks : List Ky) (k : Ky), k ∈ keysOf l ks → (∃ y ∈ ks, y.name = k.name) ∨ ∃ x ∈ l, x.key = k.name
  | [], ks, k, h => .inl ⟨k, h, rfl⟩
  | x :: r, ks, k, h => by
    rcases keysOf_names r (takeKy x.key x.value ks) k h with ⟨y, hy, e⟩ | ⟨y, hy, e⟩
    · rcases takeKy_name_mem _ _ _ _ hy with h | ⟨z, hz, e2⟩
      · exact .inr ⟨x, by simp, by rw [← e, h]⟩
      · exact .inl ⟨z, hz, by rw [e2, e]⟩
    · exact .inr ⟨y, by simp [hy], e⟩

theorem OInv.names {all ol : List Rec} {s : St} (h : OInv all ol s) (hn : Numbered all) : ∀ k ∈ s.names, k ∈ names4 := by
  intro k hk
  unfold St.names at hk
  rcases List.mem_append.1 hk with hk | hk
  · obtain ⟨y, hy, e⟩ := List.mem_map.1 hk
    rw [h.keys] at hy
    rcases keysOf_names _ _ _ hy with ⟨z, hz, _⟩ | ⟨x, hx, e2⟩
    · simp at hz
    · rw [← e, ← e2]; exact (hn.each x (h.sub x hx)).2.2.2.1
  · obtain ⟨l, hl, hk⟩ := List.mem_flatMap.1 hk
    obtain ⟨y, hy, e⟩ := List.mem_map.1 hk
    obtain ⟨i, hi, e2⟩ := List.getElem_of_mem hl
    obtain ⟨x, hx, e3⟩ := (h.lane i l (by rw [List.getElem?_eq_getElem hi, e2])).wt y hy
    have hx' := (List.mem_filter.1 (List.mem_of_getElem? hx)).1
    rw [← e, e3]
    exact (hn.each x hx').2.2.2.1

/-- A key that is one of the four, and not there: there is room. -/
theorem names_room {k : ByteArray} {l : List ByteArray} (hk : k ∈ names4) (hl : ∀ y ∈ l, y ∈ names4) : ¬ (isIn k l = false ∧ 4 ≤ distinct l) := by
  rintro ⟨h1, h2⟩
  have h3 : ∀ y ∈ l, y ≠ k := fun y hy e => by
    have := (isIn_mem k l).2 (by rw [← e]; exact hy)
    rw [h1] at this
    cases this
  have h4 : ∃ m : List ByteArray, m.length = 3 ∧ ∀ y ∈ l, y ∈ m := by
    simp only [names4, List.mem_cons, List.not_mem_nil, or_false] at hk hl
    rcases hk with rfl | rfl | rfl | rfl
    · exact ⟨[kS, kL, kM], rfl, fun y hy => by have := hl y hy; have := h3 y hy; simp_all⟩
    · exact ⟨[kC, kL, kM], rfl, fun y hy => by have := hl y hy; have := h3 y hy; simp_all⟩
    · exact ⟨[kC, kS, kM], rfl, fun y hy => by have := hl y hy; have := h3 y hy; simp_all⟩
    · exact ⟨[kC, kS, kL], rfl, fun y hy => by have := hl y hy; have := h3 y hy; simp_all⟩
  obtain ⟨m, h5, h6⟩ := h4
  have := distinct_le m l h6
  omega

theorem ofS_number {all : List Rec} (hn : Numbered all) {x : Rec} (hx : x ∈ all) {i : Nat} (hi : x.session = i) : 0 ≤ x.number ∧ (ofS all i)[x.number.toNat]? = some x := by
  have hm : x ∈ ofS all i := List.mem_filter.2 ⟨hx, by simp [hi]⟩
  obtain ⟨n, hl, e⟩ := List.getElem_of_mem hm
  have h1 : (ofS all i)[n]? = some x := by rw [List.getElem?_eq_getElem hl, e]
  have h2 := hn.num i n x h1
  refine ⟨by omega, ?_⟩
  rw [h2]; exact h1

theorem okKey_four {k : ByteArray} (h : k ∈ names4) : okKey k = true := by
  simp only [names4, List.mem_cons, List.not_mem_nil, or_false] at h
  rcases h with rfl | rfl | rfl | rfl <;> rfl

/-- What an Accept of one of them makes. -/
structure Took (all ol : List Rec) (s : St) (i : Nat) (l : Ln) (x : Rec) (b : Int) : Prop where
  near : x.number < l.base + 4
  ans : (accept s x).1 = (b, 0)
  lo : l.base ≤ b
  hi : b ≤ l.base + 4
  len : b ≤ (ofS all i).length
  past : x.number ≤ l.base → x.number < b
  inv : OInv all (ol ++ ((ofS all i).drop l.base.toNat).take (b - l.base).toNat) (accept s x).2
  here : ∃ l', (accept s x).2.lanes[i]? = some l' ∧ l'.base = b
  there : ∀ j, j ≠ i → (accept s x).2.lanes[j]? = s.lanes[j]?

theorem accept_once {all ol : List Rec} {s : St} (hn : Numbered all) (h : OInv all ol s) {x : Rec} (hx : x ∈ all) {i : Nat} {l : Ln} (hi : x.session = i) (hl : s.lanes[i]? = some l) :
    (accept s x = ((0, 5), s) ∧ l.base + 4 ≤ x.number) ∨ ∃ b, Took all ol s i l x b := by
  obtain ⟨e1, e2, e3, e4, e5, e6⟩ := hn.each x hx
  have hL := h.lane i l hl
  obtain ⟨n1, n2⟩ := ofS_number hn hx hi
  have hi4 : i < 4 := by omega
  have ha : accept s x = acceptIn s i l x := by
    unfold accept
    rw [if_neg (by omega), if_neg (by rw [okKey_four e4]; simp; omega)]
    have : x.session.toNat = i := by omega
    rw [this, hl]
  have ht : l.turned x.epoch = l := by
    unfold Ln.turned
    rw [if_neg (by rw [e3, hL.ep]; omega)]
  have hset : s.lanes.set i l = s.lanes := by
    obtain ⟨hlen, e⟩ := List.getElem?_eq_some_iff.1 hl
    rw [← e]; exact List.set_getElem_self hlen
  by_cases hfar : l.base + 4 ≤ x.number
  · left
    refine ⟨?_, hfar⟩
    rw [ha]
    unfold acceptIn
    simp only [ht]
    rw [if_neg (by rw [e3, hL.ep]; omega), if_pos (.inr hfar)]
  · right
    by_cases hold : x.number < l.base ∨ l.ws.any (fun y => y.num == x.number) = true
    · have hb : accept s x = ((l.base, 0), s) := by
        rw [ha]
        unfold acceptIn
        simp only [ht]
        rw [if_neg (by rw [e3, hL.ep]; omega), if_neg (by omega), if_pos hold]
      refine ⟨l.base, by omega, by rw [hb], by omega, by omega, hL.hi, fun h1 => ?_, ?_, ⟨l, by rw [hb]; exact hl, rfl⟩, fun j _ => by rw [hb]⟩
      · rcases hold with h2 | h2
        · exact h2
        · obtain ⟨y, hy, e⟩ := List.any_eq_true.1 h2
          have := (hL.win y hy).1
          have e : y.num = x.number := by simpa using e
          omega
      · rw [hb]
        have : (l.base - l.base).toNat = 0 := by omega
        rw [this]
        simpa using h
    · have hnw : ∀ y ∈ l.ws, y.num ≠ x.number := fun y hy e => hold (.inr (List.any_eq_true.2 ⟨y, hy, by simp [e]⟩))
      have hnb : l.base ≤ x.number := by
        rcases Int.lt_or_le x.number l.base with h1 | h1
        · exact absurd (.inl h1) hold
        · exact h1
      have htn : (⟨s.lanes.set i l, s.keys⟩ : St) = s := by rw [hset]
      have hroom := names_room e4 (h.names hn)
      have htot := h.total hn
      have hfew := hn.few
      obtain ⟨n, d1, d2, d3, d4, d5⟩ := drain_once (ofS all i) (putW x.wt l.ws) l.base s.keys hL.lo (putW_up _ hL.up hnw) (fun y hy => by
        rcases (mem_putW _ _ _).1 hy with rfl | hy
        · exact ⟨hnb, x, n2, rfl⟩
        · exact ⟨by have := (hL.win y hy).1; omega, hL.wt y hy⟩)
      have hn4 : n ≤ 4 := by
        rcases up_len (putW x.wt l.ws) l.base (l.base + 4) (putW_up _ hL.up hnw) (fun y hy => by
          rcases (mem_putW _ _ _).1 hy with rfl | hy
          · exact ⟨hnb, by show x.number < _; omega⟩
          · have := hL.win y hy; omega) with e | e
        · rw [e] at d2; simp at d2; omega
        · omega
      have hb : accept s x = ((l.base + n, 0), ⟨s.lanes.set i ⟨0, l.base + n, (putW x.wt l.ws).drop n⟩, keysOf (((ofS all i).drop l.base.toNat).take n) s.keys⟩) := by
        rw [ha]
        unfold acceptIn
        simp only [ht, htn]
        rw [if_neg (by rw [e3, hL.ep]; omega), if_neg (by omega), if_neg hold, if_neg hroom, if_neg (by omega)]
        have d1' : drainW l.base (putW ⟨x.number, x.key, x.value⟩ l.ws) s.keys = _ := d1
        rw [d1', hL.ep]
      have hlen : l.base + n ≤ (ofS all i).length := by
        rcases d3 with d3 | d3
        · subst d3; have := hL.hi; omega
        · exact d3
      have hilen : i < s.lanes.length := by rw [h.four]; exact hi4
      have hnt : (l.base + (n : Int) - l.base).toNat = n := by omega
      have hlo := hL.lo
      refine ⟨l.base + n, by omega, by rw [hb], by omega, by omega, hlen, fun h1 => ?_, ?_, ⟨⟨0, l.base + n, (putW x.wt l.ws).drop n⟩, by rw [hb]; simp [List.getElem?_set_self hilen], rfl⟩, fun j hj => by rw [hb]; exact List.getElem?_set_ne (fun e => hj e.symm)⟩
      · have hhead : (putW x.wt l.ws).head? = some x.wt := putW_head _ (fun y hy => by have := (hL.win y hy).1; show x.number < _; omega)
        have := d5 _ hhead (show x.number = l.base by omega)
        omega
      · rw [hb, hnt]
        refine ⟨by simpa using h.four, ?_, fun j l' hl' => ?_, ?_, fun y hy => ?_⟩
        · rw [keysOf_append, ← h.keys]
        · by_cases hj : i = j
          · subst hj
            rw [List.getElem?_set_self hilen] at hl'
            simp at hl'
            subst hl'
            refine ⟨rfl, by show 0 ≤ l.base + (n : Int); omega, hlen, ?_, fun y hy => ?_, fun y hy => ?_⟩
            · exact (putW_up _ hL.up hnw).sublist (List.drop_sublist _ _)
            · refine ⟨d4 y hy, ?_⟩
              rcases (mem_putW _ _ _).1 (List.mem_of_mem_drop hy) with rfl | hy
              · show x.number < l.base + (n : Int) + 4; omega
              · have := (hL.win y hy).2; show y.num < l.base + (n : Int) + 4; omega
            · rcases (mem_putW _ _ _).1 (List.mem_of_mem_drop hy) with rfl | hy
              · exact ⟨x, n2, rfl⟩
              · exact hL.wt y hy
          · rw [List.getElem?_set_ne hj] at hl'
            exact h.lane j l' hl'
        · rw [bases_set _ _ _ _ hl, ← h.sum]
          simp only [List.length_append, List.length_take, List.length_drop]
          omega
        · rcases List.mem_append.1 hy with hy | hy
          · exact h.sub y hy
          · exact (List.mem_filter.1 (List.mem_of_mem_drop (List.mem_of_mem_take hy))).1

theorem OInv.init (all : List Rec) : OInv all [] St.init := by
  refine ⟨rfl, rfl, fun i l hl => ?_, rfl, by simp⟩
  have : l = Ln.init := by
    have := List.mem_of_getElem? hl
    simp [St.init] at this
    exact this
  subst this
  exact ⟨rfl, by simp [Ln.init], by simp [Ln.init], by simp [Ln.init], by simp [Ln.init], by simp [Ln.init]⟩

end Go.Proofs.YthedkdbgfdjlkaaGreat

/- Once, THE PURE PART: what the ledger holds of each key. -/
namespace Go.Proofs.YthedkdbgfdjlkaaGreat
set_option linter.unusedVariables false
set_option linter.unusedSimpArgs false
open Go.RowKit

/-- How many of these have the key, and their fold. -/
def tallyOne (name : ByteArray) (p : Int × Int) (x : Rec) : Int × Int := if x.key = name then (p.1 + 1, foldOne name (p.1 + 1) p.2 x.value) else p
def tally (name : ByteArray) (l : List Rec) : Int × Int := l.foldl (tallyOne name) (0, 0)

theorem tally_snoc (name : ByteArray) (l : List Rec) (x : Rec) : tally name (l ++ [x]) = tallyOne name (tally name l) x := by
  unfold tally
  rw [List.foldl_append]; rfl

theorem tally_none (name : ByteArray) : ∀ (l : List Rec) (p : Int × Int), (∀ x ∈ l, x.key ≠ name) → l.foldl (tallyOne name) p = p
  | [], p, _ => rfl
  | x :: r, p, h => by
    rw [List.foldl_cons]
    have : tallyOne name p x = p := by unfold tallyOne; rw [if_neg (h x (by simp))]
    rw [this]
    exact tally_none name r p (fun y hy => h y (by simp [hy]))

theorem tally_grow (name : ByteArray) : ∀ (l : List Rec) (p : Int × Int), p.1 ≤ (l.foldl (tallyOne name) p).1 ∧ (l.foldl (tallyOne name) p).1 ≤ p.1 + l.length
  | [], p => by simp
  | x :: r, p => by
    obtain ⟨h1, h2⟩ := tally_grow name r (tallyOne name p x)
    have h3 : p.1 ≤ (tallyOne name p x).1 ∧ (tallyOne name p x).1 ≤ p.1 + 1 := by
      unfold tallyOne
      split
      · simp only; omega
      · omega
    rw [List.foldl_cons]
    simp only [List.length_cons]
    omega

/-- Where the count is whole already, so is the fold. -/
theorem tally_stop (name : ByteArray) : ∀ (l : List Rec) (p : Int × Int), (l.foldl (tallyOne name) p).1 = p.1 → l.foldl (tallyOne name) p = p
  | [], p, _ => rfl
  | x :: r, p, h => by
    rw [List.foldl_cons] at h ⊢
    have h2 := (tally_grow name r (tallyOne name p x)).1
    have h3 : tallyOne name p x = p := by
      unfold tallyOne at h2 h ⊢
      split
      · rename_i e
        rw [if_pos e] at h2 h
        simp only at h2
        omega
      · rfl
    rw [h3] at h ⊢
    exact tally_stop name r p h

theorem tally_take_next (name : ByteArray) (l : List Rec) (i : Nat) (x : Rec) (h : l[i]? = some x) : tally name (l.take (i + 1)) = tallyOne name (tally name (l.take i)) x := by
  obtain ⟨hl, e⟩ := List.getElem?_eq_some_iff.1 h
  rw [List.take_succ_eq_append_getElem hl, e, tally_snoc]

theorem tally_take_le (name : ByteArray) (l : List Rec) (i : Nat) : 0 ≤ (tally name (l.take i)).1 ∧ (tally name (l.take i)).1 ≤ (tally name l).1 ∧ (tally name l).1 ≤ l.length := by
  have h1 := tally_grow name (l.take i) (0, 0)
  have h2 := tally_grow name (l.drop i) (tally name (l.take i))
  have h3 := tally_grow name l (0, 0)
  have e : (l.drop i).foldl (tallyOne name) (tally name (l.take i)) = tally name l := by
    unfold tally
    rw [← List.foldl_append, List.take_append_drop]
  rw [e] at h2
  unfold tally at *
  simp only at *
  omega

theorem tally_take_stop (name : ByteArray) (l : List Rec) (i : Nat) (h : (tally name (l.take i)).1 = (tally name l).1) : tally name (l.take i) = tally name l := by
  have e : (l.drop i).foldl (tallyOne name) (tally name (l.take i)) = tally name l := by
    unfold tally
    rw [← List.foldl_append, List.take_append_drop]
  rw [← e]
  exact (tally_stop name _ _ (by rw [e, h])).symm

theorem takeKy_cases (name : ByteArray) (val : Int) : ∀ {ks : List Ky}, Sorted ks → ∀ k ∈ takeKy name val ks, (k ∈ ks ∧ k.name ≠ name) ∨ (∃ y ∈ ks, y.name = name ∧ k = y.more val) ∨ (k = (⟨name, 0, 0, 0⟩ : Ky).more val ∧ ∀ y ∈ ks, y.name ≠ name)
  | [], _, k, h => by
    simp [takeKy] at h
    exact .inr (.inr ⟨h, by simp⟩)
  | z :: r, hs, k, h => by
    obtain ⟨h1, h2⟩ := List.pairwise_cons.1 hs
    unfold takeKy at h
    split at h
    · rename_i e
      rcases List.mem_cons.1 h with rfl | hk
      · exact .inr (.inl ⟨z, by simp, e, rfl⟩)
      · refine .inl ⟨by simp [hk], fun e2 => ?_⟩
        have := h1 k hk
        rw [e, e2, less_irrefl] at this
        cases this
    · rename_i e
      split at h
      · rename_i hl
        have hr : ∀ y ∈ z :: r, y.name ≠ name := fun y hy e2 => by
          rcases List.mem_cons.1 hy with rfl | hy
          · exact e e2
          · have := less_trans hl (h1 y hy)
            rw [e2, less_irrefl] at this
            cases this
        rcases List.mem_cons.1 h with rfl | hk
        · exact .inr (.inr ⟨rfl, hr⟩)
        · exact .inl ⟨hk, hr k hk⟩
      · rcases List.mem_cons.1 h with rfl | hk
        · exact .inl ⟨by simp, e⟩
        · rcases takeKy_cases name val h2 k hk with ⟨g1, g2⟩ | ⟨y, g1, g2, g3⟩ | ⟨g1, g2⟩
          · exact .inl ⟨by simp [g1], g2⟩
          · exact .inr (.inl ⟨y, by simp [g1], g2, g3⟩)
          · refine .inr (.inr ⟨g1, fun y hy => ?_⟩)
            rcases List.mem_cons.1 hy with rfl | hy
            · exact e
            · exact g2 y hy

theorem takeKy_has (name : ByteArray) (val : Int) : ∀ (ks : List Ky), (∃ k ∈ takeKy name val ks, k.name = name) ∧ ∀ y ∈ ks, ∃ k ∈ takeKy name val ks, k.name = y.name
  | [] => by simp [takeKy, Ky.more]
  | z :: r => by
    obtain ⟨⟨k, hk, ek⟩, h⟩ := takeKy_has name val r
    unfold takeKy
    split
    · rename_i e
      refine ⟨⟨z.more val, by simp, e⟩, fun y hy => ?_⟩
      rcases List.mem_cons.1 hy with rfl | hy
      · exact ⟨y.more val, by simp, rfl⟩
      · exact ⟨y, by simp [hy], rfl⟩
    · split
      · refine ⟨⟨_, List.mem_cons_self, rfl⟩, fun y hy => ⟨y, List.mem_cons_of_mem _ hy, rfl⟩⟩
      · refine ⟨⟨k, by simp [hk], ek⟩, fun y hy => ?_⟩
        rcases List.mem_cons.1 hy with rfl | hy
        · exact ⟨y, by simp, rfl⟩
        · obtain ⟨k', g1, g2⟩ := h y hy
          exact ⟨k', by simp [g1], g2⟩

/-- The ledger is the tally. -/
theorem keysOf_tally (l : List Rec) : Sorted (keysOf l []) ∧ (∀ k ∈ keysOf l [], (k.count, k.fold) = tally k.name l) ∧ (∀ x ∈ l, ∃ k ∈ keysOf l [], k.name = x.key) := by
  suffices h : ∀ n : Nat, ∀ l : List Rec, l.length = n → Sorted (keysOf l []) ∧ (∀ k ∈ keysOf l [], (k.count, k.fold) = tally k.name l) ∧ (∀ x ∈ l, ∃ k ∈ keysOf l [], k.name = x.key) from h _ l rfl
  intro n
  induction n with
  | zero =>
    intro l hl
    have : l = [] := List.length_eq_zero_iff.1 hl
    subst this
    exact ⟨List.Pairwise.nil, by simp [keysOf], by simp⟩
  | succ n ih =>
    intro l hl
    obtain ⟨r, x, rfl⟩ : ∃ r x, l = r ++ [x] := ⟨l.dropLast, l.getLast (by intro h; rw [h] at hl; simp at hl), (List.dropLast_concat_getLast _).symm⟩
    obtain ⟨h1, h2, h3⟩ := ih r (by simpa using hl)
    have e : keysOf (r ++ [x]) [] = takeKy x.key x.value (keysOf r []) := by rw [keysOf_append]; rfl
    rw [e]
    refine ⟨takeKy_sorted _ _ h1, fun k hk => ?_, fun y hy => ?_⟩
    · rw [tally_snoc]
      rcases takeKy_cases _ _ h1 k hk with ⟨g1, g2⟩ | ⟨y, g1, g2, g3⟩ | ⟨g1, g2⟩
      · have := h2 k g1
        rw [← this]
        unfold tallyOne
        rw [if_neg (fun e => g2 e.symm)]
      · have := h2 y g1
        rw [g3]
        simp only [Ky.more]
        rw [← this]
        unfold tallyOne
        rw [if_pos g2.symm]
      · have h0 : tally x.key r = (0, 0) := tally_none _ _ _ (fun y hy e => by
          obtain ⟨k', q1, q2⟩ := h3 y hy
          exact g2 k' q1 (q2.trans e))
        rw [g1]
        simp only [Ky.more]
        rw [h0]
        unfold tallyOne
        rw [if_pos rfl]
    · obtain ⟨t1, t2⟩ := takeKy_has x.key x.value (keysOf r [])
      rcases List.mem_append.1 hy with hy | hy
      · obtain ⟨k, q1, q2⟩ := h3 y hy
        obtain ⟨k', q3, q4⟩ := t2 k q1
        exact ⟨k', q3, q4.trans q2⟩
      · simp at hy
        subst hy
        exact t1

/-- What is kept of a key that is there. -/
theorem OInv.key {all ol : List Rec} {s : St} (h : OInv all ol s) (hn : Numbered all) {k : Ky} (hk : k ∈ s.keys) : k.name ∈ names4 ∧ k.count = (tally k.name ol).1 ∧ k.fold = (tally k.name ol).2 := by
  have hm := h.names hn k.name (by unfold St.names; exact List.mem_append.2 (.inl (List.mem_map.2 ⟨k, hk, rfl⟩)))
  rw [h.keys] at hk
  have := (keysOf_tally ol).2.1 k hk
  rw [← this]
  exact ⟨hm, rfl, rfl⟩

theorem OInv.whole {all ol : List Rec} {s : St} (h : OInv all ol s) : counts s.keys = ol.length := by
  rw [h.keys, counts_keysOf]; simp [counts]

/-- All were taken. -/
theorem OInv.all {all ol : List Rec} {s : St} (h : OInv all ol s) (hn : Numbered all) (hb : ∀ (i : Nat) (l : Ln), s.lanes[i]? = some l → (ofS all i).length ≤ l.base) : ol.length = all.length := by
  have ht := ofS_total all (fun x hx => ⟨(hn.each x hx).1, (hn.each x hx).2.1⟩)
  have hs := h.sum
  have hl := h.lane
  have h4 := h.four
  match e : s.lanes, h4 with
  | [l0, l1, l2, l3], _ =>
    rw [e] at hb hl hs
    have r0 := hb 0 l0 rfl
    have r1 := hb 1 l1 rfl
    have r2 := hb 2 l2 rfl
    have r3 := hb 3 l3 rfl
    have q0 := (hl 0 l0 rfl).hi
    have q1 := (hl 1 l1 rfl).hi
    have q2 := (hl 2 l2 rfl).hi
    have q3 := (hl 3 l3 rfl).hi
    simp only [bases] at hs
    omega

end Go.Proofs.YthedkdbgfdjlkaaGreat

/- Once: THE SMALL FUNCTIONS, WALKED: name, fold. -/
namespace Go.Proofs.YthedkdbgfdjlkaaGreat
set_option linter.unusedVariables false
set_option linter.unusedSimpArgs false
open Go.RowKit

/-- The name that a raw number picks. -/
def nameI (c : Int) : ByteArray := names4.getD (pickI c 4).toNat kC

theorem nameI_mem (c : Int) : nameI c ∈ names4 := by
  have h := pickI_range (c := c) (n := 4) (by omega)
  unfold nameI
  have hl : (pickI c 4).toNat < names4.length := by show _ < 4; omega
  rw [List.getD_eq_getElem?_getD, List.getElem?_eq_getElem hl]
  exact List.getElem_mem hl

set_option maxHeartbeats 400000 in
theorem name_any (c : Int) (w : World) (hc : inInt c) : Calls Tryz.prog 25 #[.int .i64 c] w fun e w' => e = .returned (.string (nameI c)) ∧ Chg (fun _ => False) w w' := by
  have hp := fun w => pick_any c 4 w hc (by omega) (by omega)
  have hr := pickI_range (c := c) (n := 4) (by omega)
  go_enter Tryz.func25, Tryz.ntmps25
  go_wp2_with fail
  refine (hp _).mono ?_
  rintro _ w1 ⟨rfl, ew⟩
  rw [ew]
  clear ew w1
  obtain ⟨j, hj⟩ : ∃ j, j = pickI c 4 := ⟨_, rfl⟩
  have HJ : Hid (nameI c = names4.getD j.toNat kC) := by show _ = _; rw [hj]; rfl
  rw [← hj] at hr ⊢
  clear hj hp
  rcases (by omega : j = 0 ∨ j = 1 ∨ j = 2 ∨ j = 3) with rfl | rfl | rfl | rfl
  all_goals
    go_wp2
    go_ret
    refine ⟨?_, (Chg.refl _ _).alloc _⟩
    rw [HJ.out]
    rfl

theorem tally_range {key : ByteArray} (hk : key ∈ names4) : ∀ (l : List Rec) (p : Int × Int), (∀ x ∈ l, 0 ≤ x.value ∧ x.value ≤ 4294967295) → 0 ≤ p.1 → p.1 + l.length ≤ 1000 → 0 ≤ p.2 ∧ p.2 ≤ 4294967295 → 0 ≤ (l.foldl (tallyOne key) p).2 ∧ (l.foldl (tallyOne key) p).2 ≤ 4294967295
  | [], p, _, _, _, h => h
  | x :: r, p, hv, h0, h1, h2 => by
    rw [List.foldl_cons]
    have hx := hv x (by simp)
    simp only [List.length_cons] at h1
    have h3 : 0 ≤ (tallyOne key p x).1 ∧ (tallyOne key p x).1 ≤ p.1 + 1 ∧ 0 ≤ (tallyOne key p x).2 ∧ (tallyOne key p x).2 ≤ 4294967295 := by
      unfold tallyOne
      split
      · simp only [names4, List.mem_cons, List.not_mem_nil, or_false] at hk
        rcases hk with rfl | rfl | rfl | rfl <;> simp [foldOne, kC, kS, kL, kM] <;> omega
      · omega
    exact tally_range hk r _ (fun y hy => hv y (by simp [hy])) h3.1 (by omega) h3.2.2

set_option maxHeartbeats 2000000 in
theorem kfold_any {w : World} {lo : Nat} {v : Value} {l : List Rec} {key : ByteArray} (hr : w.ownsRow lo 34 5 v l.length (recCells l)) (hk : key ∈ names4) (hl : l.length ≤ 900) (hv : ∀ x ∈ l, 0 ≤ x.value ∧ x.value ≤ 4294967295) :
    Calls Tryz.prog 22 #[v, .string key, .int .i64 (tally key l).1] w fun e w' => e = .returned (.int .i64 (tally key l).2) ∧ w' = w := by
  obtain ⟨p, cap, rfl⟩ := row_any hr
  have hT := (tally_take_le key l 0).2.2
  have hT0 := (tally_take_le key l l.length).1
  rw [List.take_length] at hT0
  obtain ⟨N, hN⟩ : ∃ N, N = (tally key l).1 := ⟨_, rfl⟩
  rw [← hN] at hT hT0 ⊢
  have HN : Hid (N = (tally key l).1) := hN
  clear hN
  go_enter Tryz.func22, Tryz.ntmps22
  go_wp2_with fail
  go_loopw [7, 8, 9, 10] (fun sf sc si _ wr => ∃ (i : Nat) (c f : Int), si = .int .i64 i ∧ i ≤ l.length ∧ sc = .int .i64 c ∧ sf = .int .i64 f ∧ Hid (tally key (l.take i) = (c, f)) ∧ Hid (wr = w)) (fun _ _ si _ _ => l.length - (intOf si).toNat)
  case atStart => exact ⟨0, 0, 0, rfl, by omega, rfl, rfl, (show _ = _ from rfl), (show _ = _ from rfl)⟩
  case round =>
    obtain ⟨i, c, f, rfl, hi, rfl, rfl, HT, HW⟩ := hrel
    have hc : Chg (fun _ => False) w wr := by rw [HW.out]; exact Chg.refl _ _
    have hle := tally_take_le key l i
    rw [HT.out, ← HN.out] at hle
    simp only at hle
    have hrg := tally_range hk (l.take i) (0, 0) (fun x hx => hv x (List.mem_of_mem_take hx)) (by simp) (by simp only [List.length_take]; omega) (by simp)
    have hrg' : 0 ≤ f ∧ f ≤ 4294967295 := by
      have : ((l.take i).foldl (tallyOne key) (0, 0)) = (c, f) := HT.out
      rw [this] at hrg
      exact hrg
    clear hrg
    by_cases hil : i < l.length
    · have hil' : (i : Int) < (l.length : Int) := by omega
      by_cases hcn : c < N
      · obtain ⟨x, hx⟩ : ∃ x, l[i]? = some x := ⟨_, List.getElem?_eq_getElem hil⟩
        obtain ⟨g, cap', hvs, _, _, hcell⟩ := row_pos hr (by omega)
        simp only [Value.slice.injEq] at hvs
        obtain ⟨rfl, _, rfl⟩ := hvs
        have cx := recCells_at l i x hx
        have m3 := hc.cellAt (hcell _ _ cx.2.2.2.1) id
        have m4 := hc.cellAt (hcell _ _ cx.2.2.2.2) id
        have hxv := hv x (List.mem_of_getElem? hx)
        have hnx := tally_take_next key l i x hx
        rw [HT.out] at hnx
        have HNX : Hid (tally key (l.take (i + 1)) = tallyOne key (c, f) x) := hnx
        clear hcell cx hnx HN
        by_cases hke : x.key = key
        · rw [hke] at m3
          have HNX' : Hid (tally key (l.take (i + 1)) = (c + 1, foldOne key (c + 1) f x.value)) := by
            show _ = _
            rw [HNX.out]; unfold tallyOne; rw [if_pos hke]
          clear HNX hke HT
          simp only [names4, List.mem_cons, List.not_mem_nil, or_false] at hk
          rcases hk with rfl | rfl | rfl | rfl
          · simp only [kC] at m3 ⊢
            go_wp2_with fail
            refine ⟨⟨i + 1, c + 1, c + 1, by go_num, by omega, rfl, rfl, HNX', HW⟩, by simp [intOf]; omega⟩
          · simp only [kS] at m3 ⊢
            go_wp2_with fail
            exact ⟨⟨i + 1, c + 1, (f + x.value) % 4294967296, by go_num, by omega, rfl, rfl, HNX', HW⟩, by simp [intOf]; omega⟩
          · simp only [kL] at m3 ⊢
            go_wp2_with fail
            exact ⟨⟨i + 1, c + 1, x.value, by go_num, by omega, rfl, rfl, HNX', HW⟩, by simp [intOf]; omega⟩
          · have hmx : foldOne kM (c + 1) f x.value = max f x.value := rfl
            rw [hmx] at HNX'
            clear hmx
            simp only [kM] at m3 HNX' ⊢
            by_cases hgt : f < x.value
            · rw [Int.max_eq_right (by omega)] at HNX'
              go_wp2_with fail
              exact ⟨⟨i + 1, c + 1, x.value, by go_num, by omega, rfl, rfl, HNX', HW⟩, by simp [intOf]; omega⟩
            · rw [Int.max_eq_left (by omega)] at HNX'
              go_wp2_with fail
              exact ⟨⟨i + 1, c + 1, f, by go_num, by omega, rfl, rfl, HNX', HW⟩, by simp [intOf]; omega⟩
        · have hkn : (x.key.toList == key.toList) = false := by
            rw [beq_eq_false_iff_ne]
            intro e
            rw [ByteArray.toList_eq, ByteArray.toList_eq] at e
            exact hke (ByteArray.ext (Array.toList_inj.1 e))
          have HNX' : Hid (tally key (l.take (i + 1)) = (c, f)) := by
            show _ = _
            rw [HNX.out]; unfold tallyOne; rw [if_neg hke]
          clear HNX hke
          go_wp2_with fail
          refine ⟨⟨i + 1, c, f, by go_num, by omega, rfl, rfl, HNX', HW⟩, by simp [intOf]; omega⟩
      · have hcN : c = N := by omega
        have HF : Hid ((tally key l).2 = f) := by
          show _ = _
          rw [← tally_take_stop key l i (by rw [HT.out, ← HN.out]; exact hcN), HT.out]
        clear HT HN hcN
        go_wp2_with fail
        go_ret
        exact ⟨by rw [HF.out]; rfl, HW.out⟩
    · have hil' : ¬ (i : Int) < (l.length : Int) := by omega
      have HF : Hid ((tally key l).2 = f) := by
        show _ = _
        have := HT.out
        rw [List.take_of_length_le (by omega)] at this
        rw [this]
      clear HT HN
      go_wp2_with fail
      go_ret
      exact ⟨by rw [HF.out]; rfl, HW.out⟩

end Go.Proofs.YthedkdbgfdjlkaaGreat

/- Once: numbered, WALKED. -/
namespace Go.Proofs.YthedkdbgfdjlkaaGreat
set_option linter.unusedVariables false
set_option linter.unusedSimpArgs false
open Go.RowKit Go.Lib

structure Snt where
  session : Int
  key : Int
  value : Int

/-- A list of sent ones in memory. -/
structure SentAt (w : World) (v : Value) (L : List Snt) : Prop where
  val : ∃ p cap, v = .slice p L.length cap
  len : L.length ≤ 9223372036854775807
  cells : ∀ i x, L[i]? = some x → ∃ sb so cap, v = .slice (some ⟨sb, so, none⟩) L.length cap ∧ w.cell? ⟨sb, so + i * 3, none⟩ = some (.int .i64 x.session) ∧ w.cell? ⟨sb, so + i * 3 + 1, none⟩ = some (.int .i64 x.key) ∧ w.cell? ⟨sb, so + i * 3 + 2, none⟩ = some (.int .i64 x.value)
  fits : ∀ x ∈ L, inInt x.session ∧ inInt x.key ∧ inInt x.value

theorem Tryz.infoR : (Tryz.prog.info? 34).map (fun i => (i.zero, i.size, i.bytes)) = some (some (.agg #[.int .i64 0, .int .i64 0, .int .i64 0, .string { data := #[] }, .int .i64 0]), 5, 48) := by kernel_rfl

theorem ofS_snoc (A : List Rec) (x : Rec) (i : Nat) : ofS (A ++ [x]) i = if x.session = i then ofS A i ++ [x] else ofS A i := by
  unfold ofS
  rw [List.filter_append]
  split
  · rename_i h; simp [h]
  · rename_i h; simp [h]

/-- One more, numbered. -/
theorem Numbered.snoc {A : List Rec} (h : Numbered A) {s : Nat} {k : ByteArray} {v : Int} (hA : A.length < 900) (hs : s < 4) (hk : k ∈ names4) (hv : 0 ≤ v ∧ v ≤ 4294967295) : Numbered (A ++ [⟨s, 0, (ofS A s).length, k, v⟩]) := by
  refine ⟨by simp; omega, fun x hx => ?_, fun i n x hx => ?_⟩
  · rcases List.mem_append.1 hx with hx | hx
    · exact h.each x hx
    · simp at hx
      subst hx
      exact ⟨by show (0 : Int) ≤ (s : Int); omega, by show (s : Int) < 4; omega, rfl, hk, hv⟩
  · rw [ofS_snoc] at hx
    split at hx
    · rename_i hi
      have hi : s = i := by have : ((s : Int) = i) := hi; omega
      subst hi
      by_cases hn : n < (ofS A s).length
      · rw [List.getElem?_append_left hn] at hx
        exact h.num s n x hx
      · rw [List.getElem?_append_right (by omega)] at hx
        have : n - (ofS A s).length = 0 := by
          rcases Nat.eq_zero_or_pos (n - (ofS A s).length) with h | h
          · exact h
          · rw [List.getElem?_eq_none (by simp; omega)] at hx; cases hx
        rw [this] at hx
        simp at hx
        subst hx
        show ((ofS A s).length : Int) = n
        omega
    · exact h.num i n x hx

theorem Numbered.nil : Numbered [] := ⟨by simp, by simp, fun i n x h => by simp [ofS] at h⟩

set_option maxHeartbeats 4000000 in
theorem numbered_any {w : World} {v : Value} {L : List Snt} (hS : SentAt w v L) :
    Calls Tryz.prog 9 #[v] w fun e w' => ∃ va all, e = .returned va ∧ w'.ownsRow w.heap.size 34 5 va all.length (recCells all) ∧ Numbered all ∧ Chg (fun _ => False) w w' := by
  obtain ⟨i0, hi0, hz0, hz1, hz2⟩ := info_parts Tryz.infoR
  obtain ⟨pv, cv, rfl⟩ := hS.val
  have hlen := hS.len
  obtain ⟨W0, hW0⟩ : ∃ W0, W0 = w.alloc (Obj.cells #[.int .i64 0, .int .i64 0, .int .i64 0, .int .i64 0] 30) := ⟨_, rfl⟩
  have hs0 : W0.heap.size = w.heap.size + 1 := by rw [hW0]; simp
  have c0 : Chg (fun _ => False) w W0 := by rw [hW0]; exact (Chg.refl _ w).alloc _
  have r0 : ∀ j, j < 4 → W0.cell? ⟨w.heap.size, j, none⟩ = some (.int .i64 ((ofS [] j).length : Int)) := fun j hj => by
    rw [hW0]
    rcases (by omega : j = 0 ∨ j = 1 ∨ j = 2 ∨ j = 3) with rfl | rfl | rfl | rfl <;> exact World.cell?_alloc_at _ _ _ _ rfl
  have rf : ∀ j, W0.frozen? ⟨w.heap.size, j, none⟩ = false := fun j => by rw [hW0]; exact World.frozen?_alloc_at _ _ _ _ rfl
  have HS0 : Hid (W0.heap.size = w.heap.size + 1) := hs0
  have hsz0 : w.heap.size + 1 ≤ W0.heap.size := by omega
  go_enter Tryz.func9, Tryz.ntmps9
  go_wp2_with fail
  rw [← hW0]
  clear hW0 hs0
  go_loopw [4, 5, 6, 7, 8] (fun sv si _ _ _ wr => ∃ (i : Nat) (A : List Rec), si = .int .i64 i ∧ i ≤ L.length ∧ i ≤ 900 ∧ A.length = i ∧ Numbered A ∧ wr.ownsRow (w.heap.size + 1) 34 5 sv A.length (recCells A) ∧ (∀ j, j < 4 → wr.cell? ⟨w.heap.size, j, none⟩ = some (.int .i64 ((ofS A j).length : Int))) ∧ (∀ j, wr.frozen? ⟨w.heap.size, j, none⟩ = false) ∧ Chg (fun _ => False) w wr ∧ w.heap.size + 1 ≤ wr.heap.size) (fun _ si _ _ _ _ => L.length - (intOf si).toNat)
  case atStart => exact ⟨0, [], rfl, by omega, by omega, rfl, Numbered.nil, World.ownsRow_nil _ _ _ _, r0, rf, c0, hsz0⟩
  case round =>
    obtain ⟨i, A, rfl, hi, hi9, hA, hN, hown, hcnt, hfz, hc, hsz⟩ := hrel
    clear r0 rf c0 hsz0
    by_cases hil : i < L.length
    · have hil' : (i : Int) < (L.length : Int) := by omega
      by_cases h9 : i < 900
      · have h9' : (i : Int) < 900 := by omega
        obtain ⟨x, hx⟩ : ∃ x, L[i]? = some x := ⟨_, List.getElem?_eq_getElem hil⟩
        obtain ⟨sb, so, cap, hvv, y0, y1, y2⟩ := hS.cells i x hx
        simp only [Value.slice.injEq] at hvv
        obtain ⟨rfl, _, rfl⟩ := hvv
        obtain ⟨f0, f1, f2⟩ := hS.fits x (List.mem_of_getElem? hx)
        have hp1 := fun w => pick_any x.session 4 w f0 (by omega) (by omega)
        have hp2 := fun w => pick_any x.value 4294967296 w f2 (by omega) (by omega)
        have hnm := fun w => name_any x.key w f1
        have hr1 := pickI_range (c := x.session) (n := 4) (by omega)
        have hr2 := pickI_range (c := x.value) (n := 4294967296) (by omega)
        have hkn := nameI_mem x.key
        obtain ⟨sn, hsn⟩ : ∃ sn : Nat, pickI x.session 4 = sn := ⟨(pickI x.session 4).toNat, by omega⟩
        rw [hsn] at hp1 hr1
        obtain ⟨PV, hPV⟩ : ∃ PV, PV = pickI x.value 4294967296 := ⟨_, rfl⟩
        rw [← hPV] at hp2 hr2
        obtain ⟨NM, hNM⟩ : ∃ NM, NM = nameI x.key := ⟨_, rfl⟩
        rw [← hNM] at hnm hkn
        clear hsn hPV hNM hx f0 f1 f2
        have hsn4 : sn < 4 := by omega
        have hsn4' : (sn : Int) < 4 := by omega
        have yr0 := hc.cellAt y0 id
        have yr1 := hc.cellAt y1 id
        go_wp2_with fail
        refine (hp1 _).mono ?_
        rintro _ wp ⟨rfl, ewp⟩
        rw [ewp]
        clear ewp wp
        go_wp2_with fail
        refine (hnm _).mono ?_
        rintro _ w2 ⟨rfl, c2⟩
        have yr2 := (hc.trans c2 (fun _ _ h => h)).cellAt y2 id
        go_wp2_with fail
        refine (hp2 _).mono ?_
        rintro _ wp ⟨rfl, ewp⟩
        rw [ewp]
        clear ewp wp
        have hcn2 : ∀ j, j < 4 → w2.cell? ⟨w.heap.size, j, none⟩ = some (.int .i64 ((ofS A j).length : Int)) := fun j hj => c2.cellAt (hcnt j hj) id
        have hfz2 : ∀ j, w2.frozen? ⟨w.heap.size, j, none⟩ = false := fun j => (World.frozen?_of_block (w := wr) (c2.block w.heap.size (by omega) id)).trans (hfz j)
        have hcs := hcn2 sn hsn4
        have hown2 := c2.row' hown (fun _ _ h => h)
        have hsz2 : w.heap.size + 1 ≤ w2.heap.size := Nat.le_trans hsz c2.size
        have hol : (ofS A sn).length ≤ 900 := by
          have : (ofS A sn).length ≤ A.length := List.length_filter_le _ _
          omega
        obtain ⟨X, hX⟩ : ∃ X : Rec, X = ⟨sn, 0, (ofS A sn).length, NM, PV⟩ := ⟨_, rfl⟩
        obtain ⟨v', w3, hrun, a1, a2, a3⟩ := run_append_where (P := Tryz.prog) (w2.alloc (Obj.cells #[.int .i64 sn, .int .i64 0, .int .i64 ((ofS A sn).length : Int), .string NM, .int .i64 PV] 34)) (w.heap.size + 1) 27 27 34 i0 _ 5 48 Tryz.underlying27 hi0 hz0 hz1 hz2 rfl (by decide) _ A.length _ (hown2.alloc _) ⟨w2.heap.size, 0, none⟩ 1 1 X.cells rfl (fun j y hj => by rw [add_lit', Nat.zero_add]; rw [hX] at hj; rcases j with _ | _ | _ | _ | _ | j <;> simp [Rec.cells] at hj <;> subst hj <;> exact World.cell?_alloc_at _ _ _ _ rfl) (fun y hy => by rw [hX] at hy; simp [Rec.cells] at hy; rcases hy with rfl | rfl | rfl | rfl | rfl <;> rfl) (by unfold maxLen; omega) (by omega) (by simp; omega)
        have c23 : Chg (fun g => u4.ownBlock = some g) w2 w3 := ((Chg.refl (fun g => u4.ownBlock = some g) w2).alloc _).trans (G := fun g => u4.ownBlock = some g) ⟨a2.os, a2.tape, a2.output, a2.size, fun k hk hne => a2.block k hk (fun e => hne e.symm)⟩ (fun _ _ h => h)
        have hnb : ¬ u4.ownBlock = some w.heap.size := fun h => by have := (hown.lt _ h).1; omega
        have hcn3 : ∀ j, j < 4 → w3.cell? ⟨w.heap.size, j, none⟩ = some (.int .i64 ((ofS A j).length : Int)) := fun j hj => c23.cellAt (hcn2 j hj) hnb
        have hfz3 : ∀ j, w3.frozen? ⟨w.heap.size, j, none⟩ = false := fun j => (World.frozen?_of_block (w := w2) (c23.block w.heap.size (by omega) hnb)).trans (hfz2 j)
        have hcs3 := hcn3 sn hsn4
        have hfs3 := hfz3 sn
        have HX : Hid (X = ⟨sn, 0, (ofS A sn).length, NM, PV⟩) := hX
        clear hX
        go_wp2_with (at_builtin; refine Lib.wpList_append_run _ rfl _ _ 27 27 rfl _ _ rfl rfl v' w3 hrun ?_)
        have c34 : Chg (fun k => k = w.heap.size) w3 (w3.setCell ⟨w.heap.size, sn, none⟩ (.int .i64 (((ofS A sn).length : Int) + 1))) := Chg.setCell (p := ⟨w.heap.size, sn, none⟩) (Chg.refl (fun k => k = w.heap.size) w3) (fun _ => rfl) _
        have cw3 : Chg (fun _ => False) w w3 := (hc.trans c2 (fun _ _ h => h)).trans c23 (fun n hn h => by have := (hown.lt n h).1; omega)
        refine ⟨⟨i + 1, A ++ [X], by go_num, by omega, by omega, by simp [hA], by rw [HX.out]; exact hN.snoc (by omega) hsn4 hkn (by omega), ?_, fun j hj => ?_, fun j => by simpa using hfz3 j, cw3.step c34 (fun k hk => by rw [hk]; exact Nat.le_refl _), by have := c23.size; simp; omega⟩, by simp [intOf]; omega⟩
        · have hrow := c34.row a1 (fun k hk => .inl (by rw [hk]; omega))
          rw [recCells_append]
          simpa [recCells] using hrow
        · rw [ofS_snoc]
          by_cases e : j = sn
          · subst e
            rw [if_pos (by rw [HX.out]), World.cell?_setCell_same _ _ _ hcs3]
            simp
          · rw [if_neg (by rw [HX.out]; intro h; apply e; have h : (sn : Int) = j := h; omega), World.cell?_setCell_other _ _ _ _ (by intro h; simp at h <;> omega)]
            exact hcn3 j hj
      · have h9' : ¬ (i : Int) < 900 := by omega
        go_wp2_with fail
        go_ret
        exact ⟨_, rfl, A, row_lower hown (by omega), hN, hc⟩
    · have hil' : ¬ (i : Int) < (L.length : Int) := by omega
      go_wp2_with fail
      go_ret
      exact ⟨_, rfl, A, row_lower hown (by omega), hN, hc⟩

end Go.Proofs.YthedkdbgfdjlkaaGreat
