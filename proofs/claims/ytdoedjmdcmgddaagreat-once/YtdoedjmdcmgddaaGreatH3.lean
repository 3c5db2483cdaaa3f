/- The relay's calls, WALKED: Close. -/
import Derived.Test.YtdoedjmdcmgddaaGreatH1
import Derived.RegionCalls
namespace Go.Proofs.YtdoedjmdcmgddaaGreat
set_option linter.unusedVariables false
set_option linter.unusedSimpArgs false
open Go.RowKit Go.Lib Go.Conc.Locks

set_option maxHeartbeats 400000 in
theorem boolLoad_any (a : Addr) (d : Int) (w : World) (hd : d = 0 ∨ d = 1) (hc : w.cell? a = some (.int .u32 d)) : Calls Tryz.prog 64 #[.pointer (some a)] w fun e w' => e = .returned (.bool (d != 0)) ∧ w' = w := by
  have hl := run_call_load (P := Tryz.prog) Tryz.func94 (by kernel_rfl) (by kernel_rfl) (by kernel_rfl) .u32 (by kernel_rfl) (w := w) (a := a) (x := d) hc
  rcases hd with rfl | rfl
  · go_enter Tryz.func64, Tryz.ntmps64
    go_wp2
    go_ret
    exact ⟨rfl, rfl⟩
  · go_enter Tryz.func64, Tryz.ntmps64
    go_wp2
    go_ret
    exact ⟨rfl, rfl⟩

set_option maxHeartbeats 400000 in
theorem boolStore_deferred (a : Addr) (x : Value) (u : FrameMode) (w : World) (hc : w.cell? a = some x) (hz : w.frozen? a = false) :
    CallsD Tryz.prog 95 #[.pointer (some a), .bool true] u w fun e u' w' => u' = u ∧ (e = .returned (.tuple #[]) ∧ w' = w.drew.setCell a (.int .u32 1)) := by
  have hc' : w.drew.cell? a = some x := by go_simp
  have hz' : w.drew.frozen? a = false := by go_simp
  have hst := run_call_store (P := Tryz.prog) Tryz.func118 (by kernel_rfl) (by kernel_rfl) (by kernel_rfl) (by kernel_rfl) (k := .u32) (y := 1) hc' hz'
  go_enter_d Tryz.func95, Tryz.ntmps95
  go_wp2
  go_region_calls
  all_goals (go_end0; exact ⟨rfl, rfl⟩)

/-- Close's closure. -/
theorem close1_any (b r p : Nat) (c : Bool) (y : Value) (w : World) {E B : Nat → Int} {V : Nat → Value} {vk : Value} (hF : FlowCells w b 6 E B V vk) (hr : w.cell? ⟨r, 0, none⟩ = some (.pointer (some ⟨b, 0, none⟩))) (hc : w.cell? ⟨b, 5, none⟩ = some (.bool c)) (hp : w.cell? ⟨p, 0, none⟩ = some y) (hzp : w.frozen? ⟨p, 0, none⟩ = false) (hz : ∀ j, w.frozen? ⟨b, j, none⟩ = false)
    (hrb : b ≠ r) (hpb : b ≠ p) :
    Calls Tryz.prog 34 #[.pointer (some ⟨r, 0, none⟩), .pointer (some ⟨p, 0, none⟩)] w fun e w' => e = .returned (.tuple #[]) ∧ w'.cell? ⟨b, 5, none⟩ = some (.bool true) ∧ w'.cell? ⟨p, 0, none⟩ = some (.int .i64 0) ∧ Slots b (fun j => 5 ≤ j) w w' ∧ Chg (fun k => k = b ∨ k = p) w w' := by
  have e0 := hF.ep 0 (by omega); have e1 := hF.ep 1 (by omega); have e2 := hF.ep 2 (by omega); have e3 := hF.ep 3 (by omega)
  have b0 := hF.ba 0 (by omega); have b1 := hF.ba 1 (by omega); have b2 := hF.ba 2 (by omega); have b3 := hF.ba 3 (by omega)
  have v0 := hF.qu 0 (by omega); have v1 := hF.qu 1 (by omega); have v2 := hF.qu 2 (by omega); have v3 := hF.qu 3 (by omega)
  have kk := hF.le
  simp only [Nat.zero_mul, Nat.one_mul, Nat.add_zero, Nat.reduceMul, Nat.reduceAdd] at e0 e1 e2 e3 b0 b1 b2 b3 v0 v1 v2 v3 kk
  have f5 := hz 5; have f6 := hz 6; have f7 := hz 7; have f8 := hz 8; have f9 := hz 9; have f10 := hz 10; have f11 := hz 11; have f12 := hz 12; have f13 := hz 13; have f14 := hz 14; have f15 := hz 15; have f16 := hz 16; have f17 := hz 17; have f18 := hz 18
  go_enter Tryz.func34, Tryz.ntmps34
  go_wp2_with fail
  go_end0
  refine ⟨rfl, ?_⟩
  have hs : ∀ j, j < 14 → (w.cell? ⟨b, 5 + j, none⟩).isSome = true := fun j hj => by
    rcases j with _ | j
    · simp [hc]
    · rw [show 5 + (j + 1) = 6 + j by omega]
      by_cases h12 : j = 12
      · subst h12; rw [hF.le]; rfl
      · rcases (by omega : j % 3 = 0 ∨ j % 3 = 1 ∨ j % 3 = 2) with h3 | h3 | h3
        · rw [show 6 + j = 6 + j / 3 * 3 by omega, hF.ep (j / 3) (by omega)]; rfl
        · rw [show 6 + j = 6 + j / 3 * 3 + 1 by omega, hF.ba (j / 3) (by omega)]; rfl
        · rw [show 6 + j = 6 + j / 3 * 3 + 2 by omega, hF.qu (j / 3) (by omega)]; rfl
  have hin := World.cell?_setCells_in b [.bool true, .int .i64 0, .int .i64 0, .slice none 0 0, .int .i64 0, .int .i64 0, .slice none 0 0, .int .i64 0, .int .i64 0, .slice none 0 0, .int .i64 0, .int .i64 0, .slice none 0 0, .slice none 0 0] 5 w (fun j hj => hs j hj) 0 (by decide)
  obtain ⟨sl, cg⟩ := setCells_slots b [.bool true, .int .i64 0, .int .i64 0, .slice none 0 0, .int .i64 0, .int .i64 0, .slice none 0 0, .int .i64 0, .int .i64 0, .slice none 0 0, .int .i64 0, .int .i64 0, .slice none 0 0, .slice none 0 0] 5 w
  exact ⟨(World.cell?_setCell_other _ _ _ _ (fun e => hpb (congrArg Addr.block e).symm)).trans hin, World.cell?_setCell_same _ _ _ (cg.cellAt hp (fun e => hpb e.symm)),
    (sl.mono (fun j hj => hj.1)).setCell (p := ⟨p, 0, none⟩) _ (fun e => absurd e.symm hpb), (cg.mono (fun k hk => .inl hk)).setCell (p := ⟨p, 0, none⟩) (fun _ => .inr rfl) _⟩

set_option maxRecDepth 100000 in
set_option maxHeartbeats 1600000 in
/-- doSlow, not yet done. -/
theorem slow_any (b r p : Nat) (c : Bool) (y : Value) (w : World) {E B : Nat → Int} {V : Nat → Value} {vk : Value} (hF : FlowCells w b 6 E B V vk) (hr : w.cell? ⟨r, 0, none⟩ = some (.pointer (some ⟨b, 0, none⟩))) (hd : w.cell? ⟨b, 2, none⟩ = some (.int .u32 0)) (hm : w.cell? ⟨b, 3, none⟩ = some (.int .i32 0)) (hc : w.cell? ⟨b, 5, none⟩ = some (.bool c)) (hp : w.cell? ⟨p, 0, none⟩ = some y) (hzp : w.frozen? ⟨p, 0, none⟩ = false) (hz : ∀ j, w.frozen? ⟨b, j, none⟩ = false)
    (hrb : b ≠ r) (hpb : b ≠ p) :
    Calls Tryz.prog 65 #[.pointer (some ⟨b, 2, none⟩), .func (.func 34) #[] #[.pointer (some ⟨r, 0, none⟩), .pointer (some ⟨p, 0, none⟩)]] w fun e w' => e = .returned (.tuple #[]) ∧
      w'.cell? ⟨b, 2, none⟩ = some (.int .u32 1) ∧ w'.cell? ⟨b, 3, none⟩ = some (.int .i32 0) ∧ w'.cell? ⟨b, 5, none⟩ = some (.bool true) ∧ w'.cell? ⟨p, 0, none⟩ = some (.int .i64 0) ∧ Slots b (fun j => 2 ≤ j) w w' ∧ Chg (fun k => k = b ∨ k = p) w w' := by
  have hlk := Go.MuLone.lock_free Tryz.muLib ⟨b, 3, none⟩ w hm (hz 3)
  have hnot : ∀ (x : Bool) (w : World), (Op.unary .not (.bool x)).run Tryz.prog w = .ok (.bool (!x)) w := fun _ _ => rfl
  obtain ⟨w1, hw1⟩ : ∃ w1, w1 = w.setCell ⟨b, 3, none⟩ (.int .i32 1) := ⟨_, rfl⟩
  have s1 : Slots b (fun j => j = 3) w w1 := by rw [hw1]; exact (Slots.refl b _ w).setCell (p := ⟨b, 3, none⟩) _ (fun _ => rfl)
  have c1 : Chg (fun k => k = b) w w1 := by rw [hw1]; exact (Chg.refl (fun k => k = b) w).setCell (p := ⟨b, 3, none⟩) (fun _ => rfl) _
  have m1 : w1.cell? ⟨b, 3, none⟩ = some (.int .i32 1) := by rw [hw1]; exact World.cell?_setCell_same _ _ _ hm
  rw [← hw1] at hlk
  have hlk' : Calls Tryz.prog 26 #[.pointer (some ⟨b, 3, none⟩)] w fun e w' => e = .returned (.tuple #[]) ∧ w' = w1 := hlk
  have hF1 : FlowCells w1 b 6 E B V vk := ⟨fun i hi => (s1.cell _ (by omega)).trans (hF.ep i hi), fun i hi => (s1.cell _ (by omega)).trans (hF.ba i hi), fun i hi => (s1.cell _ (by omega)).trans (hF.qu i hi), (s1.cell _ (by omega)).trans hF.le⟩
  have hzp1 : w1.frozen? ⟨p, 0, none⟩ = false := (World.frozen?_of_block (c1.block p (World.block_lt_of_cell? _ _ hp) (fun e => hpb e.symm))).trans hzp
  have d1 := (s1.cell 2 (by omega)).trans hd
  have hcl := close1_any b r p c y w1 hF1 (c1.cellAt hr (fun e => hrb e.symm)) ((s1.cell 5 (by omega)).trans hc) (c1.cellAt hp (fun e => hpb e.symm)) hzp1 (fun j => (s1.frozen j).trans (hz j)) hrb hpb
  have hbl := boolLoad_any ⟨b, 2, none⟩ 0 w1 (.inl rfl) d1
  clear hw1 hlk
  go_enter_defers Tryz.func65, Tryz.ntmps65
  go_wp2_with (first | (go_at_call 26; refine hlk'.mono ?_; rintro _ w1a ⟨rfl, rfl⟩) | (go_at_call 64; refine hbl.mono ?_; rintro _ w1b ⟨rfl, rfl⟩) | (go_at_call 34; refine hcl.mono ?_; rintro _ w2 ⟨rfl, t1, t2, t3, t4⟩))
  have d2 : w2.cell? ⟨b, 2, none⟩ = some (.int .u32 0) := (t3.cell 2 (by omega)).trans d1
  have z2 : ∀ j, w2.frozen? ⟨b, j, none⟩ = false := fun j => (t3.frozen j).trans ((s1.frozen j).trans (hz j))
  have m2 : w2.cell? ⟨b, 3, none⟩ = some (.int .i32 1) := (t3.cell 3 (by omega)).trans m1
  refine leaves_cons (f := 95) (args := #[.pointer (some ⟨b, 2, none⟩), .bool true]) (by simp) (by kernel_rfl) ?_
  refine (boolStore_deferred ⟨b, 2, none⟩ (.int .u32 0) .returning _ d2 (z2 2)).mono ?_
  rintro e u' w3 ⟨rfl, rfl, hw3⟩
  have s3 : Slots b (fun j => j = 2) w2 w3 := by rw [hw3]; exact ((Slots.refl b (fun j => j = 2) w2).quiet ((Quiet.refl w2).drew)).setCell (p := ⟨b, 2, none⟩) _ (fun _ => rfl)
  have c3 : Chg (fun k => k = b) w2 w3 := by rw [hw3]; exact ((Chg.refl (fun k => k = b) w2).drew).setCell (p := ⟨b, 2, none⟩) (fun _ => rfl) _
  have d3 : w3.cell? ⟨b, 2, none⟩ = some (.int .u32 1) := by rw [hw3]; exact World.cell?_setCell_same _ _ _ (by rw [World.cell?_drew]; exact d2)
  have m3 := (s3.cell 3 (by omega)).trans m2
  have z3 := (s3.frozen 3).trans (z2 3)
  refine leaves_cons (f := 27) (args := #[.pointer (some ⟨b, 3, none⟩)]) (by simp [settle]) (by kernel_rfl) ?_
  refine (Go.MuLone.unlock_deferred Tryz.muLib ⟨b, 3, none⟩ _ _ m3 z3).mono ?_
  rintro e u' w4 ⟨rfl, rfl, hw4⟩
  have s4 : Slots b (fun j => j = 3) w3 w4 := by rw [hw4]; exact (Slots.refl b _ w3).setCell (p := ⟨b, 3, none⟩) _ (fun _ => rfl)
  have c4 : Chg (fun k => k = b) w3 w4 := by rw [hw4]; exact (Chg.refl (fun k => k = b) w3).setCell (p := ⟨b, 3, none⟩) (fun _ => rfl) _
  have m4 : w4.cell? ⟨b, 3, none⟩ = some (.int .i32 0) := by rw [hw4]; exact World.cell?_setCell_same _ _ _ m3
  refine ⟨.tuple #[], results_none rfl _ _ _, rfl, (s4.cell 2 (by omega)).trans d3, m4, (s4.cell 5 (by omega)).trans ((s3.cell 5 (by omega)).trans t1), c4.cellAt (c3.cellAt t2 (fun e => hpb e.symm)) (fun e => hpb e.symm), ?_, ?_⟩
  · exact (((s1.mono (fun j hj => by omega)).trans t3 (fun j hj => by omega)).trans s3 (fun j hj => by omega)).trans s4 (fun j hj => by omega)
  · exact (((c1.mono (fun k hk => .inl hk)).trans t4 (fun _ _ h => h)).trans c3 (fun _ _ h => .inl h)).trans c4 (fun _ _ h => .inl h)

set_option maxHeartbeats 400000 in
theorem do_first (b r p : Nat) (c : Bool) (y : Value) (w : World) {E B : Nat → Int} {V : Nat → Value} {vk : Value} (hF : FlowCells w b 6 E B V vk) (hr : w.cell? ⟨r, 0, none⟩ = some (.pointer (some ⟨b, 0, none⟩))) (hd : w.cell? ⟨b, 2, none⟩ = some (.int .u32 0)) (hm : w.cell? ⟨b, 3, none⟩ = some (.int .i32 0)) (hc : w.cell? ⟨b, 5, none⟩ = some (.bool c)) (hp : w.cell? ⟨p, 0, none⟩ = some y) (hzp : w.frozen? ⟨p, 0, none⟩ = false) (hz : ∀ j, w.frozen? ⟨b, j, none⟩ = false)
    (hrb : b ≠ r) (hpb : b ≠ p) :
    Calls Tryz.prog 33 #[.pointer (some ⟨b, 2, none⟩), .func (.func 34) #[] #[.pointer (some ⟨r, 0, none⟩), .pointer (some ⟨p, 0, none⟩)]] w fun e w' => e = .returned (.tuple #[]) ∧
      w'.cell? ⟨b, 2, none⟩ = some (.int .u32 1) ∧ w'.cell? ⟨b, 3, none⟩ = some (.int .i32 0) ∧ w'.cell? ⟨b, 5, none⟩ = some (.bool true) ∧ w'.cell? ⟨p, 0, none⟩ = some (.int .i64 0) ∧ Slots b (fun j => 2 ≤ j) w w' ∧ Chg (fun k => k = b ∨ k = p) w w' := by
  have hsl := slow_any b r p c y w hF hr hd hm hc hp hzp hz hrb hpb
  have hnot : ∀ (x : Bool) (w : World), (Op.unary .not (.bool x)).run Tryz.prog w = .ok (.bool (!x)) w := fun _ _ => rfl
  have hbl := boolLoad_any ⟨b, 2, none⟩ 0 w (.inl rfl) hd
  go_enter Tryz.func33, Tryz.ntmps33
  go_wp2_with (first | (go_at_call 64; refine hbl.mono ?_; rintro _ w1b ⟨rfl, rfl⟩) | (go_at_call 65; refine hsl.mono ?_; rintro _ w2 ⟨rfl, t⟩))
  go_end0
  exact ⟨rfl, t⟩

set_option maxHeartbeats 400000 in
theorem do_done (b : Nat) (f : Value) (w : World) (hd : w.cell? ⟨b, 2, none⟩ = some (.int .u32 1)) :
    Calls Tryz.prog 33 #[.pointer (some ⟨b, 2, none⟩), f] w fun e w' => e = .returned (.tuple #[]) ∧ w' = w := by
  have hnot : ∀ (x : Bool) (w : World), (Op.unary .not (.bool x)).run Tryz.prog w = .ok (.bool (!x)) w := fun _ _ => rfl
  have hbl := boolLoad_any ⟨b, 2, none⟩ 1 w (.inr rfl) hd
  go_enter Tryz.func33, Tryz.ntmps33
  go_wp2_with (go_at_call 64; refine hbl.mono ?_; rintro _ w1b ⟨rfl, rfl⟩)
  go_end0
  exact ⟨rfl, rfl⟩

end Go.Proofs.YtdoedjmdcmgddaaGreat
