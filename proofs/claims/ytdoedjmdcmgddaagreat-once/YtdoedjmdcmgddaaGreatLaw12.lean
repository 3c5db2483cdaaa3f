/- Once: sums, WALKED. -/
import Derived.Test.YtdoedjmdcmgddaaGreatLaw11
namespace Go.Proofs.YtdoedjmdcmgddaaGreat
set_option linter.unusedVariables false
set_option linter.unusedSimpArgs false
open Go.RowKit Go.Lib

variable {R : World → Addr → Option St → (Nat → Prop) → Prop}

theorem OInv.short {all ol : List Rec} {s : St} (h : OInv all ol s) (hn : Numbered all) : ol.length ≤ 900 := by
  have h1 := h.total hn
  have h2 := h.whole
  have h3 := (waits_ge (ls := s.lanes)).1
  have h4 := hn.few
  unfold St.records at h1
  omega

set_option maxRecDepth 100000 in
set_option maxHeartbeats 4000000 in
theorem sums_any (H : Api R) {w : World} {a : Addr} {s : St} {F : Nat → Prop} (hR : R w a (some s) F) {lo : Nat} {vl : Value} {ol all : List Rec} (row : w.ownsRow lo 37 5 vl ol.length (recCells ol)) (hsep : ∀ k, vl.ownBlock = some k → ¬ F k) (hI : OInv all ol s) (hN : Numbered all) :
    Calls Tryz.prog 14 #[.pointer (some a), vl] w fun e w' => e = .returned (.bool true) ∧ R w' a (some s) F ∧ Chg F w w' := by
  obtain ⟨pl, cl, rfl⟩ := row_any row
  have hol := hI.short hN
  have hf := H.fine hR
  have hsm := hf.small
  go_enter Tryz.func14, Tryz.ntmps14
  go_wp2_with fail
  refine (H.state hR).mono ?_
  rintro _ w3 ⟨vs, vk, rfl, hs3, hR3, c3⟩
  simp only [errno?, state?] at hs3 ⊢
  obtain ⟨us, hu1, hu2, hu3⟩ := hs3.sess
  have hk3 := hs3.keys
  obtain ⟨ps, cs, rfl⟩ := row_any hu2
  obtain ⟨pk, ck, rfl⟩ := row_any hk3
  clear hu1 hu2 hu3
  obtain ⟨W3, hW3⟩ : ∃ W3, W3 = w3.alloc (Obj.cells #[.slice ps s.lanes.length cs, .slice pk s.keys.length ck] 52) := ⟨_, rfl⟩
  have c33 : Chg (fun _ => False) w3 W3 := by rw [hW3]; exact (Chg.refl _ w3).alloc _
  have b1 : W3.cell? ⟨w3.heap.size, 1, none⟩ = some (.slice pk s.keys.length ck) := by rw [hW3]; exact World.cell?_alloc_at _ _ _ _ rfl
  have hk4 := c33.row' hk3 (fun _ _ h => h)
  have row4 := c33.row' (c3.row' row hsep) (fun _ _ h => h)
  have hR4 := H.keep hR3 c33
  have cw : Chg F w W3 := c3.trans c33 (fun _ _ h => h.elim)
  have hup := counts_upto (ks := s.keys) (fun k hk => (hf.key k hk).1)
  go_wp2_with fail
  rw [← hW3]
  clear hW3 hs3 hk3 c3 c33 hR3 hR row
  go_loopw [7, 8, 9, 10, 11] (fun sn si _ _ _ wr => ∃ (j : Nat) (m : Int), si = .int .i64 j ∧ j ≤ s.keys.length ∧ sn = .int .i64 m ∧ Hid (m = counts (s.keys.take j)) ∧ Chg (fun _ => False) W3 wr) (fun _ si _ _ _ _ => s.keys.length - (intOf si).toNat)
  case atStart => exact ⟨0, 0, rfl, by omega, rfl, (show _ = _ by simp [counts]), Chg.refl _ _⟩
  case round =>
    obtain ⟨j, m, rfl, hj, rfl, HM, hcj⟩ := hrel
    have e1 := hcj.cellAt b1 id
    by_cases hjl : j < s.keys.length
    · obtain ⟨q, hq⟩ : ∃ q, s.keys[j]? = some q := ⟨_, List.getElem?_eq_getElem hjl⟩
      have hqm := List.mem_of_getElem? hq
      have cx := keyCells_at s.keys j q hq
      obtain ⟨gk, capk, hvk, _, _, hck⟩ := row_pos hk4 (by omega)
      simp only [Value.slice.injEq] at hvk
      obtain ⟨rfl, _, rfl⟩ := hvk
      have m0 := hcj.cellAt (hck _ _ cx.1) id
      have m1 := hcj.cellAt (hck _ _ cx.2.1) id
      have m2 := hcj.cellAt (hck _ _ cx.2.2.1) id
      have m3 := hcj.cellAt (hck _ _ cx.2.2.2) id
      obtain ⟨kn, kc, kf⟩ := hI.key hN hqm
      have hq1 := (hf.key q hqm).1
      have hjl' : (j : Int) < (s.keys.length : Int) := by omega
      have hnx := counts_next s.keys j q hq
      have hn1 := hup j
      have hn2 := hup (j + 1)
      have hmx : 0 ≤ m ∧ m ≤ 1000 ∧ 0 ≤ m + q.count ∧ m + q.count ≤ 1000 := by rw [HM.out]; omega
      have HNX : Hid (counts (s.keys.take (j + 1)) = counts (s.keys.take j) + q.count) := hnx
      have KC : Hid (q.count = (tally q.name ol).1) := kc
      have KF : Hid (q.fold = (tally q.name ol).2) := kf
      clear hck cx hnx hn1 hn2 kc kf
      obtain ⟨W5, hW5⟩ : ∃ W5, W5 = wr.alloc (Obj.cells #[.string q.name, .int .i64 q.count, .int .i64 q.fold, .int .i64 q.held] 60) := ⟨_, rfl⟩
      have c5 : Chg (fun _ => False) wr W5 := by rw [hW5]; exact (Chg.refl _ wr).alloc _
      have z0 : W5.cell? ⟨wr.heap.size, 0, none⟩ = some (.string q.name) := by rw [hW5]; exact World.cell?_alloc_at _ _ _ _ rfl
      have z1 : W5.cell? ⟨wr.heap.size, 1, none⟩ = some (.int .i64 q.count) := by rw [hW5]; exact World.cell?_alloc_at _ _ _ _ rfl
      have z2 : W5.cell? ⟨wr.heap.size, 2, none⟩ = some (.int .i64 q.fold) := by rw [hW5]; exact World.cell?_alloc_at _ _ _ _ rfl
      have row5 := c5.row' (hcj.row' row4 (fun _ _ h => h)) (fun _ _ h => h)
      go_wp2_with fail
      rw [← hW5]
      clear hW5 m0 m1 m2 m3 e1
      go_loopw [10, 11] (fun sc sp wq => ∃ (p : Nat) (c : Int), sp = .int .i64 p ∧ p ≤ ol.length ∧ sc = .int .i64 c ∧ Hid (c = (tally q.name (ol.take p)).1) ∧ Chg (fun _ => False) W5 wq) (fun _ sp _ => ol.length - (intOf sp).toNat)
      case atStart => exact ⟨0, 0, rfl, by omega, rfl, (show _ = _ from rfl), Chg.refl _ _⟩
      case round =>
        obtain ⟨p, c, rfl, hp, rfl, HC, hcp⟩ := hrel
        have y0 := hcp.cellAt z0 id
        have y1 := hcp.cellAt z1 id
        have y2 := hcp.cellAt z2 id
        have hle := tally_take_le q.name ol p
        rw [← HC.out] at hle
        have hcr : 0 ≤ c ∧ c ≤ 900 := by omega
        clear hle
        by_cases hpl : p < ol.length
        · obtain ⟨x, hx⟩ : ∃ x, ol[p]? = some x := ⟨_, List.getElem?_eq_getElem hpl⟩
          obtain ⟨gl, capl, hvl, _, _, hcl⟩ := row_pos row5 (by omega)
          simp only [Value.slice.injEq] at hvl
          obtain ⟨rfl, _, rfl⟩ := hvl
          have x3 := hcp.cellAt (hcl _ _ (recCells_at ol p x hx).2.2.2.1) id
          have hpl' : (p : Int) < (ol.length : Int) := by omega
          have hnx := tally_take_next q.name ol p x hx
          clear hcl
          by_cases hke : x.key = q.name
          · have HC' : Hid (c + 1 = (tally q.name (ol.take (p + 1))).1) := by
              show _ = _
              rw [hnx, HC.out]; unfold tallyOne; rw [if_pos hke]
            rw [hke] at x3
            clear hnx hke HC
            go_wp2_with fail
            go_quiet (fail)
            go_wp2_with fail
            exact ⟨⟨p + 1, c + 1, by go_num, by omega, rfl, HC', hcp.trans (((Quiet.refl _).drewN _).chg _) (fun _ _ h => h)⟩, by simp [intOf]; omega⟩
          · have HC' : Hid (c = (tally q.name (ol.take (p + 1))).1) := by
              show _ = _
              rw [hnx, HC.out]; unfold tallyOne; rw [if_neg hke]
            have hkn : (x.key.toList == q.name.toList) = false := by
              rw [beq_eq_false_iff_ne]
              intro e
              rw [ByteArray.toList_eq, ByteArray.toList_eq] at e
              exact hke (ByteArray.ext (Array.toList_inj.1 e))
            clear hnx hke HC
            go_wp2_with fail
            go_quiet (fail)
            go_wp2_with fail
            exact ⟨⟨p + 1, c, by go_num, by omega, rfl, HC', hcp.trans (((Quiet.refl _).drewN _).chg _) (fun _ _ h => h)⟩, by simp [intOf]; omega⟩
        · have hpl' : ¬ (p : Int) < (ol.length : Int) := by omega
          have hcq : c = q.count := by rw [HC.out, KC.out, List.take_of_length_le (by omega)]
          rw [hcq]
          clear HC hcq hcr
          have hkf : ∀ k, Calls Tryz.prog 29 #[.slice pl ol.length cl, .string q.name, .int .i64 q.count] (wr.drewN k) fun e w' => e = .returned (.int .i64 q.fold) ∧ w' = wr.drewN k := fun k => by
            have := kfold_any (key := q.name) ((hcp.trans (((Quiet.refl wr).drewN k).chg _) (fun _ _ h => h)).row' row5 (fun _ _ h => h)) kn hol (fun x hx => by have := hN.each x (hI.sub x hx); exact this.2.2.2.2)
            rw [← KC.out, ← KF.out] at this
            exact this
          have hq0 : (q.count == 0) = false := by simp; omega
          have hne : (q.name.toList == ([] : List UInt8)) = false := by
            rw [beq_eq_false_iff_ne, ByteArray.toList_eq]
            simp only [names4, List.mem_cons, List.not_mem_nil, or_false] at kn
            rcases kn with e | e | e | e <;> rw [e] <;> simp [kC, kS, kL, kM]
          go_wp2_with fail
          go_quiet (first | (go_at_call 29; refine Calls.quiet_of_same (hkf _)))
          go_wp2_with fail
          exact ⟨⟨j + 1, m + q.count, by go_num, by omega, rfl, (show _ = _ by rw [HNX.out, HM.out]), (hcj.trans (c5.trans hcp (fun _ _ h => h)) (fun _ _ h => h)).trans (((Quiet.refl _).drewN _).chg _) (fun _ _ h => h)⟩, by simp [intOf]; omega⟩
    · have hjl' : ¬ (j : Int) < (s.keys.length : Int) := by omega
      have hm : m = (ol.length : Int) := by rw [HM.out, List.take_of_length_le (by omega), hI.whole]
      rw [hm]
      clear HM hm
      go_wp2_with fail
      go_ret
      exact ⟨by simp, H.keep hR4 hcj, cw.trans hcj (fun _ _ h => h.elim)⟩

end Go.Proofs.YtdoedjmdcmgddaaGreat
