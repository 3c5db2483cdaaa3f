/- Once, WALKED. -/
import Derived.Test.YtdoedjmdcmgddaaGreatLaw13
import Derived.Deep.CutRange
namespace Go.Proofs.YtdoedjmdcmgddaaGreat
set_option linter.unusedVariables false
set_option linter.unusedSimpArgs false
open Go.RowKit Go.Lib

variable {R : World → Addr → Option St → (Nat → Prop) → Prop}

set_option maxRecDepth 100000 in
set_option maxHeartbeats 8000000 in
theorem once_walk (H : Api R) (w : World) (v u : Value) (L : List Snt) (P : List Int) (hS : SentAt w v L) (hP : IntsAt w u P) :
    Calls Tryz.prog 4 #[v, u] w fun e w' => e = .returned (.bool true) ∧ Chg (fun _ => False) w w' := by
  obtain ⟨pv, cv, rfl⟩ := hS.val
  obtain ⟨pu, cu, rfl⟩ := hP.val
  have hlen := hP.len
  go_enter Tryz.func4, Tryz.ntmps4
  go_wp2_with fail
  refine (taking_any H w).mono ?_
  rintro _ w1 ⟨rfl, c1⟩
  go_wp2_with fail
  refine (H.new w1).mono ?_
  rintro _ w2 ⟨a, F2, rfl, hR2, hF2, c2⟩
  have c02 : Chg (fun _ => False) w w2 := c1.trans c2 (fun _ _ h => h)
  have hF02 : ∀ k, F2 k → w.heap.size ≤ k := fun k hk => Nat.le_trans c1.size (hF2 k hk)
  have hlt2 : ∀ k, F2 k → k < w2.heap.size := fun k hk => H.lt hR2 hk
  have hS2 : SentAt w2 (.slice pv L.length cv) L := ⟨hS.val, hS.len, fun i x hx => by
    obtain ⟨sb, so, cap, e, y0, y1, y2⟩ := hS.cells i x hx
    exact ⟨sb, so, cap, e, c02.cellAt y0 id, c02.cellAt y1 id, c02.cellAt y2 id⟩, hS.fits⟩
  clear c1 c2 hF2
  go_wp2_with fail
  refine (numbered_any hS2).mono ?_
  rintro _ w3 ⟨va, all, rfl, ra, hN, c3⟩
  have hfew := hN.few
  obtain ⟨pa, ca, rfl⟩ := row_any ra
  obtain ⟨W4, hW4⟩ : ∃ W4, W4 = w3.alloc (Obj.cells #[.slice none 0 0, .int .i64 0, .int .i64 0, .int .i64 0, .int .i64 0] 35) := ⟨_, rfl⟩
  have c34 : Chg (fun _ => False) w3 W4 := by rw [hW4]; exact (Chg.refl _ w3).alloc _
  have hz23 := c3.size
  have hz02 := c02.size
  have hH : Half R W4 a w3.heap.size w.heap.size (.slice pa all.length ca) (.slice none 0 0) all [] St.init F2 (fun _ => 0) := by
    refine ⟨H.keep (H.keep hR2 c3) c34, ⟨?_, fun j hj => ?_, fun j => ?_, World.ownsRow_nil _ _ _ _, by simp [Value.ownBlock]⟩, row_lower (c34.row' ra (fun _ _ h => h)) hz02, fun h => ?_, fun k hk => by simp [Value.ownBlock] at hk, fun k hk hf => ?_, fun h => ?_, fun g _ hv => by simp [Value.ownBlock] at hv, ?_⟩
    · rw [hW4]; exact World.cell?_alloc_at _ _ _ _ rfl
    · rw [hW4]
      rcases (by omega : j = 0 ∨ j = 1 ∨ j = 2 ∨ j = 3) with rfl | rfl | rfl | rfl <;> exact World.cell?_alloc_at _ _ _ _ rfl
    · rw [hW4]; exact World.frozen?_alloc_at _ _ _ _ rfl
    · have := hlt2 _ h; omega
    · have := hlt2 _ hf
      have := (ra.lt k hk).1
      omega
    · have := (ra.lt _ h).2; omega
    · have := c34.size; omega
  have c04 : Chg (fun _ => False) w W4 := (c02.trans c3 (fun _ _ h => h)).trans c34 (fun _ _ h => h)
  have hob : w.heap.size ≤ w3.heap.size := by omega
  clear c02 hR2 hS2 hlt2 c3 ra c34 hz23 hz02
  go_wp2_with fail
  rw [← hW4]
  clear hW4
  go_loopw [9, 10, 11, 12, 13] (fun si _ _ _ _ wr => ∃ (i : Nat) (ol : List Rec) (s : St) (F : Nat → Prop) (vl : Value) (B : Nat → Int), si = .int .i64 i ∧ i ≤ P.length ∧ Half R wr a w3.heap.size w.heap.size (.slice pa all.length ca) vl all ol s F B ∧ OInv all ol s ∧ basesOf s B ∧ (∀ k, F k → w.heap.size ≤ k) ∧ Chg (fun _ => False) w wr) (fun si _ _ _ _ _ => P.length - (intOf si).toNat)
  case atStart => exact ⟨0, [], _, F2, _, _, rfl, by omega, hH, OInv.init all, basesOf_init, hF02, c04⟩
  case round =>
    obtain ⟨i, ol, s, F, vl, B, rfl, hi, hH1, hI, hB, hFw, hc⟩ := hrel
    clear hH c04 hF02
    by_cases hgo : i < P.length ∧ 0 < all.length
    · obtain ⟨hil, hal⟩ := hgo
      have hil' : (i : Int) < (P.length : Int) := by omega
      · have hal' : (0 : Int) < (all.length : Int) := by omega
        obtain ⟨c, hcx⟩ : ∃ c, P[i]? = some c := ⟨_, List.getElem?_eq_getElem hil⟩
        obtain ⟨sb, so, cap, hvv, y0⟩ := hP.cells i c hcx
        simp only [Value.slice.injEq] at hvv
        obtain ⟨rfl, _, rfl⟩ := hvv
        have hpk := fun w => pick_any c all.length w (hP.fits c (List.mem_of_getElem? hcx)) (by omega) (by omega)
        have hpr := pickI_range (c := c) (n := all.length) (by omega)
        obtain ⟨kn, hkn⟩ : ∃ kn : Nat, pickI c all.length = kn := ⟨(pickI c all.length).toNat, by omega⟩
        rw [hkn] at hpk hpr
        have hkl : kn < all.length := by omega
        have hkl' : (kn : Int) < (all.length : Int) := by omega
        obtain ⟨x, hx⟩ : ∃ x, all[kn]? = some x := ⟨_, List.getElem?_eq_getElem hkl⟩
        have hxm := List.mem_of_getElem? hx
        have hxe := hN.each x hxm
        obtain ⟨ga, ca', hva, _, _, hcell⟩ := row_pos hH1.row (by omega)
        simp only [Value.slice.injEq] at hva
        obtain ⟨rfl, _, rfl⟩ := hva
        have cx := recCells_at all kn x hx
        have m0 := hcell _ _ cx.1
        have m1 := hcell _ _ cx.2.1
        have m2 := hcell _ _ cx.2.2.1
        have m3 := hcell _ _ cx.2.2.2.1
        have m4 := hcell _ _ cx.2.2.2.2
        obtain ⟨sn, hsn⟩ : ∃ sn : Nat, x.session = sn := ⟨x.session.toNat, by omega⟩
        obtain ⟨xs, xe, xn, xk, xv⟩ := x
        simp only at hsn hxe m0 m1 m2 m3 m4
        obtain ⟨hx1, hx2, rfl, hx4, hx5⟩ := hxe
        subst hsn
        have hsn4 : sn < 4 := by omega
        have hsn4' : (sn : Int) < 4 := by omega
        obtain ⟨hnn, hno⟩ := ofS_number hN hxm (i := sn) rfl
        have hnl := (List.getElem?_eq_some_iff.1 hno).1
        simp only at hnn hnl
        have hol : (ofS all sn).length ≤ all.length := List.length_filter_le _ _
        obtain ⟨l, hl⟩ : ∃ l, s.lanes[sn]? = some l := ⟨_, List.getElem?_eq_getElem (by rw [hI.four]; exact hsn4)⟩
        have hbl := hB sn l hl
        have hLi := hI.lane sn l hl
        have hfit : (⟨sn, 0, xn, xk, xv⟩ : Rec).fits := by
          refine ⟨?_, ?_, ?_, ?_, ?_⟩
          · unfold inInt; simp only; omega
          · unfold inInt; simp only; omega
          · unfold inInt; simp only; omega
          · unfold inInt; simp only; omega
          · simp only [names4, List.mem_cons, List.not_mem_nil, or_false] at hx4
            rcases hx4 with e | e | e | e <;> simp only <;> rw [e] <;> decide
        obtain ⟨W5, hW5⟩ : ∃ W5, W5 = wr.alloc (Obj.cells #[.int .i64 sn, .int .i64 0, .int .i64 xn, .string xk, .int .i64 xv] 37) := ⟨_, rfl⟩
        have c5 : Chg (fun _ => False) wr W5 := by rw [hW5]; exact (Chg.refl _ wr).alloc _
        have z0 : W5.cell? ⟨wr.heap.size, 0, none⟩ = some (.int .i64 sn) := by rw [hW5]; exact World.cell?_alloc_at _ _ _ _ rfl
        have z1 : W5.cell? ⟨wr.heap.size, 1, none⟩ = some (.int .i64 0) := by rw [hW5]; exact World.cell?_alloc_at _ _ _ _ rfl
        have z2 : W5.cell? ⟨wr.heap.size, 2, none⟩ = some (.int .i64 xn) := by rw [hW5]; exact World.cell?_alloc_at _ _ _ _ rfl
        have z3 : W5.cell? ⟨wr.heap.size, 3, none⟩ = some (.string xk) := by rw [hW5]; exact World.cell?_alloc_at _ _ _ _ rfl
        have z4 : W5.cell? ⟨wr.heap.size, 4, none⟩ = some (.int .i64 xv) := by rw [hW5]; exact World.cell?_alloc_at _ _ _ _ rfl
        have hH5 := hH1.keep H c5
        have hxF : ¬ F wr.heap.size := fun h => by have := H.lt hH1.rel h; omega
        have hacc := H.accept ⟨sn, 0, xn, xk, xv⟩ hH5.rel hfit
        have yr := hc.cellAt y0 id
        have cw5 : Chg (fun _ => False) w W5 := hc.trans c5 (fun _ _ h => h)
        have hao := accept_once hN hI hxm (i := sn) rfl hl
        have hbr : 0 ≤ l.base ∧ l.base ≤ 900 := by have := hLi.lo; have := hLi.hi; omega
        rw [hbl] at hbr
        clear hcell cx hkn hcx
        rcases hao with ⟨hfar, hff⟩ | ⟨b, hT⟩
        · simp only [accept?, hfar] at hacc
          simp only at hff
          rw [hbl] at hff
          clear hfar hfit hno hbl
          unfold Rec.value' at hacc
          go_wp2_with fail
          refine (hpk _).mono ?_
          rintro _ wp ⟨rfl, ewp⟩
          rw [ewp]
          clear ewp wp
          go_wp2_with fail
          rw [← hW5]
          refine hacc.mono ?_
          rintro _ w6 ⟨F6, rfl, hR6, hF6, c6⟩
          clear hacc hW5
          have hH6 := hH5.accept c6 hF6 hR6
          have q0 := c6.cellAt z0 hxF
          have q2 := c6.cellAt z2 hxF
          have hbc := hH6.ord.bs sn hsn4
          have hnf : ¬ xn < B sn + 4 := by omega
          have hnf' : decide (xn < B sn + 4) = false := decide_eq_false hnf
          go_wp2_with fail
          go_quiet (fail)
          go_wp2_with fail
          have cq : Chg (fun _ => False) w6 (w6.drewN nq) := ((Quiet.refl _).drewN _).chg _
          exact ⟨⟨i + 1, ol, s, F6, vl, B, by go_num, by omega, hH6.keep H cq, hI, hB, cw5.young hFw hF6, (cw5.step c6 hFw).trans cq (fun _ _ h => h)⟩, by simp [intOf]; omega⟩
        · obtain ⟨s', hs'⟩ : ∃ s', s' = (accept s ⟨sn, 0, xn, xk, xv⟩).2 := ⟨_, rfl⟩
          have hTi := hT.inv
          have hTb := hT.bases hB
          have hTl := hT.lo
          have hTh := hT.hi
          have hTn := hT.len
          simp only [accept?, hT.ans] at hacc
          rw [hbl] at hTi hTl hTh
          rw [← hs'] at hTi hTb hacc
          clear hT hs' hfit hno hbl
          have holl := hI.short hN
          unfold Rec.value' at hacc
          go_wp2_with fail
          refine (hpk _).mono ?_
          rintro _ wp ⟨rfl, ewp⟩
          rw [ewp]
          clear ewp wp
          go_wp2_with fail
          rw [← hW5]
          refine hacc.mono ?_
          rintro _ w6 ⟨F6, rfl, hR6, hF6, c6⟩
          clear hacc hW5
          have hH6 := hH5.accept c6 hF6 hR6
          have q0 := c6.cellAt z0 hxF
          have hmore := more_any (b := b) hsn4 hH6.ord hH6.row hH6.ao hH6.sep hH6.lo hN hbr.1 hTl hTh hTn holl
          go_wp2_with fail
          refine hmore.mono ?_
          rintro _ w7 ⟨rfl, vl', ho, hW, c7⟩
          clear hmore
          have cw6 : Chg (fun _ => False) w w6 := cw5.step c6 hFw
          go_wp2_with fail
          exact ⟨⟨i + 1, _, s', F6, vl', _, by go_num, by omega, hH6.more H ho hW c7, hTi, hTb, cw5.young hFw hF6, young_more cw6 hH6.ord hob c7⟩, by simp [intOf]; omega⟩
    · have hgo' : (¬ (i : Int) < (P.length : Int)) ∨ ((i : Int) < (P.length : Int) ∧ ¬ (0 : Int) < (all.length : Int)) := by omega
      obtain ⟨pl, cl, rfl⟩ := row_any hH1.ord.row
      have hlc := hH1.ord.list
      have hsum := sums_any H hH1.rel hH1.ord.row hH1.fl hI hN
      clear hgo
      rcases hgo' with hg | ⟨hg1, hg2⟩
      all_goals
        go_wp2_with fail
        refine hsum.mono ?_
        rintro _ w4 ⟨rfl, hR4, c4⟩
        have hH4 := hH1.accept c4 (fun k hk => .inl hk) hR4
        have cw4 : Chg (fun _ => False) w w4 := hc.step c4 hFw
        clear hsum hlc hH1 c4 hR4
        go_wp2_with fail
        go_loopw [15, 16, 17, 18] (fun si _ _ _ wr => ∃ (p : Nat) (ol : List Rec) (s : St) (F : Nat → Prop) (vl : Value) (B : Nat → Int), si = .int .i64 p ∧ p ≤ all.length ∧ Half R wr a w3.heap.size w.heap.size (.slice pa all.length ca) vl all ol s F B ∧ OInv all ol s ∧ basesOf s B ∧ (∀ j, j < 4 → ((ofS (all.take p) j).length : Int) ≤ B j) ∧ (∀ k, F k → w.heap.size ≤ k) ∧ Chg (fun _ => False) w wr) (fun si _ _ _ _ => all.length - (intOf si).toNat)
        case atStart => exact ⟨0, ol, s, F, _, B, rfl, by omega, hH4, hI, hB, fun j hj => by
          obtain ⟨l, hl⟩ : ∃ l, s.lanes[j]? = some l := ⟨_, List.getElem?_eq_getElem (by rw [hI.four]; exact hj)⟩
          rw [← hB j l hl]
          simpa [ofS] using (hI.lane j l hl).lo, hFw, cw4⟩
        case round =>
          clear hI hB hFw cw4 hH4 hc hi
          obtain ⟨p, ol, s, F, vl, B, rfl, hp, hH1, hI, hB, hD, hFw, hc⟩ := hrel
          by_cases hpl : p < all.length
          · first
            | exfalso; omega
            |
              have hpl' : (p : Int) < (all.length : Int) := by omega
              obtain ⟨x, hx⟩ : ∃ x, all[p]? = some x := ⟨_, List.getElem?_eq_getElem hpl⟩
              have hxm := List.mem_of_getElem? hx
              have hxe := hN.each x hxm
              obtain ⟨ga, ca', hva, _, _, hcell⟩ := row_pos hH1.row (by omega)
              simp only [Value.slice.injEq] at hva
              obtain ⟨rfl, _, rfl⟩ := hva
              have cx := recCells_at all p x hx
              have m0 := hcell _ _ cx.1
              have m1 := hcell _ _ cx.2.1
              have m2 := hcell _ _ cx.2.2.1
              have m3 := hcell _ _ cx.2.2.2.1
              have m4 := hcell _ _ cx.2.2.2.2
              have cx0 := cx.1
              have cx2 := cx.2.2.1
              obtain ⟨sn, hsn⟩ : ∃ sn : Nat, x.session = sn := ⟨x.session.toNat, by omega⟩
              obtain ⟨xs, xe, xn, xk, xv⟩ := x
              simp only at hsn hxe m0 m1 m2 m3 m4 cx0 cx2
              obtain ⟨hx1, hx2, rfl, hx4, hx5⟩ := hxe
              subst hsn
              have hsn4 : sn < 4 := by omega
              have hsn4' : (sn : Int) < 4 := by omega
              have hnum : xn = (ofS (all.take p) sn).length := numbered_at hN hx (i := sn) rfl
              have hnx := ofS_take_next hx
              simp only at hnx
              obtain ⟨hnn, hno⟩ := ofS_number hN hxm (i := sn) rfl
              have hnl := (List.getElem?_eq_some_iff.1 hno).1
              simp only at hnn hnl
              have hol : (ofS all sn).length ≤ all.length := List.length_filter_le _ _
              obtain ⟨l, hl⟩ : ∃ l, s.lanes[sn]? = some l := ⟨_, List.getElem?_eq_getElem (by rw [hI.four]; exact hsn4)⟩
              have hbl := hB sn l hl
              have hLi := hI.lane sn l hl
              have hDs := hD sn hsn4
              rw [← hnum] at hDs
              have hfit : (⟨sn, 0, xn, xk, xv⟩ : Rec).fits := by
                refine ⟨?_, ?_, ?_, ?_, ?_⟩
                · unfold inInt; simp only; omega
                · unfold inInt; simp only; omega
                · unfold inInt; simp only; omega
                · unfold inInt; simp only; omega
                · simp only [names4, List.mem_cons, List.not_mem_nil, or_false] at hx4
                  rcases hx4 with e | e | e | e <;> simp only <;> rw [e] <;> decide
              have hacc := H.accept ⟨sn, 0, xn, xk, xv⟩ hH1.rel hfit
              have hbr : 0 ≤ l.base ∧ l.base ≤ 900 := by have := hLi.lo; have := hLi.hi; omega
              rw [hbl] at hbr
              have hao := accept_once hN hI hxm (i := sn) rfl hl
              rcases hao with ⟨hfar, hff⟩ | ⟨b, hT⟩
              · exfalso
                simp only at hff
                omega
              · obtain ⟨s', hs'⟩ : ∃ s', s' = (accept s ⟨sn, 0, xn, xk, xv⟩).2 := ⟨_, rfl⟩
                have hTi := hT.inv
                have hTb := hT.bases hB
                have hTl := hT.lo
                have hTh := hT.hi
                have hTn := hT.len
                have hTp := hT.past
                simp only at hTp
                simp only [accept?, hT.ans] at hacc
                rw [hbl] at hTi hTl hTh hTp
                have hpast : ¬ b ≤ xn := by have := hTp hDs; omega
                have HD : Hid (∀ j, j < 4 → ((ofS (all.take (p + 1)) j).length : Int) ≤ if j = sn then b else B j) := fun j hj => by
                  rw [hnx j]
                  by_cases e : j = sn
                  · subst e
                    simp
                    omega
                  · have := hD j hj
                    have e2 : ¬ (sn : Int) = (j : Int) := by omega
                    simp [e, e2]
                    exact this
                rw [← hs'] at hTi hTb hacc
                clear hT hs' hfit hno hbl hnum hnx hTp hDs
                have holl := hI.short hN
                unfold Rec.value' at hacc
                go_wp2_with fail
                refine hacc.mono ?_
                rintro _ w6 ⟨F6, rfl, hR6, hF6, c6⟩
                clear hacc
                have hH6 := hH1.accept c6 hF6 hR6
                obtain ⟨_, _, hva, _, _, hcell6⟩ := row_pos hH6.row (by omega)
                simp only [Value.slice.injEq, Option.some.injEq, Addr.mk.injEq] at hva
                obtain ⟨⟨rfl, _, _⟩, _, rfl⟩ := hva
                have q0 := hcell6 _ _ cx0
                have hmore := more_any (b := b) hsn4 hH6.ord hH6.row hH6.ao hH6.sep hH6.lo hN hbr.1 hTl hTh hTn holl
                go_wp2_with fail
                refine hmore.mono ?_
                rintro _ w7 ⟨rfl, vl', ho, hW, c7⟩
                clear hmore
                have cw6 : Chg (fun _ => False) w w6 := hc.step c6 hFw
                have hH7 := hH6.more H ho hW c7
                obtain ⟨_, _, hva, _, _, hcell7⟩ := row_pos hH7.row (by omega)
                simp only [Value.slice.injEq, Option.some.injEq, Addr.mk.injEq] at hva
                obtain ⟨⟨rfl, _, _⟩, _, rfl⟩ := hva
                have q2 := hcell7 _ _ cx2
                clear hcell6 hcell7 hcell
                go_wp2_with fail
                exact ⟨⟨p + 1, _, s', F6, vl', _, by go_num, by omega, hH7, hTi, hTb, HD.out, hc.young hFw hF6, young_more cw6 hH6.ord hob c7⟩, by simp [intOf]; omega⟩
          · have hpl' : ¬ (p : Int) < (all.length : Int) := by omega
            obtain ⟨pl, cl, rfl⟩ := row_any hH1.ord.row
            have hlc := hH1.ord.list
            have hsum := sums_any H hH1.rel hH1.ord.row hH1.fl hI hN
            have hall : ol.length = all.length := hI.all hN (fun j l hl => by
              have hj : j < 4 := by
                have := (List.getElem?_eq_some_iff.1 hl).1
                rw [hI.four] at this
                exact this
              have h1 := hD j hj
              rw [List.take_of_length_le (by omega)] at h1
              rw [hB j l hl]
              exact h1)
            rw [hall] at hlc hsum
            go_wp2_with fail
            refine hsum.mono ?_
            rintro _ w8 ⟨rfl, hR8, c8⟩
            have q0 := c8.cellAt hlc hH1.fo
            clear hsum
            go_wp2_with fail
            go_ret
            exact ⟨by simp, hc.step c8 hFw⟩

end Go.Proofs.YtdoedjmdcmgddaaGreat
