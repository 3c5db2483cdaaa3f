import Derived.Deep.CutRange
import Derived.Test.YthedkdbgfdjlkaaGreatPack1
import Derived.Test.YthedkdbgfdjlkaaGreatPack2
import Derived.Test.YthedkdbgfdjlkaaGreatPack3
import Derived.Test.YthedkdbgfdjlkaaGreatPack4
import Derived.Test.YthedkdbgfdjlkaaGreatPack5
import Derived.Test.YthedkdbgfdjlkaaGreatPack6
import Derived.Test.YthedkdbgfdjlkaaGreatPack7
import Derived.Test.YthedkdbgfdjlkaaGreatPack8
/- Passed, WALKED. -/
namespace Go.Proofs.YthedkdbgfdjlkaaGreat
set_option linter.unusedVariables false
set_option linter.unusedSimpArgs false
open Go.RowKit Go.Lib

variable {R : World → Addr → Option St → (Nat → Prop) → Prop}

theorem SInv.tok {all : List Rec} {i : Nat} {ks : List Ky} {L : List Pt} {p q : Pt} (h : SInv all i ks (sinkPut p L)) (h2 : (p.token, p.value) = tally p.key (all.take i)) (hq : q ∈ sinkPut p L) (hk : q.key = p.key) : q.token = p.token := by
  have h1 := h.token hq
  rw [hk, ← h2] at h1
  obtain ⟨q', g1, g2, g3⟩ := (sinkPut_up p L).2
  have : q' = q := nodup_key h.apart q' g1 q hq (g2.trans hk.symm)
  subst this
  simp only at h1
  omega

theorem names4_size {k : ByteArray} (h : k ∈ names4) : k.size ≤ maxLen := by
  simp only [names4, List.mem_cons, List.not_mem_nil, or_false] at h
  rcases h with e | e | e | e <;> rw [e] <;> decide

theorem Numbered.fit {all : List Rec} (hN : Numbered all) {x : Rec} (hx : x ∈ all) : x.fits ∧ 0 ≤ x.number ∧ x.number ≤ 900 := by
  have hxe := hN.each x hx
  obtain ⟨sn, hsn⟩ : ∃ sn : Nat, x.session = sn := ⟨x.session.toNat, by omega⟩
  obtain ⟨hnn, hno⟩ := ofS_number hN hx (i := sn) hsn
  have hnl := (List.getElem?_eq_some_iff.1 hno).1
  have hol : (ofS all sn).length ≤ all.length := List.length_filter_le _ _
  have hfew := hN.few
  obtain ⟨h1, h2, h3, h4, h5, h6⟩ := hxe
  refine ⟨⟨?_, ?_, ?_, ?_, ?_⟩, hnn, by omega⟩
  · unfold inInt; omega
  · unfold inInt; omega
  · unfold inInt; omega
  · unfold inInt; omega
  · simp only [names4, List.mem_cons, List.not_mem_nil, or_false] at h4
    rcases h4 with e | e | e | e <;> rw [e] <;> decide

set_option maxRecDepth 100000 in
set_option maxHeartbeats 8000000 in
theorem passed_walk (H : Api R) (HS : ApiS R) (w : World) (v u : Value) (L0 : List Snt) (P0 : List Int) (hS : SentAt w v L0) (hP : IntsAt w u P0) :
    Calls Tryz.prog 6 #[v, u] w fun e w' => e = .returned (.bool true) ∧ Chg (fun _ => False) w w' := by
  obtain ⟨pv, cv, rfl⟩ := hS.val
  obtain ⟨pu, cu, rfl⟩ := hP.val
  have hlen := hP.len
  go_enter Tryz.func6, Tryz.ntmps6
  go_wp2_with fail
  refine (passing_any H HS w).mono ?_
  rintro _ w1 ⟨rfl, c1⟩
  go_wp2_with fail
  refine (H.new w1).mono ?_
  rintro _ w2 ⟨a, F2, rfl, hR2, hF2, c2⟩
  have c02 : Chg (fun _ => False) w w2 := c1.trans c2 (fun _ _ h => h)
  have hF02 : ∀ k, F2 k → w.heap.size ≤ k := fun k hk => Nat.le_trans c1.size (hF2 k hk)
  have hlt2 : ∀ k, F2 k → k < w2.heap.size := fun k hk => H.lt hR2 hk
  have hS2 : SentAt w2 (.slice pv L0.length cv) L0 := ⟨hS.val, hS.len, fun i x hx => by
    obtain ⟨sb, so, cap, e, y0, y1, y2⟩ := hS.cells i x hx
    exact ⟨sb, so, cap, e, c02.cellAt y0 id, c02.cellAt y1 id, c02.cellAt y2 id⟩, hS.fits⟩
  clear c1 c2 hF2
  go_wp2_with fail
  refine (numbered_any hS2).mono ?_
  rintro _ w3 ⟨va, all, rfl, ra, hN, c3⟩
  have hfew := hN.few
  obtain ⟨pa, ca, rfl⟩ := row_any ra
  obtain ⟨W4, hW4⟩ : ∃ W4, W4 = w3.alloc (Obj.cells #[.slice none 0 0] 63) := ⟨_, rfl⟩
  have c34 : Chg (fun _ => False) w3 W4 := by rw [hW4]; exact (Chg.refl _ w3).alloc _
  have hz23 := c3.size
  have hz02 := c02.size
  have hH : PHalf R W4 a w3.heap.size w.heap.size (.slice pa all.length ca) (.slice none 0 0) all [] St.init F2 := by
    refine ⟨H.keep (H.keep hR2 c3) c34, ⟨?_, fun j => ?_, World.ownsRow_nil _ _ _ _, by simp [Value.ownBlock]⟩, row_lower (c34.row' ra (fun _ _ h => h)) hz02, fun h => ?_, fun k hk => by simp [Value.ownBlock] at hk, fun k hk hf => ?_, fun h => ?_, fun g _ hv => by simp [Value.ownBlock] at hv, ?_⟩
    · rw [hW4]; exact World.cell?_alloc_at _ _ _ _ rfl
    · rw [hW4]; exact World.frozen?_alloc_at _ _ _ _ rfl
    · have := hlt2 _ h; omega
    · have := hlt2 _ hf
      have := (ra.lt k hk).1
      omega
    · have := (ra.lt _ h).2; omega
    · have := c34.size; omega
  have c04 : Chg (fun _ => False) w W4 := (c02.trans c3 (fun _ _ h => h)).trans c34 (fun _ _ h => h)
  have hob : w.heap.size ≤ w3.heap.size := by omega
  clear c02 hR2 hS2 hlt2 c3 ra c34 hz23 hz02
  go_wp2_with fail
  rw [← hW4]
  clear hW4
  obtain ⟨sb, hsb⟩ : ∃ sb, sb = w3.heap.size := ⟨_, rfl⟩
  rw [← hsb] at hH hob ⊢
  clear hsb
  go_loopw [9, 10, 11, 12, 13, 14, 15, 16, 17, 18, 19, 20] (fun sat si _ _ _ _ _ _ _ _ _ _ wr => ∃ (i t m : Nat) (s : St) (F : Nat → Prop) (vl : Value) (L : List Pt), si = .int .i64 i ∧ i ≤ all.length + 1 ∧ sat = .int .i64 t ∧ t ≤ P0.length ∧ PHalf R wr a sb w.heap.size (.slice pa all.length ca) vl all L s F ∧ m ≤ i ∧ m ≤ all.length ∧ i ≤ m + 1 ∧ (i = all.length + 1 ∨ i = m) ∧ PInv all m s ∧ SInv all m s.keys L ∧ Hid (i = all.length + 1 → ∀ k ∈ s.keys, k.held = k.count) ∧ (∀ k, F k → w.heap.size ≤ k) ∧ Chg (fun _ => False) w wr) (fun _ si _ _ _ _ _ _ _ _ _ _ _ => all.length + 1 - (intOf si).toNat)
  case atStart => exact ⟨0, 0, 0, _, F2, _, [], rfl, by omega, rfl, by omega, hH, by omega, by omega, by omega, .inr rfl, PInv.init all, SInv.nil all, (fun h => by omega), hF02, c04⟩
  case round =>
    obtain ⟨i, t, m, s, F, vl, L, rfl, hi, rfl, ht, hH1, hm1, hm2, hm3, hm4, hI, hQ, HD, hFw, hc⟩ := hrel
    clear hH c04 hF02
    by_cases hil : i ≤ all.length
    · have him : i = m := by omega
      subst him
      have hil' : (i : Int) ≤ (all.length : Int) := by omega
      clear hm1 hm3 hm4 HD
      go_upto_if 46 with fail
      obtain ⟨m', hm'⟩ : ∃ m', m' = min (i + 1) all.length := ⟨_, rfl⟩
      go_cut [11, 12] from 46 to 67 (fun _ _ wc => ∃ (s' : St) (F' : Nat → Prop), PHalf R wc a sb w.heap.size (.slice pa all.length ca) vl all L s' F' ∧ PInv all m' s' ∧ SInv all m' s'.keys L ∧ (∀ k, F' k → w.heap.size ≤ k) ∧ Chg (fun _ => False) w wc)
      case first =>
        by_cases hlt : i < all.length
        · have hlt' : (i : Int) < (all.length : Int) := by omega
          have e' : m' = i + 1 := by omega
          have HE : Hid (m' = i + 1) := e'
          obtain ⟨x, hx⟩ : ∃ x, all[i]? = some x := ⟨_, List.getElem?_eq_getElem hlt⟩
          have hxm := List.mem_of_getElem? hx
          obtain ⟨hfit, hn0, hn9⟩ := hN.fit hxm
          obtain ⟨ga, ca', hva, _, _, hcell⟩ := row_pos hH1.row (by omega)
          simp only [Value.slice.injEq] at hva
          obtain ⟨rfl, _, rfl⟩ := hva
          have cx := recCells_at all i x hx
          have m0 := hcell _ _ cx.1
          have m1 := hcell _ _ cx.2.1
          have m2 := hcell _ _ cx.2.2.1
          have m3 := hcell _ _ cx.2.2.2.1
          have m4 := hcell _ _ cx.2.2.2.2
          have cx2 := cx.2.2.1
          obtain ⟨g1, g2, g3⟩ := hI.accept hN hx
          have hacc := H.accept x hH1.rel (hN.each x hxm).2.2.1 hfit
          simp only [accept?, g1] at hacc
          have hQ' : SInv all (i + 1) (accept s x).2.keys L := by rw [g2]; exact hQ.accept hI.sorted _ _
          obtain ⟨s', hs'⟩ : ∃ s', s' = (accept s x).2 := ⟨_, rfl⟩
          rw [← hs'] at hacc g3 hQ'
          unfold Rec.value' at hacc
          clear g1 g2 hs' hcell cx hm' e' hfit hx
          go_wp2_with fail
          refine hacc.mono ?_
          rintro _ w6 ⟨F6, rfl, hR6, hF6, c6⟩
          clear hacc
          have hH6 := hH1.call c6 hF6 hR6
          obtain ⟨_, _, hva, _, _, hcell6⟩ := row_pos hH6.row (by omega)
          simp only [Value.slice.injEq, Option.some.injEq, Addr.mk.injEq] at hva
          obtain ⟨⟨rfl, _, _⟩, _, rfl⟩ := hva
          have q2 := hcell6 _ _ cx2
          clear hcell6
          go_wp2_with fail
          go_meet
          case rel => exact ⟨s', F6, hH6, by rw [HE.out]; exact g3, by rw [HE.out]; exact hQ', hc.young hFw hF6, hc.step c6 hFw⟩
        · have hlt' : ¬ (i : Int) < (all.length : Int) := by omega
          have e' : m' = i := by omega
          have HE : Hid (m' = i) := e'
          clear hm' e'
          go_wp2_with fail
          go_meet
          case rel => exact ⟨s, F, hH1, by rw [HE.out]; exact hI, by rw [HE.out]; exact hQ, hFw, hc⟩
      case rest =>
        clear hFw hc hH1 hI hQ
        obtain ⟨s1, F1, hH1, hI, hQ, hFw, hc⟩ := hcut
        have hm'l : m' ≤ all.length := by omega
        have HM' : Hid (m' = min (i + 1) all.length) := hm'
        clear hm'
        have hput := HS.puts hH1.rel
        simp only [puts?, errno?] at hput
        go_wp2_with fail
        refine hput.mono ?_
        rintro _ w5 ⟨vp, rfl, hp5, hR5, c5⟩
        clear hput
        have hpa := PutsAt.first H hH1 hp5
        have hH5 := hH1.call c5 (fun k hk => .inl hk) hR5
        have hpn := hI.putn
        have hpl : (putsOf s1.keys).length ≤ 1000 := by
          have h1 := putsOf_len s1.keys
          have h2 : s1.keys.length ≤ 1000 := by
            have h3 := hI.apart.length_le_of_subset (l₂ := names4) (fun x hx => by
              obtain ⟨k, hk, rfl⟩ := List.mem_map.1 hx
              exact (hI.key hN hk).1)
            rw [List.length_map] at h3
            have : names4.length = 4 := rfl
            omega
          omega
        have hdn : Done (putsOf s1.keys) s1.keys := Done.first (fun k hk => ((H.fine hR5).key k hk).2.2)
        obtain ⟨P, hPe⟩ : ∃ P, P = putsOf s1.keys := ⟨_, rfl⟩
        rw [← hPe] at hpa hpn hpl hdn hp5
        have hc5 : Chg (fun _ => False) w w5 := hc.step c5 hFw
        obtain ⟨pp, cp, rfl⟩ := row_any hp5
        clear hp5 hPe hR5 hH1 hc c5
        go_wp2_with fail
        go_loopw [9, 15, 16, 17, 18] (fun sat sk _ _ _ wq => ∃ (j t : Nat) (s : St) (F : Nat → Prop) (vl : Value) (L : List Pt), sk = .int .i64 j ∧ j ≤ P.length ∧ sat = .int .i64 t ∧ t ≤ P0.length ∧ PHalf R wq a sb w.heap.size (.slice pa all.length ca) vl all L s F ∧ PutsAt wq sb w.heap.size vl (.slice pp P.length cp) F P ∧ PInv all m' s ∧ SInv all m' s.keys L ∧ Hid (i = all.length → Done (P.drop j) s.keys) ∧ (∀ k, F k → w.heap.size ≤ k) ∧ Chg (fun _ => False) w wq) (fun _ sk _ _ _ _ => P.length - (intOf sk).toNat)
        case atStart => exact ⟨0, t, s1, F1, vl, L, rfl, by omega, rfl, ht, hH5, hpa, hI, hQ, (fun _ => by simpa using hdn), hFw, hc5⟩
        case round =>
          clear hH5 hpa hI hQ hdn hFw hc5 ht
          obtain ⟨j, t, s, F, vl, L, rfl, hj, rfl, ht, hH5, hpa, hI, hQ, HDn, hFw, hc⟩ := hrel
          by_cases hjl : j < P.length
          · have hjl' : (j : Int) < (P.length : Int) := by omega
            obtain ⟨p, hp⟩ : ∃ p, P[j]? = some p := ⟨_, List.getElem?_eq_getElem hjl⟩
            have hpm := List.mem_of_getElem? hp
            obtain ⟨kk, hkk, ek1, ek2, ek3, ek4⟩ := hI.ofPut (H.fine hH5.rel) hpn hpm
            have hkn := (hI.key hN hkk).1
            rw [ek1] at hkn
            have htk : p.token ≤ 900 := by
              have h1 := tally_take_le p.key all m'
              rw [← ek4] at h1
              simp only at h1
              omega
            obtain ⟨gp, cp', hvp, _, _, hcp⟩ := row_pos hpa.row (by omega)
            simp only [Value.slice.injEq] at hvp
            obtain ⟨rfl, _, rfl⟩ := hvp
            have cx := putCells_at P j p hp
            have y0 := hcp _ _ cx.1
            have y1 := hcp _ _ cx.2.1
            have y2 := hcp _ _ cx.2.2
            have cx0 := cx.1
            have hLf := hQ.few hI hN
            have hda := (hI.answer hN (H.fine hH5.rel) hkk)
            rw [ek1, ek2] at hda
            have HEK : Hid (kk.name = p.key ∧ kk.count = p.token) := ⟨ek1, ek2⟩
            have HEK4 : Hid ((p.token, p.value) = tally p.key (all.take m')) := ek4
            have HHP : Hid (P[j]? = some p) := hp
            have HDA : Hid (answer s p.key p.token = (0, ⟨s.lanes, holdKy p.key p.token s.keys⟩)) := hda.1
            have hI' := hda.2
            clear hcp cx ek1 ek2 ek4 hp hda
            go_upto_region 22 with fail
            obtain ⟨B0, hB0⟩ : ∃ B0, B0 = (decide (i < all.length) && decide (t < P0.length)) := ⟨_, rfl⟩
            have HB0 : Hid (B0 = (decide (i < all.length) && decide (t < P0.length))) := hB0
            clear hB0
            go_cut [90] from 81 to 90 (fun s90 wc => s90 = .bool B0 ∧ wc = wr)
            case first =>
              by_cases hlt : i < all.length
              · have hlt' : (i : Int) < (all.length : Int) := by omega
                by_cases htl : t < P0.length
                · have htl' : (t : Int) < (P0.length : Int) := by omega
                  go_wp2_with fail
                  go_meet
                  case rel => exact ⟨by rw [HB0.out]; simp [hlt, htl], rfl⟩
                · have htl' : ¬ (t : Int) < (P0.length : Int) := by omega
                  go_wp2_with fail
                  go_meet
                  case rel => exact ⟨by rw [HB0.out]; simp [htl]; try omega, rfl⟩
              · have hlt' : ¬ (i : Int) < (all.length : Int) := by omega
                go_wp2_with fail
                go_meet
                case rel => exact ⟨by rw [HB0.out]; simp [hlt]; try omega, rfl⟩
            case rest =>
              obtain ⟨rfl, hwc⟩ := hcut
              rw [hwc]
              clear hwc
              go_upto_if 90 with fail
              go_cut [9, 16] from 90 to 97 (fun s9 s16 wc => ∃ (t' : Nat) (h : Int), s9 = .int .i64 t' ∧ t' ≤ P0.length ∧ s16 = .int .i64 h ∧ 0 ≤ h ∧ h ≤ 3 ∧ Hid (i = all.length → h = 3) ∧ wc = wr)
              case first =>
                cases B0 with
                | false =>
                  go_wp2_with fail
                  go_meet
                  case rel => exact ⟨t, 3, rfl, ht, rfl, by omega, by omega, (fun _ => rfl), rfl⟩
                | true =>
                  have hb := HB0.out
                  simp at hb
                  obtain ⟨hlt, htl⟩ := hb
                  obtain ⟨c, hcx⟩ : ∃ c, P0[t]? = some c := ⟨_, List.getElem?_eq_getElem htl⟩
                  obtain ⟨lb, lo', cap, hvv, z0⟩ := hP.cells t c hcx
                  simp only [Value.slice.injEq] at hvv
                  obtain ⟨rfl, _, rfl⟩ := hvv
                  have hpk := fun w => pick_any c 4 w (hP.fits c (List.mem_of_getElem? hcx)) (by omega) (by omega)
                  have hpr := pickI_range (c := c) (n := 4) (by omega)
                  obtain ⟨kn, hkn'⟩ : ∃ kn : Int, pickI c 4 = kn := ⟨_, rfl⟩
                  rw [hkn'] at hpk hpr
                  have zr := hc.cellAt z0 id
                  have htl' : (t : Int) < (P0.length : Int) := by omega
                  clear hkn' hcx
                  go_wp2_with fail
                  refine (hpk _).mono ?_
                  rintro _ wp ⟨rfl, ewp⟩
                  rw [ewp]
                  clear ewp wp
                  go_wp2_with fail
                  go_meet
                  case rel => exact ⟨t + 1, kn, by go_num, by omega, rfl, by omega, by omega, (fun e => by omega), rfl⟩
              case rest =>
                clear ht
                obtain ⟨t', h, rfl, ht, rfl, hh0, hh3, HH3, hwc⟩ := hcut
                rw [hwc]
                clear hwc
                by_cases hz : h = 0
                · have HZ : Hid (h = 0) := hz
                  rw [hz] at ⊢
                  clear hz
                  go_wp2_with fail
                  go_roundw
                  case rel => exact ⟨j + 1, t', s, F, vl, L, by go_num, by omega, rfl, ht, hH5, hpa, hI, hQ, (fun e => by have := HH3.out e; have := HZ.out; omega), hFw, hc⟩
                  case measure => simp [intOf]; omega
                · have hz' : (h == 0) = false := by simpa using hz
                  have hsp := sinkput_any p hH5.snk hH5.lo (by omega)
                  go_wp2_with fail
                  refine hsp.mono ?_
                  rintro _ w6 ⟨vl6, tk, rfl, hS6, ⟨q, hq1, hq2, hq3⟩, hW6, c6⟩
                  clear hsp
                  have hH6 := hH5.put H hS6 hW6 c6
                  have hpa6 := hpa.put hW6 c6
                  have hQ6 := hQ.put ek3 HEK4.out
                  have htok : tk = p.token := by rw [← hq3]; exact hQ6.tok HEK4.out hq1 hq2
                  rw [htok]
                  have hcw6 := young_put hc hH5.snk hob c6
                  clear y0 y1 y2
                  have HQQ : Hid (∃ q ∈ sinkPut p L, q.key = p.key ∧ p.token ≤ q.token) := ⟨q, hq1, hq2, by omega⟩
                  clear hq1 hq2 hq3 htok
                  by_cases h1 : 1 < h
                  · have hans := HS.answer p.key p.token hH6.rel (names4_size hkn) (by unfold inInt; omega)
                    simp only [answer?] at hans
                    rw [HDA.out] at hans
                    simp only at hans
                    obtain ⟨_, _, hvp, _, _, hcp⟩ := row_pos hpa6.row (by omega)
                    simp only [Value.slice.injEq, Option.some.injEq, Addr.mk.injEq] at hvp
                    obtain ⟨⟨rfl, _, _⟩, _, rfl⟩ := hvp
                    have y0 := hcp _ _ cx0
                    clear hcp
                    go_wp2_with fail
                    refine hans.mono ?_
                    rintro _ w7 ⟨F7, rfl, hR7, hF7, c7⟩
                    clear hans
                    have HDn' : Hid (i = all.length → Done (P.drop (j + 1)) (holdKy p.key p.token s.keys)) := fun e => by
                      have hd := HDn.out e
                      have hpe := (List.getElem?_eq_some_iff.1 HHP.out).2
                      rw [List.drop_eq_getElem_cons hjl, hpe] at hd
                      refine hd.next hI.apart (fun k hk ek => ?_)
                      have : k = kk := nodup_key hI.apart k hk kk hkk (ek.trans HEK.out.1.symm)
                      subst this
                      exact ⟨HEK.out.2, ((H.fine hH5.rel).key k hk).2.2⟩
                    go_wp2_with fail
                    go_roundw
                    case rel => exact ⟨j + 1, t', ⟨s.lanes, holdKy p.key p.token s.keys⟩, F7, vl6, sinkPut p L, by go_num, by omega, rfl, ht, hH6.call c7 hF7 hR7, hpa6.call c7 hF7, hI', hQ6.answer hI.apart _ _ HQQ.out, HDn', hcw6.young hFw hF7, hcw6.step c7 hFw⟩
                    case measure => simp [intOf]; omega
                  · have h1' : ¬ 1 < h := h1
                    have HH1 : Hid (¬ 1 < h) := h1
                    go_wp2_with fail
                    go_roundw
                    case rel => exact ⟨j + 1, t', s, F, vl6, sinkPut p L, by go_num, by omega, rfl, ht, hH6, hpa6, hI, hQ6, (fun e => by have := HH3.out e; have := HH1.out; omega), hFw, hcw6⟩
                    case measure => simp [intOf]; omega
          · have hjl' : ¬ (j : Int) < (P.length : Int) := by omega
            have HDe : Hid (i = all.length → ∀ k ∈ s.keys, k.held = k.count) := fun e => by
              have hd := HDn.out e
              rw [List.drop_of_length_le (by omega)] at hd
              intro k hk
              rcases hd k hk with h | ⟨q, hq, _⟩
              · exact h
              · simp at hq
            have hLf := hQ.few hI hN
            obtain ⟨pl, cl, rfl⟩ := row_any hH5.snk.row
            clear HDn hpa hpn
            go_wp2_with fail
            go_loopw [19, 20] (fun sk _ wz => ∃ (q : Nat), sk = .int .i64 q ∧ q ≤ L.length ∧ PHalf R wz a sb w.heap.size (.slice pa all.length ca) (.slice pl L.length cl) all L s F ∧ Chg (fun _ => False) w wz) (fun sk _ _ => L.length - (intOf sk).toNat)
            case atStart => exact ⟨0, rfl, by omega, hH5, hc⟩
            case round =>
              clear hH5 hc
              obtain ⟨q, rfl, hq, hH5, hc⟩ := hrel
              have l0 := hH5.snk.list
              by_cases hql : q < L.length
              · have hql' : (q : Int) < (L.length : Int) := by omega
                obtain ⟨x, hx⟩ : ∃ x, L[q]? = some x := ⟨_, List.getElem?_eq_getElem hql⟩
                have hxm := List.mem_of_getElem? hx
                obtain ⟨hx1, jx, hjx, hxt⟩ := hQ.each x hxm
                have hxk := hQ.key hI hN hxm
                obtain ⟨gl, cl', hvl, _, _, hcl⟩ := row_pos hH5.snk.row (by omega)
                simp only [Value.slice.injEq] at hvl
                obtain ⟨rfl, _, rfl⟩ := hvl
                have cx := putCells_at L q x hx
                have y0 := hcl _ _ cx.1
                have y1 := hcl _ _ cx.2.1
                have y2 := hcl _ _ cx.2.2
                have hmp : 0 < m' := by
                  rcases Nat.eq_zero_or_pos m' with h | h
                  · exfalso
                    have h0 : jx = 0 := by omega
                    subst h0
                    simp [tally] at hxt
                    omega
                  · exact h
                obtain ⟨ga, ca', hva, _, hcap, _⟩ := row_pos hH5.row (by omega)
                simp only [Value.slice.injEq] at hva
                obtain ⟨rfl, _, rfl⟩ := hva
                obtain ⟨W5, hW5⟩ : ∃ W5, W5 = wr.alloc (Obj.cells #[.string x.key, .int .i64 x.token, .int .i64 x.value] 68) := ⟨_, rfl⟩
                have c5 : Chg (fun _ => False) wr W5 := by rw [hW5]; exact (Chg.refl _ wr).alloc _
                have z0 : W5.cell? ⟨wr.heap.size, 0, none⟩ = some (.string x.key) := by rw [hW5]; exact World.cell?_alloc_at _ _ _ _ rfl
                have z1 : W5.cell? ⟨wr.heap.size, 1, none⟩ = some (.int .i64 x.token) := by rw [hW5]; exact World.cell?_alloc_at _ _ _ _ rfl
                have z2 : W5.cell? ⟨wr.heap.size, 2, none⟩ = some (.int .i64 x.value) := by rw [hW5]; exact World.cell?_alloc_at _ _ _ _ rfl
                have hkf : ∀ k, Calls Tryz.prog 22 #[.slice (some ⟨ga, 0, none⟩) m' ca, .string x.key, .int .i64 x.token] (W5.drewN k) fun e w' => e = .returned (.int .i64 x.value) ∧ w' = W5.drewN k := fun k => by
                  have hr5 := (c5.trans (((Quiet.refl W5).drewN k).chg _) (fun _ _ h => h)).row' hH5.row (fun _ _ h => h)
                  have hr6 := row_cut hr5 hm'l
                  rw [recCells_take] at hr6
                  have hlt : (all.take m').length = m' := by simp; omega
                  have hr7 : (W5.drewN k).ownsRow w.heap.size 34 5 (.slice (some ⟨ga, 0, none⟩) m' ca) (all.take m').length (recCells (all.take m')) := by rw [hlt]; exact hr6
                  have := kfold_n (l := all.take m') (key := x.key) jx hr7 hxk (by omega) (fun y hy => (hN.each y (List.mem_of_mem_take hy)).2.2.2.2)
                  rw [List.take_take, Nat.min_eq_left hjx, ← hxt] at this
                  exact this
                have hmin : min ((i : Int) + 1) (all.length : Int) = (m' : Int) := by have := HM'.out; omega
                have hd1 : decide (x.token < 1) = false := by simp; omega
                have hmc : (m' : Int) ≤ (ca : Int) := by omega
                clear hcl cx hxt hjx
                go_wp2_with fail
                rw [← hW5]
                clear hW5
                go_quiet (first | (go_at_call 22; refine Calls.quiet_of_same (hkf _)))
                go_wp2_with fail
                exact ⟨⟨q + 1, by go_num, by omega, hH5.keep H (c5.trans (((Quiet.refl _).drewN _).chg _) (fun _ _ h => h)), hc.trans (c5.trans (((Quiet.refl _).drewN _).chg _) (fun _ _ h => h)) (fun _ _ h => h)⟩, by simp [intOf]; omega⟩
              · have hql' : ¬ (q : Int) < (L.length : Int) := by omega
                go_wp2_with fail
                have hmm := HM'.out
                exact ⟨⟨i + 1, t, m', s, F, _, L, by go_num, by omega, rfl, ht, hH5, by omega, hm'l, by omega, by omega, hI, hQ, (fun e => HDe.out (by omega)), hFw, hc⟩, by simp [intOf]; omega⟩
    · have hil' : ¬ (i : Int) ≤ (all.length : Int) := by omega
      have hie : i = all.length + 1 := by omega
      have him : m = all.length := by omega
      subst him
      have hd := HD.out hie
      have hput := HS.puts hH1.rel
      simp only [puts?, errno?] at hput
      rw [putsOf_none s.keys hd] at hput
      have hend := hQ.end hI hN (H.fine hH1.rel) rfl hd
      have hLf := hQ.few hI hN
      have htb : ∀ p ∈ L, 1 ≤ p.token ∧ p.token ≤ 1000 := fun p hp => by
        have h1 := (hQ.each p hp).1
        have h2 := hQ.token hp
        have h3 := tally_take_le p.key all all.length
        omega
      obtain ⟨pl, cl, rfl⟩ := row_any hH1.snk.row
      go_wp2_with fail
      refine hput.mono ?_
      rintro _ w5 ⟨vp, rfl, hp5, hR5, c5⟩
      clear hput
      obtain ⟨pp, cp, rfl⟩ := row_any hp5
      have hH5 := hH1.call c5 (fun k hk => .inl hk) hR5
      have hc5 : Chg (fun _ => False) w w5 := hc.step c5 hFw
      clear hH1 hc c5 hp5 hR5
      go_wp2_with fail
      go_loopw [23, 24] (fun sn sk wz => ∃ (q : Nat) (n : Int), sk = .int .i64 q ∧ q ≤ L.length ∧ sn = .int .i64 n ∧ Hid (n = tokens (L.take q)) ∧ SinkAt wz sb w.heap.size (.slice pl L.length cl) L ∧ Chg (fun _ => False) w wz) (fun _ sk _ => L.length - (intOf sk).toNat)
      case atStart => exact ⟨0, 0, rfl, by omega, rfl, (show _ = _ from rfl), hH5.snk, hc5⟩
      case round =>
        obtain ⟨q, n, rfl, hq, rfl, HN, hS5, hc⟩ := hrel
        clear hH5 hc5
        have l0 := hS5.list
        by_cases hql : q < L.length
        · have hql' : (q : Int) < (L.length : Int) := by omega
          obtain ⟨x, hx⟩ : ∃ x, L[q]? = some x := ⟨_, List.getElem?_eq_getElem hql⟩
          obtain ⟨gl, cl', hvl, _, _, hcl⟩ := row_pos hS5.row (by omega)
          simp only [Value.slice.injEq] at hvl
          obtain ⟨rfl, _, rfl⟩ := hvl
          have y1 := hcl _ _ (putCells_at L q x hx).2.1
          have hnx := tokens_take_next hx
          have hxb := htb x (List.mem_of_getElem? hx)
          have hnb := tokens_bound (L := L.take q) (fun p hp => htb p (List.mem_of_mem_take hp))
          rw [← HN.out] at hnb
          have hlt : (L.take q).length ≤ 4 := by simp only [List.length_take]; omega
          have HN' : Hid (n + x.token = tokens (L.take (q + 1))) := by show _ = _; rw [hnx, HN.out]
          clear hcl hnx HN
          go_wp2_with fail
          exact ⟨⟨q + 1, n + x.token, by go_num, by omega, rfl, HN', hS5, hc⟩, by simp [intOf]; omega⟩
        · have hql' : ¬ (q : Int) < (L.length : Int) := by omega
          have hn : n = (all.length : Int) := by
            have := HN.out
            rw [List.take_of_length_le (by omega)] at this
            rw [this]; exact hend
          rw [hn]
          clear HN hn hend
          go_wp2_with fail
          go_ret
          exact ⟨by simp, hc⟩

end Go.Proofs.YthedkdbgfdjlkaaGreat
