import Derived.BigQuiet
import Derived.Test.YthedkdbgfdjlkaaGreatDoorPack1
import Derived.Test.YthedkdbgfdjlkaaGreatDoorPack2
import Derived.Test.YthedkdbgfdjlkaaGreatDoorPack3
import Derived.Test.YthedkdbgfdjlkaaGreatDoorPack4
import Derived.Test.YthedkdbgfdjlkaaGreatDoorPack5
import Derived.Test.YthedkdbgfdjlkaaGreatDoorPack6
import Derived.Test.YthedkdbgfdjlkaaGreatDoorPack7
import Derived.Test.YthedkdbgfdjlkaaGreatDoorPack8
import Derived.Test.YthedkdbgfdjlkaaGreatDoorPack9
import Derived.Test.YthedkdbgfdjlkaaGreatDoorPack10
/- follow, last, WALKED. -/
namespace Go.Proofs.YthedkdbgfdjlkaaGreatDoor
set_option linter.unusedVariables false
set_option linter.unusedSimpArgs false
open Go.RowKit Go.Lib

theorem last_any {w : World} {tb : Nat} {G H : Nat → Prop} {L : List Ent} (h : TrailAt w tb G H L) (hpos : 0 < L.length) (hlen : L.length ≤ 1759218604500) : Calls Tryz.prog 15 #[.pointer (some ⟨tb, 0, none⟩)] w fun e w' => e = .returned (.int .i64 ((L.length - 1 : Nat) : Int)) ∧ w' = w := by
  obtain ⟨vb, vs, vn, U, hV⟩ := h
  have d0 := hV.c0
  obtain ⟨bp, bc, hvb⟩ := row_any hV.bytes
  subst hvb
  have hwm : IntKind.i64.wrap ((L.length : Int) - 1) = ((L.length - 1 : Nat) : Int) := by rw [show ((L.length : Int) - 1) = ((L.length - 1 : Nat) : Int) by omega]; exact w64_of _ (by omega)
  go_enter Tryz.func15, Tryz.ntmps15
  go_wp2_with fail
  go_ret
  exact ⟨rfl, rfl⟩

theorem stepT_grow {T T' : List UInt8} {s : St} {p : Stp} (h : stepT T s p T') (hk : ¬ p.kind = 2) : Grow T s T' (stepSt s p) := by
  unfold stepT at h
  rwa [if_neg hk] at h
theorem stepT_shrink {T T' : List UInt8} {s : St} {p : Stp} (h : stepT T s p T') (hk : p.kind = 2) : T' = encHead s ∧ stepSt s p = s := by
  unfold stepT at h
  rw [if_pos hk] at h
  refine ⟨h, ?_⟩
  unfold stepSt
  rw [if_neg (by omega), if_neg (by omega)]

theorem runSt_nil (s : St) {S : List Stp} {i : Nat} : runSt s ((S.take i).drop i) = s := by
  rw [List.drop_eq_nil_of_le (by rw [List.length_take]; omega)]; rfl

/-- What follow leaves. -/
structure FollowRes (w w' : World) (a : Addr) (F : Nat → Prop) (S : List Stp) (s' : St) (N : Nat) (tb : Nat) (T' : List UInt8) (L : List Ent) (F' G H : Nat → Prop) : Prop where
  rel : RelT T' w' a (some s') F'
  trail : TrailAt w' tb G H L
  by' : TrailBy S S.length s' L
  apart : ∀ k, F' k → ¬ (G k ∨ H k)
  young : ∀ k, F' k → F k ∨ w.heap.size ≤ k
  fresh : ∀ k, G k ∨ H k → w.heap.size ≤ k
  len : L.length ≤ 1759218604400
  size : T'.length ≤ N + 512 + 32 * S.length
  last : ∀ z, L[L.length - 1]? = some z → z.T = T'
  chg : Chg F w w'

def Followed (w w' : World) (a : Addr) (F : Nat → Prop) (S : List Stp) (s' : St) (N : Nat) (tb : Nat) : Prop := ∃ T' L F' G H, FollowRes w w' a F S s' N tb T' L F' G H

set_option maxRecDepth 100000 in
set_option maxHeartbeats 4000000 in
theorem follow_any {W w : World} {a : Addr} {T : List UInt8} {s : St} {F : Nat → Prop} {v : Value} {S : List Stp} (hR : RelT T w a (some s) F) (hte : Tells T s) (hS : StepsAt W v S) (hW : Chg (fun _ => False) W w) (hFy : ∀ k, F k → W.heap.size ≤ k) (hSl : S.length ≤ 1759218604390) (f : Nat) (hf : f ≤ S.length) (hTl : T.length ≤ 70368744177664) :
    Calls Tryz.prog 12 #[.pointer (some a), v, .int .i64 f] w fun e w' => ∃ tb, e = .returned (.tuple #[.pointer (some ⟨tb, 0, none⟩), .bool true]) ∧ Followed w w' a F S (runSt s (S.drop f)) T.length tb := by
  obtain ⟨pS, cS, hvS⟩ := hS.val
  subst hvS
  obtain ⟨W0, hW0⟩ : ∃ W0, W0 = w.alloc (.cells #[.slice none 0 0, .slice none 0 0, .slice none 0 0] 38) := ⟨_, rfl⟩
  have c0 : Chg (fun _ => False) w W0 := by rw [hW0]; exact (Chg.refl _ w).alloc _
  have hs0 : W0.heap.size = w.heap.size + 1 := by rw [hW0]; simp
  have t0 : TrailAt W0 w.heap.size (fun _ => False) (fun k => k = w.heap.size) [] := by
    rw [hW0]
    exact ⟨.slice none 0 0, .slice none 0 0, .slice none 0 0, [], World.cell?_alloc_at _ _ _ _ rfl, World.cell?_alloc_at _ _ _ _ rfl, World.cell?_alloc_at _ _ _ _ rfl, fun j => World.frozen?_alloc_at _ _ _ _ rfl, World.ownsRow_nil _ _ _ _, World.ownsRow_nil _ _ _ _, World.ownsRow_nil _ _ _ _, rfl, fun i e u he => by simp at he, fun g hg => by simp [Value.ownBlock] at hg, fun g hg => by simp [Value.ownBlock] at hg, fun g hg => by simp [Value.ownBlock] at hg, rfl, fun _ h => h.elim, fun k hk => by rcases hk with h | h; exact h.elim; (rw [h]; simp)⟩
  have hR0 := relT_keep hR c0
  have hlt0 : ∀ k, F k → k < w.heap.size := fun k hk => relT_lt hR hk
  have hnt := note_any f false hR0 t0 (fun k hk h => by rcases h with h | h; exact h.elim; (have := hlt0 k hk; omega)) (by simp) (by omega) (by omega) (fun _ z hz => by simp at hz)
  go_enter Tryz.func12, Tryz.ntmps12
  go_wp2_with fail
  rw [← hW0]
  refine hnt.mono ?_
  rintro _ w1 ⟨G1, H1, rfl, hR1, hT1, hGH1, c1⟩
  clear hnt hR0
  have zW := hW.size
  have HFY : Hid (∀ k, F k → W.heap.size ≤ k) := hFy
  have HLT0 : Hid (∀ k, F k → k < w.heap.size) := hlt0
  have HGH1 : Hid (∀ k, G1 k ∨ H1 k → w.heap.size ≤ k) := fun k hk => by
    rcases hGH1 k hk with (h | h) | h
    · exact h.elim
    · omega
    · omega
  have HFG1 : Hid (∀ k, F k → ¬ (G1 k ∨ H1 k)) := fun k hk h => by have := hlt0 k hk; have := HGH1.out k h; omega
  have c01 : Chg F w w1 := (c0.mono (fun _ h => h.elim)).trans c1 (fun k hk h => h.elim id (fun h => by omega))
  have hT1' : TrailAt w1 w.heap.size G1 H1 [⟨T, s, f⟩] := hT1
  have HTW : Hid (TrailAt w1 w.heap.size G1 H1 [⟨T, s, f⟩]) := hT1'
  have HBY : Hid (TrailBy S f s [⟨T, s, f⟩]) := trailBy_one hte
  clear hFy hlt0 hGH1 hT1 hT1' c1 t0
  go_wp2_with fail
  go_loopw [9, 10] (fun s9 s10 wr => ∃ (i : Nat) (T' : List UInt8) (s' : St) (F' G H : Nat → Prop) (L : List Ent), s9 = .bool true ∧ s10 = .int .i64 i ∧ f ≤ i ∧ i ≤ S.length ∧ RelT T' wr a (some s') F' ∧ Hid (TrailAt wr w.heap.size G H L) ∧ Hid (TrailBy S i s' L) ∧ Hid (∀ z, L[L.length - 1]? = some z → z.T = T') ∧ Hid (s' = runSt s ((S.take i).drop f)) ∧ Hid (∀ k, F' k → ¬ (G k ∨ H k)) ∧ Hid (∀ k, F' k → F k ∨ w.heap.size ≤ k) ∧ Hid (∀ k, G k ∨ H k → w.heap.size ≤ k) ∧ L.length ≤ i + 1 ∧ T'.length ≤ T.length + 512 + 32 * i ∧ Chg F w wr) (fun _ s10 _ => S.length - (intOf s10).toNat)
  case atStart => exact ⟨f, T, s, F, G1, H1, _, rfl, rfl, Nat.le_refl _, hf, hR1, HTW, HBY, fun z hz => by simp at hz; subst hz; rfl, (runSt_nil s).symm, HFG1, fun k hk => .inl hk, HGH1, by simp, by omega, c01⟩
  case round =>
    obtain ⟨i, T', s', F', G, H, L, rfl, rfl, hfi, hiS, hRi, HT, HB, HZ, HS', HFG, HFy, HGHy, hLl, hTl', hc⟩ := hrel
    clear hR1 HTW HBY HFG1 HGH1 c01
    by_cases hlt : i < S.length
    · have hlt' : (i : Int) < (S.length : Int) := by omega
      obtain ⟨p, hp⟩ : ∃ p, S[i]? = some p := ⟨_, List.getElem?_eq_getElem hlt⟩
      obtain ⟨sb, so, sc, hv, g0, g1, g2, g3, g4, g5, g6, g7⟩ := hS.at_i i p hp
      simp only [Value.slice.injEq] at hv
      obtain ⟨rfl, _, rfl⟩ := hv
      have hsb : sb < W.heap.size := World.block_lt_of_cell? _ _ g0
      have hcW : Chg (fun _ => False) W wr := hW.step hc HFY.out
      have g0 := hcW.cellAt g0 id
      have g1 := hcW.cellAt g1 id
      have g2 := hcW.cellAt g2 id
      have g3 := hcW.cellAt g3 id
      have g4 := hcW.cellAt g4 id
      have g5 := hcW.cellAt g5 id
      have g6 := hcW.cellAt g6 id
      have g7 := hcW.cellAt g7 id
      obtain ⟨f1, f2, f3, f4⟩ := hS.fits p (List.mem_of_getElem? hp)
      have hds := does_rel p hRi (by omega) ⟨f1, f2, f3, f4⟩
      have htd := relT_tidy hRi
      unfold Stp.value' at hds
      have Hp : Hid (S[i]? = some p) := hp
      clear hp
      have n0 : ¬ F' sb := fun h => by
        rcases HFy.out sb h with h1 | h1
        · have := HFY.out sb h1; omega
        · omega
      go_upto_region 7 with (go_at_call 18; refine hds.mono ?_; rintro _ w3 ⟨F3, T3, d, rfl, hR3, hT3, hl3, hF3, c3⟩)
      have g0 := c3.cellAt g0 n0
      have z3 := c3.size
      have HF3 : Hid (∀ k, F3 k → F' k ∨ wr.heap.size ≤ k) := hF3
      have HC3 : Hid (Chg F' wr w3) := c3
      obtain ⟨vb, vs, vn, U, hV⟩ := HT.out
      have HLV : Hid (∀ k, G k ∨ H k → k < wr.heap.size) := hV.lt
      have hT3' : TrailAt w3 w.heap.size G H L := ⟨vb, vs, vn, U, hV.chg c3 (fun k hk h => HFG.out k h hk)⟩
      clear hF3 hV
      have HFG3 : Hid (∀ k, F3 k → ¬ (G k ∨ H k)) := fun k hk h => by
        rcases HF3.out k hk with h1 | h1
        · exact HFG.out k h1 h
        · have := HLV.out k h; omega
      have hpre : (p.kind == 2) = false → ∀ z, L[L.length - 1]? = some z → ∃ R, T3 = z.T ++ R := fun hk z hz => by
        rw [HZ.out z hz]
        exact (stepT_grow hT3 (by simpa using hk)).pre
      have hnt := note_any (i + 1) (p.kind == 2) hR3 hT3' HFG3.out (by omega) (by rcases hl3 with h | h <;> omega) (by omega) hpre
      rw [show ((i + 1 : Nat) : Int) = (i : Int) + 1 by omega] at hnt
      have HST : Hid (stepT T' s' p T3) := hT3
      clear hpre hT3 hT3'
      go_wp2_with (go_at_call 32; refine hnt.mono ?_; rintro _ w4 ⟨G4, H4, rfl, hR4, hT4, hGH4, c4⟩)
      go_roundw
      case rel =>
        have HT4 : Hid (TrailAt w4 w.heap.size G4 H4 (noteL (p.kind == 2) L ++ [⟨T3, stepSt s' p, i + 1⟩])) := hT4
        have e1 : stepSt s' p = runSt s ((S.take (i + 1)).drop f) := by
          rw [runSt_snoc Hp.out hfi, ← HS'.out]
        refine ⟨i + 1, T3, stepSt s' p, F3, G4, H4, noteL (p.kind == 2) L ++ [⟨T3, stepSt s' p, i + 1⟩], rfl, by go_num, by omega, by omega, hR4, HT4, ?_, fun z hz => ?_, e1, fun k hk h => ?_, fun k hk => ?_, fun k hk => ?_, ?_, by rcases hl3 with h | h <;> omega, ?_⟩
        · by_cases hk : p.kind = 2
          · obtain ⟨h1, h2⟩ := stepT_shrink HST.out hk
            have hb : (p.kind == 2) = true := by simpa using hk
            rw [hb, h2, h1]
            exact trailBy_one (Tells.head s' htd)
          · have hb : (p.kind == 2) = false := by simpa using hk
            rw [hb]
            have hpos := HB.out.ok.pos
            obtain ⟨z, hz⟩ : ∃ z, L[L.length - 1]? = some z := ⟨_, List.getElem?_eq_getElem (by omega)⟩
            have hg := stepT_grow HST.out hk
            rw [← HZ.out z hz] at hg
            exact HB.out.more hz Hp.out hg
        · rw [List.length_append, List.length_singleton, Nat.add_sub_cancel, List.getElem?_append_right (Nat.le_refl _), Nat.sub_self] at hz
          simp at hz
          subst hz
          rfl
        · rcases hGH4 k h with h1 | h1
          · exact HFG3.out k hk h1
          · have := relT_lt hR3 hk; omega
        · rcases HF3.out k hk with h1 | h1
          · exact HFy.out k h1
          · have := hc.size; exact .inr (by omega)
        · rcases hGH4 k hk with h1 | h1
          · exact HGHy.out k h1
          · have := hc.size; omega
        · have : (noteL (p.kind == 2) L).length ≤ L.length := by unfold noteL; split <;> simp
          rw [List.length_append, List.length_singleton]; omega
        · have hcF : Chg F w w3 := hc.trans HC3.out (fun k hk h => by
            rcases HFy.out k h with h1 | h1
            · exact h1
            · omega)
          refine hcF.trans c4 (fun k hk h => ?_)
          rcases h with h | h
          · rcases HF3.out k h with h1 | h1
            · rcases HFy.out k h1 with h2 | h2
              · exact h2
              · omega
            · have := hc.size; omega
          · have := HGHy.out k (.inr h); omega
      case measure => simp [intOf]; omega
    · have hlt' : ¬ (i : Int) < (S.length : Int) := by omega
      have hi : i = S.length := by omega
      have HI : Hid (i = S.length) := hi
      clear hi
      go_wp2_with fail
      go_ret2
      have e5 : s' = runSt s (S.drop f) := by
        have := HS'.out
        rw [HI.out, List.take_length] at this
        exact this
      rw [← e5]
      exact ⟨w.heap.size, rfl, T', L, F', G, H, hRi, HT.out, by rw [← HI.out]; exact HB.out, HFG.out, HFy.out, HGHy.out, by rw [HI.out] at hLl; omega, by rw [HI.out] at hTl'; exact hTl', HZ.out, hc⟩

end Go.Proofs.YthedkdbgfdjlkaaGreatDoor

/- opened, WALKED. -/
namespace Go.Proofs.YthedkdbgfdjlkaaGreatDoor
set_option linter.unusedVariables false
set_option linter.unusedSimpArgs false
open Go.RowKit Go.Lib

theorem Chg.also {S : Nat → Prop} {a b c : World} (h : Chg S a b) (k : Chg S b c) : Chg S a c := h.trans k (fun _ _ h => h)

/-- What opened leaves. -/
structure OpenedRes (w w' : World) (L : List Ent) (k : Nat) (q : Addr) (e : Ent) (F : Nat → Prop) : Prop where
  at_k : L[k]? = some e
  rel : RelT e.T w' q (some e.s) F
  young : ∀ j, F j → w.heap.size ≤ j
  chg : Chg (fun _ => False) w w'

def Opened (w w' : World) (L : List Ent) (k : Nat) (q : Addr) : Prop := ∃ e F, OpenedRes w w' L k q e F

/-- Which entry was found among the first i. -/
structure Found (L : List Ent) (n i k : Nat) : Prop where
  lt : k < L.length
  le : ∀ e, L[k]? = some e → e.T.length ≤ n
  last : ∀ j e, k < j → j < i → L[j]? = some e → n < e.T.length

theorem Found.opens {L : List Ent} {n k : Nat} (h : Found L n L.length k) : Opens L n k :=
  ⟨h.lt, h.le, fun j e hj he => h.last j e hj (List.getElem?_eq_some_iff.1 he).1 he⟩

set_option maxRecDepth 100000 in
set_option maxHeartbeats 4000000 in
theorem opened_any {w : World} {tb : Nat} {G H : Nat → Prop} {L : List Ent} (at' : Int) (hat : inInt at') (hg : HandleAt w) (hT : TrailAt w tb G H L) (hok : TrailOK L) (hlen : L.length ≤ 1759218604400) (hsz : ∀ (i : Nat) (e : Ent), L[i]? = some e → e.T.length ≤ 140737488330000) :
    Calls Tryz.prog 13 #[.pointer (some ⟨tb, 0, none⟩), .int .i64 at'] w fun e w' => ∃ (q : Addr) (k : Nat), e = .returned (.tuple #[.pointer (some q), .int .i64 (k : Int), .bool true]) ∧ Opened w w' L k q := by
  have hpos := hok.pos
  have hla := fun (W : World) (c : Chg (fun _ => False) w W) => last_any (w := W) (by obtain ⟨vb, vs, vn, U, h⟩ := hT; exact ⟨vb, vs, vn, U, h.chg c (fun _ _ h => h)⟩) hpos (by omega)
  obtain ⟨vb, vs, vn, U, hV⟩ := hT
  obtain ⟨m, hm⟩ : ∃ m, L.length - 1 = m := ⟨_, rfl⟩
  rw [hm] at hla
  obtain ⟨z, hz⟩ : ∃ z, L[m]? = some z := ⟨_, List.getElem?_eq_getElem (by omega)⟩
  obtain ⟨x, hx⟩ : ∃ x, L[0]? = some x := ⟨_, List.getElem?_eq_getElem (by omega)⟩
  have hxz := hok.len hx hz (Nat.zero_le _)
  have hzl := hsz m z hz
  obtain ⟨g, cap', hv, _, _, hcell⟩ := row_pos hV.bytes hpos
  subst hv
  obtain ⟨BZ, hBZ⟩ : ∃ B : ByteArray, B = ⟨z.T.toArray⟩ := ⟨_, rfl⟩
  obtain ⟨B0, hB0⟩ : ∃ B : ByteArray, B = ⟨x.T.toArray⟩ := ⟨_, rfl⟩
  have gz : w.cell? ⟨g, m, none⟩ = some (.string BZ) := hcell m _ (by rw [hBZ]; simp [entB, hz])
  have gx : w.cell? ⟨g, 0, none⟩ = some (.string B0) := hcell 0 _ (by rw [hB0]; simp [entB, hx])
  have hZs : BZ.size = z.T.length := by rw [hBZ]; exact ba_size z.T
  have hXs : B0.size = x.T.length := by rw [hB0]; exact ba_size x.T
  have HBZ : Hid (BZ = ⟨z.T.toArray⟩) := hBZ
  have HZs : Hid (BZ.size = z.T.length) := hZs
  have HXs : Hid (B0.size = x.T.length) := hXs
  have d0 := hV.c0
  have d1 := hV.c1
  obtain ⟨hr0, hr1⟩ := pickI_range (c := at') (n := ((z.T.length - x.T.length + 1 : Nat) : Int)) (by omega)
  have hpk := fun (W : World) => pick_any at' ((z.T.length - x.T.length + 1 : Nat) : Int) W hat (by omega) (by omega)
  obtain ⟨p, hp⟩ : ∃ p : Nat, pickI at' ((z.T.length - x.T.length + 1 : Nat) : Int) = (p : Int) := ⟨(pickI at' ((z.T.length - x.T.length + 1 : Nat) : Int)).toNat, by omega⟩
  rw [hp] at hpk hr0 hr1
  clear hp
  obtain ⟨d, hd⟩ : ∃ d, z.T.length - x.T.length = d := ⟨_, rfl⟩
  rw [hd] at hpk hr1
  obtain ⟨n, hn⟩ : ∃ n, n = x.T.length + p := ⟨_, rfl⟩
  have hn1 : x.T.length ≤ n := by omega
  have hn2 : n ≤ z.T.length := by omega
  have hnZ : (n : Int) ≤ (BZ.size : Int) := by omega
  have hnZ' : ¬ (BZ.size : Int) < (n : Int) := by omega
  have e1 : IntKind.i64.wrap ((BZ.size : Int) - (B0.size : Int)) = (d : Int) := by rw [show ((BZ.size : Int) - (B0.size : Int)) = (d : Int) by omega]; exact w64_of d (by omega)
  have e2 : IntKind.i64.wrap ((d : Int) + 1) = ((d + 1 : Nat) : Int) := by rw [show ((d : Int) + 1) = ((d + 1 : Nat) : Int) by omega]; exact w64_of _ (by omega)
  have e3 : IntKind.i64.wrap ((B0.size : Int) + (p : Int)) = (n : Int) := by rw [show ((B0.size : Int) + (p : Int)) = (n : Int) by omega]; exact w64_of n (by omega)
  have hmi : (m : Int) < (L.length : Int) := by omega
  have hgn : decide (0 < L.length) = true := decide_eq_true (by omega)
  have HM : Hid (L.length - 1 = m) := hm
  have HCELL : Hid (∀ (i : Nat) (v : Value), (entB L)[i]? = some v → w.cell? ⟨g, i, none⟩ = some v) := fun i v h => by simpa using hcell i v h
  have HV : Hid (TrailV w tb G H L (.slice (some ⟨g, 0, none⟩) L.length cap') vs vn U) := hV
  have HX : Hid (L[0]? = some x) := hx
  have HZ : Hid (L[m]? = some z) := hz
  clear hBZ hB0 hZs hXs hm hd hn hcell hV hx hz
  obtain ⟨sp, sc, hvs⟩ := row_any HV.out.states
  subst hvs
  go_enter Tryz.func13, Tryz.ntmps13
  go_upto_region 1 with fail
  have hla' := fun (j : Nat) => hla (w.drewN j) ((Chg.refl _ w).drewN' j)
  go_quiet (first | (go_at_call 15; refine Calls.quiet_of_same (hla' _)))
  have c1 : Chg (fun _ => False) w (w.drewN nq) := (Chg.refl _ w).drewN' _
  generalize w.drewN nq = w1 at c1 ⊢
  have d0' := c1.cellAt d0 id
  have gz' := c1.cellAt gz id
  have gx' := c1.cellAt gx id
  clear hla hla'
  go_upto_region 2 with fail
  go_quiet (first | (go_at_call 33; refine Calls.quiet_of_same (hpk _)))
  have c2 : Chg (fun _ => False) w (w1.drewN nq) := c1.also ((Chg.refl _ w1).drewN' _)
  generalize w1.drewN nq = w2 at c2 ⊢
  clear hpk d0' gz' gx' c1
  have HF0 : Hid (Found L n 0 0) := ⟨hpos, fun e he => by rw [HX.out] at he; cases he; exact hn1, fun j e _ h => by omega⟩
  go_wp2_with fail
  go_loopw [9, 10] (fun s9 s10 wr => ∃ (k i : Nat), s9 = .int .i64 (k : Int) ∧ s10 = .int .i64 (i : Int) ∧ i ≤ L.length ∧ k ≤ L.length ∧ Hid (Found L n i k) ∧ Chg (fun _ => False) w wr) (fun _ s10 _ => L.length - (intOf s10).toNat)
  case atStart => exact ⟨0, 0, rfl, rfl, Nat.zero_le _, Nat.zero_le _, HF0, c2⟩
  case round =>
    obtain ⟨k, i, rfl, rfl, hi, hkl, HF, hc⟩ := hrel
    clear HF0 c2
    have d0' := hc.cellAt d0 id
    by_cases hlt : i < L.length
    · have hlt' : (i : Int) < (L.length : Int) := by omega
      obtain ⟨y, hy⟩ : ∃ y, L[i]? = some y := ⟨_, List.getElem?_eq_getElem hlt⟩
      obtain ⟨BI, hBI⟩ : ∃ B : ByteArray, B = ⟨y.T.toArray⟩ := ⟨_, rfl⟩
      have gi : w.cell? ⟨g, i, none⟩ = some (.string BI) := HCELL.out i _ (by rw [hBI]; simp [entB, hy])
      have gi' := hc.cellAt gi id
      have hIs : BI.size = y.T.length := by rw [hBI]; exact ba_size y.T
      have HIs : Hid (BI.size = y.T.length) := hIs
      have HY : Hid (L[i]? = some y) := hy
      by_cases hle : y.T.length ≤ n
      · have hle' : (BI.size : Int) ≤ (n : Int) := by omega
        clear hBI hIs hy
        go_wp2_with fail
        go_roundw
        case rel => exact ⟨i, i + 1, rfl, by go_num, by omega, by omega, ⟨hlt, fun e he => by rw [HY.out] at he; cases he; exact hle, fun j e h1 h2 => by omega⟩, hc⟩
        case measure => simp [intOf]; omega
      · have hle' : ¬ (BI.size : Int) ≤ (n : Int) := by omega
        clear hBI hIs hy
        go_wp2_with fail
        go_roundw
        case rel =>
          refine ⟨k, i + 1, rfl, by go_num, by omega, hkl, ⟨HF.out.lt, HF.out.le, fun j e h1 h2 he => ?_⟩, hc⟩
          by_cases hj : j = i
          · subst hj
            rw [HY.out] at he
            cases he
            omega
          · exact HF.out.last j e h1 (by omega) he
        case measure => simp [intOf]; omega
    · have hlt' : ¬ (i : Int) < (L.length : Int) := by omega
      have hiL : i = L.length := by omega
      have HO : Hid (Opens L n k) := by have := HF.out; rw [hiL] at this; exact this.opens
      clear hiL
      obtain ⟨e, he⟩ : ∃ e, L[k]? = some e := ⟨_, List.getElem?_eq_getElem HO.out.lt⟩
      have HE : Hid (L[k]? = some e) := he
      clear he
      have hkL : k < L.length := HO.out.lt
      obtain ⟨wq, hwq⟩ : ∃ wq, wq = wr := ⟨_, rfl⟩
      rw [← hwq] at hc d0' ⊢
      clear hwq
      obtain ⟨RW, hRW⟩ : ∃ RW, RW = BZ.extract 0 n := ⟨_, rfl⟩
      have hRl : RW.data.toList = z.T.take n := by rw [hRW, take_extract, HBZ.out]
      have hop := open_any wq RW (by rw [hRW]; unfold maxLen; simp only [ByteArray.size_extract]; omega) (hg.chg hc id)
      have hel : e.T.length ≤ n := HO.out.le e HE.out
      obtain ⟨R, hR⟩ := hok.preOf HE.out HZ.out (by have := HM.out; omega)
      have hzL : L[L.length - 1]? = some z := by rw [HM.out]; exact HZ.out
      rw [hok.opens HO.out HE.out hzL hn2 RW hRl] at hop
      simp only [OpenRes] at hop
      rw [hRl, List.take_take, Nat.min_eq_left hel, hR, List.take_left'  rfl] at hop
      have HRZ : Hid (z.T = e.T ++ R) := hR
      rw [hRW] at hop
      clear hRl hRW hR hzL
      go_upto_region 12 with (go_at_call 14; refine hop.mono ?_; rintro _ w3 ⟨⟨q, F, rfl, hRq, hFy⟩, c3⟩)
      have hc3 := hc.also c3
      have hfine := relT_fine hRq
      obtain ⟨_, _, sm1, sm2, sm3⟩ := hfine.small
      have HFY : Hid (∀ j, F j → w.heap.size ≤ j) := fun j hj => Nat.le_trans hc.size (hFy j hj)
      clear hFy hop
      have hst := relT_state hRq
      simp only [state?, errno?] at hst
      go_upto_region 13 with (go_at_call 16; refine hst.mono ?_; rintro _ w4 ⟨vS, vK, rfl, s4, hR4, c4⟩; obtain ⟨us, hu1, hu2, hu3⟩ := s4.sess; obtain ⟨pa, ca, rfl⟩ := row_any hu2; obtain ⟨pb, cb, rfl⟩ := row_any s4.keys)
      clear hst hu1 hu2 hu3
      obtain ⟨W4, hW4⟩ : ∃ W4, W4 = w4.alloc (.cells #[.slice pa e.s.lanes.length ca, .slice pb e.s.keys.length cb] 46) := ⟨_, rfl⟩
      have cW4 : Chg (fun _ => False) w4 W4 := by rw [hW4]; exact (Chg.refl _ w4).alloc _
      have q0 : W4.cell? ⟨w4.heap.size, 0, none⟩ = some (.slice pa e.s.lanes.length ca) := by rw [hW4]; exact World.cell?_alloc_at _ _ _ _ rfl
      have q1 : W4.cell? ⟨w4.heap.size, 1, none⟩ = some (.slice pb e.s.keys.length cb) := by rw [hW4]; exact World.cell?_alloc_at _ _ _ _ rfl
      have z4 : w4.heap.size < W4.heap.size := World.block_lt_of_cell? _ _ q0
      rw [← hW4]
      clear hW4
      have z3 := c4.size
      have HLT3 : Hid (∀ j, F j → j < w3.heap.size) := fun j hj => relT_lt hRq hj
      have hc4 : Chg (fun _ => False) w W4 := (hc3.step c4 HFY.out).also cW4
      have hby := relT_bytes (relT_keep hR4 cW4)
      simp only [bytes?, errno?] at hby
      obtain ⟨C, hC⟩ : ∃ C : ByteArray, C = ⟨e.T.toArray⟩ := ⟨_, rfl⟩
      rw [← hC] at hby
      have hCs : C.size = e.T.length := by rw [hC]; exact ba_size e.T
      have hCe : BZ.extract 0 C.size = C := by rw [hCs, HBZ.out, hC]; exact extract_pre z.T e.T R HRZ.out
      have hCn : (C.size : Int) ≤ (n : Int) := by omega
      have hCd : decide ((C.size : Int) ≤ (n : Int)) = true := decide_eq_true hCn
      have hCd' : decide (C.size ≤ n) = true := decide_eq_true (by omega)
      have hCZ : (C.size : Int) ≤ (BZ.size : Int) := by omega
      have hCZ' : ¬ (BZ.size : Int) < (C.size : Int) := by omega
      have hCZd : decide (BZ.size < C.size) = false := decide_eq_false (by omega)
      clear hC hCs
      go_upto_region 14 with (go_at_call 21; refine hby.mono ?_; rintro _ w5 ⟨rfl, hR5, c5⟩)
      clear hby
      have z5 := c5.size
      have hc5 : Chg (fun _ => False) w w5 := hc4.step c5 HFY.out
      have q0 := c5.cellAt q0 (fun h => by have := HLT3.out _ h; omega)
      have q1 := c5.cellAt q1 (fun h => by have := HLT3.out _ h; omega)
      have s5 := (s4.kept cW4 (fun k h => h.elim)).kept c5 (fun k h => .inl (by have := HLT3.out k h; omega))
      obtain ⟨u, hu⟩ : ∃ u, U[k]? = some u := ⟨_, List.getElem?_eq_getElem (by rw [HV.out.ulen]; exact hkL)⟩
      obtain ⟨g2, cap2, hv2, _, _, hcell2⟩ := row_pos HV.out.states hpos
      simp only [Value.slice.injEq] at hv2
      obtain ⟨rfl, _, rfl⟩ := hv2
      have hua := uCells_at U k u hu
      have t0 := hc5.cellAt (hcell2 _ _ hua.1) id
      have t1 := hc5.cellAt (hcell2 _ _ hua.2) id
      have d1' := hc5.cellAt d1 id
      have sU := ((HV.out.told k e u HE.out hu).chg hc5 (fun _ _ h => h)).stateAt
      obtain ⟨u1, u2⟩ := u
      simp only at t0 t1 sU
      have hsm := sameState_eq (s5.kept ((Chg.refl (fun _ => False) w5).drew) (fun k h => h.elim)) (sU.kept ((Chg.refl (fun _ => False) w5).drew) (fun k h => h.elim)) sm1 sm2 sm3
      have hent : ∀ args w, (callFunc 17 args).run Tryz.prog w = .ok (.enter 17 args) w := enters_of Tryz.func17 (by kernel_rfl) rfl
      have hki : (k : Int) < (L.length : Int) := by omega
      clear hcell2 hua hu s4 s5 sU hR4 d0' d0 gz gx hRq
      go_region_law (refine step_call rfl 17 _ _ rfl _ (by simp [Act.eval, Act.put]) hent hsm (fun e' w6 he' => ?_); obtain ⟨rfl, c6⟩ := he'; refine ⟨_, rfl, ?_⟩)
      all_goals
        go_upto_region 15 with fail
        go_quiet (fail)
        go_wp2_with fail
        go_ret3
        have cD : Chg (fun _ => False) w5 w6 := ((Chg.refl (fun _ => False) w5).drew).also c6
        have cE : Chg (fun _ => False) w5 (w6.drewN nq) := cD.also ((Chg.refl (fun _ => False) w6).drewN' _)
        exact ⟨q, k, rfl, e, F, HE.out, relT_keep hR5 cE, HFY.out, hc5.also cE⟩

end Go.Proofs.YthedkdbgfdjlkaaGreatDoor

/- Cut, WALKED. -/
namespace Go.Proofs.YthedkdbgfdjlkaaGreatDoor
set_option linter.unusedVariables false
set_option linter.unusedSimpArgs false
open Go.RowKit Go.Lib

theorem runSt_take {S : List Stp} {n : Nat} {s : St} : runSt s ((S.take S.length).drop n) = runSt s (S.drop n) := by rw [List.take_length]

theorem FollowRes.sizes {w w' : World} {a : Addr} {F : Nat → Prop} {S : List Stp} {s' : St} {N : Nat} {tb : Nat} {T' : List UInt8} {L : List Ent} {F' G H : Nat → Prop} (h : FollowRes w w' a F S s' N tb T' L F' G H) (i : Nat) (e : Ent) (he : L[i]? = some e) : e.T.length ≤ N + 512 + 32 * S.length := by
  have hp := h.by'.ok.pos
  obtain ⟨z, hz⟩ : ∃ z, L[L.length - 1]? = some z := ⟨_, List.getElem?_eq_getElem (by omega)⟩
  have h1 := h.by'.ok.len he hz (by have := (List.getElem?_eq_some_iff.1 he).1; omega)
  rw [h.last z hz] at h1
  exact Nat.le_trans h1 h.size

set_option maxRecDepth 100000 in
set_option maxHeartbeats 8000000 in
theorem cut_any {w : World} (hg : HandleAt w) {v : Value} {S : List Stp} (hS : StepsAt w v S) (at' again : Int) (hat : inInt at') (hag : inInt again) :
    Calls Tryz.prog 6 #[v, .int .i64 at', .int .i64 again] w fun e w' => e = .returned (.bool true) ∧ Chg (fun _ => False) w w' := by
  have hroom := hS.room
  have hSl : S.length ≤ 1759218604390 := by omega
  have hkp := keeping_any w hg
  go_enter Tryz.func6, Tryz.ntmps6
  go_wp2_with fail
  refine hkp.mono ?_
  rintro _ w1 ⟨rfl, c1⟩
  clear hkp
  go_wp2_with fail
  refine (relT_new w1).mono ?_
  rintro _ w2 ⟨a, F2, rfl, hR2, y2, c2⟩
  have h02 : Chg (fun _ => False) w w2 := c1.also c2
  have Y2 : Hid (∀ k, F2 k → w.heap.size ≤ k) := fun k hk => Nat.le_trans c1.size (y2 k hk)
  have hT2 := relT_headLen hR2
  have hte : Tells (encHead St.init) St.init := .head _ (relT_tidy hR2)
  have hfo := follow_any hR2 hte hS h02 Y2.out hSl 0 (Nat.zero_le _) (by omega)
  rw [show ((0 : Nat) : Int) = 0 from rfl, List.drop_zero] at hfo
  obtain ⟨sF, hsF⟩ : ∃ sF, sF = runSt St.init S := ⟨_, rfl⟩
  rw [← hsF] at hfo
  clear hsF c1 c2 y2 hte
  go_upto_region 8 with (go_at_call 12; refine hfo.mono ?_; rintro _ w3 ⟨tb, rfl, T3, L, F3, G, H, hFr⟩)
  clear hfo hR2
  have HFR : Hid (FollowRes w2 w3 a F2 S sF (encHead St.init).length tb T3 L F3 G H) := hFr
  clear hFr
  have h03 : Chg (fun _ => False) w w3 := h02.step HFR.out.chg Y2.out
  have z23 := HFR.out.chg.size
  have hop1 := opened_any at' hat (hg.chg h03 id) HFR.out.trail HFR.out.by'.ok HFR.out.len (fun i e he => by have := HFR.out.sizes i e he; omega)
  have HTA : Hid (TrailAt w3 tb G H L) := HFR.out.trail
  have HBY : Hid (TrailBy S S.length sF L) := HFR.out.by'
  have hLl := HFR.out.len
  have hLp := HBY.out.ok.pos
  obtain ⟨vb, vs, vn, U, hV⟩ := HTA.out
  have HV : Hid (TrailV w3 tb G H L vb vs vn U) := hV
  have HYT : Hid (∀ k, G k ∨ H k → k < w3.heap.size) := hV.lt
  clear hV
  have htb3 : tb < w3.heap.size := HYT.out tb (.inr HV.out.own)
  go_upto_region 11 with (go_at_call 13; refine hop1.mono ?_; rintro _ w4 ⟨q, k, rfl, e, F4, hOr⟩)
  clear hop1
  have HOR : Hid (OpenedRes w3 w4 L k q e F4) := hOr
  clear hOr
  have h04 : Chg (fun _ => False) w w4 := h03.also HOR.out.chg
  have z34 := HOR.out.chg.size
  have HY4 : Hid (∀ k, F4 k → w3.heap.size ≤ k) := HOR.out.young
  have hkL : k < L.length := (List.getElem?_eq_some_iff.1 HOR.out.at_k).1
  obtain ⟨hen, hrun⟩ := HBY.out.runs k e HOR.out.at_k
  rw [runSt_take] at hrun
  have hesz := HFR.out.sizes k e HOR.out.at_k
  have hfo := follow_any HOR.out.rel (HBY.out.ok.tells k e HOR.out.at_k) hS h04 (fun k hk => by have := HY4.out k hk; have := h03.size; omega) hSl e.n hen (by omega)
  rw [hrun] at hfo
  clear hrun
  obtain ⟨g3, cap3, hv3, _, _, hcell3⟩ := row_pos HV.out.steps hLp
  have gk : w4.cell? ⟨g3, k, none⟩ = some (.int .i64 e.n) := HOR.out.chg.cellAt (by simpa using hcell3 k _ (by simp [entN, HOR.out.at_k])) id
  have d2 : w4.cell? ⟨tb, 2, none⟩ = some (.slice (some ⟨g3, 0, none⟩) L.length cap3) := HOR.out.chg.cellAt (by rw [← hv3]; exact HV.out.c2) id
  have hki : (k : Int) < (L.length : Int) := by omega
  clear hcell3 hv3
  go_upto_region 14 with (go_at_call 12; refine hfo.mono ?_; rintro _ w5 ⟨ub, rfl, T5, M, F5, G5, H5, hFr⟩)
  clear hfo gk d2
  have HFR5 : Hid (FollowRes w4 w5 q F4 S sF e.T.length ub T5 M F5 G5 H5) := hFr
  clear hFr
  have h05 : Chg (fun _ => False) w w5 := h04.step HFR5.out.chg (fun k hk => by have := HY4.out k hk; have := h03.size; omega)
  have z45 := HFR5.out.chg.size
  have hop2 := opened_any again hag (hg.chg h05 id) HFR5.out.trail HFR5.out.by'.ok HFR5.out.len (fun i e he => by have := HFR5.out.sizes i e he; omega)
  have HTV5 : Hid (TrailV w5 tb G H L vb vs vn U) := (HV.out.chg HOR.out.chg (fun _ _ h => h)).chg HFR5.out.chg (fun k hk h => by have := HYT.out k hk; have := HY4.out k h; omega)
  have HBY5 : Hid (TrailBy S S.length sF M) := HFR5.out.by'
  have hMl := HFR5.out.len
  have hMp := HBY5.out.ok.pos
  obtain ⟨ubv, usv, unv, UU, hU⟩ := HFR5.out.trail
  have HU5 : Hid (TrailV w5 ub G5 H5 M ubv usv unv UU) := hU
  clear hU
  go_upto_region 15 with (go_at_call 13; refine hop2.mono ?_; rintro _ w6 ⟨q6, k6, rfl, e6, F6, hOr⟩)
  clear hop2
  have h56 : Chg (fun _ => False) w5 w6 := hOr.chg
  clear hOr
  have h06 : Chg (fun _ => False) w w6 := h05.also h56
  have c6d : Chg (fun _ => False) w6 w6.drew := (Chg.refl _ w6).drew
  have h5d : Chg (fun _ => False) w5 w6.drew := h56.also c6d
  have h0d : Chg (fun _ => False) w w6.drew := h06.also c6d
  have HT6 : Hid (TrailV w6.drew tb G H L vb vs vn U) := HTV5.out.chg h5d (fun _ _ h => h)
  have HU6 : Hid (TrailV w6.drew ub G5 H5 M ubv usv unv UU) := HU5.out.chg h5d (fun _ _ h => h)
  obtain ⟨m, hm⟩ : ∃ m, M.length - 1 = m := ⟨_, rfl⟩
  obtain ⟨l, hl⟩ : ∃ l, L.length - 1 = l := ⟨_, rfl⟩
  obtain ⟨z, hz⟩ : ∃ z, M[m]? = some z := ⟨_, List.getElem?_eq_getElem (by omega)⟩
  obtain ⟨y, hy⟩ : ∃ y, L[l]? = some y := ⟨_, List.getElem?_eq_getElem (by omega)⟩
  have hzs : z.s = sF := (HBY5.out.last z (by rw [hm]; exact hz)).1
  have hys : y.s = sF := (HBY.out.last y (by rw [hl]; exact hy)).1
  have hlaU := last_any (w := w6.drew) ⟨_, _, _, _, HU6.out⟩ hMp (by omega)
  rw [hm] at hlaU
  have hmi : (m : Int) < (M.length : Int) := by omega
  have hli : (l : Int) < (L.length : Int) := by omega
  obtain ⟨g6, cap6, hv6, _, _, hcell6⟩ := row_pos HU6.out.bytes hMp
  obtain ⟨BZ, hBZ⟩ : ∃ B : ByteArray, B = ⟨z.T.toArray⟩ := ⟨_, rfl⟩
  have gz : w6.drew.cell? ⟨g6, m, none⟩ = some (.string BZ) := by simpa using hcell6 m _ (by rw [hBZ]; simp [entB, hz])
  have d6 : w6.drew.cell? ⟨ub, 0, none⟩ = some (.slice (some ⟨g6, 0, none⟩) M.length cap6) := by rw [← hv6]; exact HU6.out.c0
  have gz' : w6.cell? ⟨g6, m, none⟩ = some (.string BZ) := gz
  have d6' : w6.cell? ⟨ub, 0, none⟩ = some (.slice (some ⟨g6, 0, none⟩) M.length cap6) := d6
  have hzl := HFR5.out.sizes m z hz
  have hopz := open_any w6.drew BZ (by rw [hBZ, ba_size]; unfold maxLen; omega) (hg.chg h0d id)
  have htz := HBY5.out.ok.tells m z hz
  rw [Tells.whole htz (row := BZ) (by rw [hBZ])] at hopz
  simp only [OpenRes] at hopz
  rw [show BZ.data.toList.take z.T.length = z.T by rw [hBZ]; simp, hzs] at hopz
  have HZ : Hid (M[m]? = some z) := hz
  have HYY : Hid (L[l]? = some y) := hy
  have HM : Hid (M.length - 1 = m) := hm
  have HL : Hid (L.length - 1 = l) := hl
  have HZS : Hid (z.s = sF) := hzs
  have HYS : Hid (y.s = sF) := hys
  have hentL : ∀ args w, (callFunc 15 args).run Tryz.prog w = .ok (.enter 15 args) w := enters_of Tryz.func15 (by kernel_rfl) rfl
  have hentO : ∀ args w, (callFunc 14 args).run Tryz.prog w = .ok (.enter 14 args) w := enters_of Tryz.func14 (by kernel_rfl) rfl
  have hentS : ∀ args w, (callFunc 17 args).run Tryz.prog w = .ok (.enter 17 args) w := enters_of Tryz.func17 (by kernel_rfl) rfl
  clear hm hl hz hy hzs hys hcell6 hv6 hBZ htz
  go_cut [19, 20] from 72 to 83 (fun s19 s20 wc => ∃ (b : Addr) (F7 : Nat → Prop), s19 = .pointer (some b) ∧ s20 = .int .i64 0 ∧ RelT z.T wc b (some sF) F7 ∧ Hid (∀ k, F7 k → w6.heap.size ≤ k) ∧ Chg (fun _ => False) w6 wc)
  case first =>
    go_region_law (first
      | (refine step_call rfl 15 _ _ rfl _ (by simp [Act.eval, Act.put]) hentL hlaU (fun e' w7 he' => ?_); obtain ⟨rfl, rfl⟩ := he'; refine ⟨_, rfl, ?_⟩)
      | (refine step_call rfl 14 _ _ rfl _ (by simp [Act.eval, Act.put]) hentO hopz (fun e' w7 he' => ?_); obtain ⟨⟨b, F7, rfl, hR7, hF7⟩, c7⟩ := he'; refine ⟨_, rfl, ?_⟩))
    all_goals
      go_wp2_with fail
      go_meet
      exact ⟨b, F7, rfl, rfl, hR7, hF7, c6d.also c7⟩
  case rest =>
    obtain ⟨b, F7, rfl, rfl, hR7, HF7, c7⟩ := hcut
    clear hopz hlaU gz d6 gz' d6' HT6 HU6 c6d h5d h0d
    have h07 : Chg (fun _ => False) w wc := h06.also c7
    have h57 : Chg (fun _ => False) w5 wc := h56.also c7
    have z67 := c7.size
    have z56 := h56.size
    have hfine := relT_fine hR7
    obtain ⟨_, _, sm1, sm2, sm3⟩ := hfine.small
    have hst := relT_state hR7
    simp only [state?, errno?] at hst
    go_upto_region 19 with (go_at_call 16; refine hst.mono ?_; rintro _ w8 ⟨vS, vK, rfl, s8, hR8, c8⟩; obtain ⟨us, hu1, hu2, hu3⟩ := s8.sess; obtain ⟨pa, ca, rfl⟩ := row_any hu2; obtain ⟨pb, cb, rfl⟩ := row_any s8.keys)
    clear hst hu1 hu2 hu3
    obtain ⟨W8, hW8⟩ : ∃ W8, W8 = w8.alloc (.cells #[.slice pa sF.lanes.length ca, .slice pb sF.keys.length cb] 46) := ⟨_, rfl⟩
    have cW8 : Chg (fun _ => False) w8 W8 := by rw [hW8]; exact (Chg.refl _ w8).alloc _
    have q0 : W8.cell? ⟨w8.heap.size, 0, none⟩ = some (.slice pa sF.lanes.length ca) := by rw [hW8]; exact World.cell?_alloc_at _ _ _ _ rfl
    have q1 : W8.cell? ⟨w8.heap.size, 1, none⟩ = some (.slice pb sF.keys.length cb) := by rw [hW8]; exact World.cell?_alloc_at _ _ _ _ rfl
    rw [← hW8]
    clear hW8
    have h58 : Chg (fun k => w5.heap.size ≤ k) w5 W8 := ((h57.mono (fun _ h => h.elim)).also (c8.mono (fun k hk => by have := HF7.out k hk; omega))).also (cW8.mono (fun _ h => h.elim))
    have h08 : Chg (fun _ => False) w W8 := (h07.step c8 (fun k hk => by have := HF7.out k hk; have := h06.size; omega)).also cW8
    have HT8 : Hid (TrailV W8 tb G H L vb vs vn U) := HTV5.out.chg h58 (fun k hk h => by have := HTV5.out.lt k hk; omega)
    have HU8 : Hid (TrailV W8 ub G5 H5 M ubv usv unv UU) := HU5.out.chg h58 (fun k hk h => by have := HU5.out.lt k hk; omega)
    have s8' := s8.kept cW8 (fun k h => h.elim)
    have cD : Chg (fun _ => False) W8 W8.drew := (Chg.refl _ W8).drew
    obtain ⟨u, hu⟩ : ∃ u, U[l]? = some u := ⟨_, List.getElem?_eq_getElem (by rw [HT8.out.ulen]; omega)⟩
    obtain ⟨x, hx⟩ : ∃ x, UU[m]? = some x := ⟨_, List.getElem?_eq_getElem (by rw [HU8.out.ulen]; omega)⟩
    obtain ⟨gt, capt, hvt, _, _, hcellt⟩ := row_pos HT8.out.states hLp
    obtain ⟨gu, capu, hvu, _, _, hcellu⟩ := row_pos HU8.out.states hMp
    have hua := uCells_at U l u hu
    have hxa := uCells_at UU m x hx
    have t0 := hcellt _ _ hua.1
    have t1 := hcellt _ _ hua.2
    have x0 := hcellu _ _ hxa.1
    have x1 := hcellu _ _ hxa.2
    have dt : W8.cell? ⟨tb, 1, none⟩ = some (.slice (some ⟨gt, 0, none⟩) L.length capt) := by rw [← hvt]; exact HT8.out.c1
    have du : W8.cell? ⟨ub, 1, none⟩ = some (.slice (some ⟨gu, 0, none⟩) M.length capu) := by rw [← hvu]; exact HU8.out.c1
    have sT := (HT8.out.told l y u HYY.out hu).stateAt
    have sU := (HU8.out.told m z x HZ.out hx).stateAt
    rw [HYS.out] at sT
    rw [HZS.out] at sU
    obtain ⟨u1, u2⟩ := u
    obtain ⟨x1v, x2v⟩ := x
    simp only at t0 t1 x0 x1 sT sU
    have hlaT := last_any (w := W8.drew) ⟨_, _, _, _, HT8.out.chg cD (fun _ _ h => h)⟩ hLp (by omega)
    rw [HL.out] at hlaT
    have hsm := sameState_eq (s8'.kept cD (fun k h => h.elim)) (sT.kept cD (fun k h => h.elim)) sm1 sm2 sm3
    clear hcellt hcellu hua hxa hu hx hvt hvu s8
    go_cut [23] from 95 to 104 (fun s23 wd => s23 = .bool true ∧ Chg (fun _ => False) W8 wd)
    case first =>
      go_region_law (first
        | (refine step_call rfl 15 _ _ rfl _ (by simp [Act.eval, Act.put]) hentL hlaT (fun e' w7 he' => ?_); obtain ⟨rfl, rfl⟩ := he'; refine ⟨_, rfl, ?_⟩)
        | (refine step_call rfl 17 _ _ rfl _ (by simp [Act.eval, Act.put]) hentS hsm (fun e' w9 he' => ?_); obtain ⟨rfl, c9⟩ := he'; refine ⟨_, rfl, ?_⟩))
      all_goals
        go_wp2_with fail
        go_meet
        exact ⟨rfl, cD.also c9⟩
    case rest =>
      obtain ⟨rfl, c9⟩ := hcut
      clear hlaT hsm
      have t0 := c9.cellAt t0 id
      have t1 := c9.cellAt t1 id
      have x0 := c9.cellAt x0 id
      have x1 := c9.cellAt x1 id
      have dt := c9.cellAt dt id
      have du := c9.cellAt du id
      have cE : Chg (fun _ => False) wc wc.drew := (Chg.refl _ wc).drew
      have c9d : Chg (fun _ => False) W8 wc.drew := c9.also cE
      have hlaT := last_any (w := wc.drew) ⟨_, _, _, _, HT8.out.chg c9d (fun _ _ h => h)⟩ hLp (by omega)
      rw [HL.out] at hlaT
      have hlaU := last_any (w := wc.drew) ⟨_, _, _, _, HU8.out.chg c9d (fun _ _ h => h)⟩ hMp (by omega)
      rw [HM.out] at hlaU
      have hsm := sameState_eq (sU.kept c9d (fun k h => h.elim)) (sT.kept c9d (fun k h => h.elim)) sm1 sm2 sm3
      have h09 : Chg (fun _ => False) w wc.drew := h08.also c9d
      have HC9 : Hid (Chg (fun _ => False) w wc.drew) := h09
      clear h09 c9d cE c9 cD h08 h58 h57 h07 c8 cW8 c7 h56 h06 h05 h04 h03 h02 hR7 hR8 s8' sT sU sm1 sm2 sm3 hfine HFR HTA HBY HV HYT HOR HY4 hesz HFR5 HTV5 HBY5 HU5 HZ HYY HZS HYS HM HL HT8 HU8 HF7 Y2 hentO hS hg q0 q1 hzl hat hag hT2
      go_upto_region 20 with fail
      go_region_law (first
        | (refine step_call rfl 15 #[.tmp 117] _ rfl _ (by simp [Act.eval, Act.put]) hentL hlaT (fun e' w7 he' => ?_); obtain ⟨rfl, rfl⟩ := he'; refine ⟨_, rfl, ?_⟩)
        | (refine step_call rfl 15 #[.tmp 109] _ rfl _ (by simp [Act.eval, Act.put]) hentL hlaU (fun e' w7 he' => ?_); obtain ⟨rfl, rfl⟩ := he'; refine ⟨_, rfl, ?_⟩)
        | (refine step_call rfl 17 _ _ rfl _ (by simp [Act.eval, Act.put]) hentS hsm (fun e' w10 he' => ?_); obtain ⟨rfl, c10⟩ := he'; refine ⟨_, rfl, ?_⟩))
      all_goals
        go_wp2_with fail
        go_ret
        exact ⟨rfl, HC9.out.also c10⟩

end Go.Proofs.YthedkdbgfdjlkaaGreatDoor
