import Derived.Test.YthedkdbgfdjlkaaGreatDoorRows
import Derived.ProofKit
import Derived.OpenShut
import Derived.Carry
import Derived.Deep.Slices
import Derived.LaidLaws
import Derived.LaidHandle
import Derived.Stop.Joined
import Derived.Test.YthedkdbgfdjlkaaGreatDoorPack1
import Derived.Test.YthedkdbgfdjlkaaGreatDoorPack2
import Derived.Test.YthedkdbgfdjlkaaGreatDoorPack3
import Derived.Test.YthedkdbgfdjlkaaGreatDoorPack4
import Derived.Test.YthedkdbgfdjlkaaGreatDoorPack5
import Derived.Test.YthedkdbgfdjlkaaGreatDoorPack6
import Derived.Test.YthedkdbgfdjlkaaGreatDoorPack7
import Derived.Test.YthedkdbgfdjlkaaGreatDoorPack8
import Derived.Test.YthedkdbgfdjlkaaGreatDoorPack9
import Derived.Test.YthedkdbgfdjlkaaGreatDoorPack10
import Derived.Test.YthedkdbgfdjlkaaGreatDoorPack11
/- culvertlaw: plays, WALKED, up to the kinds of stage 2. -/
namespace Go.Proofs.YthedkdbgfdjlkaaGreatDoor
set_option linter.unusedVariables false
set_option linter.unusedSimpArgs false
open Go.RowKit Go.Lib

theorem told_any {W0 w : World} {wb n N : Nat} (hx : Wx W0 w wb n N) (hN : N ≤ 10000000) {k : Nat} (hk : k < n) (o : OpD) (hf : o.fits) (h2 : 2 ≤ o.kind) (h6 : o.kind ≤ 6) :
    Calls Tryz.prog 27 #[.pointer (some ⟨wb, 0, none⟩), .int .i64 k, o.value] w fun e w' => e = .returned (.bool true) ∧ Wx W0 w' wb n (N + 1) := by
  rcases (by omega : o.kind = 2 ∨ o.kind = 3 ∨ o.kind = 4 ∨ o.kind = 5 ∨ o.kind = 6) with e | e | e | e | e
  · exact told_accept hx hN hk o hf e
  · exact told_state hx hN hk o hf e
  · exact told_close hx hN hk o hf e
  · exact told_puts hx hN hk o hf e
  · exact told_answer hx hN hk o hf e

theorem still_any {W0 w : World} {wb n N : Nat} (hx : Wx W0 w wb n N) (hN : N ≤ 10000000) :
    Calls Tryz.prog 29 #[.pointer (some ⟨wb, 3, none⟩)] w fun e w' => e = .returned (.bool true) ∧ Wx W0 w' wb n N := by
  obtain ⟨z, pa, ra, st, T, FP, FR, B, r, L, vp, vr, h⟩ := hx
  have h0 := h.lenL 0 (by omega)
  have h1 := h.lenL 1 (by omega)
  have h2 := h.lenL 2 (by omega)
  have h3 := h.lenL 3 (by omega)
  exact (mstill_any h.book.bookAt ⟨by omega, by omega, by omega, by omega⟩).mono fun e w' ⟨he, c⟩ => ⟨he, _, _, _, _, _, _, _, _, _, _, _, _, h.keep c⟩

/-- A script in memory. -/
structure OpsAt (W : World) (v : Value) (S : List OpD) : Prop where
  val : ∃ p c, v = .slice p S.length c
  at_i : ∀ (i : Nat) (x : OpD), S[i]? = some x → ∃ sb so cap, v = .slice (some ⟨sb, so, none⟩) S.length cap ∧ ∀ j u, x.cells[j]? = some u → W.cell? ⟨sb, so + i * 9 + j, none⟩ = some u
  fits : ∀ x ∈ S, x.fits

theorem Wx.start (W : World) : Wx W (W.alloc (.cells #[.slice none 0 0, .slice none 0 0, .slice none 0 0, .slice none 0 0, .slice none 0 0, .slice none 0 0, .slice none 0 0] 80)) W.heap.size 0 0 := by
  have c : Chg (fun _ => False) W (W.alloc (.cells #[.slice none 0 0, .slice none 0 0, .slice none 0 0, .slice none 0 0, .slice none 0 0, .slice none 0 0, .slice none 0 0] 80)) := (Chg.refl _ W).alloc _
  refine ⟨fun g => if g < W.heap.size then 0 else 1, fun _ => ⟨0, 0, none⟩, fun _ => ⟨0, 0, none⟩, fun _ => none, fun _ => [], fun _ _ => False, fun _ _ => False, fun _ => False, fun _ => .slice none 0 0, fun _ => [], .slice none 0 0, .slice none 0 0, ?_⟩
  refine ⟨⟨fun j => World.frozen?_alloc_at _ _ _ _ rfl, fun x hx => ?_, fun x hx => World.ownsRow_nil _ _ _ _, fun _ _ => rfl, fun x hx i u hu => by simp at hu, fun x hx g hg => by simp [Value.ownBlock] at hg, fun x hx u hu => by simp at hu, fun g hg => hg.elim⟩, World.cell?_alloc_at _ _ _ _ rfl, World.cell?_alloc_at _ _ _ _ rfl, World.ownsRow_nil _ _ _ _, World.ownsRow_nil _ _ _ _, Nat.le_refl _, fun i hi => by omega, fun i hi => by omega, fun i hi => by omega, fun x hx => by simp, by simp, fun g hg => by simp [Value.ownBlock] at hg, fun g hg => by simp [Value.ownBlock] at hg, fun g hg => hg.elim, fun i hi => by omega, fun i hi => by omega, fun g hg => by simp [hg], c⟩
  rcases (by omega : x = 0 ∨ x = 1 ∨ x = 2 ∨ x = 3) with rfl | rfl | rfl | rfl <;> exact World.cell?_alloc_at _ _ _ _ rfl

/-- How many relays there are. -/
theorem Wx.ps {W0 w : World} {wb n N : Nat} (hx : Wx W0 w wb n N) : n ≤ N ∧ Chg (fun _ => False) W0 w ∧ ∃ p c, w.cell? ⟨wb, 0, none⟩ = some (.slice p n c) := by
  obtain ⟨z, pa, ra, st, T, FP, FR, B, r, L, vp, vr, h⟩ := hx
  obtain ⟨p, c, rfl⟩ := row_any h.rp
  exact ⟨h.many, h.orig, p, c, h.c0⟩

theorem Wx.keep {W0 w w' : World} {wb n N : Nat} (hx : Wx W0 w wb n N) (c : Chg (fun _ => False) w w') : Wx W0 w' wb n N := by
  obtain ⟨z, pa, ra, st, T, FP, FR, B, r, L, vp, vr, h⟩ := hx
  exact ⟨_, _, _, _, _, _, _, _, _, _, _, _, h.keep c⟩

set_option maxRecDepth 100000 in
set_option maxHeartbeats 8000000 in
theorem plays_any {W : World} {v : Value} {S : List OpD} (hS : OpsAt W v S) (hlen : S.length ≤ 2000000) (hi : Int) (h1 : 1 ≤ hi) (h6 : hi ≤ 6) :
    Calls Tryz.prog 9 #[v, .int .i64 hi] W fun e w' => e = .returned (.bool true) ∧ Chg (fun _ => False) W w' := by
  obtain ⟨p0, cap0, rfl⟩ := hS.val
  obtain ⟨V0, hV0⟩ : ∃ V0, V0 = W.alloc (.cells #[.slice none 0 0, .slice none 0 0, .slice none 0 0, .slice none 0 0, .slice none 0 0, .slice none 0 0, .slice none 0 0] 80) := ⟨_, rfl⟩
  have hst : Wx W V0 W.heap.size 0 0 := by rw [hV0]; exact Wx.start W
  have hbg := begins_any hst (by omega)
  go_enter Tryz.func9, Tryz.ntmps9
  go_wp2_with (go_at_call 25; rw [← hV0]; refine hbg.mono ?_; rintro _ w1 ⟨rfl, hx1⟩)
  clear hV0
  obtain ⟨wb, hwb⟩ : ∃ wb, wb = W.heap.size := ⟨_, rfl⟩
  rw [← hwb] at hx1 hst hbg
  rw [← hwb]
  clear hwb hst hbg
  go_loopw [6, 7, 8, 9, 10] (fun _ si _ _ _ wr => ∃ (i n N : Nat), si = .int .i64 i ∧ i ≤ S.length ∧ N ≤ i + 1 ∧ 0 < n ∧ Wx W wr wb n N) (fun _ si _ _ _ _ => S.length - (intOf si).toNat)
  case atStart => exact ⟨0, 1, 1, rfl, by omega, by omega, by omega, hx1⟩
  case round =>
    obtain ⟨i, n, N, rfl, hil, hNi, hn, hx⟩ := hrel
    obtain ⟨hnN, hor, p, c, hps⟩ := hx.ps
    by_cases hlt : i < S.length
    · have hlt' : (i : Int) < (S.length : Int) := by omega
      obtain ⟨x, hxi⟩ : ∃ x, S[i]? = some x := ⟨_, List.getElem?_eq_getElem hlt⟩
      obtain ⟨sb, so, cap, hv, hcell⟩ := hS.at_i i x hxi
      simp only [Value.slice.injEq] at hv
      obtain ⟨rfl, _, rfl⟩ := hv
      have hfx := hS.fits x (List.mem_of_getElem? hxi)
      obtain ⟨kd, on, ⟨xs, xe, xn, xk, xv⟩, key, num⟩ := x
      have hcl : ∀ j u, (OpD.cells ⟨kd, on, ⟨xs, xe, xn, xk, xv⟩, key, num⟩)[j]? = some u → wr.cell? ⟨sb, so + i * 9 + j, none⟩ = some u := fun j u hu => hor.cellAt (hcell j u hu) id
      have b0 := hcl 0 _ rfl
      have b1 := hcl 1 _ rfl
      have b2 := hcl 2 _ rfl
      have b3 := hcl 3 _ rfl
      have b4 := hcl 4 _ rfl
      have b5 := hcl 5 _ rfl
      have b6 := hcl 6 _ rfl
      have b7 := hcl 7 _ rfl
      have b8 := hcl 8 _ rfl
      simp only [Nat.add_zero] at b0
      clear hcl hcell
      obtain ⟨W1, hW1⟩ : ∃ W1, W1 = wr.alloc (.cells #[.int .i64 kd, .int .i64 on, .int .i64 xs, .int .i64 xe, .int .i64 xn, .string xk, .int .i64 xv, .string key, .int .i64 num] 82) := ⟨_, rfl⟩
      have c1 : Chg (fun _ => False) wr W1 := by rw [hW1]; exact (Chg.refl _ wr).alloc _
      have hx1' := hx.keep c1
      have ho : ∀ j u, (OpD.cells ⟨kd, on, ⟨xs, xe, xn, xk, xv⟩, key, num⟩)[j]? = some u → W1.cell? ⟨wr.heap.size, j, none⟩ = some u := by rw [hW1]; exact opd_new wr _
      by_cases hk1 : kd < 1
      · go_wp2_with fail
        rw [← hW1]
        exact ⟨⟨i + 1, n, N, by go_num, by omega, by omega, hn, hx1'⟩, by simp [intOf]; omega⟩
      · have hk1' : ¬ kd ≤ 0 := by omega
        by_cases hkh : hi < kd
        · go_wp2_with fail
          rw [← hW1]
          exact ⟨⟨i + 1, n, N, by go_num, by omega, by omega, hn, hx1'⟩, by simp [intOf]; omega⟩
        · have hal : ∀ (p : Addr) (v : Value), wr.cell? p = some v → ∀ ob, (wr.alloc ob).cell? p = some v := fun p v hv ob => (World.cell?_alloc_lt wr ob p (World.block_lt_of_cell? _ _ hv)).trans hv
          have a0 := hal _ _ hps
          have hpk : ∀ (w : World), Calls Tryz.prog 26 #[.int .i64 on, .int .i64 n] w fun e w' => e = .returned (.int .i64 (pickI on n)) ∧ w' = w := fun w => lpick_any on n w hfx.on (by omega) (by omega)
          obtain ⟨hr0, hr1⟩ := pickI_range (c := on) (n := (n : Int)) (by omega)
          obtain ⟨k, hk⟩ : ∃ k : Nat, pickI on n = (k : Int) := ⟨(pickI on n).toNat, by omega⟩
          rw [hk] at hr0 hr1 hpk
          have hkn : k < n := by omega
          have o0 := ho 0 _ rfl
          have o1 := ho 1 _ rfl
          have o2 := ho 2 _ rfl
          have o3 := ho 3 _ rfl
          have o4 := ho 4 _ rfl
          have o5 := ho 5 _ rfl
          have o6 := ho 6 _ rfl
          have o7 := ho 7 _ rfl
          have o8 := ho 8 _ rfl
          go_wp2_with fail
          rw [← hW1]
          have a0' : W1.cell? ⟨wb, 0, none⟩ = some (.slice p n c) := by rw [hW1]; exact a0 _
          clear hW1 ho
          go_quiet (first | (go_at_call 26; refine Calls.quiet_of_same (hpk _)))
          have c2 : Chg (fun _ => False) W1 (W1.drewN nq) := (Chg.refl _ W1).drewN' nq
          generalize W1.drewN nq = w2 at c2 ⊢
          have hx2 := hx1'.keep c2
          have e0 := c2.cellAt o0 id
          have e1 := c2.cellAt o1 id
          have e2 := c2.cellAt o2 id
          have e3 := c2.cellAt o3 id
          have e4 := c2.cellAt o4 id
          have e5 := c2.cellAt o5 id
          have e6 := c2.cellAt o6 id
          have e7 := c2.cellAt o7 id
          have e8 := c2.cellAt o8 id
          by_cases hk2 : kd = 1
          · subst hk2
            have hbg := begins_any hx2 (by omega)
            go_wp2_with (first | (go_at_call 25; refine hbg.mono ?_; rintro _ w3 ⟨rfl, hx3⟩; have hsl := still_any hx3 (by omega)) | (go_at_call 29; refine hsl.mono ?_; rintro _ w4 ⟨rfl, hx4⟩))
            exact ⟨⟨i + 1, n + 1, N + 1, by go_num, by omega, by omega, by omega, hx4⟩, by simp [intOf]; omega⟩
          · have hkl : kd ≤ 6 := by omega
            have htl := told_any hx2 (by omega) hkn ⟨kd, on, ⟨xs, xe, xn, xk, xv⟩, key, num⟩ hfx (by show 2 ≤ kd; omega) hkl
            unfold OpD.value at htl
            simp only at htl
            go_wp2_with (first | (go_at_call 27; refine htl.mono ?_; rintro _ w3 ⟨rfl, hx3⟩; have hsl := still_any hx3 (by omega)) | (go_at_call 29; refine hsl.mono ?_; rintro _ w4 ⟨rfl, hx4⟩))
            exact ⟨⟨i + 1, n, N + 1, by go_num, by omega, by omega, hn, hx4⟩, by simp [intOf]; omega⟩
    · have hlt' : ¬ (i : Int) < (S.length : Int) := by omega
      go_wp2_with fail
      go_ret
      exact ⟨rfl, hor⟩

end Go.Proofs.YthedkdbgfdjlkaaGreatDoor

/- A SCRIPT OF OPS AS AN ARGUMENT, OPENED; WHAT THE BOUND GIVES; THE HANDLE. -/
namespace Go.Proofs.YthedkdbgfdjlkaaGreatDoor
set_option linter.unusedVariables false
set_option linter.unusedSimpArgs false
open Go.ChangeShapes Go.WideShapes Go.ChangeAt Go.RowKit Go.Deep

theorem Tryz.ownKnob : ownKnob Tryz.prog.godebug = none := by kernel_rfl
theorem Tryz.laidOut : laidOutB Tryz.prog = true := by kernel_rfl
theorem Tryz.cellsOp : Tryz.prog.cellsOf 82 = 9 := by kernel_rfl
theorem Tryz.cellsRec : Tryz.prog.cellsOf 53 = 5 := by kernel_rfl
theorem Tryz.cellsInt : Tryz.prog.cellsOf 3 = 1 := by kernel_rfl
theorem Tryz.cellsStr : Tryz.prog.cellsOf 9 = 1 := by kernel_rfl

theorem wf_inInt {n : Int} (h : (Lit.int .i64 n).wf = true) : inInt n := by
  simpa [Lit.wf, IntKind.min, IntKind.max, IntKind.signed, IntKind.bits, inInt] using h

theorem len5 {α : Type} {l : List α} (h : l.length = 5) : ∃ a b c d e, l = [a, b, c, d, e] := by
  match l, h with
  | [a, b, c, d, e], _ => exact ⟨a, b, c, d, e, rfl⟩
theorem len9 {α : Type} {l : List α} (h : l.length = 9) : ∃ a b c d e f g i j, l = [a, b, c, d, e, f, g, i, j] := by
  match l, h with
  | [a, b, c, d, e, f, g, i, j], _ => exact ⟨a, b, c, d, e, f, g, i, j, rfl⟩

/-- What the bound gives. -/
theorem bulk_one {H : Type} (d : DataW H) : 1 ≤ Rows.uptoBulk d := by
  cases d with
  | lit l => cases l <;> simp [Rows.uptoBulk]
  | nil => simp [Rows.uptoBulk]
  | ptr d => simp [Rows.uptoBulk]
  | slice elems spare => simp [Rows.uptoBulk]
  | agg parts => simp [Rows.uptoBulk]
  | iface t d => simp [Rows.uptoBulk]
  | map entries => simp [Rows.uptoBulk]
  | held h => simp [Rows.uptoBulk]

theorem bulk_length {H : Type} (l : List (DataW H)) : l.length ≤ Rows.uptoBulkAll l := by
  induction l with
  | nil => simp [Rows.uptoBulkAll]
  | cons x r ih => have := bulk_one x; simp only [Rows.uptoBulkAll, List.length_cons]; omega

section
variable {H : Type} {enc : TypeId × Value → H} {W : World} {sp : Nat → Bool} {held : Bool} {base : Nat}

theorem open_rec {n : Nat} {cs : List Value} {y : DataW H × List MemPlace} (h : DataW.trod enc Tryz.prog W base sp held n 53 cs = some y) :
    ∃ x : Rec, cs = [.int .i64 x.session, .int .i64 x.epoch, .int .i64 x.number, .string x.key, .int .i64 x.value] ∧ x.fits := by
  obtain ⟨xs, k, _, _, hlen, hxl, hf⟩ := DataW.trod_struct Tryz.underlying53 h
  rw [Tryz.cellsRec] at hlen
  obtain ⟨y0, y1, y2, y3, y4, rfl⟩ := len5 hxl
  obtain ⟨c0, c1, c2, c3, c4, rfl⟩ := len5 hlen
  · clear hxl hlen h
    have g0 := hf 0 _ rfl
    have g1 := hf 1 _ rfl
    have g2 := hf 2 _ rfl
    have g3 := hf 3 _ rfl
    have g4 := hf 4 _ rfl
    simp [Tryz.cellsInt, Tryz.cellsStr] at g0 g1 g2 g3 g4
    obtain ⟨n0, e0, _, w0⟩ := DataW.trod_int Tryz.underlying3 g0
    obtain ⟨n1, e1, _, w1⟩ := DataW.trod_int Tryz.underlying3 g1
    obtain ⟨n2, e2, _, w2⟩ := DataW.trod_int Tryz.underlying3 g2
    obtain ⟨s3, e3, _, w3⟩ := DataW.trod_string Tryz.underlying9 g3
    obtain ⟨n4, e4, _, w4⟩ := DataW.trod_int Tryz.underlying3 g4
    simp at e0 e1 e2 e3 e4
    exact ⟨⟨n0, n1, n2, s3, n4⟩, by simp [e0, e1, e2, e3, e4], ⟨wf_inInt w0, wf_inInt w1, wf_inInt w2, wf_inInt w4, w3⟩⟩

theorem open_op {n : Nat} {cs : List Value} {y : DataW H × List MemPlace} (h : DataW.trod enc Tryz.prog W base sp held n 82 cs = some y) :
    ∃ x : OpD, cs = x.cells ∧ x.fits := by
  obtain ⟨xs, k, _, _, hlen, hxl, hf⟩ := DataW.trod_struct Tryz.underlying82 h
  rw [Tryz.cellsOp] at hlen
  obtain ⟨y0, y1, y2, y3, y4, rfl⟩ := len5 hxl
  obtain ⟨c0, c1, c2, c3, c4, c5, c6, c7, c8, rfl⟩ := len9 hlen
  · clear hxl hlen h
    have g0 := hf 0 _ rfl
    have g1 := hf 1 _ rfl
    have g2 := hf 2 _ rfl
    have g3 := hf 3 _ rfl
    have g4 := hf 4 _ rfl
    simp [Tryz.cellsInt, Tryz.cellsStr, Tryz.cellsRec] at g0 g1 g2 g3 g4
    obtain ⟨n0, e0, _, w0⟩ := DataW.trod_int Tryz.underlying3 g0
    obtain ⟨n1, e1, _, w1⟩ := DataW.trod_int Tryz.underlying3 g1
    obtain ⟨x, e2, hx⟩ := open_rec g2
    obtain ⟨s3, e3, _, w3⟩ := DataW.trod_string Tryz.underlying9 g3
    obtain ⟨n4, e4, _, w4⟩ := DataW.trod_int Tryz.underlying3 g4
    simp at e0 e1 e2 e3 e4
    exact ⟨⟨n0, n1, x, s3, n4⟩, by simp [OpD.cells, e0, e1, e2, e3, e4], ⟨wf_inInt w0, wf_inInt w1, hx, w3, wf_inInt w4⟩⟩

set_option maxRecDepth 100000 in
theorem open_ops {v : Value} {d : DataW H} {p : List MemPlace} (hv : Value.okWide Tryz.prog W .any base 22 v) (h : DataW.Trod enc Tryz.prog W 0 (fun _ => true) true 22 v d p) (hb : Rows.uptoBulk d ≤ 1048576) : ∃ S, OpsAt W v S ∧ S.length ≤ 2000000 := by
  obtain ⟨a0, len0, cap0, rfl⟩ := okWide_slice Tryz.underlying22 hv
  obtain ⟨fuel, hf⟩ := h
  rcases open_slice Tryz.underlying22 hf with ⟨hc, _⟩ | ⟨a, len, cap, m, n, D, Pl, hcs, _, hl, hm, hmm, hdp, hall⟩
  · simp [Value.cells] at hc
    obtain ⟨rfl, rfl, rfl⟩ := hc
    exact ⟨[], ⟨⟨none, 0, rfl⟩, fun i x hx => by simp at hx, by simp⟩, by simp⟩
  · simp [Value.cells] at hcs
    obtain ⟨rfl, rfl, rfl⟩ := hcs
    simp only [if_true] at hmm
    subst hmm
    have hlen : len0 ≤ 2000000 := by
      have hd := (Prod.mk.inj hdp).1
      rw [hd] at hb
      simp only [Rows.uptoBulk] at hb
      have h1 := bulk_length ((List.range len0).map D)
      simp only [List.length_map, List.length_range] at h1
      omega
    rw [Tryz.cellsOp] at hall
    have each : ∀ i, i < m → ∃ x : OpD, (∀ j u, x.cells[j]? = some u → W.cell? (a.add (i * 9 + j)) = some u) ∧ x.fits := fun i hi => by
      obtain ⟨cs', h1, h2⟩ := hall i hi
      obtain ⟨x, rfl, hx⟩ := open_op h2
      obtain ⟨_, _, hcell⟩ := World.cells?_some h1
      refine ⟨x, fun j u hu => ?_, hx⟩
      have hj : j < 9 := by
        have := (List.getElem?_eq_some_iff.1 hu).1
        simpa [OpD.cells] using this
      have := hcell j hj
      rw [add_add] at this
      rw [this]; exact hu
    obtain ⟨f, hfx⟩ := @choose_lt OpD ⟨⟨0, 0, ⟨0, 0, 0, ⟨#[]⟩, 0⟩, ⟨#[]⟩, 0⟩⟩ _ _ each
    refine ⟨(List.range len0).map f, ⟨⟨some a, m, by simp⟩, fun i x hx => ?_, fun x hx => ?_⟩, by simpa using hlen⟩
    · have hi : i < len0 := by
        have := (List.getElem?_eq_some_iff.1 hx).1
        simpa using this
      have hxe : f i = x := by
        rw [List.getElem?_map, List.getElem?_range hi] at hx
        simpa using hx
      subst hxe
      obtain ⟨sb, so, spot⟩ := a
      have hspot : spot = none := by
        have := World.cell?_spot ((hfx 0 (by omega)).1 0 _ rfl)
        simpa [Addr.add] using this
      subst hspot
      refine ⟨sb, so, m, by simp, fun j u hu => ?_⟩
      have := (hfx i (by omega)).1 j u hu
      rw [add_lit'] at this
      rw [show so + i * 9 + j = so + (i * 9 + j) by omega]
      exact this
    · obtain ⟨i, hi, rfl⟩ := List.mem_map.1 hx
      exact (hfx i (by have := List.mem_range.1 hi; omega)).2

end
end Go.Proofs.YthedkdbgfdjlkaaGreatDoor
