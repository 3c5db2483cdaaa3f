import Derived.Test.YthedkdbgfdjlkaaGreatDoorCards
import Derived.Test.YthedkdbgfdjlkaaGreatDoorTie
import Derived.Deep.DeepHandedRow
import Derived.SevenTiedAt
import Derived.SizedLaws
import Derived.Test.YthedkdbgfdjlkaaGreatDoorPack1
import Derived.Test.YthedkdbgfdjlkaaGreatDoorPack2
import Derived.Test.YthedkdbgfdjlkaaGreatDoorPack3
import Derived.Test.YthedkdbgfdjlkaaGreatDoorPack4
import Derived.Test.YthedkdbgfdjlkaaGreatDoorPack5
import Derived.Test.YthedkdbgfdjlkaaGreatDoorPack6
import Derived.Test.YthedkdbgfdjlkaaGreatDoorPack7
import Derived.Test.YthedkdbgfdjlkaaGreatDoorPack8
import Derived.Test.YthedkdbgfdjlkaaGreatDoorPack9
import Derived.Test.YthedkdbgfdjlkaaGreatDoorPack10
import Derived.Test.YthedkdbgfdjlkaaGreatDoorPack11
/- Cut HOLDS, for every input: the card. -/
namespace Go.Proofs.YthedkdbgfdjlkaaGreatDoor
set_option linter.unusedVariables false
set_option linter.unusedSimpArgs false
open Go.ChangeShapes Go.WideShapes Go.ChangeAt Go.RowKit Go.Deep Go.ChangeMaps

/-- A world for the witness: the variable's cell laid. -/
noncomputable def cutWorld (os : Os) : World :=
  let w0 := World.holding Tryz.prog os ⟨#[], #[], []⟩
  { w0 with heap := w0.heap.modify 0 fun
      | .cells _ t frozen => .cells #[.iface 236 (.agg #[.pointer (some ⟨2, 115, none⟩)])] t frozen
      | o => o }
theorem cutWorld_met (os : Os) (args : Array Value) : laidMetH Tryz.prog Rows.cutRow.laid ((cutWorld os).forCall (fun _ _ => 0) ⟨#[], args, []⟩).memory :=
  laidMetH_of_parts (laidMet_nil _ _) (by kernel_rfl)
def cutArgs : Array Value := #[.slice none 0 0, .int .i64 0, .int .i64 0]

theorem cut_reads (os : Os) {H : Type} (enc : TypeId × Value → H) : ∃ places, DataW.whole enc Tryz.prog ((cutWorld os).forCall (fun _ _ => 0) ⟨#[], cutArgs, []⟩).memory Tryz.f6.params.toList Rows.cutSpec.vars false cutArgs.toList 8 = some ([.nil, .lit (.int .i64 0), .lit (.int .i64 0)], [], places) :=
  ⟨[], by kernel_rfl⟩

set_option maxRecDepth 100000 in
theorem cut_lifted (os : Os) (started : os.Started) (H : Type) (enc : TypeId × Value → H) (F : Stop.Interp) :
    ReturnsInHanded {} Tryz.checked os 6 .any ((OpenSpec.ofChange Rows.cutSpec).preRow enc Tryz.prog Tryz.f6 Rows.cutRow.domain false Rows.cutRow.laid) (((OpenSpec.ofChange Rows.cutSpec).at F).post enc Tryz.prog Tryz.f6 false true false false) := by
  obtain ⟨places, hx⟩ := cut_reads os enc
  refine returnsInHanded_of_row (C := Tryz.checked) (s := OpenSpec.ofChange Rows.cutSpec) Tryz.ownKnobK started (by kernel_rfl) Tryz.func6
    (witness_row_at (enc := enc) (C := Tryz.checked) false (cutWorld os) cutArgs rfl (by kernel_rfl) (by kernel_rfl) (by kernel_rfl)
      (OpenSpec.preRow_of_cond 8 hx (by kernel_rfl) (fun k hk => by cases hk) (by kernel_rfl) (cutWorld_met os _))) ?_
  intro W base args ds gs before hval0 hW _ _ hsz hlaid _ _
  have hval : ∀ (j : Nat) t v, Tryz.f6.params[j]? = some t → args[j]? = some v → Value.okWide Tryz.prog W .any base t v := hval0
  have hg : HandleAt W := handle_of_laid hlaid
  have hW' := hW
  obtain ⟨p, q, hA0, hV, rfl, hfz, hnd⟩ := hW
  have hA : DataW.TrodAll enc Tryz.prog W 0 (fun _ => true) true Tryz.f6.params.toList args.toList ds p := hA0
  rw [Tryz.params6] at hA hval
  obtain ⟨v0, v1, v2, d0, d1, d2, p0, p1, p2, rfl, rfl, rfl, h0, h1, h2⟩ := trodAll_three hA
  obtain ⟨rfl, rfl⟩ := trodVars_none hV
  have hw0 : ∀ n ∈ DataW.weights Tryz.prog 25 d0, n ≤ reachBytes := fun n hn => by
    rw [List.all_eq_true] at hsz
    refine of_decide_eq_true (hsz n ?_)
    have hp : Tryz.f6.params = _ := Tryz.params6
    rw [hp]
    simp only [List.cons_append, List.nil_append, DataW.weightsEach]
    exact List.mem_append_left _ hn
  obtain ⟨L, hL, _⟩ := kopen_script (hval 0 25 v0 rfl rfl) h0 hw0
  obtain ⟨n1, rfl, rfl, rfl, w1⟩ := open_int Tryz.underlying3 (hval 1 3 v1 rfl rfl) h1
  obtain ⟨n2, rfl, rfl, rfl, w2⟩ := open_int Tryz.underlying3 (hval 2 3 v2 rfl rfl) h2
  clear hA0 hval0
  simp only [List.append_nil] at hW'
  have hlt : ∀ x ∈ p0, x.block < W.heap.size := fun x hx => by simpa using hW'.lt x (by simpa using hx)
  refine (cut_any hg hL n1 n2 (wf_inIntK w1) (wf_inIntK w2)).mono fun e W' ⟨he, hc⟩ => ?_
  subst he
  have hbelow : Below W.heap.size W W' := hc.below (Nat.le_refl _) (fun _ h => h.elim)
  have hargs := trodAll_mk3 (Below.trod Tryz.laidOutK (by kernel_rfl) (of_decide_eq_true (by kernel_rfl)) h0 hbelow hlt) (shut_int Tryz.underlying3 w1) (shut_int Tryz.underlying3 w2)
  simp only [List.append_nil, List.nil_append] at hargs hW'
  refine ⟨_, rfl, _, [], _, [], p0, [], hW', trodAll_mk1 (shut_bool Tryz.underlying4 true), hargs, rfl, World.keptBut_mono (fun x hx => ?_) (hbelow.frame (fun x => x ∈ p0)), fun h => by cases h⟩
  exact ⟨by simpa using hx, Or.inr (Or.inl hx)⟩

theorem cut_said : Rows.CutSaid :=
  OpenClaim.holds_of_cond 6 Tryz.f6 rfl rfl rfl rfl rfl rfl rfl ⟨rfl, rfl, rfl, rfl, rfl⟩ rfl rfl rfl rfl rfl (by kernel_rfl) Tryz.func6 (by kernel_rfl)
    (of_decide_eq_true (by kernel_rfl)) (by unfold Func.isWrapper; first | (rw [if_pos (by decide +kernel)]; kernel_rfl) | (rw [if_neg (by decide +kernel)]; exact ⟨rfl, rfl⟩))
    (fun os started H enc _ F => by rw [OpenClaim.pre_eq_preRow]; exact cut_lifted os started H enc F)

theorem cut_plain (f : FuncId) (fn : Func) (hf : Tryz.pinned.checked.prog.funcNamed "culvert/culvertkeep.Cut" = some f) (hfn : Tryz.pinned.checked.prog.funcs[f]? = some fn) :
    true = Tryz.pinned.checked.prog.looks [] ∧ ∀ (j : Nat) t, fn.params[j]? = some t → Tryz.pinned.checked.prog.wantsStandIn t = false := by
  obtain rfl : f = 6 := Option.some.inj ((show Tryz.prog.funcNamed "culvert/culvertkeep.Cut" = some 6 by kernel_rfl).symm.trans hf) |>.symm
  obtain rfl : fn = Tryz.f6 := (Option.some.inj (Tryz.func6.symm.trans hfn)).symm
  refine ⟨by kernel_rfl, fun j t ht => ?_⟩
  rw [Tryz.params6] at ht
  have hm := Array.mem_of_getElem? ht
  simp only [List.mem_toArray, List.mem_cons, List.not_mem_nil, or_false] at hm
  rcases hm with rfl | rfl | rfl
  · exact (show Tryz.prog.wantsStandIn 25 = false by kernel_rfl)
  · exact (show Tryz.prog.wantsStandIn 3 = false by kernel_rfl)
  · exact (show Tryz.prog.wantsStandIn 3 = false by kernel_rfl)

/-- The statement. -/
theorem cut_card : Rows.CutCardSaid :=
  Claim7.holds_tied_plain_at .later [] _ _ _ _ cut_said (fun _ h => by cases h) (by kernel_rfl) (fun _ h => by cases h) cut_row_tie rfl ⟨rfl, rfl⟩ (by kernel_rfl) rfl cut_plain (by kernel_rfl)
#print axioms cut_card
end Go.Proofs.YthedkdbgfdjlkaaGreatDoor
