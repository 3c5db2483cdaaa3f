import Derived.Test.YthedkdbgfdjlkaaGreatDoorCards
import Derived.Test.YthedkdbgfdjlkaaGreatDoorTie
import Derived.Deep.DeepHandedRow
import Derived.SevenTiedAt
import Derived.SizedLaws
import Derived.Test.YthedkdbgfdjlkaaGreatDoorPack1
import Derived.Test.YthedkdbgfdjlkaaGreatDoorPack2
import Derived.Test.YthedkdbgfdjlkaaGreatDoorPack3
import Derived.Test.YthedkdbgfdjlkaaGreatDoorPack4
import Derived.Test.YthedkdbgfdjlkaaGreatDoorPack5
import Derived.Test.YthedkdbgfdjlkaaGreatDoorPack6
import Derived.Test.YthedkdbgfdjlkaaGreatDoorPack7
import Derived.Test.YthedkdbgfdjlkaaGreatDoorPack8
import Derived.Test.YthedkdbgfdjlkaaGreatDoorPack9
import Derived.Test.YthedkdbgfdjlkaaGreatDoorPack10
/- Small HOLDS, for every input: the card. -/
namespace Go.Proofs.YthedkdbgfdjlkaaGreatDoor
set_option linter.unusedVariables false
set_option linter.unusedSimpArgs false
open Go.ChangeShapes Go.WideShapes Go.ChangeAt Go.RowKit Go.Deep

/-- A world for the witness: the variable's cell laid. -/
noncomputable def smallWorld (os : Os) : World :=
  let w0 := World.holding Tryz.prog os ⟨#[], #[], []⟩
  { w0 with heap := w0.heap.modify 0 fun
      | .cells _ t frozen => .cells #[.iface 236 (.agg #[.pointer (some ⟨2, 115, none⟩)])] t frozen
      | o => o }
theorem smallWorld_met (os : Os) (args : Array Value) : laidMetH Tryz.prog Rows.smallRow.laid ((smallWorld os).forCall (fun _ _ => 0) ⟨#[], args, []⟩).memory :=
  laidMetH_of_parts (laidMet_nil _ _) (by kernel_rfl)
theorem small_reads (os : Os) {H : Type} (enc : TypeId × Value → H) : ∃ places, DataW.whole enc Tryz.prog ((smallWorld os).forCall (fun _ _ => 0) ⟨#[], #[.slice none 0 0], []⟩).memory Tryz.f7.params.toList Rows.smallSpec.vars false #[Value.slice none 0 0].toList 8 = some ([.nil], [], places) :=
  ⟨[], by kernel_rfl⟩

set_option maxRecDepth 100000 in
theorem small_lifted (os : Os) (started : os.Started) (H : Type) (enc : TypeId × Value → H) (F : Stop.Interp) :
    ReturnsInHanded {} Tryz.checked os 7 .any ((OpenSpec.ofChange Rows.smallSpec).preRow enc Tryz.prog Tryz.f7 Rows.smallRow.domain false Rows.smallRow.laid) (((OpenSpec.ofChange Rows.smallSpec).at F).post enc Tryz.prog Tryz.f7 false true false false) := by
  obtain ⟨places, hx⟩ := small_reads os enc
  refine returnsInHanded_of_row (C := Tryz.checked) (s := OpenSpec.ofChange Rows.smallSpec) Tryz.ownKnobK started (by kernel_rfl) Tryz.func7
    (witness_row_at (enc := enc) (C := Tryz.checked) false (smallWorld os) #[.slice none 0 0] rfl (by kernel_rfl) (by kernel_rfl) (by kernel_rfl)
      (OpenSpec.preRow_of_cond 8 hx (by kernel_rfl) (fun k hk => by cases hk) (by kernel_rfl) (smallWorld_met os _))) ?_
  intro W base args ds gs before hval0 hW _ _ hsz hlaid _ _
  have hval : ∀ (j : Nat) t v, Tryz.f7.params[j]? = some t → args[j]? = some v → Value.okWide Tryz.prog W .any base t v := hval0
  have hg : HandleAt W := handle_of_laid hlaid
  have hW' := hW
  obtain ⟨p, q, hA0, hV, rfl, hfz, hnd⟩ := hW
  have hA : DataW.TrodAll enc Tryz.prog W 0 (fun _ => true) true Tryz.f7.params.toList args.toList ds p := hA0
  rw [Tryz.params7] at hA hval
  obtain ⟨v0, d0, rfl, rfl, h0⟩ := trodAll_one hA
  obtain ⟨rfl, rfl⟩ := trodVars_none hV
  have hw0 : ∀ n ∈ DataW.weights Tryz.prog 25 d0, n ≤ reachBytes := fun n hn => by
    rw [List.all_eq_true] at hsz
    refine of_decide_eq_true (hsz n ?_)
    have hp : Tryz.f7.params = _ := Tryz.params7
    rw [hp]
    simp only [List.cons_append, List.nil_append, DataW.weightsEach]
    exact List.mem_append_left _ hn
  obtain ⟨L, hL, _⟩ := kopen_script (hval 0 25 v0 rfl rfl) h0 hw0
  clear hA0 hval0
  simp only [List.append_nil] at hW'
  have hlt : ∀ x ∈ p, x.block < W.heap.size := fun x hx => by simpa using hW'.lt x (by simpa using hx)
  refine (small_any hg hL).mono fun e W' ⟨he, hc⟩ => ?_
  subst he
  have hbelow : Below W.heap.size W W' := hc.below (Nat.le_refl _) (fun _ h => h.elim)
  have hargs := trodAll_mk1 (Below.trod Tryz.laidOutK (by kernel_rfl) (of_decide_eq_true (by kernel_rfl)) h0 hbelow hlt)
  refine ⟨_, rfl, _, [], _, [], p, [], hW', trodAll_mk1 (shut_bool Tryz.underlying4 true), hargs, rfl, World.keptBut_mono (fun x hx => ?_) (hbelow.frame (fun x => x ∈ p)), fun h => by cases h⟩
  exact ⟨by simpa using hx, Or.inr (Or.inl hx)⟩

theorem small_said : Rows.SmallSaid :=
  OpenClaim.holds_of_cond 7 Tryz.f7 rfl rfl rfl rfl rfl rfl rfl ⟨rfl, rfl, rfl, rfl, rfl⟩ rfl rfl rfl rfl rfl (by kernel_rfl) Tryz.func7 (by kernel_rfl)
    (of_decide_eq_true (by kernel_rfl)) (by unfold Func.isWrapper; first | (rw [if_pos (by decide +kernel)]; kernel_rfl) | (rw [if_neg (by decide +kernel)]; exact ⟨rfl, rfl⟩))
    (fun os started H enc _ F => by rw [OpenClaim.pre_eq_preRow]; exact small_lifted os started H enc F)

theorem small_plain (f : FuncId) (fn : Func) (hf : Tryz.pinned.checked.prog.funcNamed "culvert/culvertkeep.Small" = some f) (hfn : Tryz.pinned.checked.prog.funcs[f]? = some fn) :
    true = Tryz.pinned.checked.prog.looks [] ∧ ∀ (j : Nat) t, fn.params[j]? = some t → Tryz.pinned.checked.prog.wantsStandIn t = false := by
  obtain rfl : f = 7 := Option.some.inj ((show Tryz.prog.funcNamed "culvert/culvertkeep.Small" = some 7 by kernel_rfl).symm.trans hf) |>.symm
  obtain rfl : fn = Tryz.f7 := (Option.some.inj (Tryz.func7.symm.trans hfn)).symm
  refine ⟨by kernel_rfl, fun j t ht => ?_⟩
  rw [Tryz.params7] at ht
  obtain rfl : t = 25 := by simpa using Array.mem_of_getElem? ht
  exact (show Tryz.prog.wantsStandIn 25 = false by kernel_rfl)

/-- The statement. -/
theorem small_card : Rows.SmallCardSaid :=
  Claim7.holds_tied_plain_at .later [] _ _ _ _ small_said (fun _ h => by cases h) (by kernel_rfl) (fun _ h => by cases h) small_row_tie rfl ⟨rfl, rfl⟩ (by kernel_rfl) rfl small_plain (by kernel_rfl)
#print axioms small_card
end Go.Proofs.YthedkdbgfdjlkaaGreatDoor
