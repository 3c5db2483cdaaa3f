import Derived.Test.YthedkdbgfdjlkaaGreatPack1
import Derived.Test.YthedkdbgfdjlkaaGreatPack2
import Derived.Test.YthedkdbgfdjlkaaGreatPack3
import Derived.Test.YthedkdbgfdjlkaaGreatPack4
import Derived.Test.YthedkdbgfdjlkaaGreatPack5
import Derived.Test.YthedkdbgfdjlkaaGreatPack6
import Derived.Test.YthedkdbgfdjlkaaGreatPack7
import Derived.Test.YthedkdbgfdjlkaaGreatPack8
import Derived.Test.YthedkdbgfdjlkaaGreatPack9
/- Passed HOLDS. -/
namespace Go.Proofs.YthedkdbgfdjlkaaGreat
set_option linter.unusedVariables false
set_option linter.unusedSimpArgs false
open Go.ChangeShapes Go.WideShapes Go.ChangeAt Go.RowKit Go.Deep

set_option maxRecDepth 100000 in
theorem passed_lifted (os : Os) (started : os.Started) (H : Type) (enc : TypeId × Value → H) :
    ReturnsInHanded {} Tryz.checked os 6 .any (Rows.passedSpec.pre6 enc Tryz.prog Tryz.f6 Rows.passedRow.domain false) (Rows.passedSpec.post enc Tryz.prog Tryz.f6 false true false false) := by
  refine returnsInHanded_of_change (C := Tryz.checked) Tryz.ownKnob started (by kernel_rfl) Tryz.func6
    (ChangeSpec.witness6 (enc := enc) (C := Tryz.checked) false ⟨#[], #[.slice none 0 0, .slice none 0 0], []⟩ 8 (by kernel_rfl) (by kernel_rfl) (by kernel_rfl) (by kernel_rfl)) ?_
  intro W base args ds gs before hval0 hW hcnd _
  have hval : ∀ (j : Nat) t v, Tryz.f6.params[j]? = some t → args[j]? = some v → Value.okWide Tryz.prog W .any base t v := hval0
  have hW' := hW
  obtain ⟨p, q, hA0, hV, rfl, hfz, hnd⟩ := hW
  have hA : DataW.TrodAll enc Tryz.prog W 0 (fun _ => true) true Tryz.f6.params.toList args.toList ds p := hA0
  rw [Tryz.params6] at hA hval
  obtain ⟨v0, v1, d0, d1, p0, p1, rfl, rfl, rfl, h0, h1⟩ := trodAll_two hA
  obtain ⟨rfl, rfl⟩ := trodVars_none hV
  obtain ⟨L, hL⟩ := open_sents (hval 0 22 v0 rfl rfl) h0
  obtain ⟨P, hP⟩ := open_ints (hval 1 23 v1 rfl rfl) h1
  clear hA0 hval0
  simp only [List.append_nil] at hW'
  have hlt : ∀ x ∈ p0 ++ p1, x.block < W.heap.size := fun x hx => by simpa using hW'.lt x (by simpa using hx)
  refine (passed_walk apiN.zero (ApiSN.zero apiN apiSN) W v0 v1 L P hL hP).mono fun e W' ⟨he, hg⟩ => ?_
  subst he
  have hbelow : Below W.heap.size W W' := hg.below (Nat.le_refl _) (fun _ h => h.elim)
  have hargs := trodAll_mk2 (Below.trod Tryz.laidOut (by kernel_rfl) (of_decide_eq_true (by kernel_rfl)) h0 hbelow (fun x hx => hlt x (List.mem_append_left _ hx))) (Below.trod Tryz.laidOut (by kernel_rfl) (of_decide_eq_true (by kernel_rfl)) h1 hbelow (fun x hx => hlt x (List.mem_append_right _ hx)))
  refine ⟨_, rfl, _, [], _, [], p0 ++ p1, [], hW', trodAll_mk1 (shut_bool Tryz.underlying4 true), hargs, rfl, World.keptBut_mono (fun x hx => ?_) (hbelow.frame (fun x => x ∈ p0 ++ p1)), fun h => by cases h⟩
  exact ⟨by simpa using hx, Or.inr (Or.inl hx)⟩

theorem passed_over : Rows.passedRow.holds Tryz.pinned (OpenSpec.ofChange Rows.passedSpec) :=
  OpenClaim.holds_of_wide 6 Tryz.f6 rfl rfl rfl rfl rfl rfl rfl ⟨rfl, rfl, rfl, rfl, rfl⟩ rfl rfl rfl rfl rfl (by kernel_rfl) Tryz.func6 (by kernel_rfl)
    (of_decide_eq_true (by kernel_rfl)) (by unfold Func.isWrapper; first | (rw [if_pos (by decide +kernel)]; kernel_rfl) | (rw [if_neg (by decide +kernel)]; exact ⟨rfl, rfl⟩))
    (fun os started H enc _ => passed_lifted os started H enc)

/-- The statement. -/
theorem passed_holds : Rows.PassedSaid := passed_over
#print axioms passed_holds
end Go.Proofs.YthedkdbgfdjlkaaGreat
