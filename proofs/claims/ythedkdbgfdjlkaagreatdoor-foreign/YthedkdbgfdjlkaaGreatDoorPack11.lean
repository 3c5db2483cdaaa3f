import Derived.Test.YthedkdbgfdjlkaaGreatDoorCards
import Derived.Test.YthedkdbgfdjlkaaGreatDoorTie
import Derived.Deep.DeepHandedRow
import Derived.SevenTiedAt
import Derived.SizedLaws
import Derived.Test.YthedkdbgfdjlkaaGreatDoorPack1
import Derived.Test.YthedkdbgfdjlkaaGreatDoorPack2
import Derived.Test.YthedkdbgfdjlkaaGreatDoorPack3
import Derived.Test.YthedkdbgfdjlkaaGreatDoorPack4
import Derived.Test.YthedkdbgfdjlkaaGreatDoorPack5
import Derived.Test.YthedkdbgfdjlkaaGreatDoorPack6
import Derived.Test.YthedkdbgfdjlkaaGreatDoorPack7
import Derived.Test.YthedkdbgfdjlkaaGreatDoorPack8
import Derived.Test.YthedkdbgfdjlkaaGreatDoorPack9
import Derived.Test.YthedkdbgfdjlkaaGreatDoorPack10
/- Foreign HOLDS, for every input: the card. -/
namespace Go.Proofs.YthedkdbgfdjlkaaGreatDoor
set_option linter.unusedVariables false
set_option linter.unusedSimpArgs false
open Go.ChangeShapes Go.WideShapes Go.ChangeAt Go.RowKit Go.Deep Go.ChangeMaps

/-- A world for the witness: the variable's cell laid. -/
noncomputable def foreignWorld (os : Os) : World :=
  let w0 := World.holding Tryz.prog os ⟨#[], #[], []⟩
  { w0 with heap := w0.heap.modify 0 fun
      | .cells _ t frozen => .cells #[.iface 236 (.agg #[.pointer (some ⟨2, 115, none⟩)])] t frozen
      | o => o }
theorem foreignWorld_met (os : Os) (args : Array Value) : laidMetH Tryz.prog Rows.foreignRow.laid ((foreignWorld os).forCall (fun _ _ => 0) ⟨#[], args, []⟩).memory :=
  laidMetH_of_parts (laidMet_nil _ _) (by kernel_rfl)

def foreignArgs : Array Value := #[.string ⟨#[]⟩, .agg #[.int .i64 0, .int .i64 0, .int .i64 0, .string ⟨#[]⟩, .int .i64 0], .string ⟨#[]⟩, .int .i64 0]

theorem foreign_reads (os : Os) {H : Type} (enc : TypeId × Value → H) : ∃ places, DataW.whole enc Tryz.prog ((foreignWorld os).forCall (fun _ _ => 0) ⟨#[], foreignArgs, []⟩).memory Tryz.f8.params.toList Rows.foreignSpec.vars false foreignArgs.toList 8 = some ([.lit (.string []), .agg [.lit (.int .i64 0), .lit (.int .i64 0), .lit (.int .i64 0), .lit (.string []), .lit (.int .i64 0)], .lit (.string []), .lit (.int .i64 0)], [], places) :=
  ⟨[], by kernel_rfl⟩

set_option maxRecDepth 100000 in
theorem foreign_lifted (os : Os) (started : os.Started) (H : Type) (enc : TypeId × Value → H) (F : Stop.Interp) :
    ReturnsInHanded {} Tryz.checked os 8 .any ((OpenSpec.ofChange Rows.foreignSpec).preRow enc Tryz.prog Tryz.f8 Rows.foreignRow.domain false Rows.foreignRow.laid) (((OpenSpec.ofChange Rows.foreignSpec).at F).post enc Tryz.prog Tryz.f8 false true false false) := by
  obtain ⟨places, hx⟩ := foreign_reads os enc
  refine returnsInHanded_of_row (C := Tryz.checked) (s := OpenSpec.ofChange Rows.foreignSpec) Tryz.ownKnobK started (by kernel_rfl) Tryz.func8
    (witness_row_at (enc := enc) (C := Tryz.checked) false (foreignWorld os) foreignArgs rfl (by kernel_rfl) (by kernel_rfl) (by kernel_rfl)
      (OpenSpec.preRow_of_cond 8 hx (by kernel_rfl) (fun k hk => by cases hk) (by kernel_rfl) (foreignWorld_met os _))) ?_
  intro W base args ds gs before hval0 hW _ _ hsz hlaid _ _
  have hval : ∀ (j : Nat) t v, Tryz.f8.params[j]? = some t → args[j]? = some v → Value.okWide Tryz.prog W .any base t v := hval0
  have hg : HandleAt W := handle_of_laid hlaid
  have hW' := hW
  obtain ⟨p, q, hA0, hV, rfl, hfz, hnd⟩ := hW
  have hA : DataW.TrodAll enc Tryz.prog W 0 (fun _ => true) true Tryz.f8.params.toList args.toList ds p := hA0
  rw [Tryz.params8] at hA hval
  obtain ⟨v0, v1, v2, v3, d0, d1, d2, d3, p0, p1, p2, p3, rfl, rfl, rfl, h0, h1, h2, h3⟩ := trodAll_four hA
  obtain ⟨rfl, rfl⟩ := trodVars_none hV
  obtain ⟨row, rfl, rfl, rfl, w0⟩ := open_string Tryz.underlying9 (hval 0 9 v0 rfl rfl) h0
  obtain ⟨x, rfl, hx1⟩ := kopen_record (hval 1 53 v1 rfl rfl) h1
  obtain ⟨key, rfl, rfl, rfl, w2⟩ := open_string Tryz.underlying9 (hval 2 9 v2 rfl rfl) h2
  obtain ⟨n3, rfl, rfl, rfl, w3⟩ := open_int Tryz.underlying3 (hval 3 3 v3 rfl rfl) h3
  clear hA0 hval0
  simp only [List.append_nil] at hW'
  have hrow : row.size ≤ 140737488351232 := by
    have hp : Tryz.f8.params = _ := Tryz.params8
    rw [hp] at hsz
    have h := sized_string hsz (j := 0) rfl rfl
    rw [Array.length_toList] at h
    exact h
  have hlt : ∀ x ∈ p1, x.block < W.heap.size := fun x hx => by simpa using hW'.lt x (by simpa using hx)
  refine (foreign_any hg row hrow x hx1 key w2 n3 (wf_inIntK w3)).mono fun e W' ⟨he, hc⟩ => ?_
  subst he
  have hbelow : Below W.heap.size W W' := hc.below (Nat.le_refl _) (fun _ h => h.elim)
  have hargs := trodAll_mk4 (shut_string (w := W') (base := 0) (sp := fun b => decide (b < W.heap.size)) (held := true) (enc := enc) Tryz.underlying9 w0) (Below.trod Tryz.laidOutK (by kernel_rfl) (of_decide_eq_true (by kernel_rfl)) h1 hbelow hlt) (shut_string Tryz.underlying9 w2) (shut_int Tryz.underlying3 w3)
  simp only [List.append_nil, List.nil_append] at hargs hW'
  refine ⟨_, rfl, _, [], _, [], p1, [], hW', trodAll_mk1 (shut_bool Tryz.underlying4 true), hargs, rfl, World.keptBut_mono (fun x hx => ?_) (hbelow.frame (fun x => x ∈ p1)), fun h => by cases h⟩
  exact ⟨by simpa using hx, Or.inr (Or.inl hx)⟩

theorem foreign_said : Rows.ForeignSaid :=
  OpenClaim.holds_of_cond 8 Tryz.f8 rfl rfl rfl rfl rfl rfl rfl ⟨rfl, rfl, rfl, rfl, rfl⟩ rfl rfl rfl rfl rfl (by kernel_rfl) Tryz.func8 (by kernel_rfl)
    (of_decide_eq_true (by kernel_rfl)) (by unfold Func.isWrapper; first | (rw [if_pos (by decide +kernel)]; kernel_rfl) | (rw [if_neg (by decide +kernel)]; exact ⟨rfl, rfl⟩))
    (fun os started H enc _ F => by rw [OpenClaim.pre_eq_preRow]; exact foreign_lifted os started H enc F)

theorem foreign_plain (f : FuncId) (fn : Func) (hf : Tryz.pinned.checked.prog.funcNamed "culvert/culvertkeep.Foreign" = some f) (hfn : Tryz.pinned.checked.prog.funcs[f]? = some fn) :
    true = Tryz.pinned.checked.prog.looks [] ∧ ∀ (j : Nat) t, fn.params[j]? = some t → Tryz.pinned.checked.prog.wantsStandIn t = false := by
  obtain rfl : f = 8 := Option.some.inj ((show Tryz.prog.funcNamed "culvert/culvertkeep.Foreign" = some 8 by kernel_rfl).symm.trans hf) |>.symm
  obtain rfl : fn = Tryz.f8 := (Option.some.inj (Tryz.func8.symm.trans hfn)).symm
  refine ⟨by kernel_rfl, fun j t ht => ?_⟩
  rw [Tryz.params8] at ht
  have hm := Array.mem_of_getElem? ht
  simp only [List.mem_toArray, List.mem_cons, List.not_mem_nil, or_false] at hm
  rcases hm with rfl | rfl | rfl | rfl
  · exact (show Tryz.prog.wantsStandIn 9 = false by kernel_rfl)
  · exact (show Tryz.prog.wantsStandIn 53 = false by kernel_rfl)
  · exact (show Tryz.prog.wantsStandIn 9 = false by kernel_rfl)
  · exact (show Tryz.prog.wantsStandIn 3 = false by kernel_rfl)

/-- The statement. -/
theorem foreign_card : Rows.ForeignCardSaid :=
  Claim7.holds_tied_plain_at .later [] _ _ _ _ foreign_said (fun _ h => by cases h) (by kernel_rfl) (fun _ h => by cases h) foreign_row_tie rfl ⟨rfl, rfl⟩ (by kernel_rfl) rfl foreign_plain (by kernel_rfl)
#print axioms foreign_card
end Go.Proofs.YthedkdbgfdjlkaaGreatDoor
