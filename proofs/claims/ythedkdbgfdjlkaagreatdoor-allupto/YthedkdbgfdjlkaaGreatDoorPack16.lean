import Derived.Test.YthedkdbgfdjlkaaGreatDoorRows
import Derived.LaidLaws
import Derived.LaidHandle
import Derived.Test.YthedkdbgfdjlkaaGreatDoorPack1
import Derived.Test.YthedkdbgfdjlkaaGreatDoorPack2
import Derived.Test.YthedkdbgfdjlkaaGreatDoorPack3
import Derived.Test.YthedkdbgfdjlkaaGreatDoorPack4
import Derived.Test.YthedkdbgfdjlkaaGreatDoorPack5
import Derived.Test.YthedkdbgfdjlkaaGreatDoorPack6
import Derived.Test.YthedkdbgfdjlkaaGreatDoorPack7
import Derived.Test.YthedkdbgfdjlkaaGreatDoorPack8
import Derived.Test.YthedkdbgfdjlkaaGreatDoorPack9
import Derived.Test.YthedkdbgfdjlkaaGreatDoorPack10
import Derived.Test.YthedkdbgfdjlkaaGreatDoorPack11
import Derived.Test.YthedkdbgfdjlkaaGreatDoorPack12
import Derived.Test.YthedkdbgfdjlkaaGreatDoorPack13
import Derived.Test.YthedkdbgfdjlkaaGreatDoorPack14
import Derived.Test.YthedkdbgfdjlkaaGreatDoorPack15
namespace Go.Proofs.YthedkdbgfdjlkaaGreatDoor
set_option linter.unusedVariables false
set_option linter.unusedSimpArgs false
open Go.RowKit
theorem Tryz.laidAt : Tryz.prog.globalNamed "errors.errorType" = some 0 := by kernel_rfl
theorem Tryz.laidRt : (Tryz.prog.cutTypes.find? (·.1 == "internal/reflectlite.rtype")).map (·.2) = some 236 := by kernel_rfl
theorem Tryz.laidRow : ((List.range 338).filter fun t => Tryz.prog.rowNamed t [101, 114, 114, 111, 114]) = [115] := by kernel_rfl
theorem Tryz.laidSize : Tryz.prog.types.size = 338 := by kernel_rfl
def laidOne : List (String × DataW Unit) := [("errors.errorType", Rows.laid_errors_errorType)]
theorem handle_of_laid {W : World} (h : laidMetH Tryz.prog laidOne W) : HandleAt W := by
  have h' : laidMet Tryz.prog [] W ∧ handlesMet Tryz.prog laidOne W := h
  obtain ⟨name, u, ty, e1, e2, e3, e4, e5⟩ := h'.2 _ (List.mem_singleton.2 rfl)
  have en : name = [101, 114, 114, 111, 114] := (Option.some.inj e1).symm
  subst en
  obtain rfl := Option.some.inj (Tryz.laidRt.symm.trans e2)
  have hm : ty ∈ (List.range 338).filter fun t => Tryz.prog.rowNamed t [101, 114, 114, 111, 114] := List.mem_filter.2 ⟨List.mem_range.2 (by rw [← Tryz.laidSize]; exact e3), e4⟩
  rw [Tryz.laidRow] at hm
  obtain rfl := List.mem_singleton.1 hm
  have hh : typeHandle Tryz.prog 115 = .pointer (some ⟨2, 115, none⟩) := by kernel_rfl
  rw [hh] at e5
  have h0 := World.var?_cell Tryz.laidAt e5 0
  unfold HandleAt
  simpa using h0
end Go.Proofs.YthedkdbgfdjlkaaGreatDoor
