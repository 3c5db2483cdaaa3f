/-
  DERIVED. GIVEN WITH THE SEED: THE CARDS: each row of YthedkdbgfdjlkaaGreatDoorRows.lean that lists a variable, with what it lists TIED to the program's text (the seventh form; the later family's looks); each row that meets fmt, with fmt's text TOLD by the authors' own Lean function (tested against real Go, not proved from fmt's source: count such statements apart). THE CARD IS WHAT COUNTS. Prove the row's statement (the work); the ties are given (YthedkdbgfdjlkaaGreatDoorTie.lean); close each card by the builder's one call (the guide's Derived/Test/ToyasCard.lean, 'card_holds'). Laid BY PROGRAM, IN A SANDBOX (cutbox-door.mjs). By AI agents, Wed Nov 11 2026. No macro, syntax, notation, axiom, sorry.
-/
import Derived.Test.YthedkdbgfdjlkaaGreatDoorRows
import GoSem.ClaimSeven
namespace Go.Proofs.YthedkdbgfdjlkaaGreatDoor
namespace Rows

/-- THE TIED CARD OF 'culvertlaw.Takes'. -/
def takesCard : Claim7 := { stood := { row := takesRow, standIns := [], harness := (true, "5122a2a4bc32ce2e8a4b3cbca447d13e4a017726e75ea775f53d60d6a84f371f"), looks := true }, kinds := [], alts := [], laidByText := true, laidKinds := [.handle], laidTests := true, laidLooks := .later }
def TakesCardSaid : Prop := Claim7.holds Tryz.pinned (.plain (OpenSpec.ofChange takesSpec)) takesCard

/-- THE TIED CARD OF 'culvertlaw.Sinks'. -/
def sinksCard : Claim7 := { stood := { row := sinksRow, standIns := [], harness := (true, "5122a2a4bc32ce2e8a4b3cbca447d13e4a017726e75ea775f53d60d6a84f371f"), looks := true }, kinds := [], alts := [], laidByText := true, laidKinds := [.handle], laidTests := true, laidLooks := .later }
def SinksCardSaid : Prop := Claim7.holds Tryz.pinned (.plain (OpenSpec.ofChange sinksSpec)) sinksCard

/-- THE TIED CARD OF 'culvertlaw.All'. -/
def allCard : Claim7 := { stood := { row := allRow, standIns := [], harness := (true, "5122a2a4bc32ce2e8a4b3cbca447d13e4a017726e75ea775f53d60d6a84f371f"), looks := true }, kinds := [], alts := [], laidByText := true, laidKinds := [.handle], laidTests := true, laidLooks := .later }
def AllCardSaid : Prop := Claim7.holds Tryz.pinned (.plain (OpenSpec.ofChange allSpec)) allCard

/-- THE TIED CARD OF 'culvertkeep.Cut'. -/
def cutCard : Claim7 := { stood := { row := cutRow, standIns := [], harness := (true, "5122a2a4bc32ce2e8a4b3cbca447d13e4a017726e75ea775f53d60d6a84f371f"), looks := true }, kinds := [], alts := [], laidByText := true, laidKinds := [.handle], laidTests := true, laidLooks := .later }
def CutCardSaid : Prop := Claim7.holds Tryz.pinned (.plain (OpenSpec.ofChange cutSpec)) cutCard

/-- THE TIED CARD OF 'culvertkeep.Small'. -/
def smallCard : Claim7 := { stood := { row := smallRow, standIns := [], harness := (true, "5122a2a4bc32ce2e8a4b3cbca447d13e4a017726e75ea775f53d60d6a84f371f"), looks := true }, kinds := [], alts := [], laidByText := true, laidKinds := [.handle], laidTests := true, laidLooks := .later }
def SmallCardSaid : Prop := Claim7.holds Tryz.pinned (.plain (OpenSpec.ofChange smallSpec)) smallCard

/-- THE TIED CARD OF 'culvertkeep.Foreign'. -/
def foreignCard : Claim7 := { stood := { row := foreignRow, standIns := [], harness := (true, "5122a2a4bc32ce2e8a4b3cbca447d13e4a017726e75ea775f53d60d6a84f371f"), looks := true }, kinds := [], alts := [], laidByText := true, laidKinds := [.handle], laidTests := true, laidLooks := .later }
def ForeignCardSaid : Prop := Claim7.holds Tryz.pinned (.plain (OpenSpec.ofChange foreignSpec)) foreignCard

/-- THE SECOND FORM's CARD OF 'culvertlaw.Takes'. -/
def takesUptoCard : Claim7 := { stood := { row := takesUptoRow, standIns := [], harness := (true, "5122a2a4bc32ce2e8a4b3cbca447d13e4a017726e75ea775f53d60d6a84f371f"), looks := true }, kinds := [], alts := [], laidByText := true, laidKinds := [.handle], laidTests := true, laidLooks := .later }
def TakesUptoCardSaid : Prop := Claim7.holds Tryz.pinned (.plain (OpenSpec.upto takesSpec)) takesUptoCard

/-- THE SECOND FORM's CARD OF 'culvertlaw.Sinks'. -/
def sinksUptoCard : Claim7 := { stood := { row := sinksUptoRow, standIns := [], harness := (true, "5122a2a4bc32ce2e8a4b3cbca447d13e4a017726e75ea775f53d60d6a84f371f"), looks := true }, kinds := [], alts := [], laidByText := true, laidKinds := [.handle], laidTests := true, laidLooks := .later }
def SinksUptoCardSaid : Prop := Claim7.holds Tryz.pinned (.plain (OpenSpec.upto sinksSpec)) sinksUptoCard

/-- THE SECOND FORM's CARD OF 'culvertlaw.All'. -/
def allUptoCard : Claim7 := { stood := { row := allUptoRow, standIns := [], harness := (true, "5122a2a4bc32ce2e8a4b3cbca447d13e4a017726e75ea775f53d60d6a84f371f"), looks := true }, kinds := [], alts := [], laidByText := true, laidKinds := [.handle], laidTests := true, laidLooks := .later }
def AllUptoCardSaid : Prop := Claim7.holds Tryz.pinned (.plain (OpenSpec.upto allSpec)) allUptoCard

/-- THE SECOND FORM's CARD OF 'culvertkeep.Cut'. -/
def cutUptoCard : Claim7 := { stood := { row := cutUptoRow, standIns := [], harness := (true, "5122a2a4bc32ce2e8a4b3cbca447d13e4a017726e75ea775f53d60d6a84f371f"), looks := true }, kinds := [], alts := [], laidByText := true, laidKinds := [.handle], laidTests := true, laidLooks := .later }
def CutUptoCardSaid : Prop := Claim7.holds Tryz.pinned (.plain (OpenSpec.upto cutSpec)) cutUptoCard

/-- THE SECOND FORM's CARD OF 'culvertkeep.Small'. -/
def smallUptoCard : Claim7 := { stood := { row := smallUptoRow, standIns := [], harness := (true, "5122a2a4bc32ce2e8a4b3cbca447d13e4a017726e75ea775f53d60d6a84f371f"), looks := true }, kinds := [], alts := [], laidByText := true, laidKinds := [.handle], laidTests := true, laidLooks := .later }
def SmallUptoCardSaid : Prop := Claim7.holds Tryz.pinned (.plain (OpenSpec.upto smallSpec)) smallUptoCard

/-- THE SECOND FORM's CARD OF 'culvertkeep.Foreign'. -/
def foreignUptoCard : Claim7 := { stood := { row := foreignUptoRow, standIns := [], harness := (true, "5122a2a4bc32ce2e8a4b3cbca447d13e4a017726e75ea775f53d60d6a84f371f"), looks := true }, kinds := [], alts := [], laidByText := true, laidKinds := [.handle], laidTests := true, laidLooks := .later }
def ForeignUptoCardSaid : Prop := Claim7.holds Tryz.pinned (.plain (OpenSpec.upto foreignSpec)) foreignUptoCard
end Rows
end Go.Proofs.YthedkdbgfdjlkaaGreatDoor
