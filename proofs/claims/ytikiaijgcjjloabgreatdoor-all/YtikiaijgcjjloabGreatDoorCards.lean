/-
  DERIVED. GIVEN WITH THE SEED: THE CARDS: each row of YtikiaijgcjjloabGreatDoorRows.lean that lists a variable, with what it lists TIED to the program's text (the seventh form; the later family's looks); each row that meets fmt, with fmt's text TOLD by the authors' own Lean function (tested against real Go, not proved from fmt's source: count such statements apart). THE CARD IS WHAT COUNTS. Prove the row's statement (the work); the ties are given (YtikiaijgcjjloabGreatDoorTie.lean); close each card by the builder's one call (the guide's Derived/Test/ToyasCard.lean, 'card_holds'). Laid BY PROGRAM, IN A SANDBOX (cutbox-door.mjs). By AI agents, Wed Nov 11 2026. No macro, syntax, notation, axiom, sorry.
-/
import Derived.Test.YtikiaijgcjjloabGreatDoorRows
import GoSem.ClaimSeven
namespace Go.Proofs.YtikiaijgcjjloabGreatDoor
namespace Rows

/-- THE TIED CARD OF 'unwindkeep.Unders'. -/
def undersCard : Claim7 := { stood := { row := undersRow, standIns := [], harness := (true, "8bf44b1dfe967ea6e589d4023dd43d9df90e08eb792ac49f95659215f069f3ee"), looks := false }, kinds := [], alts := [], laidByText := true, laidKinds := [.data, .data, .data], laidTests := true, laidLooks := .later }
def UndersCardSaid : Prop := Claim7.holds Tryz.pinned (.plain (OpenSpec.ofChange undersSpec)) undersCard

/-- THE TIED CARD OF 'unwindkeep.Opposites'. -/
def oppositesCard : Claim7 := { stood := { row := oppositesRow, standIns := [], harness := (true, "8bf44b1dfe967ea6e589d4023dd43d9df90e08eb792ac49f95659215f069f3ee"), looks := false }, kinds := [], alts := [], laidByText := true, laidKinds := [.data, .data, .data], laidTests := true, laidLooks := .later }
def OppositesCardSaid : Prop := Claim7.holds Tryz.pinned (.plain (OpenSpec.ofChange oppositesSpec)) oppositesCard

/-- THE TIED CARD OF 'unwindkeep.Bound'. -/
def boundCard : Claim7 := { stood := { row := boundRow, standIns := [], harness := (true, "8bf44b1dfe967ea6e589d4023dd43d9df90e08eb792ac49f95659215f069f3ee"), looks := false }, kinds := [], alts := [], laidByText := true, laidKinds := [.data, .data, .data], laidTests := true, laidLooks := .later }
def BoundCardSaid : Prop := Claim7.holds Tryz.pinned (.plain (OpenSpec.ofChange boundSpec)) boundCard

/-- THE TIED CARD OF 'unwindkeep.Fuelled'. -/
def fuelledCard : Claim7 := { stood := { row := fuelledRow, standIns := [], harness := (true, "8bf44b1dfe967ea6e589d4023dd43d9df90e08eb792ac49f95659215f069f3ee"), looks := false }, kinds := [], alts := [], laidByText := true, laidKinds := [.data, .data, .data], laidTests := true, laidLooks := .later }
def FuelledCardSaid : Prop := Claim7.holds Tryz.pinned (.plain (OpenSpec.ofChange fuelledSpec)) fuelledCard

/-- THE TIED CARD OF 'unwindlaw.All'. -/
def allCard : Claim7 := { stood := { row := allRow, standIns := [], harness := (true, "8bf44b1dfe967ea6e589d4023dd43d9df90e08eb792ac49f95659215f069f3ee"), looks := false }, kinds := [], alts := [], laidByText := true, laidKinds := [.data, .data, .data], laidTests := true, laidLooks := .later }
def AllCardSaid : Prop := Claim7.holds Tryz.pinned (.plain (OpenSpec.ofChange allSpec)) allCard

/-- THE SECOND FORM's CARD OF 'unwindkeep.Unders'. -/
def undersUptoCard : Claim7 := { stood := { row := undersUptoRow, standIns := [], harness := (true, "8bf44b1dfe967ea6e589d4023dd43d9df90e08eb792ac49f95659215f069f3ee"), looks := false }, kinds := [], alts := [], laidByText := true, laidKinds := [.data, .data, .data], laidTests := true, laidLooks := .later }
def UndersUptoCardSaid : Prop := Claim7.holds Tryz.pinned (.plain (OpenSpec.upto undersSpec)) undersUptoCard

/-- THE SECOND FORM's CARD OF 'unwindkeep.Opposites'. -/
def oppositesUptoCard : Claim7 := { stood := { row := oppositesUptoRow, standIns := [], harness := (true, "8bf44b1dfe967ea6e589d4023dd43d9df90e08eb792ac49f95659215f069f3ee"), looks := false }, kinds := [], alts := [], laidByText := true, laidKinds := [.data, .data, .data], laidTests := true, laidLooks := .later }
def OppositesUptoCardSaid : Prop := Claim7.holds Tryz.pinned (.plain (OpenSpec.upto oppositesSpec)) oppositesUptoCard

/-- THE SECOND FORM's CARD OF 'unwindkeep.Bound'. -/
def boundUptoCard : Claim7 := { stood := { row := boundUptoRow, standIns := [], harness := (true, "8bf44b1dfe967ea6e589d4023dd43d9df90e08eb792ac49f95659215f069f3ee"), looks := false }, kinds := [], alts := [], laidByText := true, laidKinds := [.data, .data, .data], laidTests := true, laidLooks := .later }
def BoundUptoCardSaid : Prop := Claim7.holds Tryz.pinned (.plain (OpenSpec.upto boundSpec)) boundUptoCard

/-- THE SECOND FORM's CARD OF 'unwindkeep.Fuelled'. -/
def fuelledUptoCard : Claim7 := { stood := { row := fuelledUptoRow, standIns := [], harness := (true, "8bf44b1dfe967ea6e589d4023dd43d9df90e08eb792ac49f95659215f069f3ee"), looks := false }, kinds := [], alts := [], laidByText := true, laidKinds := [.data, .data, .data], laidTests := true, laidLooks := .later }
def FuelledUptoCardSaid : Prop := Claim7.holds Tryz.pinned (.plain (OpenSpec.upto fuelledSpec)) fuelledUptoCard

/-- THE SECOND FORM's CARD OF 'unwindlaw.All'. -/
def allUptoCard : Claim7 := { stood := { row := allUptoRow, standIns := [], harness := (true, "8bf44b1dfe967ea6e589d4023dd43d9df90e08eb792ac49f95659215f069f3ee"), looks := false }, kinds := [], alts := [], laidByText := true, laidKinds := [.data, .data, .data], laidTests := true, laidLooks := .later }
def AllUptoCardSaid : Prop := Claim7.holds Tryz.pinned (.plain (OpenSpec.upto allSpec)) allUptoCard
end Rows
end Go.Proofs.YtikiaijgcjjloabGreatDoor
