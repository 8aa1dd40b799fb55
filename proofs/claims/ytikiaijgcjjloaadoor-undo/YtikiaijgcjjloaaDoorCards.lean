/-
  DERIVED. GIVEN WITH THE SEED: THE CARDS: each row of YtikiaijgcjjloaaDoorRows.lean that lists a variable, with what it lists TIED to the program's text (the seventh form; the later family's looks); each row that meets fmt, with fmt's text TOLD by the authors' own Lean function (tested against real Go, not proved from fmt's source: count such statements apart). THE CARD IS WHAT COUNTS. Prove the row's statement (the work); the ties are given (YtikiaijgcjjloaaDoorTie.lean); close each card by the builder's one call (the guide's Derived/Test/ToyasCard.lean, 'card_holds'). Laid BY PROGRAM, IN A SANDBOX (cutbox-door.mjs). By AI agents, Wed Nov 11 2026. No macro, syntax, notation, axiom, sorry.
-/
import Derived.Test.YtikiaijgcjjloaaDoorRows
import GoSem.ClaimSeven
namespace Go.Proofs.YtikiaijgcjjloaaDoor
namespace Rows

/-- THE TIED CARD OF 'unwindlaw.Sums'. -/
def sumsCard : Claim7 := { stood := { row := sumsRow, standIns := [], harness := (true, "5fd921bdd429900c60010d0494ec45d00a4bb7e2e700aebb43aea1df0fe27594"), looks := false }, kinds := [], alts := [], laidByText := true, laidKinds := [.data, .data, .data], laidTests := true, laidLooks := .later }
def SumsCardSaid : Prop := Claim7.holds Tryd.pinned (.plain (OpenSpec.ofChange sumsSpec)) sumsCard

/-- THE TIED CARD OF 'unwindlaw.Products'. -/
def productsCard : Claim7 := { stood := { row := productsRow, standIns := [], harness := (true, "5fd921bdd429900c60010d0494ec45d00a4bb7e2e700aebb43aea1df0fe27594"), looks := false }, kinds := [], alts := [], laidByText := true, laidKinds := [.data, .data, .data], laidTests := true, laidLooks := .later }
def ProductsCardSaid : Prop := Claim7.holds Tryd.pinned (.plain (OpenSpec.ofChange productsSpec)) productsCard

/-- THE TIED CARD OF 'unwindlaw.Overs'. -/
def oversCard : Claim7 := { stood := { row := oversRow, standIns := [], harness := (true, "5fd921bdd429900c60010d0494ec45d00a4bb7e2e700aebb43aea1df0fe27594"), looks := false }, kinds := [], alts := [], laidByText := true, laidKinds := [.data, .data, .data], laidTests := true, laidLooks := .later }
def OversCardSaid : Prop := Claim7.holds Tryd.pinned (.plain (OpenSpec.ofChange oversSpec)) oversCard

/-- THE TIED CARD OF 'unwindlaw.Roots'. -/
def rootsCard : Claim7 := { stood := { row := rootsRow, standIns := [], harness := (true, "5fd921bdd429900c60010d0494ec45d00a4bb7e2e700aebb43aea1df0fe27594"), looks := false }, kinds := [], alts := [], laidByText := true, laidKinds := [.data, .data, .data], laidTests := true, laidLooks := .later }
def RootsCardSaid : Prop := Claim7.holds Tryd.pinned (.plain (OpenSpec.ofChange rootsSpec)) rootsCard

/-- THE TIED CARD OF 'unwindkeep.Exactly'. -/
def exactlyCard : Claim7 := { stood := { row := exactlyRow, standIns := [], harness := (true, "5fd921bdd429900c60010d0494ec45d00a4bb7e2e700aebb43aea1df0fe27594"), looks := false }, kinds := [], alts := [], laidByText := true, laidKinds := [.data, .data, .data], laidTests := true, laidLooks := .later }
def ExactlyCardSaid : Prop := Claim7.holds Tryd.pinned (.plain (OpenSpec.ofChange exactlySpec)) exactlyCard

/-- THE TIED CARD OF 'unwindkeep.Undo'. -/
def undoCard : Claim7 := { stood := { row := undoRow, standIns := [], harness := (true, "5fd921bdd429900c60010d0494ec45d00a4bb7e2e700aebb43aea1df0fe27594"), looks := false }, kinds := [], alts := [], laidByText := true, laidKinds := [.data, .data, .data], laidTests := true, laidLooks := .later }
def UndoCardSaid : Prop := Claim7.holds Tryd.pinned (.plain (OpenSpec.ofChange undoSpec)) undoCard

/-- THE TIED CARD OF 'unwindkeep.Splits'. -/
def splitsCard : Claim7 := { stood := { row := splitsRow, standIns := [], harness := (true, "5fd921bdd429900c60010d0494ec45d00a4bb7e2e700aebb43aea1df0fe27594"), looks := false }, kinds := [], alts := [], laidByText := true, laidKinds := [.data, .data, .data], laidTests := true, laidLooks := .later }
def SplitsCardSaid : Prop := Claim7.holds Tryd.pinned (.plain (OpenSpec.ofChange splitsSpec)) splitsCard

/-- THE SECOND FORM's CARD OF 'unwindlaw.Sums'. -/
def sumsUptoCard : Claim7 := { stood := { row := sumsUptoRow, standIns := [], harness := (true, "5fd921bdd429900c60010d0494ec45d00a4bb7e2e700aebb43aea1df0fe27594"), looks := false }, kinds := [], alts := [], laidByText := true, laidKinds := [.data, .data, .data], laidTests := true, laidLooks := .later }
def SumsUptoCardSaid : Prop := Claim7.holds Tryd.pinned (.plain (OpenSpec.upto sumsSpec)) sumsUptoCard

/-- THE SECOND FORM's CARD OF 'unwindlaw.Products'. -/
def productsUptoCard : Claim7 := { stood := { row := productsUptoRow, standIns := [], harness := (true, "5fd921bdd429900c60010d0494ec45d00a4bb7e2e700aebb43aea1df0fe27594"), looks := false }, kinds := [], alts := [], laidByText := true, laidKinds := [.data, .data, .data], laidTests := true, laidLooks := .later }
def ProductsUptoCardSaid : Prop := Claim7.holds Tryd.pinned (.plain (OpenSpec.upto productsSpec)) productsUptoCard

/-- THE SECOND FORM's CARD OF 'unwindlaw.Overs'. -/
def oversUptoCard : Claim7 := { stood := { row := oversUptoRow, standIns := [], harness := (true, "5fd921bdd429900c60010d0494ec45d00a4bb7e2e700aebb43aea1df0fe27594"), looks := false }, kinds := [], alts := [], laidByText := true, laidKinds := [.data, .data, .data], laidTests := true, laidLooks := .later }
def OversUptoCardSaid : Prop := Claim7.holds Tryd.pinned (.plain (OpenSpec.upto oversSpec)) oversUptoCard

/-- THE SECOND FORM's CARD OF 'unwindlaw.Roots'. -/
def rootsUptoCard : Claim7 := { stood := { row := rootsUptoRow, standIns := [], harness := (true, "5fd921bdd429900c60010d0494ec45d00a4bb7e2e700aebb43aea1df0fe27594"), looks := false }, kinds := [], alts := [], laidByText := true, laidKinds := [.data, .data, .data], laidTests := true, laidLooks := .later }
def RootsUptoCardSaid : Prop := Claim7.holds Tryd.pinned (.plain (OpenSpec.upto rootsSpec)) rootsUptoCard

/-- THE SECOND FORM's CARD OF 'unwindkeep.Exactly'. -/
def exactlyUptoCard : Claim7 := { stood := { row := exactlyUptoRow, standIns := [], harness := (true, "5fd921bdd429900c60010d0494ec45d00a4bb7e2e700aebb43aea1df0fe27594"), looks := false }, kinds := [], alts := [], laidByText := true, laidKinds := [.data, .data, .data], laidTests := true, laidLooks := .later }
def ExactlyUptoCardSaid : Prop := Claim7.holds Tryd.pinned (.plain (OpenSpec.upto exactlySpec)) exactlyUptoCard

/-- THE SECOND FORM's CARD OF 'unwindkeep.Undo'. -/
def undoUptoCard : Claim7 := { stood := { row := undoUptoRow, standIns := [], harness := (true, "5fd921bdd429900c60010d0494ec45d00a4bb7e2e700aebb43aea1df0fe27594"), looks := false }, kinds := [], alts := [], laidByText := true, laidKinds := [.data, .data, .data], laidTests := true, laidLooks := .later }
def UndoUptoCardSaid : Prop := Claim7.holds Tryd.pinned (.plain (OpenSpec.upto undoSpec)) undoUptoCard

/-- THE SECOND FORM's CARD OF 'unwindkeep.Splits'. -/
def splitsUptoCard : Claim7 := { stood := { row := splitsUptoRow, standIns := [], harness := (true, "5fd921bdd429900c60010d0494ec45d00a4bb7e2e700aebb43aea1df0fe27594"), looks := false }, kinds := [], alts := [], laidByText := true, laidKinds := [.data, .data, .data], laidTests := true, laidLooks := .later }
def SplitsUptoCardSaid : Prop := Claim7.holds Tryd.pinned (.plain (OpenSpec.upto splitsSpec)) splitsUptoCard
end Rows
end Go.Proofs.YtikiaijgcjjloaaDoor
