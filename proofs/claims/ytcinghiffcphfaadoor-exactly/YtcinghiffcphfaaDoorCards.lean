/-
  DERIVED. GIVEN WITH THE SEED: THE CARDS: each row of YtcinghiffcphfaaDoorRows.lean that lists a variable, with what it lists TIED to the program's text (the seventh form; the later family's looks); each row that meets fmt, with fmt's text TOLD by the authors' own Lean function (tested against real Go, not proved from fmt's source: count such statements apart). THE CARD IS WHAT COUNTS. Prove the row's statement (the work); the ties are given (YtcinghiffcphfaaDoorTie.lean); close each card by the builder's one call (the guide's Derived/Test/ToyasCard.lean, 'card_holds'). Laid BY PROGRAM, IN A SANDBOX (cutbox-door.mjs). By AI agents, Wed Nov 11 2026. No macro, syntax, notation, axiom, sorry.
-/
import Derived.Test.YtcinghiffcphfaaDoorRows
import GoSem.ClaimSeven
namespace Go.Proofs.YtcinghiffcphfaaDoor
namespace Rows

/-- THE TIED CARD OF 'unwindlaw.Sums'. -/
def sumsCard : Claim7 := { stood := { row := sumsRow, standIns := [], harness := (true, "9beba05f8a8f6b0d3fb1260a59d3c9dbceb0fe6240044492f77754440cbf9557"), looks := false }, kinds := [], alts := [], laidByText := true, laidKinds := [.data, .data, .data], laidTests := true, laidLooks := .later }
def SumsCardSaid : Prop := Claim7.holds Tryd.pinned (.plain (OpenSpec.ofChange sumsSpec)) sumsCard

/-- THE TIED CARD OF 'unwindlaw.Products'. -/
def productsCard : Claim7 := { stood := { row := productsRow, standIns := [], harness := (true, "9beba05f8a8f6b0d3fb1260a59d3c9dbceb0fe6240044492f77754440cbf9557"), looks := false }, kinds := [], alts := [], laidByText := true, laidKinds := [.data, .data, .data], laidTests := true, laidLooks := .later }
def ProductsCardSaid : Prop := Claim7.holds Tryd.pinned (.plain (OpenSpec.ofChange productsSpec)) productsCard

/-- THE TIED CARD OF 'unwindlaw.Overs'. -/
def oversCard : Claim7 := { stood := { row := oversRow, standIns := [], harness := (true, "9beba05f8a8f6b0d3fb1260a59d3c9dbceb0fe6240044492f77754440cbf9557"), looks := false }, kinds := [], alts := [], laidByText := true, laidKinds := [.data, .data, .data], laidTests := true, laidLooks := .later }
def OversCardSaid : Prop := Claim7.holds Tryd.pinned (.plain (OpenSpec.ofChange oversSpec)) oversCard

/-- THE TIED CARD OF 'unwindlaw.Roots'. -/
def rootsCard : Claim7 := { stood := { row := rootsRow, standIns := [], harness := (true, "9beba05f8a8f6b0d3fb1260a59d3c9dbceb0fe6240044492f77754440cbf9557"), looks := false }, kinds := [], alts := [], laidByText := true, laidKinds := [.data, .data, .data], laidTests := true, laidLooks := .later }
def RootsCardSaid : Prop := Claim7.holds Tryd.pinned (.plain (OpenSpec.ofChange rootsSpec)) rootsCard

/-- THE TIED CARD OF 'unwindkeep.Exactly'. -/
def exactlyCard : Claim7 := { stood := { row := exactlyRow, standIns := [], harness := (true, "9beba05f8a8f6b0d3fb1260a59d3c9dbceb0fe6240044492f77754440cbf9557"), looks := false }, kinds := [], alts := [], laidByText := true, laidKinds := [.data, .data, .data], laidTests := true, laidLooks := .later }
def ExactlyCardSaid : Prop := Claim7.holds Tryd.pinned (.plain (OpenSpec.ofChange exactlySpec)) exactlyCard

/-- THE SECOND FORM's CARD OF 'unwindlaw.Sums'. -/
def sumsUptoCard : Claim7 := { stood := { row := sumsUptoRow, standIns := [], harness := (true, "9beba05f8a8f6b0d3fb1260a59d3c9dbceb0fe6240044492f77754440cbf9557"), looks := false }, kinds := [], alts := [], laidByText := true, laidKinds := [.data, .data, .data], laidTests := true, laidLooks := .later }
def SumsUptoCardSaid : Prop := Claim7.holds Tryd.pinned (.plain (OpenSpec.upto sumsSpec)) sumsUptoCard

/-- THE SECOND FORM's CARD OF 'unwindlaw.Products'. -/
def productsUptoCard : Claim7 := { stood := { row := productsUptoRow, standIns := [], harness := (true, "9beba05f8a8f6b0d3fb1260a59d3c9dbceb0fe6240044492f77754440cbf9557"), looks := false }, kinds := [], alts := [], laidByText := true, laidKinds := [.data, .data, .data], laidTests := true, laidLooks := .later }
def ProductsUptoCardSaid : Prop := Claim7.holds Tryd.pinned (.plain (OpenSpec.upto productsSpec)) productsUptoCard

/-- THE SECOND FORM's CARD OF 'unwindlaw.Overs'. -/
def oversUptoCard : Claim7 := { stood := { row := oversUptoRow, standIns := [], harness := (true, "9beba05f8a8f6b0d3fb1260a59d3c9dbceb0fe6240044492f77754440cbf9557"), looks := false }, kinds := [], alts := [], laidByText := true, laidKinds := [.data, .data, .data], laidTests := true, laidLooks := .later }
def OversUptoCardSaid : Prop := Claim7.holds Tryd.pinned (.plain (OpenSpec.upto oversSpec)) oversUptoCard

/-- THE SECOND FORM's CARD OF 'unwindlaw.Roots'. -/
def rootsUptoCard : Claim7 := { stood := { row := rootsUptoRow, standIns := [], harness := (true, "9beba05f8a8f6b0d3fb1260a59d3c9dbceb0fe6240044492f77754440cbf9557"), looks := false }, kinds := [], alts := [], laidByText := true, laidKinds := [.data, .data, .data], laidTests := true, laidLooks := .later }
def RootsUptoCardSaid : Prop := Claim7.holds Tryd.pinned (.plain (OpenSpec.upto rootsSpec)) rootsUptoCard

/-- THE SECOND FORM's CARD OF 'unwindkeep.Exactly'. -/
def exactlyUptoCard : Claim7 := { stood := { row := exactlyUptoRow, standIns := [], harness := (true, "9beba05f8a8f6b0d3fb1260a59d3c9dbceb0fe6240044492f77754440cbf9557"), looks := false }, kinds := [], alts := [], laidByText := true, laidKinds := [.data, .data, .data], laidTests := true, laidLooks := .later }
def ExactlyUptoCardSaid : Prop := Claim7.holds Tryd.pinned (.plain (OpenSpec.upto exactlySpec)) exactlyUptoCard
end Rows
end Go.Proofs.YtcinghiffcphfaaDoor
