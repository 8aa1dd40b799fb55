/-
  DERIVED. GIVEN WITH THE SEED: THE CARDS: each row of YtikiaijgcjjloaaGreatDoorRows.lean that lists a variable, with what it lists TIED to the program's text (the seventh form; the later family's looks); each row that meets fmt, with fmt's text TOLD by the authors' own Lean function (tested against real Go, not proved from fmt's source: count such statements apart). THE CARD IS WHAT COUNTS. Prove the row's statement (the work); the ties are given (YtikiaijgcjjloaaGreatDoorTie.lean); close each card by the builder's one call (the guide's Derived/Test/ToyasCard.lean, 'card_holds'). Laid BY PROGRAM, IN A SANDBOX (cutbox-door.mjs). By AI agents, Wed Nov 11 2026. No macro, syntax, notation, axiom, sorry.
-/
import Derived.Test.YtikiaijgcjjloaaGreatDoorRows
import GoSem.ClaimSeven
namespace Go.Proofs.YtikiaijgcjjloaaGreatDoor
namespace Rows

/-- THE TIED CARD OF 'unwindlaw.Terms'. -/
def termsCard : Claim7 := { stood := { row := termsRow, standIns := [], harness := (true, "9ab27ed9bcb7a6bdba43fd72d76cd3d44546be1bcd16f8848f327d46e596be4e"), looks := false }, kinds := [], alts := [], laidByText := true, laidKinds := [.data, .data, .data], laidTests := true, laidLooks := .later }
def TermsCardSaid : Prop := Claim7.holds Tryz.pinned (.plain (OpenSpec.ofChange termsSpec)) termsCard

/-- THE TIED CARD OF 'unwindlaw.Runs'. -/
def runsCard : Claim7 := { stood := { row := runsRow, standIns := [], harness := (true, "9ab27ed9bcb7a6bdba43fd72d76cd3d44546be1bcd16f8848f327d46e596be4e"), looks := false }, kinds := [], alts := [], laidByText := true, laidKinds := [.data, .data, .data], laidTests := true, laidLooks := .later }
def RunsCardSaid : Prop := Claim7.holds Tryz.pinned (.plain (OpenSpec.ofChange runsSpec)) runsCard

/-- THE TIED CARD OF 'unwindkeep.Items'. -/
def itemsCard : Claim7 := { stood := { row := itemsRow, standIns := [], harness := (true, "9ab27ed9bcb7a6bdba43fd72d76cd3d44546be1bcd16f8848f327d46e596be4e"), looks := false }, kinds := [], alts := [], laidByText := true, laidKinds := [.data, .data, .data], laidTests := true, laidLooks := .later }
def ItemsCardSaid : Prop := Claim7.holds Tryz.pinned (.plain (OpenSpec.ofChange itemsSpec)) itemsCard

/-- THE TIED CARD OF 'unwindkeep.There'. -/
def thereCard : Claim7 := { stood := { row := thereRow, standIns := [], harness := (true, "9ab27ed9bcb7a6bdba43fd72d76cd3d44546be1bcd16f8848f327d46e596be4e"), looks := false }, kinds := [], alts := [], laidByText := true, laidKinds := [.data, .data, .data], laidTests := true, laidLooks := .later }
def ThereCardSaid : Prop := Claim7.holds Tryz.pinned (.plain (OpenSpec.ofChange thereSpec)) thereCard

/-- THE TIED CARD OF 'unwindkeep.Powers'. -/
def powersCard : Claim7 := { stood := { row := powersRow, standIns := [], harness := (true, "9ab27ed9bcb7a6bdba43fd72d76cd3d44546be1bcd16f8848f327d46e596be4e"), looks := false }, kinds := [], alts := [], laidByText := true, laidKinds := [.data, .data, .data], laidTests := true, laidLooks := .later }
def PowersCardSaid : Prop := Claim7.holds Tryz.pinned (.plain (OpenSpec.ofChange powersSpec)) powersCard

/-- THE SECOND FORM's CARD OF 'unwindlaw.Terms'. -/
def termsUptoCard : Claim7 := { stood := { row := termsUptoRow, standIns := [], harness := (true, "9ab27ed9bcb7a6bdba43fd72d76cd3d44546be1bcd16f8848f327d46e596be4e"), looks := false }, kinds := [], alts := [], laidByText := true, laidKinds := [.data, .data, .data], laidTests := true, laidLooks := .later }
def TermsUptoCardSaid : Prop := Claim7.holds Tryz.pinned (.plain (OpenSpec.upto termsSpec)) termsUptoCard

/-- THE SECOND FORM's CARD OF 'unwindlaw.Runs'. -/
def runsUptoCard : Claim7 := { stood := { row := runsUptoRow, standIns := [], harness := (true, "9ab27ed9bcb7a6bdba43fd72d76cd3d44546be1bcd16f8848f327d46e596be4e"), looks := false }, kinds := [], alts := [], laidByText := true, laidKinds := [.data, .data, .data], laidTests := true, laidLooks := .later }
def RunsUptoCardSaid : Prop := Claim7.holds Tryz.pinned (.plain (OpenSpec.upto runsSpec)) runsUptoCard

/-- THE SECOND FORM's CARD OF 'unwindkeep.Items'. -/
def itemsUptoCard : Claim7 := { stood := { row := itemsUptoRow, standIns := [], harness := (true, "9ab27ed9bcb7a6bdba43fd72d76cd3d44546be1bcd16f8848f327d46e596be4e"), looks := false }, kinds := [], alts := [], laidByText := true, laidKinds := [.data, .data, .data], laidTests := true, laidLooks := .later }
def ItemsUptoCardSaid : Prop := Claim7.holds Tryz.pinned (.plain (OpenSpec.upto itemsSpec)) itemsUptoCard

/-- THE SECOND FORM's CARD OF 'unwindkeep.There'. -/
def thereUptoCard : Claim7 := { stood := { row := thereUptoRow, standIns := [], harness := (true, "9ab27ed9bcb7a6bdba43fd72d76cd3d44546be1bcd16f8848f327d46e596be4e"), looks := false }, kinds := [], alts := [], laidByText := true, laidKinds := [.data, .data, .data], laidTests := true, laidLooks := .later }
def ThereUptoCardSaid : Prop := Claim7.holds Tryz.pinned (.plain (OpenSpec.upto thereSpec)) thereUptoCard

/-- THE SECOND FORM's CARD OF 'unwindkeep.Powers'. -/
def powersUptoCard : Claim7 := { stood := { row := powersUptoRow, standIns := [], harness := (true, "9ab27ed9bcb7a6bdba43fd72d76cd3d44546be1bcd16f8848f327d46e596be4e"), looks := false }, kinds := [], alts := [], laidByText := true, laidKinds := [.data, .data, .data], laidTests := true, laidLooks := .later }
def PowersUptoCardSaid : Prop := Claim7.holds Tryz.pinned (.plain (OpenSpec.upto powersSpec)) powersUptoCard
end Rows
end Go.Proofs.YtikiaijgcjjloaaGreatDoor
