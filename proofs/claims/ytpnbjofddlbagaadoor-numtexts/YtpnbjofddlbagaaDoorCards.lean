/-
  DERIVED. GIVEN WITH THE SEED: THE CARDS: each row of YtpnbjofddlbagaaDoorRows.lean that lists a variable, with what it lists TIED to the program's text (the seventh form; the later family's looks); each row that meets fmt, with fmt's text TOLD by the authors' own Lean function (tested against real Go, not proved from fmt's source: count such statements apart). THE CARD IS WHAT COUNTS. Prove the row's statement (the work); the ties are given (YtpnbjofddlbagaaDoorTie.lean); close each card by the builder's one call (the guide's Derived/Test/ToyasCard.lean, 'card_holds'). Laid BY PROGRAM, IN A SANDBOX (cutbox-door.mjs). By AI agents, Wed Nov 11 2026. No macro, syntax, notation, axiom, sorry.
-/
import Derived.Test.YtpnbjofddlbagaaDoorRows
import GoSem.ClaimSeven
namespace Go.Proofs.YtpnbjofddlbagaaDoor
namespace Rows

/-- THE TIED CARD OF 'bridlewaylaw01.NumOrders'. -/
def numOrdersCard : Claim7 := { stood := { row := numOrdersRow, standIns := [], harness := (true, "11e051e8abf7da6584466ae94e922e0523fe7117e0fdd82369bb9e77880e7865"), looks := true }, kinds := [], alts := [], laidByText := true, laidKinds := [.data, .data, .data, .sentinel, .sentinel], laidTests := true, laidLooks := .later }
def NumOrdersCardSaid : Prop := Claim7.holds Tryd.pinned (.plain (OpenSpec.ofChange numOrdersSpec)) numOrdersCard

/-- THE TIED CARD OF 'bridlewaylaw01.NumKeys'. -/
def numKeysCard : Claim7 := { stood := { row := numKeysRow, standIns := [], harness := (true, "11e051e8abf7da6584466ae94e922e0523fe7117e0fdd82369bb9e77880e7865"), looks := true }, kinds := [], alts := [], laidByText := true, laidKinds := [.data, .data, .data, .sentinel, .sentinel], laidTests := true, laidLooks := .later }
def NumKeysCardSaid : Prop := Claim7.holds Tryd.pinned (.plain (OpenSpec.ofChange numKeysSpec)) numKeysCard

/-- THE TIED CARD OF 'bridlewaylaw01.NumTexts'. -/
def numTextsCard : Claim7 := { stood := { row := numTextsRow, standIns := [], harness := (true, "11e051e8abf7da6584466ae94e922e0523fe7117e0fdd82369bb9e77880e7865"), looks := true }, kinds := [], alts := [], laidByText := true, laidKinds := [.data, .data, .data, .sentinel, .sentinel], laidTests := true, laidLooks := .later }
def NumTextsCardSaid : Prop := Claim7.holds Tryd.pinned (.plain (OpenSpec.ofChange numTextsSpec)) numTextsCard

/-- THE TIED CARD OF 'bridlewaylaw01.NumBack'. -/
def numBackCard : Claim7 := { stood := { row := numBackRow, standIns := [], harness := (true, "11e051e8abf7da6584466ae94e922e0523fe7117e0fdd82369bb9e77880e7865"), looks := true }, kinds := [], alts := [], laidByText := true, laidKinds := [.data, .data, .data, .sentinel, .sentinel], laidTests := true, laidLooks := .later }
def NumBackCardSaid : Prop := Claim7.holds Tryd.pinned (.plain (OpenSpec.ofChange numBackSpec)) numBackCard

/-- THE TIED CARD OF 'bridlewaylaw01.NumAgainst'. -/
def numAgainstCard : Claim7 := { stood := { row := numAgainstRow, standIns := [], harness := (true, "11e051e8abf7da6584466ae94e922e0523fe7117e0fdd82369bb9e77880e7865"), looks := true }, kinds := [], alts := [], laidByText := true, laidKinds := [.data, .data, .data, .sentinel, .sentinel], laidTests := true, laidLooks := .later }
def NumAgainstCardSaid : Prop := Claim7.holds Tryd.pinned (.plain (OpenSpec.ofChange numAgainstSpec)) numAgainstCard

/-- THE TIED CARD OF 'bridlewaylaw01.NumSteps'. -/
def numStepsCard : Claim7 := { stood := { row := numStepsRow, standIns := [], harness := (true, "11e051e8abf7da6584466ae94e922e0523fe7117e0fdd82369bb9e77880e7865"), looks := true }, kinds := [], alts := [], laidByText := true, laidKinds := [.data, .data, .data, .sentinel, .sentinel], laidTests := true, laidLooks := .later }
def NumStepsCardSaid : Prop := Claim7.holds Tryd.pinned (.plain (OpenSpec.ofChange numStepsSpec)) numStepsCard

/-- THE TIED CARD OF 'bridlewaylaw01.NumSigns'. -/
def numSignsCard : Claim7 := { stood := { row := numSignsRow, standIns := [], harness := (true, "11e051e8abf7da6584466ae94e922e0523fe7117e0fdd82369bb9e77880e7865"), looks := true }, kinds := [], alts := [], laidByText := true, laidKinds := [.data, .data, .data, .sentinel, .sentinel], laidTests := true, laidLooks := .later }
def NumSignsCardSaid : Prop := Claim7.holds Tryd.pinned (.plain (OpenSpec.ofChange numSignsSpec)) numSignsCard

/-- THE TIED CARD OF 'bridlewaylaw01.NumWhole'. -/
def numWholeCard : Claim7 := { stood := { row := numWholeRow, standIns := [], harness := (true, "11e051e8abf7da6584466ae94e922e0523fe7117e0fdd82369bb9e77880e7865"), looks := true }, kinds := [], alts := [], laidByText := true, laidKinds := [.data, .data, .data, .sentinel, .sentinel], laidTests := true, laidLooks := .later }
def NumWholeCardSaid : Prop := Claim7.holds Tryd.pinned (.plain (OpenSpec.ofChange numWholeSpec)) numWholeCard

/-- THE TIED CARD OF 'bridlewaylaw01.NumParsed'. -/
def numParsedCard : Claim7 := { stood := { row := numParsedRow, standIns := [], harness := (true, "11e051e8abf7da6584466ae94e922e0523fe7117e0fdd82369bb9e77880e7865"), looks := true }, kinds := [], alts := [], laidByText := true, laidKinds := [.data, .data, .data, .sentinel, .sentinel], laidTests := true, laidLooks := .later }
def NumParsedCardSaid : Prop := Claim7.holds Tryd.pinned (.plain (OpenSpec.ofChange numParsedSpec)) numParsedCard

/-- THE SECOND FORM's CARD OF 'bridlewaylaw01.NumOrders'. -/
def numOrdersUptoCard : Claim7 := { stood := { row := numOrdersUptoRow, standIns := [], harness := (true, "11e051e8abf7da6584466ae94e922e0523fe7117e0fdd82369bb9e77880e7865"), looks := true }, kinds := [], alts := [], laidByText := true, laidKinds := [.data, .data, .data, .sentinel, .sentinel], laidTests := true, laidLooks := .later }
def NumOrdersUptoCardSaid : Prop := Claim7.holds Tryd.pinned (.plain (OpenSpec.upto numOrdersSpec)) numOrdersUptoCard

/-- THE SECOND FORM's CARD OF 'bridlewaylaw01.NumKeys'. -/
def numKeysUptoCard : Claim7 := { stood := { row := numKeysUptoRow, standIns := [], harness := (true, "11e051e8abf7da6584466ae94e922e0523fe7117e0fdd82369bb9e77880e7865"), looks := true }, kinds := [], alts := [], laidByText := true, laidKinds := [.data, .data, .data, .sentinel, .sentinel], laidTests := true, laidLooks := .later }
def NumKeysUptoCardSaid : Prop := Claim7.holds Tryd.pinned (.plain (OpenSpec.upto numKeysSpec)) numKeysUptoCard

/-- THE SECOND FORM's CARD OF 'bridlewaylaw01.NumTexts'. -/
def numTextsUptoCard : Claim7 := { stood := { row := numTextsUptoRow, standIns := [], harness := (true, "11e051e8abf7da6584466ae94e922e0523fe7117e0fdd82369bb9e77880e7865"), looks := true }, kinds := [], alts := [], laidByText := true, laidKinds := [.data, .data, .data, .sentinel, .sentinel], laidTests := true, laidLooks := .later }
def NumTextsUptoCardSaid : Prop := Claim7.holds Tryd.pinned (.plain (OpenSpec.upto numTextsSpec)) numTextsUptoCard

/-- THE SECOND FORM's CARD OF 'bridlewaylaw01.NumBack'. -/
def numBackUptoCard : Claim7 := { stood := { row := numBackUptoRow, standIns := [], harness := (true, "11e051e8abf7da6584466ae94e922e0523fe7117e0fdd82369bb9e77880e7865"), looks := true }, kinds := [], alts := [], laidByText := true, laidKinds := [.data, .data, .data, .sentinel, .sentinel], laidTests := true, laidLooks := .later }
def NumBackUptoCardSaid : Prop := Claim7.holds Tryd.pinned (.plain (OpenSpec.upto numBackSpec)) numBackUptoCard

/-- THE SECOND FORM's CARD OF 'bridlewaylaw01.NumAgainst'. -/
def numAgainstUptoCard : Claim7 := { stood := { row := numAgainstUptoRow, standIns := [], harness := (true, "11e051e8abf7da6584466ae94e922e0523fe7117e0fdd82369bb9e77880e7865"), looks := true }, kinds := [], alts := [], laidByText := true, laidKinds := [.data, .data, .data, .sentinel, .sentinel], laidTests := true, laidLooks := .later }
def NumAgainstUptoCardSaid : Prop := Claim7.holds Tryd.pinned (.plain (OpenSpec.upto numAgainstSpec)) numAgainstUptoCard

/-- THE SECOND FORM's CARD OF 'bridlewaylaw01.NumSteps'. -/
def numStepsUptoCard : Claim7 := { stood := { row := numStepsUptoRow, standIns := [], harness := (true, "11e051e8abf7da6584466ae94e922e0523fe7117e0fdd82369bb9e77880e7865"), looks := true }, kinds := [], alts := [], laidByText := true, laidKinds := [.data, .data, .data, .sentinel, .sentinel], laidTests := true, laidLooks := .later }
def NumStepsUptoCardSaid : Prop := Claim7.holds Tryd.pinned (.plain (OpenSpec.upto numStepsSpec)) numStepsUptoCard

/-- THE SECOND FORM's CARD OF 'bridlewaylaw01.NumSigns'. -/
def numSignsUptoCard : Claim7 := { stood := { row := numSignsUptoRow, standIns := [], harness := (true, "11e051e8abf7da6584466ae94e922e0523fe7117e0fdd82369bb9e77880e7865"), looks := true }, kinds := [], alts := [], laidByText := true, laidKinds := [.data, .data, .data, .sentinel, .sentinel], laidTests := true, laidLooks := .later }
def NumSignsUptoCardSaid : Prop := Claim7.holds Tryd.pinned (.plain (OpenSpec.upto numSignsSpec)) numSignsUptoCard

/-- THE SECOND FORM's CARD OF 'bridlewaylaw01.NumWhole'. -/
def numWholeUptoCard : Claim7 := { stood := { row := numWholeUptoRow, standIns := [], harness := (true, "11e051e8abf7da6584466ae94e922e0523fe7117e0fdd82369bb9e77880e7865"), looks := true }, kinds := [], alts := [], laidByText := true, laidKinds := [.data, .data, .data, .sentinel, .sentinel], laidTests := true, laidLooks := .later }
def NumWholeUptoCardSaid : Prop := Claim7.holds Tryd.pinned (.plain (OpenSpec.upto numWholeSpec)) numWholeUptoCard

/-- THE SECOND FORM's CARD OF 'bridlewaylaw01.NumParsed'. -/
def numParsedUptoCard : Claim7 := { stood := { row := numParsedUptoRow, standIns := [], harness := (true, "11e051e8abf7da6584466ae94e922e0523fe7117e0fdd82369bb9e77880e7865"), looks := true }, kinds := [], alts := [], laidByText := true, laidKinds := [.data, .data, .data, .sentinel, .sentinel], laidTests := true, laidLooks := .later }
def NumParsedUptoCardSaid : Prop := Claim7.holds Tryd.pinned (.plain (OpenSpec.upto numParsedSpec)) numParsedUptoCard
end Rows
end Go.Proofs.YtpnbjofddlbagaaDoor
