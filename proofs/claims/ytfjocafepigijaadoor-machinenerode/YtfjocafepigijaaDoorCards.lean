/-
  DERIVED. GIVEN WITH THE SEED: THE CARDS: each row of YtfjocafepigijaaDoorRows.lean that lists a variable, with what it lists TIED to the program's text (the seventh form; the later family's looks); each row that meets fmt, with fmt's text TOLD by the authors' own Lean function (tested against real Go, not proved from fmt's source: count such statements apart). THE CARD IS WHAT COUNTS. Prove the row's statement (the work); the ties are given (YtfjocafepigijaaDoorTie.lean); close each card by the builder's one call (the guide's Derived/Test/ToyasCard.lean, 'card_holds'). Laid BY PROGRAM, IN A SANDBOX (cutbox-door.mjs). By AI agents, Wed Nov 11 2026. No macro, syntax, notation, axiom, sorry.
-/
import Derived.Test.YtfjocafepigijaaDoorRows
import GoSem.ClaimSeven
namespace Go.Proofs.YtfjocafepigijaaDoor
namespace Rows

/-- THE TIED CARD OF 'wordhoardlaw.MachineOuts'. -/
def machineOutsCard : Claim7 := { stood := { row := machineOutsRow, standIns := [], harness := (true, "d6adbee08f14bd9ffcf5332214b92ecf956708dc1478702880f02da32724314a"), looks := false }, kinds := [], alts := [], laidByText := true, laidKinds := [.data], laidTests := true, laidLooks := .later }
def MachineOutsCardSaid : Prop := Claim7.holds Tryd.pinned (.plain (OpenSpec.ofChange machineOutsSpec)) machineOutsCard

/-- THE TIED CARD OF 'wordhoardlaw.MachineThrough'. -/
def machineThroughCard : Claim7 := { stood := { row := machineThroughRow, standIns := [], harness := (true, "d6adbee08f14bd9ffcf5332214b92ecf956708dc1478702880f02da32724314a"), looks := false }, kinds := [], alts := [], laidByText := true, laidKinds := [.data], laidTests := true, laidLooks := .later }
def MachineThroughCardSaid : Prop := Claim7.holds Tryd.pinned (.plain (OpenSpec.ofChange machineThroughSpec)) machineThroughCard

/-- THE TIED CARD OF 'wordhoardlaw.MachineSures'. -/
def machineSuresCard : Claim7 := { stood := { row := machineSuresRow, standIns := [], harness := (true, "d6adbee08f14bd9ffcf5332214b92ecf956708dc1478702880f02da32724314a"), looks := false }, kinds := [], alts := [], laidByText := true, laidKinds := [.data], laidTests := true, laidLooks := .later }
def MachineSuresCardSaid : Prop := Claim7.holds Tryd.pinned (.plain (OpenSpec.ofChange machineSuresSpec)) machineSuresCard

/-- THE TIED CARD OF 'wordhoardlaw.MachineNerode'. -/
def machineNerodeCard : Claim7 := { stood := { row := machineNerodeRow, standIns := [], harness := (true, "d6adbee08f14bd9ffcf5332214b92ecf956708dc1478702880f02da32724314a"), looks := false }, kinds := [], alts := [], laidByText := true, laidKinds := [.data], laidTests := true, laidLooks := .later }
def MachineNerodeCardSaid : Prop := Claim7.holds Tryd.pinned (.plain (OpenSpec.ofChange machineNerodeSpec)) machineNerodeCard

/-- THE SECOND FORM's CARD OF 'wordhoardlaw.MachineOuts'. -/
def machineOutsUptoCard : Claim7 := { stood := { row := machineOutsUptoRow, standIns := [], harness := (true, "d6adbee08f14bd9ffcf5332214b92ecf956708dc1478702880f02da32724314a"), looks := false }, kinds := [], alts := [], laidByText := true, laidKinds := [.data], laidTests := true, laidLooks := .later }
def MachineOutsUptoCardSaid : Prop := Claim7.holds Tryd.pinned (.plain (OpenSpec.upto machineOutsSpec)) machineOutsUptoCard

/-- THE SECOND FORM's CARD OF 'wordhoardlaw.MachineThrough'. -/
def machineThroughUptoCard : Claim7 := { stood := { row := machineThroughUptoRow, standIns := [], harness := (true, "d6adbee08f14bd9ffcf5332214b92ecf956708dc1478702880f02da32724314a"), looks := false }, kinds := [], alts := [], laidByText := true, laidKinds := [.data], laidTests := true, laidLooks := .later }
def MachineThroughUptoCardSaid : Prop := Claim7.holds Tryd.pinned (.plain (OpenSpec.upto machineThroughSpec)) machineThroughUptoCard

/-- THE SECOND FORM's CARD OF 'wordhoardlaw.MachineSures'. -/
def machineSuresUptoCard : Claim7 := { stood := { row := machineSuresUptoRow, standIns := [], harness := (true, "d6adbee08f14bd9ffcf5332214b92ecf956708dc1478702880f02da32724314a"), looks := false }, kinds := [], alts := [], laidByText := true, laidKinds := [.data], laidTests := true, laidLooks := .later }
def MachineSuresUptoCardSaid : Prop := Claim7.holds Tryd.pinned (.plain (OpenSpec.upto machineSuresSpec)) machineSuresUptoCard

/-- THE SECOND FORM's CARD OF 'wordhoardlaw.MachineNerode'. -/
def machineNerodeUptoCard : Claim7 := { stood := { row := machineNerodeUptoRow, standIns := [], harness := (true, "d6adbee08f14bd9ffcf5332214b92ecf956708dc1478702880f02da32724314a"), looks := false }, kinds := [], alts := [], laidByText := true, laidKinds := [.data], laidTests := true, laidLooks := .later }
def MachineNerodeUptoCardSaid : Prop := Claim7.holds Tryd.pinned (.plain (OpenSpec.upto machineNerodeSpec)) machineNerodeUptoCard
end Rows
end Go.Proofs.YtfjocafepigijaaDoor
