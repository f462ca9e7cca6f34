/-
  DERIVED. GIVEN WITH THE SEED: THE CARDS: each row of YtcfjhbcpjpgodaaGreatDoorRows.lean that lists a variable, with what it lists TIED to the program's text (the seventh form; the later family's looks); each row that meets fmt, with fmt's text TOLD by the authors' own Lean function (tested against real Go, not proved from fmt's source: count such statements apart). THE CARD IS WHAT COUNTS. Prove the row's statement (the work); the ties are given (YtcfjhbcpjpgodaaGreatDoorTie.lean); close each card by the builder's one call (the guide's Derived/Test/ToyasCard.lean, 'card_holds'). Laid BY PROGRAM, IN A SANDBOX (cutbox-door.mjs). By AI agents, Wed Nov 11 2026. No macro, syntax, notation, axiom, sorry.
-/
import Derived.Test.YtcfjhbcpjpgodaaGreatDoorRows
import GoSem.ClaimSeven
namespace Go.Proofs.YtcfjhbcpjpgodaaGreatDoor
namespace Rows

/-- THE TIED CARD OF 'synodlaw.Nodes'. -/
def nodesCard : Claim7 := { stood := { row := nodesRow, standIns := [], harness := (true, "46df472dfdd5f22e5887ffbb0dfcf60825593c874bc96b2ec9ea9be721b0bebf"), looks := true }, kinds := [], alts := [], laidByText := true, laidKinds := [.data, .handle, .sentinel, .sentinel, .sentinel, .sentinel, .sentinel, .sentinel, .sentinel, .sentinel, .sentinel, .sentinel, .sentinel, .sentinel, .pinned], laidTests := true, laidLooks := .later }
def NodesCardSaid : Prop := Claim7.holds Tryz.pinned (.plain (OpenSpec.ofChange nodesSpec)) nodesCard

/-- THE TIED CARD OF 'synodkeep.Stray'. -/
def strayCard : Claim7 := { stood := { row := strayRow, standIns := [], harness := (true, "46df472dfdd5f22e5887ffbb0dfcf60825593c874bc96b2ec9ea9be721b0bebf"), looks := true }, kinds := [], alts := [], laidByText := true, laidKinds := [.data, .sentinel, .sentinel, .sentinel, .sentinel, .sentinel, .sentinel, .sentinel, .sentinel, .sentinel, .sentinel, .pinned], laidTests := true, laidLooks := .later }
def StrayCardSaid : Prop := Claim7.holds Tryz.pinned (.plain (OpenSpec.ofChange straySpec)) strayCard

/-- THE TIED CARD OF 'synodkeep.Agreed'. -/
def agreedCard : Claim7 := { stood := { row := agreedRow, standIns := [], harness := (true, "46df472dfdd5f22e5887ffbb0dfcf60825593c874bc96b2ec9ea9be721b0bebf"), looks := true }, kinds := [], alts := [], laidByText := true, laidKinds := [.data, .handle, .sentinel, .sentinel, .sentinel, .sentinel, .sentinel, .sentinel, .sentinel, .sentinel, .sentinel, .sentinel, .sentinel, .sentinel, .pinned], laidTests := true, laidLooks := .later }
def AgreedCardSaid : Prop := Claim7.holds Tryz.pinned (.plain (OpenSpec.ofChange agreedSpec)) agreedCard

/-- THE TIED CARD OF 'synodkeep.Live'. -/
def liveCard : Claim7 := { stood := { row := liveRow, standIns := [], harness := (true, "46df472dfdd5f22e5887ffbb0dfcf60825593c874bc96b2ec9ea9be721b0bebf"), looks := true }, kinds := [], alts := [], laidByText := true, laidKinds := [.data, .handle, .sentinel, .sentinel, .sentinel, .sentinel, .sentinel, .sentinel, .sentinel, .sentinel, .sentinel, .sentinel, .sentinel, .sentinel, .pinned], laidTests := true, laidLooks := .later }
def LiveCardSaid : Prop := Claim7.holds Tryz.pinned (.plain (OpenSpec.ofChange liveSpec)) liveCard

/-- THE TIED CARD OF 'synodkeep.Blamed'. -/
def blamedCard : Claim7 := { stood := { row := blamedRow, standIns := [], harness := (true, "46df472dfdd5f22e5887ffbb0dfcf60825593c874bc96b2ec9ea9be721b0bebf"), looks := true }, kinds := [], alts := [], laidByText := true, laidKinds := [.data, .handle, .sentinel, .sentinel, .sentinel, .sentinel, .sentinel, .pinned], laidTests := true, laidLooks := .later }
def BlamedCardSaid : Prop := Claim7.holds Tryz.pinned (.plain (OpenSpec.ofChange blamedSpec)) blamedCard

/-- THE SECOND FORM's CARD OF 'synodlaw.Nodes'. -/
def nodesUptoCard : Claim7 := { stood := { row := nodesUptoRow, standIns := [], harness := (true, "46df472dfdd5f22e5887ffbb0dfcf60825593c874bc96b2ec9ea9be721b0bebf"), looks := true }, kinds := [], alts := [], laidByText := true, laidKinds := [.data, .handle, .sentinel, .sentinel, .sentinel, .sentinel, .sentinel, .sentinel, .sentinel, .sentinel, .sentinel, .sentinel, .sentinel, .sentinel, .pinned], laidTests := true, laidLooks := .later }
def NodesUptoCardSaid : Prop := Claim7.holds Tryz.pinned (.plain (OpenSpec.upto nodesSpec)) nodesUptoCard

/-- THE SECOND FORM's CARD OF 'synodkeep.Stray'. -/
def strayUptoCard : Claim7 := { stood := { row := strayUptoRow, standIns := [], harness := (true, "46df472dfdd5f22e5887ffbb0dfcf60825593c874bc96b2ec9ea9be721b0bebf"), looks := true }, kinds := [], alts := [], laidByText := true, laidKinds := [.data, .sentinel, .sentinel, .sentinel, .sentinel, .sentinel, .sentinel, .sentinel, .sentinel, .sentinel, .sentinel, .pinned], laidTests := true, laidLooks := .later }
def StrayUptoCardSaid : Prop := Claim7.holds Tryz.pinned (.plain (OpenSpec.upto straySpec)) strayUptoCard

/-- THE SECOND FORM's CARD OF 'synodkeep.Agreed'. -/
def agreedUptoCard : Claim7 := { stood := { row := agreedUptoRow, standIns := [], harness := (true, "46df472dfdd5f22e5887ffbb0dfcf60825593c874bc96b2ec9ea9be721b0bebf"), looks := true }, kinds := [], alts := [], laidByText := true, laidKinds := [.data, .handle, .sentinel, .sentinel, .sentinel, .sentinel, .sentinel, .sentinel, .sentinel, .sentinel, .sentinel, .sentinel, .sentinel, .sentinel, .pinned], laidTests := true, laidLooks := .later }
def AgreedUptoCardSaid : Prop := Claim7.holds Tryz.pinned (.plain (OpenSpec.upto agreedSpec)) agreedUptoCard

/-- THE SECOND FORM's CARD OF 'synodkeep.Live'. -/
def liveUptoCard : Claim7 := { stood := { row := liveUptoRow, standIns := [], harness := (true, "46df472dfdd5f22e5887ffbb0dfcf60825593c874bc96b2ec9ea9be721b0bebf"), looks := true }, kinds := [], alts := [], laidByText := true, laidKinds := [.data, .handle, .sentinel, .sentinel, .sentinel, .sentinel, .sentinel, .sentinel, .sentinel, .sentinel, .sentinel, .sentinel, .sentinel, .sentinel, .pinned], laidTests := true, laidLooks := .later }
def LiveUptoCardSaid : Prop := Claim7.holds Tryz.pinned (.plain (OpenSpec.upto liveSpec)) liveUptoCard

/-- THE SECOND FORM's CARD OF 'synodkeep.Blamed'. -/
def blamedUptoCard : Claim7 := { stood := { row := blamedUptoRow, standIns := [], harness := (true, "46df472dfdd5f22e5887ffbb0dfcf60825593c874bc96b2ec9ea9be721b0bebf"), looks := true }, kinds := [], alts := [], laidByText := true, laidKinds := [.data, .handle, .sentinel, .sentinel, .sentinel, .sentinel, .sentinel, .pinned], laidTests := true, laidLooks := .later }
def BlamedUptoCardSaid : Prop := Claim7.holds Tryz.pinned (.plain (OpenSpec.upto blamedSpec)) blamedUptoCard
end Rows
end Go.Proofs.YtcfjhbcpjpgodaaGreatDoor
