/-
  InboxGaps: the law holds: for every input the call returns true, and each argument reads afterwards as it did; and its tied card.
-/
import Derived.Test.YtcjdjdganaokfaaDoorInbU
import Derived.Test.YtcjdjdganaokfaaDoorInbTab
import Derived.Test.YtcjdjdganaokfaaDoorTie
import Derived.Test.YtcjdjdganaokfaaDoorCards
import Derived.ProofKit
import Derived.OpenShut
import Derived.ShutString
import Derived.LaidMore
import Derived.Lay
import Derived.SevenTiedAt
import Derived.Stop.Joined
namespace Go.Proofs.YtcjdjdganaokfaaDoor.inboxGaps
open Go.ChangeShapes Go.WideShapes Go.ChangeAt Go.RowKit
open Go.ChangeMaps (open_string shut_string)

end Go.Proofs.YtcjdjdganaokfaaDoor.inboxGaps
