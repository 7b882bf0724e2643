/- RosterTells is proved: whether any members may be, where a device is, the stable place, the stable counter, who is overdue, and their bytes, are the document's. No condition. -/
import Derived.Test.YtjjjpifdmgpnjaaB05
namespace Go.Proofs.Ytjjjpifdmgpnjaa
theorem rosterTells_all : Rows.RosterTellsSaid := tells16_holds rosterCalls
end Go.Proofs.Ytjjjpifdmgpnjaa
