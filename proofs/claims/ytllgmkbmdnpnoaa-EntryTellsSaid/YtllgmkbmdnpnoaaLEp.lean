/- EntryTells: whether anything may be an entry, its bytes, and what any counts come to behind it, are the document's. No condition. -/
import Derived.Test.YtllgmkbmdnpnoaaB06
namespace Go.Proofs.Ytllgmkbmdnpnoaa
theorem entTells_all : Rows.EntryTellsSaid := tells11_holds entryCalls
end Go.Proofs.Ytllgmkbmdnpnoaa
