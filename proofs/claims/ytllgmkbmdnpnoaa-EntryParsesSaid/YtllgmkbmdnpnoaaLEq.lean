/- EntryParses: the entry of any bytes, or that they are none's, is the document's. No condition. -/
import Derived.Test.YtllgmkbmdnpnoaaB06
namespace Go.Proofs.Ytllgmkbmdnpnoaa
theorem entParses_all : Rows.EntryParsesSaid := parses11_holds entryCalls
end Go.Proofs.Ytllgmkbmdnpnoaa
