/- EntryOrder: entries that are unlike have unlike bytes. No condition. -/
import Derived.Test.YtllgmkbmdnpnoaaB06
namespace Go.Proofs.Ytllgmkbmdnpnoaa
theorem entOrder_all : Rows.EntryOrderSaid := order11_holds entryCalls
end Go.Proofs.Ytllgmkbmdnpnoaa
