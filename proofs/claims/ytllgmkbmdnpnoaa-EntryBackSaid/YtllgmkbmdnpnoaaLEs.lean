/- EntryBack: entries that may be, one behind the other, are read as they were; what is read of bytes has just these. No condition. -/
import Derived.Test.YtllgmkbmdnpnoaaB06
namespace Go.Proofs.Ytllgmkbmdnpnoaa
theorem entBack_all : Rows.EntryBackSaid := back11_holds entryCalls
end Go.Proofs.Ytllgmkbmdnpnoaa
