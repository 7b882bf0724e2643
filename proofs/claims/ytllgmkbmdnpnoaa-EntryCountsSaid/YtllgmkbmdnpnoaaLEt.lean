/- EntryCounts: behind entries each device has one count: of its last life, as many as the number of its last operation there. No condition. -/
import Derived.Test.YtllgmkbmdnpnoaaB06
namespace Go.Proofs.Ytllgmkbmdnpnoaa
theorem entCounts_all : Rows.EntryCountsSaid := counts11_holds entryCalls
end Go.Proofs.Ytllgmkbmdnpnoaa
