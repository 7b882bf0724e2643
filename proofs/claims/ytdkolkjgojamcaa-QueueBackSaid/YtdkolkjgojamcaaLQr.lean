/- QueueBack: a queue is read from its bytes as it was; bytes that are read are those of what is read. No condition. -/
import Derived.Test.YtdkolkjgojamcaaB05
namespace Go.Proofs.Ytdkolkjgojamcaa
theorem queueBack_all : Rows.QueueBackSaid := back13_holds queueBoth
end Go.Proofs.Ytdkolkjgojamcaa
