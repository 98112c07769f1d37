/- Contracts of the document's answers for layer latest: Find, counts. | Contracts of the document's answers for layer latest: counts. | Contracts of the document's answers for layer latest: put. | Contracts of the document's answers for layer latest: Of, Top. | Contracts of the document's answers for layer latest: needed, Needed. | Contracts of the document's answers for layer latest: Needed, Same. | Contracts of the document's Same, and of the helpers ours and theirs (layer latest). -/
import Derived.Test.YtpkkejdjhnmjiaaGreatLatTools
namespace Go.Proofs.YtpkkejdjhnmjiaaGreat
open Go.RowKit Bm
end Go.Proofs.YtpkkejdjhnmjiaaGreat
namespace Go.Proofs.YtpkkejdjhnmjiaaGreat
open Go.RowKit Bm
end Go.Proofs.YtpkkejdjhnmjiaaGreat
namespace Go.Proofs.YtpkkejdjhnmjiaaGreat
open Go.RowKit Bm
end Go.Proofs.YtpkkejdjhnmjiaaGreat
namespace Go.Proofs.YtpkkejdjhnmjiaaGreat
open Go.RowKit Bm
theorem cnt_len (bs : List BlkM) : (cnt bs).length ≤ 8 * bs.length := cntU_len bs _
end Go.Proofs.YtpkkejdjhnmjiaaGreat
namespace Go.Proofs.YtpkkejdjhnmjiaaGreat
open Go.RowKit Bm
end Go.Proofs.YtpkkejdjhnmjiaaGreat
namespace Go.Proofs.YtpkkejdjhnmjiaaGreat
open Go.RowKit Bm
end Go.Proofs.YtpkkejdjhnmjiaaGreat
namespace Go.Proofs.YtpkkejdjhnmjiaaGreat
open Go.RowKit Bm
end Go.Proofs.YtpkkejdjhnmjiaaGreat
