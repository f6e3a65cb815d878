import Derived.Test.YtfanaanofjhlkaaGreatDoorPickN
import Derived.Laws.BytesArg
namespace Go.Proofs.YtfanaanofjhlkaaGreatDoor
open Go Go.RowKit
theorem infoTask:(Tryz.prog.info? 62).map (fun i=>(i.zero,i.size,i.bytes))=some (some (.agg #[.string ⟨#[]⟩,.int .i64 0,.int .i64 0]),3,32):=by kernel_rfl
end Go.Proofs.YtfanaanofjhlkaaGreatDoor
