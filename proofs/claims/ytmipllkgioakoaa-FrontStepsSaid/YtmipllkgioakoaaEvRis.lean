/- PACKAGE event: rising: what keys have, by keys -/
import Derived.Test.YtmipllkgioakoaaEvFil
import Derived.Test.YtmipllkgioakoaaMapS
import Derived.Test.YtmipllkgioakoaaEvOne
import Derived.Test.YtmipllkgioakoaaIter
namespace Go.Proofs.Ytmipllkgioakoaa
open Go.RowKit Go.Maps
set_option linter.unusedVariables false
set_option linter.unusedSimpArgs false

theorem str_key : Try.prog.underlying 9 = some .string := Try.underlying9
theorem str_slice : Try.prog.underlying 34 = some (.slice 9) := Try.underlying34
def Ev.ag (x : Ev) : Array Value := #[.int .i64 x.rev, .string x.key, .string x.val, .bool x.del]
def Kv.ag (x : Kv) : Array Value := #[.string x.key, .string x.val, .int .i64 x.rev]
theorem zero_ev (w : World) : (zeroValue 50).run Try.prog w = .ok (.agg #[.int .i64 0, .string ⟨#[]⟩, .string ⟨#[]⟩, .bool false]) w := by kernel_rfl
theorem map_kv : Try.prog.underlying 80 = some (.map 9 37) := Try.underlying80
theorem zero_kv (w : World) : (zeroValue 37).run Try.prog w = .ok (.agg #[.string ⟨#[]⟩, .string ⟨#[]⟩, .int .i64 0]) w := by kernel_rfl
end Go.Proofs.Ytmipllkgioakoaa
