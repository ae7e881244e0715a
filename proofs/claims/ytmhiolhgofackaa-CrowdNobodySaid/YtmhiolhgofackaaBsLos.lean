/- PACKAGE bst: a Delete's work is begun -/
import Derived.Test.YtmhiolhgofackaaBsGro
namespace Go.Proofs.Ytmhiolhgofackaa
open Go.RowKit
set_option linter.unusedVariables false
set_option linter.unusedSimpArgs false

structure LoseOk (t : Tr) (c : Cl) (l : Nat) : Prop where
  l : l < t.ns.length
  ne : 2 ≤ c.path.length
  len : c.path.length ≤ 1000000000
  no : NdOk t (c.up 1).node
  old : (c.up 0).node < t.ns.length
  cells : t.ms.c.length ≤ 65536
  asked : t.ms.n ≤ 1000000000000
  live : ∀ i, t.live i = true → i ≤ t.ws.length
  ws : t.ws.length ≤ 900000000
  was : IsU (t.ms.at (t.word (c.up 1).node))
  hlp : HlpOk t (t.ms.at (t.word (c.up 1).node))
  path : ∀ p ∈ c.path, p.node < t.ns.length
  over : c.over = none
end Go.Proofs.Ytmhiolhgofackaa
