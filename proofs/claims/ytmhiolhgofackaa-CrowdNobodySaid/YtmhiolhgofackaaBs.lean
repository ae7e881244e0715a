/- PACKAGE bst, PLAINLY: nodes, works, calls, and what a step makes of them -/
import Derived.Test.YtmhiolhgofackaaBytes
import Derived.Test.YtmhiolhgofackaaBsMem
namespace Go.Proofs.Ytmhiolhgofackaa
open Go.RowKit
set_option linter.unusedVariables false
set_option linter.unusedSimpArgs false

/-- a node: its place is its index -/
structure Nd where
  inner : Bool
  fin : Bool
  key : ByteArray
  val : Int
  cell : Int
deriving Inhabited
def Nd.above (n : Nd) (k : ByteArray) : Bool := n.fin || Op.bytesLess k.toList n.key.toList
def Nd.has (n : Nd) (k : ByteArray) : Bool := !n.fin && (k.toList == n.key.toList)
/-- a work: its number is its index and one -/
structure Wk where
  state : Int
  key : ByteArray
  at_ : Nat
  old : Nat
  next : Option Nat
  seen : Int
deriving Inhabited
structure Tr where
  ns : List Nd
  ws : List Wk
  live : Nat → Bool
  ms : MS
def Tr.nd (t : Tr) (p : Nat) : Nd := t.ns.getD p default
def Tr.wk (t : Tr) (i : Nat) : Wk := t.ws.getD (i - 1) default
/-- where a child stands: its cell, and how far -/
structure Br where
  cell : Int
  first : Int
def Tr.left (t : Tr) (p : Nat) : Br := ⟨(t.nd p).cell + 1, (p : Int) - 2⟩
def Tr.right (t : Tr) (p : Nat) : Br := ⟨(t.nd p).cell + 2, (p : Int) - 1⟩
def Tr.toward (t : Tr) (p : Nat) (k : ByteArray) : Br := if (t.nd p).above k then t.left p else t.right p
def Tr.beside (t : Tr) (p : Nat) (k : ByteArray) : Br := if (t.nd p).above k then t.right p else t.left p
/-- who stands there -/
def Tr.kid (t : Tr) (b : Br) : Nat := ((b.first + t.ms.at b.cell) % 18446744073709551616).toNat
def Tr.ask (t : Tr) (c : Int) : Tr := { t with ms := t.ms.ask c }
def Tr.cas (t : Tr) (c old new : Int) : Tr := { t with ms := t.ms.cas c old new }
def packW (s i : Int) : Int := (i * 4 + s % 4) % 18446744073709551616
def u64 (x : Int) : Int := x % 18446744073709551616
def Tr.turn (t : Tr) (b : Br) (old next : Nat) : Tr := t.cas b.cell (u64 (old - b.first)) (u64 (next - b.first))
def Tr.room (t : Tr) : Bool := decide (t.ms.c.length ≤ 65533)
/-- two leaves and an inner node -/
def Tr.join (t : Tr) (low high : Nd) : Tr :=
  { t with ns := t.ns ++ [low, high, ⟨true, high.fin, high.key, 0, t.ms.c.length⟩], ms := t.ms.grow 3 }
def leafOf (k : ByteArray) (v : Int) : Nd := ⟨false, false, k, v, 0⟩
def Tr.split (t : Tr) (l : Nat) (k : ByteArray) (v : Int) : Tr :=
  if (t.nd l).above k then t.join (leafOf k v) (t.nd l) else t.join (t.nd l) (leafOf k v)

inductive Kd | ins | rem | fnd | sek
deriving DecidableEq
/-- what is gone on by -/
inductive Th | told (l : Nat) | look | fail
inductive Md | find | seek | left | way
inductive Stp
  | desc (b : Br) (m : Md)
  | beg | look | down
  | grow (l : Nat)
  | lose (l : Nat)
  | mark (o : Nat) (th fl : Th)
  | drop (o : Nat) (th : Th)
  | take (o next : Nat) (th : Th)
  | fin (o : Nat) (th : Th)
structure Ps where
  node : Nat
  asked : Bool
  seen : Int
deriving Inhabited
structure An where
  ok : Bool
  key : ByteArray
  val : Int
  err : Int
def An.no : An := ⟨false, ByteArray.empty, 0, 0⟩
structure Cl where
  kd : Kd
  key : ByteArray
  val : Int
  path : List Ps
  full : Bool
  over : Option Nat
  ans : An
/-- the passed node that is n above the last one -/
def Cl.up (c : Cl) (n : Nat) : Ps := c.path.getD (c.path.length - 1 - n) default
def Cl.pass (c : Cl) (n : Nat) : Cl := { c with path := c.path ++ [⟨n, false, 0⟩] }
def Cl.cut (c : Cl) (n : Nat) : Cl := { c with path := c.path.take (c.path.length - n) }
def Cl.saw (c : Cl) (was : Int) : Cl := { c with path := c.path.set (c.path.length - 1) ⟨(c.up 0).node, true, was⟩ }
def Cl.tell (c : Cl) (a : An) : Cl := { c with ans := a }
abbrev Out := Cl × Option Stp
def Cl.found (t : Tr) (c : Cl) (l : Nat) : Out := if (t.nd l).fin then (c.tell .no, none) else (c.tell ⟨true, (t.nd l).key, (t.nd l).val, 0⟩, none)
/-- what is done at a leaf -/
def Cl.leaf (t : Tr) (c : Cl) (l : Nat) (m : Md) : Out :=
  match c.kd with
  | .ins => if (t.nd l).has c.key then (c.tell ⟨false, c.key, (t.nd l).val, 0⟩, none) else if c.full then (c.tell ⟨false, ByteArray.empty, 0, 7⟩, none) else if (c.up 0).asked then (c, some (.grow l)) else (c, some .look)
  | .rem => if (t.nd l).has c.key then (if (c.up 1).asked then (c, some (.lose l)) else (c.cut 1, some .look)) else (c.tell ⟨false, c.key, 0, 0⟩, none)
  | .fnd => if (t.nd l).has c.key then (c.tell ⟨true, c.key, (t.nd l).val, 0⟩, none) else (c.tell ⟨false, c.key, 0, 0⟩, none)
  | .sek => match m with
    | .seek => if (t.nd l).above c.key || (t.nd l).has c.key then c.found t l else (c, some (.desc (t.right (c.over.getD 0)) .left))
    | _ => c.found t l
def Cl.toward (t : Tr) (c : Cl) (n : Nat) : Md → Cl × Br
  | .find => (c, t.toward n c.key)
  | .seek => (if (t.nd n).above c.key then { c with over := some n } else c, t.toward n c.key)
  | .left => (c, t.left n)
  | .way => (c.pass n, t.toward n c.key)
def Cl.desc (t : Tr) (c : Cl) (n : Nat) (m : Md) : Out :=
  if (t.nd n).inner then ((c.toward t n m).1, some (.desc (c.toward t n m).2 m)) else c.leaf t n m
def Cl.run (t : Tr) (c : Cl) : Th → Out
  | .told l => (c.tell ⟨true, c.key, if c.kd = .ins then c.val else (t.nd l).val, 0⟩, none)
  | .look => (c, some .look)
  | .fail => (c.cut 1, some .look)
def Cl.help (t : Tr) (c : Cl) (w : Int) (th : Th) : Out :=
  if t.live (w / 4).toNat then
    if w % 4 = 1 then (c, some (.take (w / 4).toNat ((t.wk (w / 4).toNat).next.getD 0) th))
    else if w % 4 = 2 then (c, some (.mark (w / 4).toNat th th))
    else (c, some (.drop (w / 4).toNat th))
  else c.run t th
def Cl.met (t : Tr) (c : Cl) (was : Int) : Out :=
  if was % 4 = 0 then (c.saw was, some .down)
  else if was % 4 = 3 then (c.cut 1).help t was .look else c.help t was .look
def Tr.word (t : Tr) (p : Nat) : Int := (t.nd p).cell
/-- a work that is started -/
def Tr.start (t : Tr) (o : Wk) : Tr := { t with ws := t.ws ++ [o], live := fun i => if i = t.ws.length + 1 then true else t.live i }
def Tr.begin (t : Tr) (o : Wk) (seen : Int) : Tr :=
  let t' := t.cas (t.word o.at_) seen (packW o.state (t.ws.length + 1))
  if t.ms.casB (t.word o.at_) seen then t'.start o else t'
def stepP (t : Tr) (c : Cl) : Stp → Tr × Out
  | .desc b m => (t.ask b.cell, c.desc (t.ask b.cell) (t.kid b) m)
  | .beg => let c' := { c with full := !t.room, path := [⟨2, false, 0⟩] }
    (t.ask (t.toward 2 c.key).cell, c'.desc t (t.kid (t.toward 2 c.key)) .way)
  | .look => (t.ask (t.word (c.up 0).node), c.met t (t.ms.at (t.word (c.up 0).node)))
  | .down => let n := t.kid (t.toward (c.up 0).node c.key)
    (t.ask (t.toward (c.up 0).node c.key).cell, if (t.nd n).inner then (c.pass n, some .look) else c.leaf t n .way)
  | .grow l =>
    if t.room then
      let p := (c.up 0).node
      if t.ms.casB (t.word p) (c.up 0).seen then
        let i := t.ws.length + 1
        let nx := t.ns.length + 2
        (((t.begin ⟨1, c.key, p, l, some nx, 0⟩ (c.up 0).seen).split l c.key c.val), (c, some (.take i nx (.told l))))
      else (t.begin ⟨1, c.key, p, l, none, 0⟩ (c.up 0).seen, c.met t (t.ms.at (t.word p)))
    else let c' := { c with full := !t.room, path := [⟨2, false, 0⟩] }
      (t.ask (t.toward 2 c.key).cell, c'.desc t (t.kid (t.toward 2 c.key)) .way)
  | .lose l =>
    let a := (c.up 1).node
    let o : Wk := ⟨2, c.key, a, (c.up 0).node, none, (c.up 0).seen⟩
    (t.begin o (c.up 1).seen, if t.ms.casB (t.word a) (c.up 1).seen then (c, some (.mark (t.ws.length + 1) (.told l) .fail)) else (c.cut 1).met t (t.ms.at (t.word a)))
  | .mark o th fl =>
    let w := t.wk o
    let was := t.ms.at (t.word w.old)
    (t.cas (t.word w.old) w.seen (packW 3 o), (c, some (if t.ms.casB (t.word w.old) w.seen || was == packW 3 o then .drop o th else .fin o fl)))
  | .drop o th => let b := t.beside (t.wk o).old (t.wk o).key
    (t.ask b.cell, (c, some (.take o (t.kid b) th)))
  | .take o next th => (t.turn (t.toward (t.wk o).at_ (t.wk o).key) (t.wk o).old next, (c, some (.fin o th)))
  | .fin o th =>
    let t' := { t.cas (t.word (t.wk o).at_) (packW (t.wk o).state o) (packW 0 o) with live := fun i => if i = o then false else t.live i }
    (t', c.run t th)
end Go.Proofs.Ytmhiolhgofackaa
