/- REQUESTS IN MEMORY: compares, strings, a request's slices -/
import Derived.Test.YtjclbgeclopheaaTx
import Derived.Test.YtjclbgeclopheaaAway
namespace Go.Proofs.Ytjclbgeclopheaa
open Go.RowKit
set_option linter.unusedVariables false
set_option linter.unusedSimpArgs false

def Cm.cells (c : Cm) : List Value := [.int .i64 c.kind, .string c.key, .string c.val, .int .i64 c.rev]
theorem Cm.clen (c : Cm) : c.cells.length = 4 := rfl
theorem Cm.cone (x : Cm) : ∀ y ∈ x.cells, y.oneCell' = true := by
  intro y hy
  simp only [Cm.cells, List.mem_cons, List.not_mem_nil, or_false] at hy
  rcases hy with rfl | rfl | rfl | rfl <;> rfl
theorem cm_slice : Try.prog.underlying 25 = some (.slice 61) := Try.underlying25
theorem cm_info : (Try.prog.info? 61).map (fun i => (i.zero, i.size, i.bytes)) = some (some (.agg #[.int .i64 0, .string ⟨#[]⟩, .string ⟨#[]⟩, .int .i64 0]), 4, 48) := by kernel_rfl
def CmIn (w : World) (v : Value) (l : List Cm) : Prop := LIn Cm.cells 4 w v l
structure CmC (w : World) (g off : Nat) (x : Cm) : Prop where
  c0 : w.cell? ⟨g, off, none⟩ = some (.int .i64 x.kind)
  c1 : w.cell? ⟨g, off + 1, none⟩ = some (.string x.key)
  c2 : w.cell? ⟨g, off + 2, none⟩ = some (.string x.val)
  c3 : w.cell? ⟨g, off + 3, none⟩ = some (.int .i64 x.rev)
theorem CmIn.here {w : World} {v : Value} {l : List Cm} (h : CmIn w v l) (hn : 0 < l.length) : ∃ g off c, v = .slice (some ⟨g, off, none⟩) l.length c ∧ g < w.heap.size ∧ l.length ≤ c ∧ ∀ i x, l[i]? = some x → CmC w g (off + i * 4) x := by
  obtain ⟨g, off, c, hv, h1, h2, h3⟩ := LIn.here h hn
  refine ⟨g, off, c, hv, h1, h2, fun i x hx => ?_⟩
  have q := h3 i x hx
  have e0 := q 0 (by decide)
  have e1 := q 1 (by decide)
  have e2 := q 2 (by decide)
  have e3 := q 3 (by decide)
  rw [← Nat.add_assoc] at e0 e1 e2 e3
  exact ⟨e0, e1, e2, e3⟩
/-- strings that are read -/
def stC (s : ByteArray) : List Value := [.string s]
theorem stC_len (s : ByteArray) : (stC s).length = 1 := rfl
theorem stC_one (x : ByteArray) : ∀ y ∈ stC x, y.oneCell' = true := by
  intro y hy
  simp only [stC, List.mem_singleton] at hy
  subst hy; rfl
def StIn (w : World) (v : Value) (l : List ByteArray) : Prop := LIn stC 1 w v l
theorem StIn.here {w : World} {v : Value} {l : List ByteArray} (h : StIn w v l) (hn : 0 < l.length) : ∃ g off c, v = .slice (some ⟨g, off, none⟩) l.length c ∧ g < w.heap.size ∧ l.length ≤ c ∧ ∀ i x, l[i]? = some x → w.cell? ⟨g, off + i, none⟩ = some (.string x) := by
  obtain ⟨g, off, c, hv, h1, h2, h3⟩ := LIn.here h hn
  refine ⟨g, off, c, hv, h1, h2, fun i x hx => ?_⟩
  have q := h3 i x hx 0 (by decide)
  simpa [stC] using q
/-- a request's slices -/
structure RqIn (w : World) (q : Rq) (cv tv ev : Value) : Prop where
  c : CmIn w cv q.cmps
  t : OdIn w tv q.thn
  e : OdIn w ev q.els
  wf : q.f.size ≤ maxLen ∧ q.t.size ≤ maxLen
theorem RqIn.keep0 {w w' : World} {q : Rq} {cv tv ev : Value} (h : RqIn w q cv tv ev) (hf : Fr [] w w') : RqIn w' q cv tv ev := ⟨LIn.keep0 h.c hf, LIn.keep0 h.t hf, LIn.keep0 h.e hf, h.wf⟩
theorem rq_info : (Try.prog.info? 28).map (fun i => (i.zero, i.size, i.bytes)) = some (some (.agg #[.int .i64 0, .string ⟨#[]⟩, .string ⟨#[]⟩, .int .i64 0, .slice none 0 0, .slice none 0 0, .slice none 0 0]), 7, 120) := by kernel_rfl
def rqA (q : Rq) (cv tv ev : Value) : Value := .agg #[.int .i64 q.kind, .string q.f, .string q.t, .int .i64 q.rev, cv, tv, ev]
def rqB (q : Rq) (cv tv ev : Value) : Obj := .cells #[.int .i64 q.kind, .string q.f, .string q.t, .int .i64 q.rev, cv, tv, ev] 28
/-- the short requests -/
def putQ (k v : ByteArray) (wf : k.size ≤ maxLen ∧ v.size ≤ maxLen) : Rq := ⟨1, ⟨#[]⟩, ⟨#[]⟩, 0, [], [⟨k, v, false, wf⟩], []⟩
def delQ (k : ByteArray) (wf : k.size ≤ maxLen) : Rq := ⟨1, ⟨#[]⟩, ⟨#[]⟩, 0, [], [⟨k, ⟨#[]⟩, true, wf, by decide⟩], []⟩
def swapQ (k a b : ByteArray) (wf : k.size ≤ maxLen) (wa : a.size ≤ maxLen) (wb : b.size ≤ maxLen) : Rq := ⟨1, ⟨#[]⟩, ⟨#[]⟩, 0, [⟨1, k, a, 0, wf, wa⟩], [⟨k, b, false, wf, wb⟩], []⟩
end Go.Proofs.Ytjclbgeclopheaa
