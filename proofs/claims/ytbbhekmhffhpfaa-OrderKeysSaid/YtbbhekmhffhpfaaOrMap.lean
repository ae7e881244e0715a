/- GENERIC, AT PACKAGE order's POINTS: A SET OF POINTS (a map whose keys are structs of two uints, and whose elements are empty structs), told plainly -/
import Derived.Test.YtbbhekmhffhpfaaOrAt
import Derived.Test.YtbbhekmhffhpfaaLaw
import Derived.WideKeyArgs
import Derived.DeepKeys4
import Derived.Maps.OwnSet
import Derived.Maps.Views
namespace Go.Proofs.Ytbbhekmhffhpfaa
open Go.RowKit Go.Maps
set_option linter.unusedVariables false
set_option linter.unusedSimpArgs false

def ptV (d t : Nat) : Value := .agg #[.int .u64 d, .int .u64 t]
def ptB (d t : Nat) : List Lit := [.int .u64 d, .int .u64 t]
def ptL (d t : Nat) : Lit := .string (keyBytes (ptB d t))
theorem pt_under : Try.prog.underlying 48 = some (.struct (match Try.prog.underlying 48 with | some (.struct fs) => fs | _ => #[])) := by kernel_rfl
theorem pt_law : WideMaps.KeyLaw Try.prog 48 := deep_law_laid laid_prog (m := 2) (by omega) (of_decide_eq_true (by kernel_rfl)) (by kernel_rfl) (by rw [pt_under])
theorem pt_keyed : Keyed Try.prog 48 := Keyed.of_law pt_law
theorem wf_u64 {d : Nat} (h : d < 4096) : (Lit.int .u64 d).wf = true := by
  have h1 : IntKind.u64.min = 0 := rfl
  have h2 : IntKind.u64.max = 18446744073709551615 := rfl
  simp only [Lit.wf, Bool.and_eq_true, decide_eq_true_eq]
  omega
theorem pt_key {d t : Nat} (hd : d < 4096) (ht : t < 4096) : keyOf Try.prog 48 (ptV d t) = some (ptL d t) := by
  have hu := Try.underlying48
  have hi := Try.underlying46
  have hc : Try.prog.cellsOf 48 = 2 := by kernel_rfl
  have hc1 : Try.prog.cellsOf 46 = 1 := by kernel_rfl
  have hkt : Try.prog.keyType 48 = true := by kernel_rfl
  have hf : (ptV d t).formed Try.prog 48 = true := by simp [ptV, Value.formed, hu, hc]
  have hz0 : 0 < Try.prog.types.size := of_decide_eq_true (by kernel_rfl)
  have hz : ∃ m, Try.prog.types.size = m + 1 := ⟨Try.prog.types.size - 1, by omega⟩
  have w1 := wf_u64 hd
  have w2 := wf_u64 ht
  obtain ⟨m, hm⟩ := hz
  have hk : Try.prog.keyLits (Try.prog.types.size + 1) 48 (ptV d t).cells.toList = some (ptB d t) := by
    rw [hm]
    unfold Program.keyLits
    simp only [hu]
    rw [if_pos (by exact ⟨by rw [hc]; rfl, by kernel_rfl⟩)]
    simp only [List.mapM_cons, List.mapM_nil, hc1]
    simp [Program.keyLits, hi, ptV, Value.cells, w1, w2, ptB]
  unfold keyOf
  rw [hu]
  dsimp only
  rw [if_pos (by rw [hkt, hf]; rfl), hk]
  rfl
theorem pt_inj {d t d' t' : Nat} (hd : d < 4096) (ht : t < 4096) (hd' : d' < 4096) (ht' : t' < 4096) (h : ptL d t = ptL d' t') : d = d' ∧ t = t' := by
  have h1 : keyBytes (ptB d t) = keyBytes (ptB d' t') := by injection h
  have h2 := keyBytes_inj (l := ptB d t) (l' := ptB d' t') ⟨rfl, rfl, trivial⟩
    (by intro a ha; simp only [ptB, List.mem_cons, List.not_mem_nil, or_false] at ha; rcases ha with rfl | rfl; exact wf_u64 hd; exact wf_u64 ht)
    (by intro a ha; simp only [ptB, List.mem_cons, List.not_mem_nil, or_false] at ha; rcases ha with rfl | rfl; exact wf_u64 hd'; exact wf_u64 ht') h1
  unfold ptB at h2
  simp only [List.cons.injEq, Lit.int.injEq, true_and, and_true] at h2
  omega
/-- block b is a set of n points at most, those of M -/
def PtSet (w : World) (b n : Nat) (M : Nat → Nat → Bool) : Prop := ∃ D : DataW Value, w.ownsMap Try.prog 48 unitElem b n D ∧ ∀ d t, d < 4096 → t < 4096 → Maps.has D (ptL d t) = M d t
section
variable {w w' : World} {b n : Nat} {M : Nat → Nat → Bool}
theorem PtSet.lt (h : PtSet w b n M) : b < w.heap.size := by obtain ⟨D, h, _⟩ := h; exact h.lt
theorem PtSet.same (h : PtSet w b n M) (hs : w'.heap[b]? = w.heap[b]?) : PtSet w' b n M := by
  obtain ⟨D, ⟨es, c, hb, r⟩, t⟩ := h
  exact ⟨D, ⟨es, c, hs.trans hb, r⟩, t⟩
theorem PtSet.keep {S : List Nat} (h : PtSet w b n M) (hf : Fr S w w') (hb : b ∉ S) : PtSet w' b n M := h.same (hf.block b h.lt hb)
theorem PtSet.mono (h : PtSet w b n M) {n' : Nat} (hn : n ≤ n') : PtSet w b n' M := by obtain ⟨D, h, t⟩ := h; exact ⟨D, h.mono hn, t⟩
theorem PtSet.made (w : World) : PtSet (w.alloc (.map #[] 0)) w.heap.size 0 (fun _ _ => false) := ⟨_, World.ownsMap_made w Try.prog 48 unitElem, fun d t _ _ => rfl⟩
theorem PtSet.isMap (h : PtSet w b n M) : ∃ es c, w.heap[b]? = some (.map es c) := by obtain ⟨D, ⟨es, c, h, _⟩, _⟩ := h; exact ⟨es, c, h⟩
/-- _, ok := m[p] -/
theorem PtSet.look (h : PtSet w b n M) {d t : Nat} (hd : d < 4096) (ht : t < 4096) : (Instr.lookup 44 (.map (some b)) (ptV d t) true).run Try.prog w = .ok (.tuple #[.agg #[], .bool (M d t)]) w := by
  obtain ⟨D, h, tl⟩ := h
  obtain ⟨v, ps, hrun, hv⟩ := h.look_ok pt_keyed Try.underlying44 (z := .agg #[]) (by kernel_rfl) unitElem_mk (pt_key hd ht)
  obtain ⟨rfl, _⟩ := unitElem_inv hv
  rw [hrun, tl d t hd ht]
/-- m[p] = struct{}{} -/
theorem PtSet.put (h : PtSet w b n M) (hn : n < maxLen) {d t : Nat} (hd : d < 4096) (ht : t < 4096) :
    ∃ w', (Instr.mapUpdate 44 (.map (some b)) (ptV d t) (.agg #[])).run Try.prog w = .ok () w' ∧ PtSet w' b (n + 1) (fun d' t' => if d' = d ∧ t' = t then true else M d' t') ∧ Fr [b] w w' := by
  have hm := h.isMap
  obtain ⟨D, h, tl⟩ := h
  obtain ⟨w', hrun, hown, hg⟩ := h.update pt_keyed Try.underlying44 hn (pt_key hd ht) (val := .agg #[]) unitElem_mk
  refine ⟨w', hrun, ⟨_, hown, fun d' t' hd' ht' => ?_⟩, Fr.of_grown (row := some b) hg⟩
  dsimp only
  by_cases e : d' = d ∧ t' = t
  · obtain ⟨rfl, rfl⟩ := e
    rw [if_pos ⟨rfl, rfl⟩]
    exact has_put_same h.isMap (pt_keyed.key (pt_key hd ht)) _
  · rw [if_neg e, has_put_other (fun e2 => e (pt_inj hd' ht' hd ht e2)), tl d' t' hd' ht']
end
end Go.Proofs.Ytbbhekmhffhpfaa
