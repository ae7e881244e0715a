/- GENERIC: A MAP FROM int TO SLICES, TOLD PLAINLY: which slice stands at each key; its operations; a range over it. -/
import Derived.Test.YtphniphlflijeaaLies
import Derived.Maps.RangeWalk
import Derived.Deep.Upon
namespace Go.Proofs.Ytphniphlflijeaa
open Go.RowKit Go.Maps
set_option linter.unusedVariables false
set_option linter.unusedSimpArgs false

/-- a slice is read as itself -/
def selfElem : Value → Option (DataW Value × List MemPlace)
  | .slice a n c => some (.held (.slice a n c), [])
  | _ => none
theorem selfElem_inv {v : Value} {y : DataW Value × List MemPlace} (h : selfElem v = some y) : ∃ a n c, v = .slice a n c ∧ y = (.held v, []) := by
  unfold selfElem at h
  split at h
  · simp at h; exact ⟨_, _, _, rfl, h.symm⟩
  · cases h
/-- what was read tells M -/
def Tells (D : DataW Value) (M : Int → Option Value) : Prop := ∀ e, (Lit.int .i64 e).wf = true → ∀ zd, D.atKey (.int .i64 e) zd = ((M e).map DataW.held).getD zd

/-- block b is a map, of n entries at most, that has the slices M -/
def MapIs (P : Program) (k : TypeId) (w : World) (b n : Nat) (M : Int → Option Value) : Prop := ∃ D, w.ownsMap P k selfElem b n D ∧ Tells D M
/-- it is ranged over; what is still to come -/
def RangeIs (P : Program) (k : TypeId) (w : World) (b r n : Nat) (M : Int → Option Value) (left : Int → Bool) (cnt : Nat) : Prop :=
  ∃ D lt, w.ranges P k selfElem b r n D lt cnt ∧ Tells D M ∧ ∀ e, (Lit.int .i64 e).wf = true → lt (.int .i64 e) = left e

section
variable {P : Program} {k E t : TypeId} {w w' : World} {b r n : Nat} {M : Int → Option Value} {left : Int → Bool} {cnt : Nat}
theorem MapIs.lt (h : MapIs P k w b n M) : b < w.heap.size := by obtain ⟨D, h, _⟩ := h; exact h.lt
theorem MapIs.isMap (h : MapIs P k w b n M) : ∃ es c, w.heap[b]? = some (.map es c) := by obtain ⟨D, ⟨es, c, h, _⟩, _⟩ := h; exact ⟨es, c, h⟩
theorem MapIs.same (h : MapIs P k w b n M) (hs : w'.heap[b]? = w.heap[b]?) : MapIs P k w' b n M := by
  obtain ⟨D, ⟨es, c, hb, r⟩, t⟩ := h
  exact ⟨D, ⟨es, c, hs.trans hb, r⟩, t⟩
theorem MapIs.keep {S : List Nat} (h : MapIs P k w b n M) (hf : Fr S w w') (hb : b ∉ S) : MapIs P k w' b n M := h.same (hf.block b h.lt hb)
theorem MapIs.mono (h : MapIs P k w b n M) {n' : Nat} (hn : n ≤ n') : MapIs P k w b n' M := by obtain ⟨D, h, t⟩ := h; exact ⟨D, h.mono hn, t⟩
theorem MapIs.made (P : Program) (k : TypeId) (w : World) : MapIs P k (w.alloc (.map #[] 0)) w.heap.size 0 (fun _ => none) :=
  ⟨_, World.ownsMap_made w P k selfElem, fun e _ zd => rfl⟩
theorem RangeIs.keep {S : List Nat} (h : RangeIs P k w b r n M left cnt) (hf : Fr S w w') (hb : b ∉ S) (hr : r ∉ S) : RangeIs P k w' b r n M left cnt := by
  obtain ⟨D, lt, h, t, hl⟩ := h
  have h1 := h.owns.lt
  have h2 := h.lt
  obtain ⟨es, clock, since, seen, c0, hb', F, hs, hD, hr', rest⟩ := h
  exact ⟨D, lt, ⟨es, clock, since, seen, c0, (hf.block b h1 hb).trans hb', F, hs, hD, (hf.block r h2 hr).trans hr', rest⟩, t, hl⟩
theorem RangeIs.map (h : RangeIs P k w b r n M left cnt) : MapIs P k w b n M := by obtain ⟨D, lt, h, t, _⟩ := h; exact ⟨D, h.owns, t⟩
theorem RangeIs.ltR (h : RangeIs P k w b r n M left cnt) : r < w.heap.size := by obtain ⟨D, lt, h, t, _⟩ := h; exact h.lt
theorem RangeIs.left_eq (h : RangeIs P k w b r n M left cnt) : w.rangeLeft b r = cnt := by obtain ⟨D, lt, h, t, _⟩ := h; exact h.left_eq
theorem fr_grown {row : Nat} (hg : w.grownBy w' (some row)) : Fr [row] w w' := Fr.of_grown (row := some row) hg

/-- m[e] -/
theorem MapIs.look (h : MapIs P k w b n M) (hk : P.underlying k = some (.int .i64)) (ht : P.underlying t = some (.map k E)) (hz : (zeroValue E).run P w = .ok (.slice none 0 0) w) {e : Int} (he : (Lit.int .i64 e).wf = true) :
    (Instr.lookup t (.map (some b)) (.int .i64 e) false).run P w = .ok ((M e).getD (.slice none 0 0)) w := by
  obtain ⟨D, h, tl⟩ := h
  obtain ⟨v, ps, hrun, hv⟩ := h.lookup (int_keyed hk) ht hz (zd := .held (.slice none 0 0)) (zp := []) rfl (keyOf_int_mk hk he)
  obtain ⟨_, _, _, _, hy⟩ := selfElem_inv hv
  rw [tl e he] at hy
  have : v = (M e).getD (.slice none 0 0) := by
    cases hm : M e with
    | none => rw [hm] at hy; simp at hy; rw [← hy.1]; rfl
    | some u => rw [hm] at hy; simp at hy; rw [← hy.1]; rfl
  rw [hrun, this]
/-- m[e] = v -/
theorem MapIs.store (h : MapIs P k w b n M) (hk : P.underlying k = some (.int .i64)) (ht : P.underlying t = some (.map k E)) (hn : n < maxLen) {e : Int} (he : (Lit.int .i64 e).wf = true) (a : Option Addr) (l c : Nat) :
    ∃ w', (Instr.mapUpdate t (.map (some b)) (.int .i64 e) (.slice a l c)).run P w = .ok () w' ∧ MapIs P k w' b (n + 1) (fun z => if z = e then some (.slice a l c) else M z) ∧ Fr [b] w w' := by
  obtain ⟨D, h, tl⟩ := h
  have hkey := keyOf_int_mk hk he
  obtain ⟨w', hrun, hown, hg⟩ := h.update (int_keyed hk) ht hn hkey (val := .slice a l c) (d := .held (.slice a l c)) (ps := []) rfl
  refine ⟨w', hrun, ⟨_, hown, fun z hz zd => ?_⟩, fr_grown hg⟩
  dsimp only
  by_cases hze : z = e
  · subst hze
    rw [if_pos rfl, atKey_put_same h.isMap ((int_keyed hk).key hkey)]
    rfl
  · rw [if_neg hze, atKey_put_other (by intro hc; apply hze; injection hc), tl z hz]
/-- range m -/
theorem MapIs.range (h : MapIs P k w b n M) (hk : P.underlying k = some (.int .i64)) (ht : P.underlying t = some (.map k E)) :
    ∃ w' cnt, (Instr.range t (.map (some b))).run P w = .ok (.pointer (some ⟨w.heap.size, 0, none⟩)) w' ∧ RangeIs P k w' b w.heap.size n M (fun e => (M e).isSome) cnt ∧ Fr [] w w' := by
  obtain ⟨D, h, tl⟩ := h
  obtain ⟨w', hrun, hr, hg, _⟩ := h.range (int_keyed hk) ht
  refine ⟨w', _, hrun, ⟨D, _, hr, tl, fun e he => ?_⟩, Fr.of_grown hg⟩
  dsimp only
  cases hm : M e with
  | none => exact has_false_of_atKey fun z => by rw [tl e he, hm]; rfl
  | some v => exact has_true_of_atKey (y := .held v) fun z => by rw [tl e he, hm]; rfl

variable {ops : Array Oper} {rest : List Oper} {o : Oper} {a : Act} {Q : Exit → Act → World → Prop}
theorem wpList_look_map (hg : o.guard = none) (m x : Operand) (t : TypeId) (hop : o.op = Op.lookup t m x false) (k E : TypeId) (hk : P.underlying k = some (.int .i64)) (ht : P.underlying t = some (.map k E)) (hz : (zeroValue E).run P w = .ok (.slice none 0 0) w)
    (b n : Nat) (M : Int → Option Value) (hm : a.eval m = .map (some b)) (h : MapIs P k w b n M) (e : Int) (hx : a.eval x = .int .i64 e) (he : (Lit.int .i64 e).wf = true)
    (hK : ∀ v, v = (M e).getD (.slice none 0 0) → wpList P ops Q rest (a.put o.dst v) w) : wpList P ops Q (o :: rest) a w := by
  refine wpList_plain hg fun K' hK' => ?_
  have hrun := h.look hk ht hz he
  unfold Oper.wp
  simp [execOp, hop, hm, hx, hrun, Result.andThen]
  exact hK' _ _ (hK _ rfl)
theorem wpList_range_map (hg : o.guard = none) (m : Operand) (t : TypeId) (hop : o.op = Op.range t m) (k E : TypeId) (hk : P.underlying k = some (.int .i64)) (ht : P.underlying t = some (.map k E))
    (b n : Nat) (M : Int → Option Value) (hm : a.eval m = .map (some b)) (h : MapIs P k w b n M)
    (hK : ∀ w' cnt, RangeIs P k w' b w.heap.size n M (fun e => (M e).isSome) cnt → Fr [] w w' → wpList P ops Q rest (a.put o.dst (.pointer (some ⟨w.heap.size, 0, none⟩))) w') : wpList P ops Q (o :: rest) a w := by
  refine wpList_plain hg fun K' hK' => ?_
  obtain ⟨w', cnt, hrun, r1, r2⟩ := h.range hk ht
  unfold Oper.wp
  simp [execOp, hop, hm, hrun, Result.andThen]
  exact hK' _ _ (hK w' cnt r1 r2)
/-- the step of a range: nothing is left, or one comes -/
theorem wpList_next_map (hg : o.guard = none) (it : Operand) (hop : o.op = Op.next it false) (k : TypeId) (hk : P.underlying k = some (.int .i64)) (b r n : Nat) (M : Int → Option Value) (left : Int → Bool) (cnt : Nat)
    (hit : a.eval it = .pointer (some ⟨r, 0, none⟩)) (h : RangeIs P k w b r n M left cnt)
    (hDone : (∀ e, (Lit.int .i64 e).wf = true → left e = false) → wpList P ops Q rest (a.put o.dst (.tuple #[.bool false])) w)
    (hMore : ∀ (x : Int) (c : Option Addr × Nat × Nat) (w' : World) (cnt' : Nat), (Lit.int .i64 x).wf = true → left x = true → M x = some (.slice c.1 c.2.1 c.2.2) → RangeIs P k w' b r n M (fun z => left z && !decide (z = x)) cnt' → cnt' < cnt →
      Fr [r] w w' → (Instr.entry (.pointer (some ⟨r, 0, none⟩))).run P w' = .ok (.tuple #[.int .i64 x, .slice c.1 c.2.1 c.2.2]) w' → wpList P ops Q rest (a.put o.dst (.tuple #[.bool true, .int .i64 x, .slice c.1 c.2.1 c.2.2])) w') :
    wpList P ops Q (o :: rest) a w := by
  obtain ⟨D, lt, h, tl, hl⟩ := h
  refine wpList_next_ranges w hg it hop k (int_keyed hk) selfElem (Value.int .i64) (fun c : Option Addr × Nat × Nat => .slice c.1 c.2.1 c.2.2)
    (fun key kl hkey => by obtain ⟨x, rfl, _⟩ := keyOf_int_inv hk hkey; exact ⟨x, rfl⟩) (fun v y hv => by obtain ⟨x, y, z, rfl, _⟩ := selfElem_inv hv; exact ⟨(x, y, z), rfl⟩) b r n D lt cnt hit h (fun _ h0 => hDone fun e he => by rw [← hl e he]; exact h0 _) ?_
  intro x c kl y w' cnt' hkey hlk hv hat hrg hlt hgr hsz hen
  obtain ⟨x', ex, rfl, hwx⟩ := keyOf_int_inv hk hkey
  cases ex
  obtain ⟨_, _, _, _, rfl⟩ := selfElem_inv hv
  refine hMore x c w' cnt' hwx (by rw [← hl x hwx]; exact hlk) ?_ ⟨D, _, hrg, tl, fun e he => ?_⟩ hlt (fr_grown hgr) hen
  · have h1 := hat .nil
    rw [tl x hwx] at h1
    cases hm : M x with
    | none => rw [hm] at h1; cases h1
    | some u => rw [hm] at h1; simp at h1; rw [h1]
  · simp only [hl e he]
    congr 1
    congr 1
    by_cases hex : e = x
    · subst hex
      rw [WideAt.sameKey_self ((int_keyed hk).key hkey)]; simp
    · rw [sameKey_ne (by intro hc; apply hex; injection hc)]; simp [hex]
/-- delete(m, e) -/
theorem wpList_delete_map (hg : o.guard = none) (m x : Operand) (t k : TypeId) (hop : o.op = Op.call { callee := Callee.builtin Builtin.delete, args := #[m, x], argTypes := #[t, k] }) (E : TypeId) (hk : P.underlying k = some (.int .i64)) (ht : P.underlying t = some (.map k E))
    (b n : Nat) (M : Int → Option Value) (hm : a.eval m = .map (some b)) (h : MapIs P k w b n M) (e : Int) (hx : a.eval x = .int .i64 e) (he : (Lit.int .i64 e).wf = true)
    (hK : ∀ w', MapIs P k w' b n (fun z => if z = e then none else M z) → Fr [b] w w' → wpList P ops Q rest (a.put o.dst (.tuple #[])) w') : wpList P ops Q (o :: rest) a w := by
  obtain ⟨D, h, tl⟩ := h
  refine wpList_delete_own w hg m x t k hop E (int_keyed hk) ht selfElem b n D hm h _ _ hx (keyOf_int_mk hk he) fun w' h1 h2 => hK w' ⟨_, h1, fun z hz zd => ?_⟩ (fr_grown h2.grown)
  dsimp only
  by_cases hze : z = e
  · subst hze
    rw [if_pos rfl, atKey_del_same]
    rfl
  · rw [if_neg hze, atKey_del_other (by intro hc; apply hze; injection hc), tl z hz]
end
end Go.Proofs.Ytphniphlflijeaa
