/- GENERIC: A MAP, TOLD PLAINLY: what stands at each key (keys of any kind, values that are read as themselves); its operations; a range over it. -/
import Derived.Test.YtmhiolhgofackaaLies
import Derived.Maps.RangeWalk
import Derived.Sort.KeysCollected
import Derived.Deep.Upon
namespace Go.Proofs.Ytmhiolhgofackaa
open Go.RowKit Go.Maps
set_option linter.unusedVariables false
set_option linter.unusedSimpArgs false

/-- keys told plainly -/
structure KeyD (κ : Type) where
  v : κ → Value
  l : κ → Lit
  ok : κ → Prop
/-- they are the keys of a type -/
structure KeyT (P : Program) (k : TypeId) {κ : Type} (K : KeyD κ) : Prop where
  keyed : Keyed P k
  key : ∀ e, K.ok e → keyOf P k (K.v e) = some (K.l e)
  inv : ∀ u m, keyOf P k u = some m → ∃ e, K.ok e ∧ u = K.v e ∧ m = K.l e
  inj : ∀ a b, K.l a = K.l b → a = b
def intD : KeyD Int := ⟨Value.int .i64, Lit.int .i64, fun e => (Lit.int .i64 e).wf = true⟩
theorem intT {P : Program} {k : TypeId} (hk : P.underlying k = some (.int .i64)) : KeyT P k intD where
  keyed := int_keyed hk
  key := fun e h => keyOf_int_mk hk h
  inv := fun u m h => by obtain ⟨x, h1, h2, h3⟩ := keyOf_int_inv hk h; exact ⟨x, h3, h1, h2⟩
  inj := fun a b h => by injection h
theorem encStr_l (x : List UInt8) : encStr x = .string ⟨x.toArray⟩ := by simp [encStr]
def strD : KeyD ByteArray := ⟨Value.string, fun e => Lit.string e.data.toList, fun e => e.size ≤ maxLen⟩
theorem strT {P : Program} {k : TypeId} (hk : P.underlying k = some .string) : KeyT P k strD where
  keyed := string_keyed hk
  key := fun e h => WideMaps.keyOf_string_mk hk h
  inv := fun u m h => by
    obtain ⟨x, h1, h2, h3⟩ := Maps.keyOf_str hk h
    refine ⟨⟨x.toArray⟩, ?_, ?_, ?_⟩
    · show x.toArray.size ≤ maxLen; simpa using h3
    · rw [h1, encStr_l]; rfl
    · rw [h2]; rfl
  inj := fun a b h => by
    injection h with h
    cases a; cases b
    exact congrArg ByteArray.mk (Array.toList_inj.1 h)
/-- a value is read as itself -/
def selfIf (ok : Value → Bool) (v : Value) : Option (DataW Value × List MemPlace) := if ok v = true then some (.held v, []) else none
theorem selfIf_inv {ok : Value → Bool} {v : Value} {y : DataW Value × List MemPlace} (h : selfIf ok v = some y) : ok v = true ∧ y = (.held v, []) := by
  unfold selfIf at h
  split at h
  · rename_i hk; simp at h; exact ⟨hk, h.symm⟩
  · cases h
theorem selfIf_mk {ok : Value → Bool} {v : Value} (h : ok v = true) : selfIf ok v = some (.held v, []) := by unfold selfIf; rw [if_pos h]
/-- the kinds of values -/
def isSl : Value → Bool
  | .slice _ _ _ => true
  | _ => false
theorem isSl_inv {v : Value} (h : isSl v = true) : ∃ c : Option Addr × Nat × Nat, v = .slice c.1 c.2.1 c.2.2 := by
  cases v <;> simp [isSl] at h
  exact ⟨(_, _, _), rfl⟩
def isI64 : Value → Bool
  | .int .i64 _ => true
  | _ => false
theorem isI64_inv {v : Value} (h : isI64 v = true) : ∃ c, v = .int .i64 c := by
  unfold isI64 at h
  split at h
  · exact ⟨_, rfl⟩
  · cases h
def isBo : Value → Bool
  | .bool _ => true
  | _ => false
theorem isBo_inv {v : Value} (h : isBo v = true) : ∃ c, v = .bool c := by
  cases v <;> simp [isBo] at h
  exact ⟨_, rfl⟩

section
variable {κ : Type} (P : Program) (k : TypeId) (K : KeyD κ) (ok : Value → Bool)
/-- what was read tells M -/
def TellsG (D : DataW Value) (M : κ → Option Value) : Prop := ∀ e, K.ok e → ∀ zd, D.atKey (K.l e) zd = ((M e).map DataW.held).getD zd
/-- block b is a map, of n entries at most, that has M -/
def MapG (w : World) (b n : Nat) (M : κ → Option Value) : Prop := ∃ D, w.ownsMap P k (selfIf ok) b n D ∧ TellsG K D M
/-- it is ranged over; what is still to come -/
def RangeG (w : World) (b r n : Nat) (M : κ → Option Value) (left : κ → Bool) (cnt : Nat) : Prop :=
  ∃ D lt, w.ranges P k (selfIf ok) b r n D lt cnt ∧ TellsG K D M ∧ ∀ e, K.ok e → lt (K.l e) = left e
end

section
variable {κ : Type} {P : Program} {k E t : TypeId} {K : KeyD κ} {ok : Value → Bool} {w w' : World} {b r n : Nat} {M : κ → Option Value} {left : κ → Bool} {cnt : Nat}
theorem KeyT.ne (T : KeyT P k K) {a b : κ} (h : a ≠ b) : K.l a ≠ K.l b := fun e => h (T.inj a b e)
theorem MapG.lt (h : MapG P k K ok w b n M) : b < w.heap.size := by obtain ⟨D, h, _⟩ := h; exact h.lt
theorem MapG.isMap (h : MapG P k K ok w b n M) : ∃ es c, w.heap[b]? = some (.map es c) := by obtain ⟨D, ⟨es, c, h, _⟩, _⟩ := h; exact ⟨es, c, h⟩
theorem MapG.same (h : MapG P k K ok w b n M) (hs : w'.heap[b]? = w.heap[b]?) : MapG P k K ok w' b n M := by
  obtain ⟨D, ⟨es, c, hb, r⟩, t⟩ := h
  exact ⟨D, ⟨es, c, hs.trans hb, r⟩, t⟩
theorem MapG.keep {S : List Nat} (h : MapG P k K ok w b n M) (hf : Fr S w w') (hb : b ∉ S) : MapG P k K ok w' b n M := h.same (hf.block b h.lt hb)
theorem MapG.mono (h : MapG P k K ok w b n M) {n' : Nat} (hn : n ≤ n') : MapG P k K ok w b n' M := by obtain ⟨D, h, t⟩ := h; exact ⟨D, h.mono hn, t⟩
theorem MapG.eq (h : MapG P k K ok w b n M) {M' : κ → Option Value} (hm : ∀ x, K.ok x → M' x = M x) : MapG P k K ok w b n M' := by
  obtain ⟨D, h, t⟩ := h; exact ⟨D, h, fun e he zd => by rw [hm e he]; exact t e he zd⟩
theorem MapG.made (P : Program) (k : TypeId) (K : KeyD κ) (ok : Value → Bool) (w : World) : MapG P k K ok (w.alloc (.map #[] 0)) w.heap.size 0 (fun _ => none) :=
  ⟨_, World.ownsMap_made w P k (selfIf ok), fun e _ zd => rfl⟩
theorem fr_grownG {row : Nat} (hg : w.grownBy w' (some row)) : Fr [row] w w' := Fr.of_grown (row := some row) hg
theorem RangeG.keep {S : List Nat} (h : RangeG P k K ok w b r n M left cnt) (hf : Fr S w w') (hb : b ∉ S) (hr : r ∉ S) : RangeG P k K ok w' b r n M left cnt := by
  obtain ⟨D, lt, h, t, hl⟩ := h
  have h1 := h.owns.lt
  have h2 := h.lt
  obtain ⟨es, clock, since, seen, c0, hb', F, hs, hD, hr', rest⟩ := h
  exact ⟨D, lt, ⟨es, clock, since, seen, c0, (hf.block b h1 hb).trans hb', F, hs, hD, (hf.block r h2 hr).trans hr', rest⟩, t, hl⟩
theorem RangeG.map (h : RangeG P k K ok w b r n M left cnt) : MapG P k K ok w b n M := by obtain ⟨D, lt, h, t, _⟩ := h; exact ⟨D, h.owns, t⟩
theorem RangeG.ltR (h : RangeG P k K ok w b r n M left cnt) : r < w.heap.size := by obtain ⟨D, lt, h, t, _⟩ := h; exact h.lt
theorem RangeG.left_eq (h : RangeG P k K ok w b r n M left cnt) : w.rangeLeft b r = cnt := by obtain ⟨D, lt, h, t, _⟩ := h; exact h.left_eq

/-- m[e] -/
theorem MapG.look (T : KeyT P k K) (h : MapG P k K ok w b n M) (ht : P.underlying t = some (.map k E)) {z : Value} (hz : (zeroValue E).run P w = .ok z w) (hzk : ok z = true) {e : κ} (he : K.ok e) :
    (Instr.lookup t (.map (some b)) (K.v e) false).run P w = .ok ((M e).getD z) w := by
  obtain ⟨D, h, tl⟩ := h
  obtain ⟨v, ps, hrun, hv⟩ := h.lookup T.keyed ht hz (zd := .held z) (zp := []) (selfIf_mk hzk) (T.key e he)
  obtain ⟨_, hy⟩ := selfIf_inv hv
  rw [tl e he] at hy
  have : v = (M e).getD z := by
    cases hm : M e with
    | none => rw [hm] at hy; simp at hy; rw [← hy.1]; rfl
    | some u => rw [hm] at hy; simp at hy; rw [← hy.1]; rfl
  rw [hrun, this]
/-- m[e] = v -/
theorem MapG.store (T : KeyT P k K) (h : MapG P k K ok w b n M) (ht : P.underlying t = some (.map k E)) (hn : n < maxLen) [DecidableEq κ] {e : κ} (he : K.ok e) {x : Value} (hx : ok x = true) :
    ∃ w', (Instr.mapUpdate t (.map (some b)) (K.v e) x).run P w = .ok () w' ∧ MapG P k K ok w' b (n + 1) (fun z => if z = e then some x else M z) ∧ Fr [b] w w' := by
  obtain ⟨D, h, tl⟩ := h
  have hkey := T.key e he
  obtain ⟨w', hrun, hown, hg⟩ := h.update T.keyed ht hn hkey (val := x) (d := .held x) (ps := []) (selfIf_mk hx)
  refine ⟨w', hrun, ⟨_, hown, fun z hz zd => ?_⟩, fr_grownG hg⟩
  dsimp only
  by_cases hze : z = e
  · subst hze
    rw [if_pos rfl, atKey_put_same h.isMap (T.keyed.key hkey)]
    rfl
  · rw [if_neg hze, atKey_put_other (T.ne hze), tl z hz]
/-- range m -/
theorem MapG.range (T : KeyT P k K) (h : MapG P k K ok w b n M) (ht : P.underlying t = some (.map k E)) :
    ∃ w' cnt, (Instr.range t (.map (some b))).run P w = .ok (.pointer (some ⟨w.heap.size, 0, none⟩)) w' ∧ RangeG P k K ok w' b w.heap.size n M (fun e => (M e).isSome) cnt ∧ cnt ≤ n ∧ Fr [] w w' := by
  obtain ⟨D, h, tl⟩ := h
  have hsz : Maps.size D ≤ n := by
    obtain ⟨es, clock, _, F, hs, rfl⟩ := h
    rw [size_eq, (WideShapes.sorted_perm _).length_eq]
    simpa using hs
  obtain ⟨w', hrun, hr, hg, _⟩ := h.range T.keyed ht
  refine ⟨w', _, hrun, ⟨D, _, hr, tl, fun e he => ?_⟩, hsz, Fr.of_grown hg⟩
  dsimp only
  cases hm : M e with
  | none => exact has_false_of_atKey fun z => by rw [tl e he, hm]; rfl
  | some v => exact has_true_of_atKey (y := .held v) fun z => by rw [tl e he, hm]; rfl

variable {ops : Array Oper} {rest : List Oper} {o : Oper} {a : Act} {Q : Exit → Act → World → Prop}
theorem wpList_look_G (hg : o.guard = none) (m x : Operand) (t : TypeId) (hop : o.op = Op.lookup t m x false) (K : KeyD κ) (T : KeyT P k K) (ok : Value → Bool) (E : TypeId) (ht : P.underlying t = some (.map k E)) (z : Value) (hz : (zeroValue E).run P w = .ok z w) (hzk : ok z = true)
    (b n : Nat) (M : κ → Option Value) (hm : a.eval m = .map (some b)) (h : MapG P k K ok w b n M) (e : κ) (hx : a.eval x = K.v e) (he : K.ok e)
    (hK : ∀ v, v = (M e).getD z → wpList P ops Q rest (a.put o.dst v) w) : wpList P ops Q (o :: rest) a w := by
  refine wpList_plain hg fun K' hK' => ?_
  have hrun := h.look T ht hz hzk he
  unfold Oper.wp
  simp [execOp, hop, hm, hx, hrun, Result.andThen]
  exact hK' _ _ (hK _ rfl)
theorem wpList_range_G (hg : o.guard = none) (m : Operand) (t : TypeId) (hop : o.op = Op.range t m) (K : KeyD κ) (T : KeyT P k K) (ok : Value → Bool) (E : TypeId) (ht : P.underlying t = some (.map k E))
    (b n : Nat) (M : κ → Option Value) (hm : a.eval m = .map (some b)) (h : MapG P k K ok w b n M)
    (hK : ∀ w' cnt, RangeG P k K ok w' b w.heap.size n M (fun e => (M e).isSome) cnt → cnt ≤ n → Fr [] w w' → wpList P ops Q rest (a.put o.dst (.pointer (some ⟨w.heap.size, 0, none⟩))) w') : wpList P ops Q (o :: rest) a w := by
  refine wpList_plain hg fun K' hK' => ?_
  obtain ⟨w', cnt, hrun, r1, r2, r3⟩ := h.range T ht
  unfold Oper.wp
  simp [execOp, hop, hm, hrun, Result.andThen]
  exact hK' _ _ (hK w' cnt r1 r2 r3)
/-- the step of a range: nothing is left, or one comes -/
theorem wpList_next_G {β : Type} (hg : o.guard = none) (it : Operand) (hop : o.op = Op.next it false) (K : KeyD κ) (T : KeyT P k K) (ok : Value → Bool) (f : β → Value) (hf : ∀ v, ok v = true → ∃ c, v = f c) (b r n : Nat) (M : κ → Option Value) (left : κ → Bool) (cnt : Nat)
    (hit : a.eval it = .pointer (some ⟨r, 0, none⟩)) [DecidableEq κ] (h : RangeG P k K ok w b r n M left cnt)
    (hDone : (∀ e, K.ok e → left e = false) → wpList P ops Q rest (a.put o.dst (.tuple #[.bool false])) w)
    (hMore : ∀ (x : κ) (c : β) (w' : World) (cnt' : Nat), K.ok x → left x = true → M x = some (f c) → RangeG P k K ok w' b r n M (fun z => left z && !decide (z = x)) cnt' → cnt' < cnt →
      Fr [r] w w' → (Instr.entry (.pointer (some ⟨r, 0, none⟩))).run P w' = .ok (.tuple #[K.v x, f c]) w' → wpList P ops Q rest (a.put o.dst (.tuple #[.bool true, K.v x, f c])) w') :
    wpList P ops Q (o :: rest) a w := by
  obtain ⟨D, lt, h, tl, hl⟩ := h
  refine wpList_next_ranges w hg it hop k T.keyed (selfIf ok) K.v f (fun key kl hkey => by obtain ⟨x, _, rfl, _⟩ := T.inv _ _ hkey; exact ⟨x, rfl⟩)
    (fun v y hv => hf v (selfIf_inv hv).1) b r n D lt cnt hit h (fun _ h0 => hDone fun e he => by rw [← hl e he]; exact h0 _) ?_
  intro x c kl y w' cnt' hkey hlk hv hat hrg hlt hgr hsz hen
  obtain ⟨x', hx', ex, rfl⟩ := T.inv _ _ hkey
  rw [ex] at hen ⊢
  obtain ⟨hok, rfl⟩ := selfIf_inv hv
  refine hMore x' c w' cnt' hx' (by rw [← hl x' hx']; exact hlk) ?_ ⟨D, _, hrg, tl, fun e he => ?_⟩ hlt (fr_grownG hgr) hen
  · have h1 := hat .nil
    rw [tl x' hx'] at h1
    cases hm : M x' with
    | none => rw [hm] at h1; cases h1
    | some u => rw [hm] at h1; simp at h1; rw [h1]
  · simp only [hl e he]
    congr 1
    congr 1
    by_cases hex : e = x'
    · subst hex
      rw [WideAt.sameKey_self (T.keyed.key (T.key e he))]; simp
    · rw [sameKey_ne (T.ne hex)]; simp [hex]
/-- delete(m, e) -/
theorem wpList_delete_G (hg : o.guard = none) (m x : Operand) (t : TypeId) (hop : o.op = Op.call { callee := Callee.builtin Builtin.delete, args := #[m, x], argTypes := #[t, k] }) (K : KeyD κ) (T : KeyT P k K) (ok : Value → Bool) (E : TypeId) (ht : P.underlying t = some (.map k E))
    (b n : Nat) (M : κ → Option Value) (hm : a.eval m = .map (some b)) (h : MapG P k K ok w b n M) [DecidableEq κ] (e : κ) (hx : a.eval x = K.v e) (he : K.ok e)
    (hK : ∀ w', MapG P k K ok w' b n (fun z => if z = e then none else M z) → Fr [b] w w' → wpList P ops Q rest (a.put o.dst (.tuple #[])) w') : wpList P ops Q (o :: rest) a w := by
  obtain ⟨D, h, tl⟩ := h
  refine wpList_delete_own w hg m x t k hop E T.keyed ht (selfIf ok) b n D hm h _ _ hx (T.key e he) fun w' h1 h2 => hK w' ⟨_, h1, fun z hz zd => ?_⟩ (fr_grownG h2.grown)
  dsimp only
  by_cases hze : z = e
  · subst hze
    rw [if_pos rfl, atKey_del_same]
    rfl
  · rw [if_neg hze, atKey_del_other (T.ne hze), tl z hz]
end
end Go.Proofs.Ytmhiolhgofackaa
