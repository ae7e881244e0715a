/- GENERIC: A MAP FROM string TO STRUCTS, TOLD PLAINLY: what stands at each key; its operations; its keys, sorted. -/
import Derived.Test.YtmipllkgioakoaaGreatEv
import Derived.Test.YtmipllkgioakoaaGreatLies
import Derived.Maps.RangeWalk
import Derived.Sort.KeysCollected
import Derived.Sort.Walk0
import Derived.Deep.Upon
namespace Go.Proofs.YtmipllkgioakoaaGreat
open Go.RowKit Go.Maps
set_option linter.unusedVariables false
set_option linter.unusedSimpArgs false

/-- a struct is read as itself -/
def selfAgg : Value → Option (DataW Value × List MemPlace)
  | .agg c => some (.held (.agg c), [])
  | _ => none
theorem selfAgg_inv {v : Value} {y : DataW Value × List MemPlace} (h : selfAgg v = some y) : ∃ c, v = .agg c ∧ y = (.held v, []) := by
  unfold selfAgg at h
  split at h
  · simp at h; exact ⟨_, rfl, h.symm⟩
  · cases h
/-- what was read tells M -/
def TellsS {α : Type} (ag : α → Array Value) (D : DataW Value) (M : ByteArray → Option α) : Prop := ∀ e : ByteArray, e.size ≤ maxLen → ∀ zd, D.atKey (.string e.data.toList) zd = ((M e).map fun x => DataW.held (.agg (ag x))).getD zd
/-- block b is a map, of n entries at most, that has the structs M -/
def MapS {α : Type} (ag : α → Array Value) (P : Program) (k : TypeId) (w : World) (b n : Nat) (M : ByteArray → Option α) : Prop := ∃ D, w.ownsMap P k selfAgg b n D ∧ TellsS ag D M

theorem encStr_ba (x : List UInt8) : encStr x = .string ⟨x.toArray⟩ := by simp [encStr]
theorem ba_ne {z e : ByteArray} (h : z ≠ e) : (Lit.string z.data.toList) ≠ .string e.data.toList := by
  intro hc
  apply h
  injection hc with hc
  cases z; cases e
  congr
  exact Array.toList_inj.1 hc
section
variable {α : Type} {ag : α → Array Value} {P : Program} {k E t : TypeId} {w w' : World} {b r n : Nat} {M : ByteArray → Option α}
theorem MapS.lt (h : MapS ag P k w b n M) : b < w.heap.size := by obtain ⟨D, h, _⟩ := h; exact h.lt
theorem MapS.isMap (h : MapS ag P k w b n M) : ∃ es c, w.heap[b]? = some (.map es c) := by obtain ⟨D, ⟨es, c, h, _⟩, _⟩ := h; exact ⟨es, c, h⟩
theorem MapS.same (h : MapS ag P k w b n M) (hs : w'.heap[b]? = w.heap[b]?) : MapS ag P k w' b n M := by
  obtain ⟨D, ⟨es, c, hb, r⟩, t⟩ := h
  exact ⟨D, ⟨es, c, hs.trans hb, r⟩, t⟩
theorem MapS.keep {S : List Nat} (h : MapS ag P k w b n M) (hf : Fr S w w') (hb : b ∉ S) : MapS ag P k w' b n M := h.same (hf.block b h.lt hb)
theorem MapS.mono (h : MapS ag P k w b n M) {n' : Nat} (hn : n ≤ n') : MapS ag P k w b n' M := by obtain ⟨D, h, t⟩ := h; exact ⟨D, h.mono hn, t⟩
theorem MapS.eq (h : MapS ag P k w b n M) {M' : ByteArray → Option α} (hm : ∀ x, x.size ≤ maxLen → M' x = M x) : MapS ag P k w b n M' := by
  obtain ⟨D, h, t⟩ := h; exact ⟨D, h, fun e he zd => by rw [hm e he]; exact t e he zd⟩
theorem MapS.made (ag : α → Array Value) (P : Program) (k : TypeId) (w : World) : MapS ag P k (w.alloc (.map #[] 0)) w.heap.size 0 (fun _ => none) :=
  ⟨_, World.ownsMap_made w P k selfAgg, fun e _ zd => rfl⟩
theorem fr_grown' {row : Nat} (hg : w.grownBy w' (some row)) : Fr [row] w w' := Fr.of_grown (row := some row) hg

/-- m[e] -/
theorem MapS.look (h : MapS ag P k w b n M) (hk : P.underlying k = some .string) (ht : P.underlying t = some (.map k E)) {zc : Array Value} (hz : (zeroValue E).run P w = .ok (.agg zc) w) {e : ByteArray} (he : e.size ≤ maxLen) :
    (Instr.lookup t (.map (some b)) (.string e) false).run P w = .ok (.agg (((M e).map ag).getD zc)) w := by
  obtain ⟨D, h, tl⟩ := h
  obtain ⟨v, ps, hrun, hv⟩ := h.lookup (string_keyed hk) ht hz (zd := .held (.agg zc)) (zp := []) rfl (WideMaps.keyOf_string_mk hk he)
  obtain ⟨_, _, hy⟩ := selfAgg_inv hv
  rw [tl e he] at hy
  have : v = .agg (((M e).map ag).getD zc) := by
    cases hm : M e with
    | none => rw [hm] at hy; simp at hy; rw [← hy.1]; rfl
    | some u => rw [hm] at hy; simp at hy; rw [← hy.1]; rfl
  rw [hrun, this]
/-- m[e] = v -/
theorem MapS.store (h : MapS ag P k w b n M) (hk : P.underlying k = some .string) (ht : P.underlying t = some (.map k E)) (hn : n < maxLen) {e : ByteArray} (he : e.size ≤ maxLen) (x : α) :
    ∃ w', (Instr.mapUpdate t (.map (some b)) (.string e) (.agg (ag x))).run P w = .ok () w' ∧ MapS ag P k w' b (n + 1) (fun z => if z = e then some x else M z) ∧ Fr [b] w w' := by
  obtain ⟨D, h, tl⟩ := h
  have hkey := WideMaps.keyOf_string_mk hk he
  obtain ⟨w', hrun, hown, hg⟩ := h.update (string_keyed hk) ht hn hkey (val := .agg (ag x)) (d := .held (.agg (ag x))) (ps := []) rfl
  refine ⟨w', hrun, ⟨_, hown, fun z hz zd => ?_⟩, fr_grown' hg⟩
  dsimp only
  by_cases hze : z = e
  · subst hze
    rw [if_pos rfl, atKey_put_same h.isMap ((string_keyed hk).key hkey)]
    rfl
  · rw [if_neg hze, atKey_put_other (ba_ne hze), tl z hz]
variable {ops : Array Oper} {rest : List Oper} {o : Oper} {a : Act} {Q : Exit → Act → World → Prop}
theorem wpList_look_mapS (hg : o.guard = none) (m x : Operand) (t : TypeId) (hop : o.op = Op.lookup t m x false) (k E : TypeId) (hk : P.underlying k = some .string) (ht : P.underlying t = some (.map k E)) (zc : Array Value) (hz : (zeroValue E).run P w = .ok (.agg zc) w)
    (b n : Nat) (M : ByteArray → Option α) (hm : a.eval m = .map (some b)) (h : MapS ag P k w b n M) (e : ByteArray) (hx : a.eval x = .string e) (he : e.size ≤ maxLen)
    (hK : ∀ c, c = ((M e).map ag).getD zc → wpList P ops Q rest (a.put o.dst (.agg c)) w) : wpList P ops Q (o :: rest) a w := by
  refine wpList_plain hg fun K' hK' => ?_
  have hrun := h.look hk ht hz he
  unfold Oper.wp
  simp [execOp, hop, hm, hx, hrun, Result.andThen]
  exact hK' _ _ (hK _ rfl)
/-- delete(m, e) -/
theorem wpList_delete_mapS (hg : o.guard = none) (m x : Operand) (t k : TypeId) (hop : o.op = Op.call { callee := Callee.builtin Builtin.delete, args := #[m, x], argTypes := #[t, k] }) (E : TypeId) (hk : P.underlying k = some .string) (ht : P.underlying t = some (.map k E))
    (b n : Nat) (M : ByteArray → Option α) (hm : a.eval m = .map (some b)) (h : MapS ag P k w b n M) (e : ByteArray) (hx : a.eval x = .string e) (he : e.size ≤ maxLen)
    (hK : ∀ w', MapS ag P k w' b n (fun z => if z = e then none else M z) → Fr [b] w w' → wpList P ops Q rest (a.put o.dst (.tuple #[])) w') : wpList P ops Q (o :: rest) a w := by
  obtain ⟨D, h, tl⟩ := h
  refine wpList_delete_own w hg m x t k hop E (string_keyed hk) ht selfAgg b n D hm h _ _ hx (WideMaps.keyOf_string_mk hk he) fun w' h1 h2 => hK w' ⟨_, h1, fun z hz zd => ?_⟩ (fr_grown' h2.grown)
  dsimp only
  by_cases hze : z = e
  · subst hze
    rw [if_pos rfl, atKey_del_same]
    rfl
  · rw [if_neg hze, atKey_del_other (ba_ne hze), tl z hz]
end

/-! the keys, sorted -/
theorem ls_lt (x y : List UInt8) : ls x y = decide (x < y) := bytesLess_eq x y
theorem strKeys_nodup {P : Program} {k : TypeId} {w : World} {b n : Nat} {R : Value → Option (DataW Value × List MemPlace)} {D : DataW Value} (h : w.ownsMap P k R b n D) (hk : P.underlying k = some .string) : (strKeys D).Nodup ∧ ∀ x, x ∈ strKeys D ↔ has D (.string x) = true := by
  obtain ⟨es, rfl, hpw, _⟩ := h.entries (string_keyed hk)
  obtain ⟨es', hD', hko⟩ := h.keysOf
  obtain rfl : es = es' := by simpa using hD'
  have hs : ∀ p ∈ es, ∃ x, p.1 = .string x := fun p hp => by obtain ⟨v, hv⟩ := hko p hp; obtain ⟨x, _, hx, _⟩ := Maps.keyOf_str hk hv; exact ⟨x, hx⟩
  constructor
  · show (es.map fun p => strOf p.1).Nodup
    refine List.pairwise_map.2 (hpw.imp_of_mem fun {p q} hp' hq' hne e => hne ?_)
    obtain ⟨a, ha⟩ := hs p hp'
    obtain ⟨b, hb⟩ := hs q hq'
    rw [ha, hb] at e ⊢
    exact congrArg _ e
  · intro x
    rw [has_eq, List.any_eq_true]
    show x ∈ es.map (fun p => strOf p.1) ↔ _
    rw [List.mem_map]
    constructor
    · rintro ⟨p, hp', rfl⟩
      obtain ⟨a, ha⟩ := hs p hp'
      exact ⟨p, hp', by rw [ha]; simp [Lit.sameKey, strOf]⟩
    · rintro ⟨p, hp', hq⟩
      obtain ⟨a, ha⟩ := hs p hp'
      rw [ha] at hq
      exact ⟨p, hp', by rw [ha]; simpa [Lit.sameKey, strOf] using hq⟩
theorem owns_size {P : Program} {k : TypeId} {w : World} {b n : Nat} {R : Value → Option (DataW Value × List MemPlace)} {D : DataW Value} (h : w.ownsMap P k R b n D) : Maps.size D ≤ n := by
  obtain ⟨es, clock, _, F, hs, rfl⟩ := h
  rw [size_eq, (WideShapes.sorted_perm _).length_eq]
  simpa using hs
/-- what a sort of the keys gives -/
structure KeysOf {α : Type} (M : ByteArray → Option α) (ks : List ByteArray) : Prop where
  srt : Srt id ks
  mem : ∀ x, x ∈ ks ↔ (x.size ≤ maxLen ∧ (M x).isSome = true)
theorem MapS.keys {α : Type} {ag : α → Array Value} {P : Program} {k : TypeId} {w : World} {b n : Nat} {M : ByteArray → Option α} (h : MapS ag P k w b n M) (hk : P.underlying k = some .string) :
    ∃ D, w.ownsMap P k selfAgg b n D ∧ Maps.size D ≤ n ∧ ∀ ss : List (List UInt8), ss.Perm (strKeys D) → ∃ ks : List ByteArray, KeysOf M ks ∧ (ss.mergeSort (fun x y => decide (x ≤ y))).map encStr = ks.map Value.string ∧ ks.length = ss.length ∧ ss.length ≤ n := by
  obtain ⟨D, h, tl⟩ := h
  obtain ⟨nd, hm⟩ := strKeys_nodup h hk
  refine ⟨D, h, owns_size h, fun ss hp => ⟨(ss.mergeSort (fun x y => decide (x ≤ y))).map (fun x => ⟨x.toArray⟩), ⟨?_, ?_⟩, ?_, by simp, ?_⟩⟩
  · have tr : ∀ a b c : List UInt8, decide (a ≤ b) = true → decide (b ≤ c) = true → decide (a ≤ c) = true := fun a b c h1 h2 => by simp only [decide_eq_true_eq] at *; exact List.le_trans h1 h2
    have to : ∀ a b : List UInt8, (decide (a ≤ b) || decide (b ≤ a)) = true := fun a b => by simp only [Bool.or_eq_true, decide_eq_true_eq]; exact List.le_total a b
    have h1 := List.pairwise_mergeSort (le := fun x y : List UInt8 => decide (x ≤ y)) tr to ss
    have h2 : (ss.mergeSort (fun x y => decide (x ≤ y))).Nodup := ((List.mergeSort_perm ss _).trans hp).nodup_iff.2 nd
    refine List.pairwise_map.2 ((h1.and h2).imp fun {a b} hab => ?_)
    obtain ⟨h3, h4⟩ := hab
    simp only [decide_eq_true_eq] at h3
    show kl ⟨a.toArray⟩ ⟨b.toArray⟩ = true
    unfold kl
    simp only [ByteArray.toList_eq, ls_lt, decide_eq_true_eq]
    rcases List.le_iff_lt_or_eq.1 h3 with h5 | h5
    · exact h5
    · exact absurd h5 h4
  · intro x
    rw [List.mem_map]
    have key : x.data.toList ∈ strKeys D ↔ (x.size ≤ maxLen ∧ (M x).isSome = true) := by
      constructor
      · intro hx
        have hl := strKeys_le h hk _ hx
        have hsz : x.size ≤ maxLen := by rw [Array.length_toList] at hl; exact hl
        refine ⟨hsz, ?_⟩
        cases hM : M x with
        | some y => rfl
        | none =>
          have := has_false_of_atKey (D := D) (k := .string x.data.toList) (fun z => by rw [tl x hsz, hM]; rfl)
          rw [(hm _).1 hx] at this; cases this
      · rintro ⟨hsz, hM⟩
        obtain ⟨y, hy⟩ := Option.isSome_iff_exists.1 hM
        exact (hm _).2 (has_true_of_atKey (y := .held (.agg (ag y))) (fun z => by rw [tl x hsz, hy]; rfl))
    rw [← key]
    constructor
    · rintro ⟨y, hy, rfl⟩
      have := ((List.mergeSort_perm ss (fun x y => decide (x ≤ y))).trans hp).mem_iff.1 hy
      simpa using this
    · intro hx
      exact ⟨_, ((List.mergeSort_perm ss (fun x y => decide (x ≤ y))).trans hp).mem_iff.2 hx, by cases x; simp⟩
  · rw [List.map_map]
    exact List.map_congr_left fun x _ => encStr_ba x
  · rw [hp.length_eq]
    have := owns_size h
    obtain ⟨es, rfl, _⟩ := h.keysOf
    rw [size_eq] at this
    show (es.map fun p => strOf p.1).length ≤ n
    simpa using this
end Go.Proofs.YtmipllkgioakoaaGreat
