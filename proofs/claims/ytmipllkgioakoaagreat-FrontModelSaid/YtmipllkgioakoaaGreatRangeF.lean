/- GENERIC: A RANGE OVER A METHOD VALUE ('for x := range v.all'): the iterator's function has its receiver for its first argument; it makes nothing, and reads what the body keeps. The library's laws take function values without first arguments alone. -/
import Derived.Test.YtmipllkgioakoaaGreatLib
import Derived.RangeFuncNested
import Derived.RangeFuncLeaves
import Derived.Shelf.Abstract
import Derived.Shelf.RegionOpen
import Derived.OwnWalkIn
import Derived.TacticsInMore
import Derived.LoopNIn
import Derived.LoopIn
namespace Go.Proofs.YtmipllkgioakoaaGreat
open Go.RowKit
set_option linter.unusedVariables false
set_option linter.unusedSimpArgs false

/-- what doesn't speak of the loop's own blocks -/
def Abides (B : Nat) (I : World → Prop) : Prop := ∀ (W : World) (l : Nat) (o o' : Obj), I W → B ≤ l → W.heap[l]? = some o → o.isCells = false → I (W.putObj l o')
theorem Abides.and {B : Nat} {I J : World → Prop} (h : Abides B I) (k : Abides B J) : Abides B (fun W => I W ∧ J W) := fun W l o o' hi hb hl ho => ⟨h W l o o' hi.1 hb hl ho, k W l o o' hi.2 hb hl ho⟩
theorem Abides.pure (B : Nat) (p : Prop) : Abides B (fun _ => p) := fun _ _ _ _ h _ _ _ => h
theorem Abides.cells (B k : Nat) (c : Array Value) (t : TypeId) (f : Nat × Nat) : Abides B (fun W => W.heap[k]? = some (.cells c t f)) := fun W l o o' h hb hl ho => by
  have hkl : k ≠ l := by rintro rfl; rw [h] at hl; cases hl; cases ho
  exact (World.putObj_heap_other (by omega)).trans h
theorem Fr.putObj {S : List Nat} {a W : World} (h : Fr S a W) {l : Nat} (hl : a.heap.size ≤ l) (o : Obj) : Fr S a (W.putObj l o) :=
  ⟨h.os, h.tape, h.output, by simp only [World.putObj, Array.size_setIfInBounds]; exact h.size, fun k hk hn => (World.putObj_heap_other (by omega)).trans (h.block k hk hn)⟩
theorem Fr.putIn (W : World) (l : Nat) (o : Obj) : Fr [l] W (W.putObj l o) :=
  ⟨rfl, rfl, rfl, by simp only [World.putObj, Array.size_setIfInBounds]; exact Nat.le_refl _, fun k hk hn => World.putObj_heap_other (by simpa using hn)⟩
theorem Abides.fr {B : Nat} {S : List Nat} {a : World} (h : a.heap.size ≤ B) : Abides B (Fr S a) := fun W l o o' hf hb _ _ => hf.putObj (by omega) o'

/-- an iterator that hands on xs, in turn, till it is told to stop; fa: its first arguments; Rd: what it reads -/
def Seqs {α : Type} (F : Fence) (n : Nat) (P : Program) (g : Nat) (fa : Array Value) (enc : α → Value) (xs : List α) (Rd : World → Prop) : Prop :=
  ∀ (l : Nat) (J Jx : Nat → World → Prop) (W : World), (∀ j W1, J j W1 → Rd W1) →
    (∀ j x W1, J j W1 → xs[j]? = some x → YieldAt F (n - 1) P l #[enc x] W1 fun e W' => (e = .returned (.bool true) ∧ J (j + 1) W') ∨ (e = .returned (.bool false) ∧ Jx j W')) →
    J 0 W → CallsIn F n P g (fa ++ #[.func (.yield l) #[] #[]]) W fun e W' => (∃ v, e = .returned v) ∧ (J xs.length W' ∨ ∃ j, j < xs.length ∧ Jx j W')

/-- how a round's body is left -/
def roundEnd (B : Nat) (I : World → Prop) (Ix : Code → World → Prop) (W : World) : Exit → Act → World → Prop
  | .normal, _, W' => KeepsFrom B W W' ∧ I W'
  | .ret, _, W' => KeepsFrom B W W' ∧ Ix .ret W'
  | .exit id, _, W' => KeepsFrom B W W' ∧ Ix (.exit id) W'
  | .goto t, _, W' => KeepsFrom B W W' ∧ Ix (.goto t) W'
  | .panic _, _, _ => False
  | .outgrown, _, _ => False

theorem wpIn_range_seq {α : Type} {F : Fence} {n : Nat} {P : Program} {g : Operand} {ps : Array Tmp} {assign body : Code} {Q : Exit → Act → World → Prop} {a : Act} {w : World}
    (hro : F.round = none) (h1 : 1 ≤ n) {gf : Nat} {fa : Array Value} (hg : a.eval g = .func (.func gf) fa #[]) (hFg : F.fn gf) (eg : ∀ args w, (callFunc gf args).run P w = .ok (.enter gf args) w)
    {enc : α → Value} {xs : List α} {Rd : World → Prop} (hseq : Seqs F (n - 1) P gf fa enc xs Rd) (hps : ps.size = 1)
    (I : Nat → World → Prop) (Ix : Code → Nat → World → Prop) (hI : ∀ j, Abides w.heap.size (I j)) (hIx : ∀ c j, Abides w.heap.size (Ix c j)) (hRd : ∀ j W, I j W → Rd W) (h0 : ∀ o o', I 0 ((w.alloc o).alloc o'))
    (hround : ∀ (l j : Nat) (x : α) (W : World), w.heap.size ≤ l → I j W → xs[j]? = some x →
      assign.wpIn (F.inRound l) (n - 1 - 1) P (Exit.then (fun a₁ W₁ => KeepsFrom w.heap.size W W₁ ∧ ∃ Ia : World → Prop, Abides w.heap.size Ia ∧ Ia W₁ ∧ ∀ W₂, Ia W₂ → body.wpIn (F.inRound l) (n - 1 - 1) P (roundEnd w.heap.size (I (j + 1)) (fun c => Ix c j) W₂) a₁ W₂) (fun _ _ _ => False))
        { tmps := (ps.zip #[enc x]).foldl (fun t (p, v) => t.setIfInBounds p v) a.tmps, defers := [] } W)
    (hdone : ∀ (D : Nat) (W : World), w.heap.size ≤ D → I xs.length W → W.heap[D]? = some (.deferred (some [])) → Q .normal { a with defers := { target := .collected D, args := #[] } :: a.defers } W)
    (hstop : ∀ (D : Nat) (c : Code) (j : Nat) (W : World), w.heap.size ≤ D → j < xs.length → Ix c j W → W.heap[D]? = some (.deferred (some [])) → c.wpIn F n P Q { a with defers := { target := .collected D, args := #[] } :: a.defers } W) :
    (Code.rangeFunc g ps assign body).wpIn F n P Q a w := by
  refine wpIn_rangeFunc fun fn hfn => ?_
  rw [hro]
  -- the block of the deferred calls D, the loop's record L
  generalize hD : w.heap.size = D at *
  obtain ⟨rec, hrec⟩ : ∃ rec : LoopState → Option Code → Loop, rec = fun s p => { state := s, pending := p, fn := fn, tmps := a.tmps, params := ps, assign := assign, body := body, defers := D } := ⟨_, rfl⟩
  obtain ⟨w1, hw1⟩ : ∃ w1, w1 = (w.alloc (.deferred (some []))).alloc (.loop (rec .ready none)) := ⟨_, rfl⟩
  have hrun := run_enterLoop_outer (P := P) (w := w) fn a.tmps ps assign body
  rw [hD] at hrun
  have hd1 : w1.heap[D]? = some (.deferred (some [])) := by
    rw [hw1, Below.heap_alloc _ _ _ (by simp [hD]), ← hD]; exact new_block w _
  have hl1 : w1.heap[D + 1]? = some (.loop (rec .ready none)) := by
    have := new_block (w.alloc (.deferred (some []))) (.loop (rec .ready none))
    rw [hw1]; simpa [hD] using this
  -- what stays between two rounds
  obtain ⟨Jr, hJr⟩ : ∃ Jr : Loop → (World → Prop) → World → Prop, Jr = fun r K W => K W ∧ W.heap[D + 1]? = some (.loop r) ∧ W.heap[D]? = some (.deferred (some [])) := ⟨_, rfl⟩
  have hturn : ∀ {r r' : Loop} {K : World → Prop} {W : World}, Abides D K → Jr r K W → Jr r' K (W.putObj (D + 1) (.loop r')) := by
    intro r r' K W hK h
    rw [hJr] at h ⊢
    obtain ⟨h1, h2, h3⟩ := h
    exact ⟨hK _ _ _ _ h1 (by omega) h2 rfl, World.putObj_heap_same (Array.getElem?_eq_some_iff.1 h2).1, (World.putObj_heap_other (by omega)).trans h3⟩
  have hkeep : ∀ {r : Loop} {K K' : World → Prop} {W W' : World}, Jr r K W → KeepsFrom D W W' → K' W' → Jr r K' W' := by
    intro r K K' W W' h hk h'
    rw [hJr] at h ⊢
    exact ⟨h', hk.same _ _ (by omega) h.2.1 rfl, hk.same _ _ (Nat.le_refl _) h.2.2 rfl⟩
  refine ⟨D + 1, [{ target := .collected D, args := #[] }], w1, { target := .fn (.func gf) #[], args := fa ++ #[.func (.yield (D + 1)) #[] #[]] }, w1, gf, fa ++ #[.func (.yield (D + 1)) #[] #[]], w1, ?_, ?_, ?_, ?_, fun _ => h1, ?_⟩
  · rw [hrun, hw1, hrec]
  · simp only [resolve, hg]
    simp [go_sem]
  · intro f' hf'
    simp [Target.leads] at hf'
    subst hf'; exact hFg
  · simp [invoke, go_sem, eg]
  · refine (hseq (D + 1) (fun j => Jr (rec .ready none) (I j)) (fun j W => ∃ c, Jr (rec .done (some c)) (Ix c j) W) w1 (fun j W h => hRd j W (by rw [hJr] at h; exact h.1)) ?_ (by rw [hJr]; exact ⟨by rw [hw1]; exact h0 _ _, hl1, hd1⟩)).mono ?_
    · intro j x W hj hx
      have hl : W.heap[D + 1]? = some (.loop (rec .ready none)) := by rw [hJr] at hj; exact hj.2.1
      have hi : I j W := by rw [hJr] at hj; exact hj.1
      have hy := run_yield (P := P) (args := #[enc x]) hl (by rw [hrec]; simpa using hps.symm)
      rw [hrec] at hy
      refine ⟨_, _, _, _, hy, ?_⟩
      refine roundIn_of_wpIn hfn (wpIn_mono (hround (D + 1) j x W (by omega) hi hx) ?_)
      rintro e a₁ W₁ hp
      cases e with
      | normal =>
        obtain ⟨hk, Ia, hIa, ha, hb⟩ := hp
        have hj1 := hkeep hj hk ha
        have hl1' : W₁.heap[D + 1]? = some (.loop (rec .ready none)) := by rw [hJr] at hj1; exact hj1.2.1
        have hbg := run_beginRound (P := P) hl1' (by rw [hrec])
        have hj2 := hturn (r' := { rec .ready none with state := .busy }) hIa hj1
        refine ⟨_, hbg, wpIn_mono (hb _ (by rw [hJr] at hj2; exact hj2.1)) ?_⟩
        have fin : ∀ (c : Option Code) (K : World → Prop) (W3 : World), Abides D K → KeepsFrom D (W₁.putObj (D + 1) (.loop { rec .ready none with state := .busy })) W3 → K W3 →
            ∃ W4, (Instr.endRound (D + 1) c).run P W3 = .ok (.bool c.isNone) W4 ∧ Jr (rec (if c.isNone then .ready else .done) c) K W4 := by
          intro c K W3 hK hk3 h3
          have hj3 := hkeep hj2 hk3 h3
          have hl3 : W3.heap[D + 1]? = some (.loop { rec .ready none with state := .busy }) := by rw [hJr] at hj3; exact hj3.2.1
          refine ⟨_, run_endRound c hl3, ?_⟩
          have := hturn (r' := rec (if c.isNone then .ready else .done) c) hK hj3
          rw [hrec] at this ⊢
          exact this
        rintro e a3 W3 hp
        cases e with
        | normal => obtain ⟨W4, q1, q2⟩ := fin none _ W3 (hI (j + 1)) hp.1 hp.2; exact ⟨_, W4, q1, Or.inl ⟨rfl, q2⟩⟩
        | ret => obtain ⟨W4, q1, q2⟩ := fin (some .ret) _ W3 (hIx .ret j) hp.1 hp.2; exact ⟨_, W4, q1, Or.inr ⟨rfl, _, q2⟩⟩
        | exit id => obtain ⟨W4, q1, q2⟩ := fin (some (.exit id)) _ W3 (hIx _ j) hp.1 hp.2; exact ⟨_, W4, q1, Or.inr ⟨rfl, _, q2⟩⟩
        | goto t => obtain ⟨W4, q1, q2⟩ := fin (some (.goto t)) _ W3 (hIx _ j) hp.1 hp.2; exact ⟨_, W4, q1, Or.inr ⟨rfl, _, q2⟩⟩
        | panic c => exact hp.elim
        | outgrown => exact hp.elim
      | ret => exact hp.elim
      | exit id => exact hp.elim
      | goto t => exact hp.elim
      | panic c => exact hp.elim
      | outgrown => exact hp.elim
    · rintro e W2 ⟨⟨v, rfl⟩, h | ⟨j, hj, c, h⟩⟩
      · have hl : W2.heap[D + 1]? = some (.loop (rec .ready none)) := by rw [hJr] at h; exact h.2.1
        have he := run_endLoop (P := P) hl (by rw [hrec]; simp)
        have h' := hturn (r' := { rec .ready none with state := .exhausted }) (hI _) h
        rw [hJr] at h'
        refine ⟨none, _, ?_, hdone D _ (Nat.le_refl _) h'.1 h'.2.2⟩
        rw [he, hrec]
      · have hl : W2.heap[D + 1]? = some (.loop (rec .done (some c))) := by rw [hJr] at h; exact h.2.1
        have he := run_endLoop (P := P) hl (by rw [hrec]; simp)
        have h' := hturn (r' := { rec .done (some c) with state := .exhausted }) (hIx c j) h
        rw [hJr] at h'
        refine ⟨some c, _, ?_, hstop D c j _ (Nat.le_refl _) hj h'.1 h'.2.2⟩
        rw [he, hrec]
/-- without a fence round it -/
theorem wp_range_seq {α : Type} {P : Program} {g : Operand} {ps : Array Tmp} {assign body : Code} {Q : Exit → Act → World → Prop} {a : Act} {w : World}
    {gf : Nat} {fa : Array Value} (hg : a.eval g = .func (.func gf) fa #[]) (eg : ∀ args w, (callFunc gf args).run P w = .ok (.enter gf args) w)
    {enc : α → Value} {xs : List α} {Rd : World → Prop} (hseq : Seqs Fence.wide 8 P gf fa enc xs Rd) (hps : ps.size = 1)
    (I : Nat → World → Prop) (Ix : Code → Nat → World → Prop) (hI : ∀ j, Abides w.heap.size (I j)) (hIx : ∀ c j, Abides w.heap.size (Ix c j)) (hRd : ∀ j W, I j W → Rd W) (h0 : ∀ o o', I 0 ((w.alloc o).alloc o'))
    (hround : ∀ (l j : Nat) (x : α) (W : World), w.heap.size ≤ l → I j W → xs[j]? = some x →
      assign.wpIn (Fence.wide.inRound l) 7 P (Exit.then (fun a₁ W₁ => KeepsFrom w.heap.size W W₁ ∧ ∃ Ia : World → Prop, Abides w.heap.size Ia ∧ Ia W₁ ∧ ∀ W₂, Ia W₂ → body.wpIn (Fence.wide.inRound l) 7 P (roundEnd w.heap.size (I (j + 1)) (fun c => Ix c j) W₂) a₁ W₂) (fun _ _ _ => False))
        { tmps := (ps.zip #[enc x]).foldl (fun t (p, v) => t.setIfInBounds p v) a.tmps, defers := [] } W)
    (hdone : ∀ (D : Nat) (W : World), w.heap.size ≤ D → I xs.length W → W.heap[D]? = some (.deferred (some [])) → Q .normal { a with defers := { target := .collected D, args := #[] } :: a.defers } W)
    (hstop : ∀ (D : Nat) (c : Code) (j : Nat) (W : World), w.heap.size ≤ D → j < xs.length → Ix c j W → W.heap[D]? = some (.deferred (some [])) → c.wp P Q { a with defers := { target := .collected D, args := #[] } :: a.defers } W) :
    (Code.rangeFunc g ps assign body).wp P Q a w :=
  (wpIn_wide (n := 9)).1 (wpIn_range_seq rfl (by decide) hg trivial eg hseq hps I Ix hI hIx hRd h0 hround hdone (fun D c j W h1 h2 h3 h4 => wpIn_wide.2 (hstop D c j W h1 h2 h3 h4)))
end Go.Proofs.YtmipllkgioakoaaGreat
