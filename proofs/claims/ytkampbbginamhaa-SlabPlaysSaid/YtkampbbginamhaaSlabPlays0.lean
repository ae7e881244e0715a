/- A SLAB BESIDE ITS REFERENCE, BEHIND DEEDS: of any size -/
import Derived.Test.YtkampbbginamhaaSlabRan
namespace Go.Proofs.Ytkampbbginamhaa
open Go.ChangeShapes Go.WideShapes Go.ChangeAt Go.RowKit Go.Deep
set_option linter.unusedVariables false
set_option linter.unusedSimpArgs false

theorem at_world {P : Program} {c : Code} {K : Exit → Act → World → Prop} {a : Act} {w : World} (R : World → Prop) (h : R w) (k : ∀ w', R w' → Code.wp P c K a w') : Code.wp P c K a w := k w h
structure PlayRel (w : World) (X M W j : Nat) (vc : Array Value) (FT : List Nat) (s : SS) (L : List Int) (wr : World) : Prop where
  fr : Fr [] w wr
  x : wr.heap[X]? = some (.cells vc 34 (0, 0))
  xr : w.heap.size ≤ X
  both : SBoth wr (.agg vc) FT (W * j) (W * j) s L
  inv : Inv M s L j
  words : s.words = W
  ft : ∀ k ∈ FT, w.heap.size ≤ k
theorem PlayRel.step {w wr w4 w5 : World} {X M W j : Nat} {vc vc' : Array Value} {FT FT' : List Nat} {s : SS} {L : List Int} {S : List Nat} {kind i n v raw : Int} (h : PlayRel w X M W j vc FT s L wr) (hf : Fr FT wr w4)
    {vx : Array Value} (hx4 : w4.heap[X]? = some (.cells vx 34 (0, 0)))
    (hb : SBoth w4 (.agg vc') FT' (W * (j + 1)) (W * (j + 1)) (s.deedS L kind i n v raw) (s.deedL L kind)) (hn : ∀ k ∈ FT', w.heap.size ≤ k) (h5 : Fr S w4 w5)
    (hblk : w5.heap[X]? = some (.cells vc' 34 (0, 0))) (hS : ∀ k ∈ S, k = X ∨ (k = wr.heap.size ∧ ∃ c f, w4.heap[k]? = some (.cells c 34 f))) (hj : j ≤ 60) (hM : M ≤ 65536) :
    PlayRel w X M W (j + 1) vc' FT' (s.deedS L kind i n v raw) (s.deedL L kind) w5 := by
  have hxr := h.xr
  have hxl := lt_of_block h.x
  have hws := h.fr.size
  refine ⟨(h.fr.trans hf (fun k hk => Or.inr (h.ft k hk))).trans h5 (fun k hk => ?_), hblk, hxr, hb.boxes h5 (fun k hk => ?_), h.inv.deed hM (by omega) kind i n v raw, (s.deed_words L kind i n v raw).1.trans h.words, hn⟩
  · rcases hS k hk with e | e
    · exact Or.inr (by omega)
    · exact Or.inr (by omega)
  · rcases hS k hk with e | e
    · subst e; exact ⟨_, _, hx4⟩
    · exact e.2
theorem PlayRel.keep {w wr w5 : World} {X M W j : Nat} {vc : Array Value} {FT : List Nat} {s : SS} {L : List Int} (h : PlayRel w X M W j vc FT s L wr) (hf : Fr [] wr w5) : PlayRel w X M W j vc FT s L w5 :=
  ⟨h.fr.trans hf (by simp), hf.keep h.x (by simp), h.xr, h.both.keep hf (by simp), h.inv, h.words, h.ft⟩
/-- the parts of a Both that is written out -/
theorem SBoth.parts {w : World} {p pm ma mn mc k fi wd ga gn gc ta tn tc fa fn fc la ln lc} {FT : List Nat} {N K : Nat} {s : SS} {L : List Int}
    (h : SBoth w (.agg #[.pointer (some ⟨p, 0, none⟩), .pointer (some ⟨pm, 0, none⟩), .slice ma mn mc, .int .i64 k, .int .i64 fi, .int .i64 wd, .slice ga gn gc, .slice ta tn tc, .slice fa fn fc, .slice la ln lc]) FT N K s L) :
    (∃ mv rv, Own w FT w p pm mv rv N s) ∧ RefS w (.agg #[.slice ma mn mc, .int .i64 k, .int .i64 fi, .int .i64 wd, .slice ga gn gc, .slice ta tn tc, .slice fa fn fc]) K s ∧
      Lies w 38 1 (.slice ma mn mc) s.c.length (s.c.map (Value.int .u64)) ∧ mn = s.c.length ∧ (∀ b, (Value.slice ma mn mc).ownBlock = some b → b ∉ FT) ∧ ∀ b ∈ FT, b < w.heap.size := by
  obtain ⟨p', pm', mv, rv, fv, nn, mx, gx, tx, fx, k', lv, hV, rfl, hs, hnn, hrf, hl, hap⟩ := h
  simp only [Value.agg.injEq, Array.mk.injEq, List.cons.injEq, Value.pointer.injEq, Option.some.injEq, Addr.mk.injEq, Value.int.injEq, true_and, and_true] at hV
  obtain ⟨rfl, rfl, rfl, rfl, rfl, rfl, rfl, rfl, rfl, rfl⟩ := hV
  have hr := hrf
  obtain ⟨⟨ma', mc', hm⟩, _, _, _⟩ := hrf.forms
  have hmn : mn = s.c.length := by simp only [Value.slice.injEq] at hm; exact hm.2.1
  refine ⟨⟨mv, rv, fv, nn, hs, hnn, Fr.refl _ _, fun k hk => Or.inl hk⟩, ⟨_, _, _, _, _, rfl, hr⟩, Lies.of_own hrf.cells, hmn, fun b hb => hap b (Or.inl ?_), hs.lt⟩
  rw [blks_refAgg]; exact Or.inl hb
theorem quiet_same {P : Program} {f : FuncId} {args : Array Value} {w : World} {n : Nat} {v : Value}
    (h : Calls P f args (w.drewN n) fun e w' => e = .returned v ∧ w.drewN n = w') : Calls P f args (w.drewN n) fun e w'' => e = .returned v ∧ ∃ m, w'' = w.drewN m :=
  h.mono fun _ _ ⟨he, hm⟩ => ⟨he, n, hm.symm⟩
theorem own_len {w0 wi : World} {FT : List Nat} {p pm : Nat} {mv rv : Value} {N : Nat} {s : SS} (h : Own w0 FT wi p pm mv rv N s) (W : World) (hW : Fr [] wi W) :
    Calls Try.prog 15 #[.pointer (some ⟨pm, 0, none⟩)] W fun e w' => e = .returned (.int .i64 s.c.length) ∧ W = w' := by
  obtain ⟨fv, n, h1, h2, h3, h4⟩ := h
  exact len_any W pm (h1.mem.keep hW (by simp) (by simp))
end Go.Proofs.Ytkampbbginamhaa
