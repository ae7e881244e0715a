/- PACKAGE order: what Fits' closure stands in; points; plain facts on what has been seen -/
import Derived.Test.YtbbhekmhffhpfaaOrMap
import Derived.Test.YtbbhekmhffhpfaaOrBe
namespace Go.Proofs.Ytbbhekmhffhpfaa
open Go.RowKit
set_option linter.unusedVariables false
set_option linter.unusedSimpArgs false

theorem LIn.keepM {α : Type} {cs : α → List Value} {sz : Nat} {w w' : World} {v : Value} {l : List α} {mb : Nat} (h : LIn cs sz w v l) (hc : ∀ x, (cs x).length = sz) (hs : 0 < sz) (hm : ∃ es c, w.heap[mb]? = some (.map es c)) (hf : Fr [mb] w w') : LIn cs sz w' v l := by
  obtain ⟨a, c, h1, h2, h3, h4⟩ := h
  refine ⟨a, c, h1, h2, h3, fun hl => ?_⟩
  obtain ⟨g, off, h5, h6, h7⟩ := h4 hl
  have hg : g ∉ [mb] := by
    intro hg
    simp only [List.mem_singleton] at hg
    subst hg
    obtain ⟨es, cc, hm⟩ := hm
    have h8 := h7 0 l[0] (List.getElem?_eq_getElem hl) 0 hs
    rw [List.getElem?_eq_getElem (by rw [hc]; exact hs)] at h8
    simp [World.cell?, hm] at h8
  refine ⟨g, off, h5, Nat.lt_of_lt_of_le h6 hf.size, fun i x hx j hj => ?_⟩
  have h8 := h7 i x hx j hj
  cases hcc : (cs x)[j]? with
  | some y => rw [hcc] at h8; exact hf.cell h8 hg
  | none =>
    rw [hcc] at h8
    rw [← h8]
    unfold World.cell?
    rw [hf.block g h6 hg]
def lookV (bl bm bk bf : Nat) : Value := .func (.func 20) #[] #[.pointer (some ⟨bl, 0, none⟩), .pointer (some ⟨bm, 0, none⟩), .pointer (some ⟨bk, 0, none⟩), .pointer (some ⟨bf, 0, none⟩)]
structure Env (l : List Ca) (lv kv : Value) (bl bm bk bf mb : Nat) (w : World) : Prop where
  vl : w.heap[bl]? = some (.cells #[lv] 25 (0, 0))
  vm : w.heap[bm]? = some (.cells #[.map (some mb)] 44 (0, 0))
  vk : w.heap[bk]? = some (.cells #[kv] 42 (0, 0))
  vf : w.heap[bf]? = some (.cells #[lookV bl bm bk bf] 45 (0, 0))
  cl : CaIn w lv l
  ck : InIn w kv (pls l)
  mp : ∃ es c, w.heap[mb]? = some (.map es c)
theorem Env.keep {l : List Ca} {lv kv : Value} {bl bm bk bf mb : Nat} {w w' : World} (h : Env l lv kv bl bm bk bf mb w) (hf : Fr [mb] w w') (hm : ∃ es c, w'.heap[mb]? = some (.map es c)) : Env l lv kv bl bm bk bf mb w' := by
  obtain ⟨h1, h2, h3, h4, h5, h6, h7⟩ := h
  have ne : ∀ {b : Nat} {c : Array Value} {t : TypeId} {f : Nat × Nat}, w.heap[b]? = some (.cells c t f) → b ∉ [mb] := by
    intro b c t f hb hmb
    simp only [List.mem_singleton] at hmb
    subst hmb
    obtain ⟨es, cc, h7⟩ := h7
    rw [hb] at h7; cases h7
  exact ⟨hf.keep h1 (ne h1), hf.keep h2 (ne h2), hf.keep h3 (ne h3), hf.keep h4 (ne h4), h5.keepM Ca.clen (by decide) h7 hf, h6.keepM (fun _ => rfl) (by decide) h7 hf, hm⟩

/-! points, plainly -/
def tb (d : Nat) : Nat → Bool := fun i => d.testBit i
def sb (l : List Ca) (t : Nat) : SetB := fun k => t.testBit (plc l k)
theorem tb_put {d i : Nat} (l : List Ca) (h12 : l.length ≤ 12) (hd : d < 4096) (hi : i < 12) : ∀ j, j < l.length → tb (putN d i true) j = upd (tb d) i j := by
  intro j hj
  unfold tb upd
  rw [putN_bit _ _ hd hi (by omega)]
theorem plc_le (l : List Ca) (k : ByteArray) : plc l k ≤ l.length := by unfold plc; exact List.findIdx_le_length
theorem sb_put {l : List Ca} {t i : Nat} {c : Ca} (h12 : l.length ≤ 12) (ht : t < 4096) (hc : l[i]? = some c) : sb l (putN t (plc l c.key) (doIs c.kind (sb l t c.key))) = up (sb l t) c := by
  have hp := plc_lt hc
  funext k
  have hk := plc_le l k
  unfold sb up
  rw [putN_bit _ _ ht (by omega) (by omega)]
  by_cases e : k = c.key
  · rw [if_pos ((plc_inj hc k).2 e), if_pos e]
  · rw [if_neg (fun h => e ((plc_inj hc k).1 h)), if_neg e]
abbrev FitP (l : List Ca) (d t : Nat) : Prop := FitI l (tb d) (sb l t)
/-- what a call of a point makes of it -/
theorem fitP_put {l : List Ca} {d t i : Nat} {c : Ca} (h12 : l.length ≤ 12) (hd : d < 4096) (ht : t < 4096) (hc : l[i]? = some c) :
    FitP l (putN d i true) (putN t (plc l c.key) (doIs c.kind (sb l t c.key))) ↔ FitI l (upd (tb d) i) (up (sb l t) c) := by
  have hi := (List.getElem?_eq_some_iff.1 hc).1
  unfold FitP
  rw [sb_put h12 ht hc]
  exact ⟨fun h => h.congr (tb_put l h12 hd (by omega)) (fun _ _ _ => rfl), fun h => h.congr (fun j hj => (tb_put l h12 hd (by omega) j hj).symm) (fun _ _ _ => rfl)⟩
theorem left_put {l : List Ca} {d i : Nat} {c : Ca} (h12 : l.length ≤ 12) (hd : d < 4096) (hc : l[i]? = some c) (h : tb d i = false) : left l (tb (putN d i true)) + 1 = left l (tb d) := by
  have hi := (List.getElem?_eq_some_iff.1 hc).1
  have e : left l (tb (putN d i true)) = left l (upd (tb d) i) := by unfold left; rw [rest_congr (tb_put l h12 hd (by omega))]
  rw [e]
  exact left_upd hc h
/-- points of at most L calls that are left lead to no end -/
def Good (l : List Ca) (M : Nat → Nat → Bool) (L : Nat) : Prop := ∀ d t, d < 4096 → t < 4096 → M d t = true → left l (tb d) ≤ L → ¬ FitP l d t
/-- those of more were seen already -/
def Old (l : List Ca) (M M' : Nat → Nat → Bool) (L : Nat) : Prop := ∀ d t, d < 4096 → t < 4096 → M' d t = true → L < left l (tb d) → M d t = true
/-- while a point of L is looked at -/
def Mid (l : List Ca) (M M' : Nat → Nat → Bool) (d0 t0 : Nat) : Prop := ∀ d t, d < 4096 → t < 4096 → M' d t = true → (left l (tb d) < left l (tb d0) → ¬ FitP l d t) ∧ (left l (tb d0) ≤ left l (tb d) → M d t = true ∨ (d = d0 ∧ t = t0))
theorem Mid.start {l : List Ca} {M : Nat → Nat → Bool} {d0 t0 : Nat} (h : Good l M (left l (tb d0))) : Mid l M (fun d' t' => if d' = d0 ∧ t' = t0 then true else M d' t') d0 t0 := by
  intro d t hd ht hm
  by_cases e : d = d0 ∧ t = t0
  · obtain ⟨rfl, rfl⟩ := e
    exact ⟨fun h => absurd h (Nat.lt_irrefl _), fun _ => Or.inr ⟨rfl, rfl⟩⟩
  · dsimp only at hm
    rw [if_neg e] at hm
    exact ⟨fun h1 => h d t hd ht hm (Nat.le_of_lt h1), fun _ => Or.inl hm⟩
theorem Mid.good {l : List Ca} {M M' : Nat → Nat → Bool} {d0 t0 L : Nat} (h : Mid l M M' d0 t0) (hL : L < left l (tb d0)) : Good l M' L :=
  fun d t hd ht hm h1 => (h d t hd ht hm).1 (by omega)
theorem Mid.step {l : List Ca} {M M' M'' : Nat → Nat → Bool} {d0 t0 L : Nat} (h : Mid l M M' d0 t0) (hL : L + 1 = left l (tb d0)) (hg : Good l M'' L) (ho : Old l M' M'' L) : Mid l M M'' d0 t0 := by
  intro d t hd ht hm
  refine ⟨fun h1 => hg d t hd ht hm (by omega), fun h1 => ?_⟩
  exact (h d t hd ht (ho d t hd ht hm (by omega))).2 h1
theorem Mid.fin {l : List Ca} {M M' : Nat → Nat → Bool} {d0 t0 : Nat} (h : Mid l M M' d0 t0) (hg : Good l M (left l (tb d0))) (hn : ¬ FitP l d0 t0) : Good l M' (left l (tb d0)) ∧ Old l M M' (left l (tb d0)) := by
  refine ⟨fun d t hd ht hm h1 => ?_, fun d t hd ht hm h1 => ?_⟩
  · rcases Nat.lt_or_ge (left l (tb d)) (left l (tb d0)) with h2 | h2
    · exact (h d t hd ht hm).1 h2
    · rcases (h d t hd ht hm).2 h2 with h3 | ⟨rfl, rfl⟩
      · exact hg d t hd ht h3 h1
      · exact hn
  · rcases (h d t hd ht hm).2 (Nat.le_of_lt h1) with h3 | ⟨rfl, rfl⟩
    · exact h3
    · exact absurd h1 (Nat.lt_irrefl _)
/-- how many points may be put -/
def cost : Nat → Nat
  | 0 => 0
  | u + 1 => 1 + 12 * cost u
end Go.Proofs.Ytbbhekmhffhpfaa
