/- GENERIC, AT PACKAGE order's POINTS: A SET OF POINTS (a map whose keys are structs of two uints, and whose elements are empty structs), told plainly
PACKAGE order: what Fits' closure stands in; points; plain facts on what has been seen
PACKAGE order: Fits' closure: contract
PACKAGE order: Fits: contract -/
import Derived.Test.YtmhiolhgofackaaOrAt
import Derived.Test.YtmhiolhgofackaaLaw
import Derived.WideKeyArgs
import Derived.DeepKeys4
import Derived.Maps.OwnSet
import Derived.Maps.Views
import Derived.Test.YtmhiolhgofackaaOrBe
import Derived.Deep.DeepCutAuto
import Derived.WalkMore
import Derived.StillTailTactics
import Derived.Carry
import Derived.Laws.EntriesVeiled
namespace Go.Proofs.Ytmhiolhgofackaa
open Go.RowKit Go.Maps
set_option linter.unusedVariables false
set_option linter.unusedSimpArgs false

def ptV (d t : Nat) : Value := .agg #[.int .u64 d, .int .u64 t]
def ptB (d t : Nat) : List Lit := [.int .u64 d, .int .u64 t]
def ptL (d t : Nat) : Lit := .string (keyBytes (ptB d t))
theorem pt_under : Try.prog.underlying 86 = some (.struct (match Try.prog.underlying 86 with | some (.struct fs) => fs | _ => #[])) := by kernel_rfl
theorem pt_law : WideMaps.KeyLaw Try.prog 86 := deep_law_laid laid_prog (m := 2) (by omega) (of_decide_eq_true (by kernel_rfl)) (by kernel_rfl) (by rw [pt_under])
theorem pt_keyed : Keyed Try.prog 86 := Keyed.of_law pt_law
theorem wf_u64 {d : Nat} (h : d < 4096) : (Lit.int .u64 d).wf = true := by
  have h1 : IntKind.u64.min = 0 := rfl
  have h2 : IntKind.u64.max = 18446744073709551615 := rfl
  simp only [Lit.wf, Bool.and_eq_true, decide_eq_true_eq]
  omega
theorem pt_key {d t : Nat} (hd : d < 4096) (ht : t < 4096) : keyOf Try.prog 86 (ptV d t) = some (ptL d t) := by
  have hu := Try.underlying86
  have hi := Try.underlying84
  have hc : Try.prog.cellsOf 86 = 2 := by kernel_rfl
  have hc1 : Try.prog.cellsOf 84 = 1 := by kernel_rfl
  have hkt : Try.prog.keyType 86 = true := by kernel_rfl
  have hf : (ptV d t).formed Try.prog 86 = true := by simp [ptV, Value.formed, hu, hc]
  have hz0 : 0 < Try.prog.types.size := of_decide_eq_true (by kernel_rfl)
  have hz : ∃ m, Try.prog.types.size = m + 1 := ⟨Try.prog.types.size - 1, by omega⟩
  have w1 := wf_u64 hd
  have w2 := wf_u64 ht
  obtain ⟨m, hm⟩ := hz
  have hk : Try.prog.keyLits (Try.prog.types.size + 1) 86 (ptV d t).cells.toList = some (ptB d t) := by
    rw [hm]
    unfold Program.keyLits
    simp only [hu]
    rw [if_pos (by exact ⟨by rw [hc]; rfl, by kernel_rfl⟩)]
    simp only [List.mapM_cons, List.mapM_nil, hc1]
    simp [Program.keyLits, hi, ptV, Value.cells, w1, w2, ptB]
  unfold keyOf
  rw [hu]
  dsimp only
  rw [if_pos (by rw [hkt, hf]; rfl), hk]
  rfl
theorem pt_inj {d t d' t' : Nat} (hd : d < 4096) (ht : t < 4096) (hd' : d' < 4096) (ht' : t' < 4096) (h : ptL d t = ptL d' t') : d = d' ∧ t = t' := by
  have h1 : keyBytes (ptB d t) = keyBytes (ptB d' t') := by injection h
  have h2 := keyBytes_inj (l := ptB d t) (l' := ptB d' t') ⟨rfl, rfl, trivial⟩
    (by intro a ha; simp only [ptB, List.mem_cons, List.not_mem_nil, or_false] at ha; rcases ha with rfl | rfl; exact wf_u64 hd; exact wf_u64 ht)
    (by intro a ha; simp only [ptB, List.mem_cons, List.not_mem_nil, or_false] at ha; rcases ha with rfl | rfl; exact wf_u64 hd'; exact wf_u64 ht') h1
  unfold ptB at h2
  simp only [List.cons.injEq, Lit.int.injEq, true_and, and_true] at h2
  omega
/-- block b is a set of n points at most, those of M -/
def PtSet (w : World) (b n : Nat) (M : Nat → Nat → Bool) : Prop := ∃ D : DataW Value, w.ownsMap Try.prog 86 unitElem b n D ∧ ∀ d t, d < 4096 → t < 4096 → Maps.has D (ptL d t) = M d t
section
variable {w w' : World} {b n : Nat} {M : Nat → Nat → Bool}
theorem PtSet.lt (h : PtSet w b n M) : b < w.heap.size := by obtain ⟨D, h, _⟩ := h; exact h.lt
theorem PtSet.same (h : PtSet w b n M) (hs : w'.heap[b]? = w.heap[b]?) : PtSet w' b n M := by
  obtain ⟨D, ⟨es, c, hb, r⟩, t⟩ := h
  exact ⟨D, ⟨es, c, hs.trans hb, r⟩, t⟩
theorem PtSet.keep {S : List Nat} (h : PtSet w b n M) (hf : Fr S w w') (hb : b ∉ S) : PtSet w' b n M := h.same (hf.block b h.lt hb)
theorem PtSet.mono (h : PtSet w b n M) {n' : Nat} (hn : n ≤ n') : PtSet w b n' M := by obtain ⟨D, h, t⟩ := h; exact ⟨D, h.mono hn, t⟩
theorem PtSet.made (w : World) : PtSet (w.alloc (.map #[] 0)) w.heap.size 0 (fun _ _ => false) := ⟨_, World.ownsMap_made w Try.prog 86 unitElem, fun d t _ _ => rfl⟩
theorem PtSet.isMap (h : PtSet w b n M) : ∃ es c, w.heap[b]? = some (.map es c) := by obtain ⟨D, ⟨es, c, h, _⟩, _⟩ := h; exact ⟨es, c, h⟩
/-- _, ok := m[p] -/
theorem PtSet.look (h : PtSet w b n M) {d t : Nat} (hd : d < 4096) (ht : t < 4096) : (Instr.lookup 82 (.map (some b)) (ptV d t) true).run Try.prog w = .ok (.tuple #[.agg #[], .bool (M d t)]) w := by
  obtain ⟨D, h, tl⟩ := h
  obtain ⟨v, ps, hrun, hv⟩ := h.look_ok pt_keyed Try.underlying82 (z := .agg #[]) (by kernel_rfl) unitElem_mk (pt_key hd ht)
  obtain ⟨rfl, _⟩ := unitElem_inv hv
  rw [hrun, tl d t hd ht]
/-- m[p] = struct{}{} -/
theorem PtSet.put (h : PtSet w b n M) (hn : n < maxLen) {d t : Nat} (hd : d < 4096) (ht : t < 4096) :
    ∃ w', (Instr.mapUpdate 82 (.map (some b)) (ptV d t) (.agg #[])).run Try.prog w = .ok () w' ∧ PtSet w' b (n + 1) (fun d' t' => if d' = d ∧ t' = t then true else M d' t') ∧ Fr [b] w w' := by
  have hm := h.isMap
  obtain ⟨D, h, tl⟩ := h
  obtain ⟨w', hrun, hown, hg⟩ := h.update pt_keyed Try.underlying82 hn (pt_key hd ht) (val := .agg #[]) unitElem_mk
  refine ⟨w', hrun, ⟨_, hown, fun d' t' hd' ht' => ?_⟩, Fr.of_grown (row := some b) hg⟩
  dsimp only
  by_cases e : d' = d ∧ t' = t
  · obtain ⟨rfl, rfl⟩ := e
    rw [if_pos ⟨rfl, rfl⟩]
    exact has_put_same h.isMap (pt_keyed.key (pt_key hd ht)) _
  · rw [if_neg e, has_put_other (fun e2 => e (pt_inj hd' ht' hd ht e2)), tl d' t' hd' ht']
end
end Go.Proofs.Ytmhiolhgofackaa
namespace Go.Proofs.Ytmhiolhgofackaa
open Go.RowKit
set_option linter.unusedVariables false
set_option linter.unusedSimpArgs false

theorem LIn.keepM {α : Type} {cs : α → List Value} {sz : Nat} {w w' : World} {v : Value} {l : List α} {mb : Nat} (h : LIn cs sz w v l) (hc : ∀ x, (cs x).length = sz) (hs : 0 < sz) (hm : ∃ es c, w.heap[mb]? = some (.map es c)) (hf : Fr [mb] w w') : LIn cs sz w' v l := by
  obtain ⟨a, c, h1, h2, h3, h4⟩ := h
  refine ⟨a, c, h1, h2, h3, fun hl => ?_⟩
  obtain ⟨g, off, h5, h6, h7⟩ := h4 hl
  have hg : g ∉ [mb] := by
    intro hg
    simp only [List.mem_singleton] at hg
    subst hg
    obtain ⟨es, cc, hm⟩ := hm
    have h8 := h7 0 l[0] (List.getElem?_eq_getElem hl) 0 hs
    rw [List.getElem?_eq_getElem (by rw [hc]; exact hs)] at h8
    simp [World.cell?, hm] at h8
  refine ⟨g, off, h5, Nat.lt_of_lt_of_le h6 hf.size, fun i x hx j hj => ?_⟩
  have h8 := h7 i x hx j hj
  cases hcc : (cs x)[j]? with
  | some y => rw [hcc] at h8; exact hf.cell h8 hg
  | none =>
    rw [hcc] at h8
    rw [← h8]
    unfold World.cell?
    rw [hf.block g h6 hg]
def orLookV (bl bm bk bf : Nat) : Value := .func (.func 32) #[] #[.pointer (some ⟨bl, 0, none⟩), .pointer (some ⟨bm, 0, none⟩), .pointer (some ⟨bk, 0, none⟩), .pointer (some ⟨bf, 0, none⟩)]
structure Env (l : List Ca) (lv kv : Value) (bl bm bk bf mb : Nat) (w : World) : Prop where
  vl : w.heap[bl]? = some (.cells #[lv] 33 (0, 0))
  vm : w.heap[bm]? = some (.cells #[.map (some mb)] 82 (0, 0))
  vk : w.heap[bk]? = some (.cells #[kv] 80 (0, 0))
  vf : w.heap[bf]? = some (.cells #[orLookV bl bm bk bf] 83 (0, 0))
  cl : CaIn w lv l
  ck : InIn w kv (pls l)
  mp : ∃ es c, w.heap[mb]? = some (.map es c)
theorem Env.keep {l : List Ca} {lv kv : Value} {bl bm bk bf mb : Nat} {w w' : World} (h : Env l lv kv bl bm bk bf mb w) (hf : Fr [mb] w w') (hm : ∃ es c, w'.heap[mb]? = some (.map es c)) : Env l lv kv bl bm bk bf mb w' := by
  obtain ⟨h1, h2, h3, h4, h5, h6, h7⟩ := h
  have ne : ∀ {b : Nat} {c : Array Value} {t : TypeId} {f : Nat × Nat}, w.heap[b]? = some (.cells c t f) → b ∉ [mb] := by
    intro b c t f hb hmb
    simp only [List.mem_singleton] at hmb
    subst hmb
    obtain ⟨es, cc, h7⟩ := h7
    rw [hb] at h7; cases h7
  exact ⟨hf.keep h1 (ne h1), hf.keep h2 (ne h2), hf.keep h3 (ne h3), hf.keep h4 (ne h4), h5.keepM Ca.clen (by decide) h7 hf, h6.keepM (fun _ => rfl) (by decide) h7 hf, hm⟩

/-! points, plainly -/
def tb (d : Nat) : Nat → Bool := fun i => d.testBit i
def sb (l : List Ca) (t : Nat) : SetB := fun k => t.testBit (plc l k)
theorem tb_put {d i : Nat} (l : List Ca) (h12 : l.length ≤ 12) (hd : d < 4096) (hi : i < 12) : ∀ j, j < l.length → tb (putN d i true) j = upd (tb d) i j := by
  intro j hj
  unfold tb upd
  rw [putN_bit _ _ hd hi (by omega)]
theorem plc_le (l : List Ca) (k : ByteArray) : plc l k ≤ l.length := by unfold plc; exact List.findIdx_le_length
theorem sb_put {l : List Ca} {t i : Nat} {c : Ca} (h12 : l.length ≤ 12) (ht : t < 4096) (hc : l[i]? = some c) : sb l (putN t (plc l c.key) (doIs c.kind (sb l t c.key))) = up (sb l t) c := by
  have hp := plc_lt hc
  funext k
  have hk := plc_le l k
  unfold sb up
  rw [putN_bit _ _ ht (by omega) (by omega)]
  by_cases e : k = c.key
  · rw [if_pos ((plc_inj hc k).2 e), if_pos e]
  · rw [if_neg (fun h => e ((plc_inj hc k).1 h)), if_neg e]
abbrev FitP (l : List Ca) (d t : Nat) : Prop := FitI l (tb d) (sb l t)
/-- what a call of a point makes of it -/
theorem fitP_put {l : List Ca} {d t i : Nat} {c : Ca} (h12 : l.length ≤ 12) (hd : d < 4096) (ht : t < 4096) (hc : l[i]? = some c) :
    FitP l (putN d i true) (putN t (plc l c.key) (doIs c.kind (sb l t c.key))) ↔ FitI l (upd (tb d) i) (up (sb l t) c) := by
  have hi := (List.getElem?_eq_some_iff.1 hc).1
  unfold FitP
  rw [sb_put h12 ht hc]
  exact ⟨fun h => h.congr (tb_put l h12 hd (by omega)) (fun _ _ _ => rfl), fun h => h.congr (fun j hj => (tb_put l h12 hd (by omega) j hj).symm) (fun _ _ _ => rfl)⟩
theorem left_put {l : List Ca} {d i : Nat} {c : Ca} (h12 : l.length ≤ 12) (hd : d < 4096) (hc : l[i]? = some c) (h : tb d i = false) : left l (tb (putN d i true)) + 1 = left l (tb d) := by
  have hi := (List.getElem?_eq_some_iff.1 hc).1
  have e : left l (tb (putN d i true)) = left l (upd (tb d) i) := by unfold left; rw [rest_congr (tb_put l h12 hd (by omega))]
  rw [e]
  exact left_upd hc h
/-- points of at most L calls that are left lead to no end -/
def OrGood (l : List Ca) (M : Nat → Nat → Bool) (L : Nat) : Prop := ∀ d t, d < 4096 → t < 4096 → M d t = true → left l (tb d) ≤ L → ¬ FitP l d t
/-- those of more were seen already -/
def Old (l : List Ca) (M M' : Nat → Nat → Bool) (L : Nat) : Prop := ∀ d t, d < 4096 → t < 4096 → M' d t = true → L < left l (tb d) → M d t = true
/-- while a point of L is looked at -/
def Mid (l : List Ca) (M M' : Nat → Nat → Bool) (d0 t0 : Nat) : Prop := ∀ d t, d < 4096 → t < 4096 → M' d t = true → (left l (tb d) < left l (tb d0) → ¬ FitP l d t) ∧ (left l (tb d0) ≤ left l (tb d) → M d t = true ∨ (d = d0 ∧ t = t0))
theorem Mid.start {l : List Ca} {M : Nat → Nat → Bool} {d0 t0 : Nat} (h : OrGood l M (left l (tb d0))) : Mid l M (fun d' t' => if d' = d0 ∧ t' = t0 then true else M d' t') d0 t0 := by
  intro d t hd ht hm
  by_cases e : d = d0 ∧ t = t0
  · obtain ⟨rfl, rfl⟩ := e
    exact ⟨fun h => absurd h (Nat.lt_irrefl _), fun _ => Or.inr ⟨rfl, rfl⟩⟩
  · dsimp only at hm
    rw [if_neg e] at hm
    exact ⟨fun h1 => h d t hd ht hm (Nat.le_of_lt h1), fun _ => Or.inl hm⟩
theorem Mid.good {l : List Ca} {M M' : Nat → Nat → Bool} {d0 t0 L : Nat} (h : Mid l M M' d0 t0) (hL : L < left l (tb d0)) : OrGood l M' L :=
  fun d t hd ht hm h1 => (h d t hd ht hm).1 (by omega)
theorem Mid.step {l : List Ca} {M M' M'' : Nat → Nat → Bool} {d0 t0 L : Nat} (h : Mid l M M' d0 t0) (hL : L + 1 = left l (tb d0)) (hg : OrGood l M'' L) (ho : Old l M' M'' L) : Mid l M M'' d0 t0 := by
  intro d t hd ht hm
  refine ⟨fun h1 => hg d t hd ht hm (by omega), fun h1 => ?_⟩
  exact (h d t hd ht (ho d t hd ht hm (by omega))).2 h1
theorem Mid.fin {l : List Ca} {M M' : Nat → Nat → Bool} {d0 t0 : Nat} (h : Mid l M M' d0 t0) (hg : OrGood l M (left l (tb d0))) (hn : ¬ FitP l d0 t0) : OrGood l M' (left l (tb d0)) ∧ Old l M M' (left l (tb d0)) := by
  refine ⟨fun d t hd ht hm h1 => ?_, fun d t hd ht hm h1 => ?_⟩
  · rcases Nat.lt_or_ge (left l (tb d)) (left l (tb d0)) with h2 | h2
    · exact (h d t hd ht hm).1 h2
    · rcases (h d t hd ht hm).2 h2 with h3 | ⟨rfl, rfl⟩
      · exact hg d t hd ht h3 h1
      · exact hn
  · rcases (h d t hd ht hm).2 (Nat.le_of_lt h1) with h3 | ⟨rfl, rfl⟩
    · exact h3
    · exact absurd h1 (Nat.lt_irrefl _)
/-- how many points may be put -/
def cost : Nat → Nat
  | 0 => 0
  | u + 1 => 1 + 12 * cost u
end Go.Proofs.Ytmhiolhgofackaa
namespace Go.Proofs.Ytmhiolhgofackaa
open Go.RowKit
set_option linter.unusedVariables false
set_option linter.unusedSimpArgs false

/-- what look leaves behind -/
def LookOut (l : List Ca) (mb : Nat) (M : Nat → Nat → Bool) (n u L : Nat) (R : Bool) (w' : World) : Prop :=
  ∃ (M' : Nat → Nat → Bool) (n' : Nat), PtSet w' mb n' M' ∧ n' ≤ n + cost u ∧ (R = false → OrGood l M' L ∧ Old l M M' L)
def PtSets (w : World) (mb nmax : Nat) (P : (Nat → Nat → Bool) → Prop) : Prop := ∃ M n, PtSet w mb n M ∧ n ≤ nmax ∧ P M

set_option maxRecDepth 100000 in
set_option maxHeartbeats 4000000 in
theorem or_look (l : List Ca) (h12 : l.length ≤ 12) (lv kv : Value) (bl bm bk bf mb : Nat) : ∀ (u d t n : Nat) (M : Nat → Nat → Bool) (w : World), left l (tb d) < u → d < 4096 → t < 4096 → Env l lv kv bl bm bk bf mb w → PtSet w mb n M → n + cost u ≤ 2 ^ 62 → OrGood l M (left l (tb d)) →
    Calls Try.prog 32 #[ptV d t, .pointer (some ⟨bl, 0, none⟩), .pointer (some ⟨bm, 0, none⟩), .pointer (some ⟨bk, 0, none⟩), .pointer (some ⟨bf, 0, none⟩)] w fun e w' =>
      e = .returned (.bool (fitB l (tb d) (sb l t))) ∧ Fr [mb] w w' ∧ LookOut l mb M n u (left l (tb d)) (fitB l (tb d) (sb l t)) w' := by
  intro u
  induction u with
  | zero => intro d t n M w h; exact absurd h (Nat.not_lt_zero _)
  | succ u ih =>
    intro d t n M w hu hd ht he hm hn hg
    obtain ⟨ls, lc, rfl, la, lb⟩ := LIn.form he.cl
    obtain ⟨ks, kc, rfl, ka, kb⟩ := LIn.form he.ck
    have hpl : (pls l).length = l.length := by unfold pls; simp
    rw [hpl] at ka he ih
    unfold maxLen at lb kb
    obtain ⟨wb, hwb⟩ : ∃ wb, wb = w.alloc (Obj.cells #[.int .u64 d, .int .u64 t] 86) := ⟨_, rfl⟩
    have HWB := Lib.hid hwb
    have HX : Hid (wb.heap[w.heap.size]? = some (.cells #[.int .u64 d, .int .u64 t] 86 (0, 0))) := Lib.hid (by rw [hwb]; exact new_block w _)
    have hfb : Fr [] w wb := by rw [hwb]; exact (Fr.refl [] w).alloc _
    have HFB := Lib.hid hfb
    have HPS := Lib.hid (PtSet.keep hm hfb (by simp))
    have HE := Lib.hid (he.keep (hfb.mono (by simp)) HPS.out.isMap)
    have HD := Lib.hid hd
    have HT := Lib.hid ht
    have HG := Lib.hid hg
    have HU := Lib.hid hu
    have HPL := Lib.hid hpl
    have IH := Lib.hid ih
    have hmlt := hm.lt
    have HML := Lib.hid hmlt
    have HWZ : Hid (∀ k, k = w.heap.size → k ≠ mb) := Lib.hid (fun k hk => by omega)
    clear hwb hfb hm he hd ht hg hu hpl ih
    obtain ⟨R, hR⟩ : ∃ R, R = fitB l (tb d) (sb l t) := ⟨_, rfl⟩
    rw [← hR]
    have HR := Lib.hid hR
    clear hR
    obtain ⟨q0, q1, _⟩ := cells2 HX.out
    obtain ⟨e0, _⟩ := cells1 HE.out.vl
    obtain ⟨e1, _⟩ := cells1 HE.out.vm
    have hmf : ∀ (fn : Fn) (first cap : Array Value) (w : World), (Instr.makeFunc fn first cap).run Try.prog w = .ok (.func fn first cap) w := fun fn first cap w => rfl
    obtain ⟨A, hA⟩ : ∃ A, A = allTo l (fun i => d.testBit i) l.length := ⟨_, rfl⟩
    have HWH : Hid (∀ W, Fr [] wb W → Calls Try.prog 33 #[.agg #[.int .u64 d, .int .u64 t], .slice ls l.length lc] W fun e w' => e = .returned (.bool A) ∧ Fr [] W w') := Lib.hid fun W hW => by rw [hA]; exact or_whole d t _ l W HD.out (LIn.keep0 HE.out.cl hW) h12
    have HA := Lib.hid hA
    clear hA
    unfold ptV
    go_enter Try.func32, Try.ntmps32
    go_upto_region 1 with fail
    rw [← HWB.out]
    go_step3
    go_wp2_with (go_at_call 33; refine (HWH.out _ (Fr.refl [] wb)).mono ?_; rintro e w1 ⟨rfl, hf⟩; refine go_stop ?_)
    unfold Stop
    have HF1 := Lib.hid hf
    have HE1 := Lib.hid (HE.out.keep (hf.mono (by simp)) (HPS.out.keep hf (by simp)).isMap)
    have HPS1 := Lib.hid (HPS.out.keep hf (by simp))
    have HX1 := Lib.hid (hf.keep HX.out (by simp))
    clear hf q0 q1 e0 e1 HE HPS HX HWH
    cases A
    · obtain ⟨q0, q1, _⟩ := cells2 HX1.out
      obtain ⟨e1, _⟩ := cells1 HE1.out.vm
      have hlk := HPS1.out.look HD.out HT.out
      unfold ptV at hlk
      obtain ⟨S, hS⟩ : ∃ S, S = M d t := ⟨_, rfl⟩
      rw [← hS] at hlk
      have HS := Lib.hid hS
      clear hS
      have hzs : ∀ W : World, (zeroValue 88).run Try.prog W = .ok (.agg #[]) W := fun W => by kernel_rfl
      have HF2 := Lib.hid (HF1.out.alloc (.cells #[] 88))
      have HFA := Lib.hid ((Fr.refl [] w1).alloc (.cells #[] 88))
      have HPS2 := Lib.hid (HPS1.out.keep HFA.out (by simp))
      have HE2 := Lib.hid (HE1.out.keep (HFA.out.mono (by simp)) HPS2.out.isMap)
      have HX2 := Lib.hid (HFA.out.keep HX1.out (by simp))
      cases S
      · go_upto_region 6 with fail
        have HFW2 := Lib.hid (Fr.trans (T := []) HFB.out HF2.out (by simp))
        obtain ⟨w3, hst, hp3, hf3⟩ := HPS2.out.put (by unfold maxLen; have := hn; unfold cost at this; omega) HD.out HT.out
        unfold ptV at hst
        have hxm : w.heap.size ∉ [mb] := by have := HML.out; simp; omega
        have HX3 := Lib.hid (hf3.keep HX2.out hxm)
        have HE3 := Lib.hid (HE2.out.keep hf3 hp3.isMap)
        have HPS3 := Lib.hid hp3
        have HF3 := Lib.hid (Fr.trans (T := [mb]) (HFW2.out.mono (by simp) : Fr [mb] w _) hf3 (fun x hx => Or.inl hx))
        have HXM := Lib.hid hxm
        clear hp3 hf3 hxm hlk q0 q1 e1 HE1 HPS1 HX1 HF1
        generalize w1.alloc (Obj.cells #[] 88) = w2 at *
        obtain ⟨q0, q1, _⟩ := cells2 HX2.out
        obtain ⟨e1, _⟩ := cells1 HE2.out.vm
        obtain ⟨f0, _⟩ := cells1 HE3.out.vl
        go_wp2_with fail
        go_step3
        go_wp2_with fail
        go_loopw [30] (fun i wr => ∃ (j : Nat), i = .int .i64 j ∧ j ≤ l.length ∧ (∀ i, i < j → ¬ Leads l (tb d) (sb l t) i) ∧ Fr [mb] w3 wr ∧ PtSets wr mb (n + 1 + j * cost u) (fun M' => Mid l M M' d t)) (fun i _ => l.length - (intOf i).toNat)
        case atStart => exact ⟨0, rfl, Nat.zero_le _, fun i h => absurd h (by omega), Fr.refl _ _, _, _, HPS3.out, by omega, Mid.start HG.out⟩
        case round =>
          obtain ⟨j, rfl, hj, hno, hf, Mj, nj, hpj, hnj, hmid⟩ := hrel
          have HNO := Lib.hid hno
          have HFR := Lib.hid hf
          have HFJ := Lib.hid (Fr.trans (T := [mb]) HF3.out hf (fun x hx => Or.inl hx))
          have HPJ := Lib.hid hpj
          have HMID := Lib.hid hmid
          have HNJ := Lib.hid hnj
          have HEJ := Lib.hid (HE3.out.keep hf hpj.isMap)
          have HXJ := Lib.hid (hf.keep HX3.out HXM.out)
          clear hno hf hpj hmid hnj q0 q1 e1 f0
          by_cases h : j < l.length
          · obtain ⟨c, hc⟩ : ∃ c, l[j]? = some c := ⟨_, List.getElem?_eq_getElem h⟩
            obtain ⟨gl, ol, d1, e2, hgl, l2, k2⟩ := CaIn.here HEJ.out.cl (by omega)
            simp only [Value.slice.injEq] at e2
            obtain ⟨rfl, _, rfl⟩ := e2
            obtain ⟨y0, y1, y2, y3, y4⟩ := k2 j c hc
            have t1 : decide (j < l.length) = true := by simpa using h
            have HC := Lib.hid hc
            obtain ⟨T, hT⟩ : ∃ T, T = d.testBit j := ⟨_, rfl⟩
            have HHAS : Hid (∀ W, Calls Try.prog 34 #[.int .u64 d, .int .i64 j] W fun e w' => e = .returned (.bool T) ∧ w' = W) := Lib.hid fun W => by rw [hT]; exact or_has d j HD.out W (by omega)
            have HT1 := Lib.hid hT
            have HNB := Lib.hid (new_block wr (.cells #[.int .i64 c.kind, .string c.key, .bool c.ok, .int .i64 c.inv, .int .i64 c.ret] 41))
            have hfa : Fr [] wr (wr.alloc (.cells #[.int .i64 c.kind, .string c.key, .bool c.ok, .int .i64 c.inv, .int .i64 c.ret] 41)) := (Fr.refl [] wr).alloc _
            have HFA1 := Lib.hid hfa
            have HXA := Lib.hid (hfa.keep HXJ.out (by simp))
            have HPA := Lib.hid (HPJ.out.keep hfa (by simp))
            have HEA := Lib.hid (HEJ.out.keep (hfa.mono (by simp)) HPA.out.isMap)
            have hxlt := lt_of_block HXJ.out
            have HCZ : Hid (wr.heap.size ≠ mb ∧ wr.heap.size ≠ w.heap.size) := Lib.hid ⟨by have := HPJ.out.lt; omega, by omega⟩
            clear hc k2 hT hfa hxlt
            go_upto_region 10 with fail
            generalize hwc : wr.alloc (.cells #[.int .i64 c.kind, .string c.key, .bool c.ok, .int .i64 c.inv, .int .i64 c.ret] 41) = wA at *
            clear hwc y0 y1 y2 y3 y4
            obtain ⟨q0, q1, _⟩ := cells2 HXA.out
            obtain ⟨f0, _⟩ := cells1 HEA.out.vl
            cases T
            · go_wp2_with (go_at_call 34; refine (HHAS.out _).mono ?_; rintro e wA ⟨rfl, rfl⟩)
              obtain ⟨wO, hwO⟩ : ∃ x, x = wr := ⟨_, rfl⟩
              subst hwO
              have HFC := Lib.hid (Fr.trans (T := []) HFJ.out HFA1.out (by simp))
              have HFRC := Lib.hid (Fr.trans (T := []) HFR.out HFA1.out (by simp))
              clear q0 q1 f0
              go_loopw [41] (fun i wr => ∃ (k : Nat), i = .int .i64 k ∧ k ≤ l.length ∧ freeTo l (tb d) c k = true ∧ Fr [] wA wr) (fun i _ => l.length - (intOf i).toNat)
              case atStart => exact ⟨0, rfl, Nat.zero_le _, rfl, Fr.refl _ _⟩
              case round =>
                obtain ⟨k, rfl, hk, hfr, hf⟩ := hrel
                have HFK := Lib.hid hf
                have HFREE := Lib.hid hfr
                have HPK := Lib.hid (HPA.out.keep hf (by simp))
                have HEK := Lib.hid (HEA.out.keep (hf.mono (by simp)) HPK.out.isMap)
                have HXK := Lib.hid (hf.keep HXA.out (by simp))
                have HCK := Lib.hid (hf.keep HNB.out (by simp))
                clear hf hfr
                by_cases h2 : k < l.length
                · obtain ⟨c2, hc2⟩ : ∃ c2, l[k]? = some c2 := ⟨_, List.getElem?_eq_getElem h2⟩
                  obtain ⟨gl2, ol2, d2, e2, hgl2, l3, k2⟩ := CaIn.here HEK.out.cl (by omega)
                  simp only [Value.slice.injEq] at e2
                  obtain ⟨e2, _, rfl⟩ := e2
                  simp only [Option.some.injEq, Addr.mk.injEq, and_true, true_and] at e2
                  obtain ⟨rfl, rfl⟩ := e2
                  obtain ⟨y0, y1, y2, y3, y4⟩ := k2 k c2 hc2
                  have t2 : decide (k < l.length) = true := by simpa using h2
                  have HC2 := Lib.hid hc2
                  obtain ⟨T2, hT2⟩ : ∃ T, T = d.testBit k := ⟨_, rfl⟩
                  have HHAS2 : Hid (∀ W, Calls Try.prog 34 #[.int .u64 d, .int .i64 k] W fun e w' => e = .returned (.bool T2) ∧ w' = W) := Lib.hid fun W => by rw [hT2]; exact or_has d k HD.out W (by omega)
                  have HT2 := Lib.hid hT2
                  obtain ⟨AH, hAH⟩ : ∃ AH, AH = ahead c2 c := ⟨_, rfl⟩
                  have HAHC : Hid (∀ W, Calls Try.prog 35 #[c2.agg, c.agg] W fun e w' => e = .returned (.bool AH) ∧ Fr [] W w') := Lib.hid fun W => by rw [hAH]; exact or_ahead c2 c W
                  have HAH := Lib.hid hAH
                  have HST : Hid (freeTo l (tb d) c (k + 1) = (T2 || !AH)) := Lib.hid (by
                    rw [freeTo_step hc2, HFREE.out, hT2, hAH]; rfl)
                  have HNB2 := Lib.hid (new_block wr (.cells #[.int .i64 c2.kind, .string c2.key, .bool c2.ok, .int .i64 c2.inv, .int .i64 c2.ret] 41))
                  have hfa : Fr [] wr (wr.alloc (.cells #[.int .i64 c2.kind, .string c2.key, .bool c2.ok, .int .i64 c2.inv, .int .i64 c2.ret] 41)) := (Fr.refl [] wr).alloc _
                  have HFA2 := Lib.hid hfa
                  have HXA2 := Lib.hid (hfa.keep HXK.out (by simp))
                  have HCA2 := Lib.hid (hfa.keep HCK.out (by simp))
                  have HFN := Lib.hid (Fr.trans (T := []) HFK.out hfa (by simp))
                  clear hc2 k2 hT2 hAH hfa
                  go_upto_region 14 with fail
                  generalize hwd : wr.alloc (.cells #[.int .i64 c2.kind, .string c2.key, .bool c2.ok, .int .i64 c2.inv, .int .i64 c2.ret] 41) = wd at *
                  clear hwd y0 y1 y2 y3 y4
                  obtain ⟨q0, q1, _⟩ := cells2 HXA2.out
                  obtain ⟨z0, z1, z2, z3, z4, _⟩ := cells5 HCA2.out
                  obtain ⟨x0, x1, x2, x3, x4, _⟩ := cells5 HNB2.out
                  cases T2
                  · cases AH
                    · go_wp2_with (first | (go_at_call 34; refine (HHAS2.out _).mono ?_; rintro e w9 ⟨rfl, rfl⟩) | (go_at_call 35; refine (HAHC.out _).mono ?_; rintro e w9 ⟨rfl, hf9⟩; have HF9 := Lib.hid hf9; clear hf9))
                      go_roundw
                      case rel => exact ⟨k + 1, by go_num, by omega, by rw [HST.out]; rfl, Fr.trans (T := []) HFN.out HF9.out (by simp)⟩
                      case measure => simp [intOf]; omega
                    · have HNL : Hid (¬ Leads l (tb d) (sb l t) j) := Lib.hid (by
                        rw [leads_iff (f := tb d) HC.out HT1.out.symm]
                        rintro ⟨q, _⟩
                        have := freeTo_iff.1 q k c2 (by omega) HC2.out HT2.out.symm
                        rw [← HAH.out] at this; cases this)
                      go_wp2_with (first | (go_at_call 34; refine (HHAS2.out _).mono ?_; rintro e w9 ⟨rfl, rfl⟩) | (go_at_call 35; refine (HAHC.out _).mono ?_; rintro e w9 ⟨rfl, hf9⟩; have HF9 := Lib.hid hf9; clear hf9))
                      go_roundw
                      case rel => exact ⟨j + 1, by go_num, by omega, not_leads HNO.out HNL.out, Fr.trans (T := []) HFRC.out (Fr.trans (T := []) HFN.out HF9.out (by simp)) (by simp), Mj, nj, HPA.out.keep (Fr.trans (T := []) HFN.out HF9.out (by simp)) (by simp), by have := HNJ.out; rw [Nat.succ_mul]; omega, HMID.out⟩
                      case measure => simp [intOf]; omega
                  · go_wp2_with (go_at_call 34; refine (HHAS2.out _).mono ?_; rintro e w9 ⟨rfl, rfl⟩)
                    go_roundw
                    case rel => exact ⟨k + 1, by go_num, by omega, by rw [HST.out]; rfl, HFN.out⟩
                    case measure => simp [intOf]; omega
                · have t2 : decide (k < l.length) = false := by simpa using h2
                  have HFL : Hid (freeTo l (tb d) c l.length = true) := Lib.hid (by
                    have e : k = l.length := by omega
                    rw [← e]; exact HFREE.out)
                  obtain ⟨gk, okk, d3, e3, hgk, l4, k4⟩ := InIn.here HEK.out.ck (by rw [HPL.out]; omega)
                  rw [HPL.out] at e3
                  simp only [Value.slice.injEq] at e3
                  obtain ⟨rfl, _, rfl⟩ := e3
                  have p0 := k4 j _ (pls_at HC.out)
                  have hplt := plc_lt HC.out
                  obtain ⟨PL, hPLC⟩ : ∃ PL, PL = plc l c.key := ⟨_, rfl⟩
                  rw [← hPLC] at p0 hplt
                  obtain ⟨WAS, hWAS⟩ : ∃ b, b = sb l t c.key := ⟨_, rfl⟩
                  have HHAS3 : Hid (∀ W, Calls Try.prog 34 #[.int .u64 t, .int .i64 PL] W fun e w' => e = .returned (.bool WAS) ∧ Fr [] W w') := Lib.hid fun W => (or_has t PL HT.out W (by omega)).mono (fun e w' he => ⟨by rw [he.1, hWAS, hPLC]; rfl, by rw [he.2]; exact Fr.refl _ _⟩)
                  obtain ⟨OK, hOK⟩ : ∃ b, b = doOk c.kind WAS := ⟨_, rfl⟩
                  obtain ⟨IS, hIS⟩ : ∃ b, b = doIs c.kind WAS := ⟨_, rfl⟩
                  have HDO : Hid (∀ W, Calls Try.prog 36 #[.int .i64 c.kind, .bool WAS] W fun e w' => e = .returned (.tuple #[.bool OK, .bool IS]) ∧ Fr [] W w') := Lib.hid fun W => (or_do c.kind WAS W).mono (fun e w' he => ⟨by rw [he.1, hOK, hIS], by rw [he.2]; exact Fr.refl _ _⟩)
                  have HPLC := Lib.hid hPLC
                  have HWAS := Lib.hid hWAS
                  have HOK := Lib.hid hOK
                  have HIS := Lib.hid hIS
                  have HPLT := Lib.hid hplt
                  obtain ⟨q0, q1, _⟩ := cells2 HXK.out
                  obtain ⟨z0, z1, z2, z3, z4, _⟩ := cells5 HCK.out
                  obtain ⟨r0, _⟩ := cells1 HEK.out.vk
                  have a0 : ∀ n : After [] wr, n.now.cell? ⟨wO.heap.size, 0, none⟩ = some (.int .i64 c.kind) := fun n => n.cell z0 (by simp)
                  have a1 : ∀ n : After [] wr, n.now.cell? ⟨w.heap.size, 1, none⟩ = some (.int .u64 t) := fun n => n.cell q1 (by simp)
                  have a2 : ∀ n : After [] wr, n.now.cell? ⟨bk, 0, none⟩ = some (.slice (some ⟨gk, okk, none⟩) l.length kc) := fun n => n.cell r0 (by simp)
                  have a3 : ∀ n : After [] wr, n.now.cell? ⟨gk, okk + j, none⟩ = some (.int .i64 PL) := fun n => n.cell p0 (by simp)
                  clear k4 hPLC hWAS hOK hIS hplt q0 q1 z0 z1 z2 z3 z4 r0 p0
                  go_upto_region 16 with fail
                  refine wp_region_after [] (by kernel_rfl) (by kernel_rfl) ?_
                  repeat (go_big_quiet_step (first | (go_at_call 34; exact After.quiet (HHAS3.out _)) | (go_at_call 36; exact After.quiet (HDO.out _))))
                  refine wpQuiet_nil ?_
                  rintro _ ⟨nq, rfl⟩
                  have HFQ := Lib.hid nq.fr
                  generalize nq.now = wq at *
                  clear a0 a1 a2 a3 nq
                  have HFKQ := Lib.hid (Fr.trans (T := []) HFK.out HFQ.out (by simp))
                  have HCQ := Lib.hid (HFQ.out.keep HCK.out (by simp))
                  obtain ⟨z0, z1, z2, z3, z4, _⟩ := cells5 HCQ.out
                  obtain ⟨B, hB⟩ : ∃ b, b = decide (0 ≤ c.ret) := ⟨_, rfl⟩
                  have HANS : Hid (∀ W, Calls Try.prog 37 #[c.agg] W fun e w' => e = .returned (.bool B) ∧ Fr [] W w') := Lib.hid fun W => by rw [hB]; exact or_answered c W
                  have HB := Lib.hid hB
                  obtain ⟨CO, hCO⟩ : ∃ b, b = c.ok := ⟨_, rfl⟩
                  have HCO := Lib.hid hCO
                  obtain ⟨SK, hSK⟩ : ∃ b, b = (B && (OK != CO)) := ⟨_, rfl⟩
                  have HSK := Lib.hid hSK
                  clear hB hCO hSK
                  go_upto_region 17 with fail
                  go_cut [77] (fun v wx => v = .bool SK ∧ Fr [] wq wx)
                  case first =>
                    go_wp2_with (go_at_call 37; refine (HANS.out _).mono ?_; rintro e w9 ⟨rfl, hf⟩; refine go_stop ?_)
                    unfold Stop
                    have HF9 := Lib.hid hf
                    have HC9 := Lib.hid (hf.keep HCQ.out (by simp))
                    rw [← HCO.out] at HC9
                    clear hf z0 z1 z2 z3 z4
                    obtain ⟨z0, z1, z2, z3, z4, _⟩ := cells5 HC9.out
                    cases B
                    · go_wp2_with fail
                      go_meet
                      exact ⟨by rw [HSK.out]; rfl, HF9.out⟩
                    · go_wp2_with fail
                      go_meet
                      exact ⟨by rw [HSK.out]; rfl, HF9.out⟩
                  case rest =>
                  obtain ⟨rfl, hfs⟩ := hcut
                  have HFS := Lib.hid (Fr.trans (T := []) HFKQ.out hfs (by simp))
                  clear hfs z0 z1 z2 z3 z4
                  obtain ⟨wx, hwx⟩ : ∃ x, x = wc := ⟨_, rfl⟩
                  subst hwx
                  cases SK
                  · have HXX := Lib.hid (HFS.out.keep HXA.out (by simp))
                    have HPX := Lib.hid (HPA.out.keep HFS.out.drew (by simp))
                    have HEX := Lib.hid (HEA.out.keep (HFS.out.drew.mono (by simp)) HPX.out.isMap)
                    obtain ⟨D2, hD2⟩ : ∃ x, x = putN d j true := ⟨_, rfl⟩
                    obtain ⟨T3, hT3⟩ : ∃ x, x = putN t PL IS := ⟨_, rfl⟩
                    have HPUT1 : Hid (Calls Try.prog 38 #[.int .u64 d, .int .i64 j, .bool true] wx.drew fun e w' => e = .returned (.int .u64 (D2 : Nat)) ∧ w' = wx.drew) := Lib.hid (by rw [hD2]; exact or_put d j true HD.out (by omega) _)
                    have HPUT2 : Hid (Calls Try.prog 38 #[.int .u64 t, .int .i64 PL, .bool IS] wx.drew fun e w' => e = .returned (.int .u64 (T3 : Nat)) ∧ w' = wx.drew) := Lib.hid (by rw [hT3]; exact or_put t PL IS HT.out (by have := HPLT.out; omega) _)
                    have HLE : Hid (left l (tb D2) + 1 = left l (tb d)) := Lib.hid (by rw [hD2]; exact left_put h12 HD.out HC.out HT1.out.symm)
                    have HD2L : Hid (D2 < 4096) := Lib.hid (by rw [hD2]; exact putN_lt _ HD.out (by omega))
                    have HT3L : Hid (T3 < 4096) := Lib.hid (by rw [hT3]; exact putN_lt _ HT.out (by have := HPLT.out; omega))
                    have HLD : Hid (Leads l (tb d) (sb l t) j ↔ FitP l D2 T3) := Lib.hid (by
                      rw [leads_iff (f := tb d) HC.out HT1.out.symm, hD2, hT3, HPLC.out, HIS.out, HWAS.out, fitP_put h12 HD.out HT.out HC.out]
                      refine ⟨fun h => h.2.2, fun h => ⟨HFL.out, fun hr => ?_, h⟩⟩
                      have h5 := HSK.out.symm
                      rw [← HWAS.out, ← HOK.out, ← HCO.out]
                      rw [HB.out, decide_eq_true hr, Bool.true_and, bne_eq_false_iff_eq] at h5
                      exact h5)
                    clear hD2 hT3
                    have hjl : j * cost u + cost u ≤ 12 * cost u := by
                      have : (j + 1) * cost u ≤ 12 * cost u := Nat.mul_le_mul_right _ (by omega)
                      rw [Nat.succ_mul] at this; exact this
                    have HJL := Lib.hid hjl
                    have HNB2 : Hid (nj + cost u ≤ 2 ^ 62) := Lib.hid (by
                      have h1 := HNJ.out
                      have h3 := hn
                      unfold cost at h3
                      omega)
                    have HREC := Lib.hid (IH.out D2 T3 nj Mj wx.drew (by have := HLE.out; have := HU.out; omega) HD2L.out HT3L.out HEX.out HPX.out HNB2.out (HMID.out.good (by have := HLE.out; omega)))
                    obtain ⟨R2, hR2⟩ : ∃ b, b = fitB l (tb D2) (sb l T3) := ⟨_, rfl⟩
                    rw [← hR2] at HREC
                    have HR2 := Lib.hid hR2
                    clear hR2 hjl
                    unfold ptV at HREC
                    obtain ⟨q0, q1, _⟩ := cells2 HXX.out
                    obtain ⟨r0, _⟩ := cells1 HEX.out.vk
                    obtain ⟨g0, _⟩ := cells1 HEX.out.vf
                    unfold orLookV at g0
                    have p0 := (InIn.here HEX.out.ck (by rw [HPL.out]; omega))
                    obtain ⟨gk2, okk2, d5, e5, _, _, k5⟩ := p0
                    rw [HPL.out] at e5
                    simp only [Value.slice.injEq, Option.some.injEq, Addr.mk.injEq, and_true, true_and] at e5
                    obtain ⟨⟨rfl, rfl⟩, rfl⟩ := e5
                    have p1 := k5 j _ (pls_at HC.out)
                    rw [← HPLC.out] at p1
                    have q0' : wx.drew.cell? ⟨w.heap.size, 0, none⟩ = some (.int .u64 d) := q0
                    have q1' : wx.drew.cell? ⟨w.heap.size, 1, none⟩ = some (.int .u64 t) := q1
                    have HFD := Lib.hid HFS.out.drew
                    clear k5 q0 q1
                    go_upto_region 18 with fail
                    refine wp_region_still_tail 14 (by kernel_rfl) (by kernel_rfl) ?_
                    simp only [List.take_succ_cons, List.take_zero, List.drop_succ_cons, List.drop_zero]
                    change wpStill _ _ wx.drew (fun a' => wpList _ _ _ _ a' wx.drew) _ _
                    generalize wx.drew = wd at *
                    repeat still_step
                    still_call HPUT1.out
                    repeat still_step
                    still_call HPUT2.out
                    repeat still_step
                    refine wpStill_nil ?_
                    clear p1 q0' q1' r0 g0
                    go_wp2_with (go_at_call 32; refine HREC.out.mono ?_; rintro e w4 ⟨rfl, hf4, M4, n4, hp4, hn4, hg4⟩; refine go_stop ?_)
                    unfold Stop
                    have HF4 := Lib.hid (Fr.trans (T := [mb]) (HFD.out.mono (by simp) : Fr [mb] wA wd) hf4 (fun x hx => Or.inl hx))
                    have HP4 := Lib.hid hp4
                    have HN4 := Lib.hid hn4
                    have HG4 := Lib.hid hg4
                    clear hf4 hp4 hn4 hg4
                    cases R2
                    · have HNL : Hid (¬ Leads l (tb d) (sb l t) j) := Lib.hid (by rw [HLD.out]; exact fitB_false.1 HR2.out.symm)
                      have HMS := Lib.hid (HMID.out.step HLE.out (HG4.out rfl).1 (HG4.out rfl).2)
                      go_wp2_with fail
                      go_roundw
                      case rel => exact ⟨j + 1, by go_num, by omega, not_leads HNO.out HNL.out, Fr.trans (T := [mb]) HFRC.out HF4.out (fun x hx => Or.inl hx), M4, n4, HP4.out, by have := HNJ.out; have := HN4.out; rw [Nat.succ_mul]; omega, HMS.out⟩
                      case measure => simp [intOf]; omega
                    · have HYES : Hid (R = true) := Lib.hid (by rw [HR.out]; exact fitB_true.2 (fitI_cases.2 (Or.inr ⟨j, HLD.out.2 (fitB_true.1 HR2.out.symm)⟩)))
                      go_wp2_with fail
                      try rw [Exit.noGoto_ret]
                      go_ret
                      rw [HYES.out]
                      refine ⟨rfl, Fr.trans (T := [mb]) HFC.out HF4.out (fun x hx => Or.inl hx), M4, n4, HP4.out, ?_, fun h => by cases h⟩
                      have h1 := HNJ.out
                      have h2 := HN4.out
                      have h3 := HJL.out
                      show n4 ≤ n + (1 + 12 * cost u)
                      omega
                  · have HNL : Hid (¬ Leads l (tb d) (sb l t) j) := Lib.hid (by
                      rw [leads_iff (f := tb d) HC.out HT1.out.symm]
                      rintro ⟨_, q, _⟩
                      have h5 := HSK.out.symm
                      rw [Bool.and_eq_true, bne_iff_ne] at h5
                      have h6 : 0 ≤ c.ret := of_decide_eq_true (HB.out.symm.trans h5.1)
                      apply h5.2
                      rw [HOK.out, HWAS.out, HCO.out]
                      exact q h6)
                    go_wp2_with fail
                    go_roundw
                    case rel => exact ⟨j + 1, by go_num, by omega, not_leads HNO.out HNL.out, Fr.trans (T := []) HFRC.out HFS.out (by simp), Mj, nj, HPA.out.keep HFS.out (by simp), by have := HNJ.out; rw [Nat.succ_mul]; omega, HMID.out⟩
                    case measure => simp [intOf]; omega
            · go_wp2_with (go_at_call 34; refine (HHAS.out _).mono ?_; rintro e w9 ⟨rfl, rfl⟩)
              go_roundw
              case rel => exact ⟨j + 1, by go_num, by omega, not_leads HNO.out (leads_done HT1.out.symm), (Fr.trans (T := []) HFR.out HFA1.out (by simp)), Mj, nj, HPA.out, by have := HNJ.out; rw [Nat.succ_mul]; omega, HMID.out⟩
              case measure => simp [intOf]; omega
          · have t1 : decide (j < l.length) = false := by simpa using h
            have HE : Hid (R = false) := Lib.hid (by
              rw [HR.out, fit_end (fun i hi => HNO.out i (by omega))]
              exact HA.out.symm)
            have HFIN := Lib.hid (HMID.out.fin HG.out (fitB_false.1 (HR.out.symm.trans HE.out)))
            have hcost : cost (u + 1) = 1 + 12 * cost u := rfl
            have hjl : j * cost u ≤ 12 * cost u := Nat.mul_le_mul_right _ (by omega)
            go_wp2_with fail
            try rw [Exit.noGoto_ret]
            go_ret
            rw [HE.out]
            exact ⟨rfl, HFJ.out, Mj, nj, HPJ.out, by have := HNJ.out; omega, fun _ => HFIN.out⟩
      · have HNO : Hid (R = false) := Lib.hid (by rw [HR.out]; exact fitB_false.2 (HG.out d t HD.out HT.out HS.out.symm (Nat.le_refl _)))
        go_wp2_with fail
        try rw [Exit.noGoto_ret]
        go_ret
        rw [HNO.out]
        exact ⟨rfl, (Fr.trans (T := []) HFB.out HF2.out (by simp)).mono (by simp), M, n, HPS2.out, Nat.le_add_right _ _, fun _ => ⟨HG.out, fun d' t' _ _ h _ => h⟩⟩
    · have HYES : Hid (R = true) := Lib.hid (by rw [HR.out]; exact fitB_true.2 (FitI.all (allTo_len.1 HA.out.symm)))
      go_wp2_with fail
      try rw [Exit.noGoto_ret]
      go_ret
      rw [HYES.out]
      exact ⟨rfl, (Fr.trans (T := []) HFB.out HF1.out (by simp)).mono (by simp), M, n, HPS1.out, Nat.le_add_right _ _, fun h => by cases h⟩
end Go.Proofs.Ytmhiolhgofackaa
namespace Go.Proofs.Ytmhiolhgofackaa
open Go.RowKit
set_option linter.unusedVariables false
set_option linter.unusedSimpArgs false

theorem badTo_iff {l : List Ca} : badTo l = false ↔ ∀ c ∈ l, ahead c c = false := by
  unfold badTo
  rw [List.any_eq_false]
  exact ⟨fun h c hc => by simpa using h c hc, fun h c hc => by simpa using h c hc⟩
theorem cost_13 : 0 + cost 13 ≤ 2 ^ 62 := of_decide_eq_true (by kernel_rfl)
theorem begin_eq {first : List ByteArray} {l : List Ca} {t : Nat} (h12 : l.length ≤ 12) (hb : badTo l = false) (h : ThereTo first l l.length t) : fitB l (tb 0) (sb l t) = fitsB first l := by
  have e : FitI l (tb 0) (sb l t) ↔ fits first l := by
    have h1 : FitI l (tb 0) (sb l t) ↔ FitI l (fun _ => false) (inS first) :=
      ⟨fun k => k.congr (fun i _ => by simp [tb]) (fun i c hc => h.2 i c (List.getElem?_eq_some_iff.1 hc).1 hc), fun k => k.congr (fun i _ => by simp [tb]) (fun i c hc => (h.2 i c (List.getElem?_eq_some_iff.1 hc).1 hc).symm)⟩
    rw [h1, fit_all]
    exact ⟨fun k => ⟨h12, badTo_iff.1 hb, k⟩, fun k => k.2.2⟩
  by_cases k : fits first l
  · rw [fitsB_true.2 k, fitB_true.2 (e.2 k)]
  · rw [fitsB_false.2 k, fitB_false.2 (fun h => k (e.1 h))]
theorem look_whole {first : List ByteArray} {l : List Ca} (h12 : l.length ≤ 12) (hb : badTo l = false) {lv kv : Value} {bl bm bk bf mb t : Nat} {w : World} (he : Env l lv kv bl bm bk bf mb w) (hp : PtSet w mb 0 (fun _ _ => false)) (ht : ThereTo first l l.length t) :
    Calls Try.prog 32 #[.agg #[.int .u64 0, .int .u64 (t : Nat)], .pointer (some ⟨bl, 0, none⟩), .pointer (some ⟨bm, 0, none⟩), .pointer (some ⟨bk, 0, none⟩), .pointer (some ⟨bf, 0, none⟩)] w fun e w' => e = .returned (.bool (fitsB first l)) ∧ Fr [mb] w w' := by
  have h := or_look l h12 lv kv bl bm bk bf mb 13 0 t 0 (fun _ _ => false) w (by have := left_le (l := l) (tb 0); omega) (by decide) ht.1 he hp cost_13 (fun _ _ _ _ h => by cases h)
  rw [begin_eq h12 hb ht] at h
  exact h.mono fun e w' h => ⟨h.1, h.2.1⟩

set_option maxRecDepth 100000 in
set_option maxHeartbeats 4000000 in
theorem or_fits (fv lv : Value) (first : List ByteArray) (l : List Ca) (w : World) (hf : SsIn w fv first) (hl : CaIn w lv l) : Calls Try.prog 15 #[fv, lv] w fun e w' => e = .returned (.bool (fitsB first l)) ∧ Fr [] w w' := by
  obtain ⟨fs, fc, rfl, fa, fb⟩ := LIn.form hf
  obtain ⟨ls, lc, rfl, la, lb⟩ := LIn.form hl
  unfold maxLen at fb lb
  have hmm := @run_makeMap Try.prog
  have hmf : ∀ (fn : Fn) (first cap : Array Value) (w : World), (Instr.makeFunc fn first cap).run Try.prog w = .ok (.func fn first cap) w := fun fn first cap w => rfl
  obtain ⟨wb, hwb⟩ : ∃ wb, wb = w.alloc (Obj.cells #[.slice ls l.length lc] 33) := ⟨_, rfl⟩
  have HWB := Lib.hid hwb
  have HBL : Hid (wb.heap[w.heap.size]? = some (.cells #[.slice ls l.length lc] 33 (0, 0))) := Lib.hid (by rw [hwb]; exact new_block w _)
  have HFB : Hid (Fr [] w wb) := Lib.hid (by rw [hwb]; exact (Fr.refl [] w).alloc _)
  have HF := Lib.hid (LIn.keep0 hf HFB.out)
  have HL := Lib.hid (LIn.keep0 hl HFB.out)
  clear hf hl hwb
  obtain ⟨R, hR⟩ : ∃ b, b = fitsB first l := ⟨_, rfl⟩
  rw [← hR]
  have HRR := Lib.hid hR
  clear hR
  by_cases h12 : l.length ≤ 12
  · have t0 : decide ((12 : Int) < (l.length : Int)) = false := by simp; omega
    obtain ⟨B, hB⟩ : ∃ b, b = badTo l := ⟨_, rfl⟩
    have HMAY : Hid (∀ W, Fr [] wb W → Calls Try.prog 29 #[.slice ls l.length lc, .func (.func 30) #[] #[]] W fun e w' => e = .returned (.bool B) ∧ Fr [] W w') := Lib.hid fun W hW => by rw [hB]; exact sl_containsMay _ l W (LIn.keep0 HL.out hW)
    have HB := Lib.hid hB
    clear hB
    go_enter Try.func15, Try.ntmps15
    go_upto_region 1 with fail
    rw [← HWB.out]
    obtain ⟨e0, _⟩ := cells1 HBL.out
    go_wp2_with (go_at_call 29; refine (HMAY.out _ (Fr.refl [] wb)).mono ?_; rintro e w1 ⟨rfl, hf⟩; refine go_stop ?_)
    unfold Stop
    have HF1 := Lib.hid hf
    have HBL1 := Lib.hid (hf.keep HBL.out (by simp))
    clear hf e0
    cases B
    · obtain ⟨e0, _⟩ := cells1 HBL1.out
      have HPL := Lib.hid (or_places _ l w1 (LIn.keep0 HL.out HF1.out) h12)
      go_wp2_with (go_at_call 31; refine HPL.out.mono ?_; rintro e w2 ⟨kv, rfl, hk, hf⟩; refine go_stop ?_)
      unfold Stop
      obtain ⟨ks, kc, rfl, ka, kb⟩ := LIn.form hk
      obtain ⟨KO, hKO⟩ : ∃ o, o = Obj.cells #[.slice ks (pls l).length kc] 80 := ⟨_, rfl⟩
      obtain ⟨SO, hSO⟩ : ∃ o, o = Obj.cells #[.map (some (w2.heap.size + 1))] 82 := ⟨_, rfl⟩
      obtain ⟨FO, hFO⟩ : ∃ o, o = Obj.cells #[orLookV w.heap.size (w2.heap.size + 1 + 1) w2.heap.size (w2.heap.size + 1 + 1 + 1)] 83 := ⟨_, rfl⟩
      obtain ⟨wx, hwx⟩ : ∃ wx, wx = (((w2.alloc KO).alloc (.map #[] 0)).alloc SO).alloc FO := ⟨_, rfl⟩
      have hfx : Fr [] w2 wx := by rw [hwx]; exact ((((Fr.refl [] w2).alloc _).alloc _).alloc _).alloc _
      have s1 : (w2.alloc KO).heap.size = w2.heap.size + 1 := by simp
      have s2 : ((w2.alloc KO).alloc (.map #[] 0)).heap.size = w2.heap.size + 1 + 1 := by simp
      have s3 : (((w2.alloc KO).alloc (.map #[] 0)).alloc SO).heap.size = w2.heap.size + 1 + 1 + 1 := by simp
      have hK : wx.heap[w2.heap.size]? = some KO := by rw [hwx]; exact blk_alloc (blk_alloc (blk_alloc (new_block w2 KO) _) _) _
      have hM : PtSet wx (w2.heap.size + 1) 0 (fun _ _ => false) := by
        have h1 := PtSet.made (w2.alloc KO)
        rw [s1] at h1
        rw [hwx]
        exact (h1.keep ((Fr.refl [] _).alloc SO) (by simp)).keep ((Fr.refl [] _).alloc FO) (by simp)
      have hS : wx.heap[w2.heap.size + 1 + 1]? = some SO := by
        have h1 := new_block ((w2.alloc KO).alloc (.map #[] 0)) SO
        rw [s2] at h1
        rw [hwx]; exact blk_alloc h1 _
      have hFN : wx.heap[w2.heap.size + 1 + 1 + 1]? = some FO := by
        have h1 := new_block (((w2.alloc KO).alloc (.map #[] 0)).alloc SO) FO
        rw [s3] at h1
        rw [hwx]; exact h1
      have HW12 : Hid (Fr [] wb wx) := Lib.hid (Fr.trans (T := []) (Fr.trans (T := []) HF1.out hf (by simp)) hfx (by simp))
      have hE : Env l (.slice ls l.length lc) (.slice ks (pls l).length kc) w.heap.size (w2.heap.size + 1 + 1) w2.heap.size (w2.heap.size + 1 + 1 + 1) (w2.heap.size + 1) wx :=
        ⟨HW12.out.keep HBL.out (by simp), by rw [hS, hSO], by rw [hK, hKO], by rw [hFN, hFO], LIn.keep0 HL.out HW12.out, LIn.keep0 hk hfx, hM.isMap⟩
      have hsz : w.heap.size ≤ w2.heap.size + 1 := by have := HFB.out.size; have := HF1.out.size; have := hf.size; omega
      have HSZ := Lib.hid hsz
      have HWX : Hid (wx = (((w2.alloc (Obj.cells #[.slice ks (pls l).length kc] 80)).alloc (.map #[] 0)).alloc (Obj.cells #[.map (some (w2.heap.size + 1))] 82)).alloc (Obj.cells #[.func (.func 32) #[] #[.pointer (some ⟨w.heap.size, 0, none⟩), .pointer (some ⟨w2.heap.size + 1 + 1, 0, none⟩), .pointer (some ⟨w2.heap.size, 0, none⟩), .pointer (some ⟨w2.heap.size + 1 + 1 + 1, 0, none⟩)]] 83)) := Lib.hid (by rw [hwx, hKO, hSO, hFO]; rfl)
      have HE := Lib.hid hE
      have HM := Lib.hid hM
      have HFW : Hid (Fr [] w wx) := Lib.hid (Fr.trans (T := []) HFB.out HW12.out (by simp))
      clear hf hk hfx s1 s2 s3 hK hM hS hFN hE hsz hKO hSO hFO hwx
      go_upto_region 7 with fail
      rw [← HWX.out]
      obtain ⟨r0, _⟩ := cells1 HE.out.vk
      obtain ⟨g0, _⟩ := cells1 HE.out.vf
      obtain ⟨e0', _⟩ := cells1 HE.out.vl
      unfold orLookV at g0
      have HBEG : Hid (∀ W, Fr [] wx W → Calls Try.prog 39 #[.slice fs first.length fc, .slice ls l.length lc, .slice ks (pls l).length kc] W fun e w' => ∃ t, e = .returned (.agg #[.int .u64 0, .int .u64 (t : Nat)]) ∧ ThereTo first l l.length t ∧ Fr [] W w') := Lib.hid fun W hW => or_begin _ _ _ first l W (LIn.keep0 HF.out (Fr.trans (T := []) HW12.out hW (by simp))) (LIn.keep0 HL.out (Fr.trans (T := []) HW12.out hW (by simp))) (LIn.keep0 HE.out.ck hW) h12
      have HLOOK : Hid (∀ (W : World) (t : Nat), Fr [] wx W → ThereTo first l l.length t → Calls Try.prog 32 #[.agg #[.int .u64 0, .int .u64 (t : Nat)], .pointer (some ⟨w.heap.size, 0, none⟩), .pointer (some ⟨w2.heap.size + 1 + 1, 0, none⟩), .pointer (some ⟨w2.heap.size, 0, none⟩), .pointer (some ⟨w2.heap.size + 1 + 1 + 1, 0, none⟩)] W fun e w' => e = .returned (.bool R) ∧ Fr [w2.heap.size + 1] W w') := Lib.hid fun W t hW ht => by
        rw [HRR.out]
        exact look_whole (w := W) h12 HB.out.symm (HE.out.keep (hW.mono (by simp)) (HM.out.keep hW (by simp)).isMap) (HM.out.keep hW (by simp)) ht
      clear e0
      go_region_with (first | (go_at_call 39; refine (HBEG.out _ (Fr.refl [] wx).drew).mono ?_; rintro e w3 ⟨t, rfl, ht, hf⟩; have HF3 := Lib.hid (Fr.trans (T := []) (Fr.refl [] wx).drew hf (by simp)); have HT := Lib.hid ht; have g1 := HF3.out.cell g0 (by simp); clear ht hf) | (go_at_call 32; refine (HLOOK.out _ _ HF3.out HT.out).mono ?_; rintro e w4 ⟨rfl, hf⟩; have HF4 := Lib.hid hf; clear hf))
      all_goals
        have HEND : Hid (Fr [] w w4) := Lib.hid (Fr.trans (T := [w2.heap.size + 1]) (Fr.trans (T := []) HFW.out HF3.out (by simp)) HF4.out (by have := HSZ.out; simp; omega))
        go_wp2_with fail
        go_ret
        exact ⟨rfl, HEND.out⟩
    · go_wp2_with fail
      go_ret
      refine ⟨?_, Fr.trans (T := []) HFB.out HF1.out (by simp)⟩
      rw [HRR.out, fitsB_false.2 (fun h => by have := badTo_iff.2 h.2.1; rw [← HB.out] at this; cases this)]; rfl
  · have t0 : decide ((12 : Int) < (l.length : Int)) = true := by simp; omega
    go_enter Try.func15, Try.ntmps15
    go_upto_region 1 with fail
    rw [← HWB.out]
    obtain ⟨e0, _⟩ := cells1 HBL.out
    go_wp2_with fail
    go_ret
    exact ⟨by rw [HRR.out, fitsB_false.2 (fun h => h12 h.1)]; rfl, HFB.out⟩
end Go.Proofs.Ytmhiolhgofackaa
