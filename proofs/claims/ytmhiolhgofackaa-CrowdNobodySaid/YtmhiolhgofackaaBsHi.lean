/- PACKAGE bst, PLAINLY: many calls at once: what each one saw, and when each work was turned
PACKAGE bst, PLAINLY: many calls at once: each step keeps what each one saw, and when each work was turned
PACKAGE bst, PLAINLY: many calls at once: one begins; those of each key fit -/
import Derived.Test.YtmhiolhgofackaaBsLp
import Derived.Test.YtmhiolhgofackaaOrTm
namespace Go.Proofs.Ytmhiolhgofackaa
open Go.RowKit
set_option linter.unusedVariables false
set_option linter.unusedSimpArgs false

/-- a call, when it began, when it was answered, and the works that it began -/
structure Cx where
  c : Cl
  o : Option Stp
  inv : Nat
  ret : Option Nat
  own : Nat → Prop
def Cx.upto (x : Cx) (now : Nat) : Nat := match x.ret with
  | some r => r + 1
  | none => now
def SeenI (st : Nat → ByteArray → Bool) (now : Nat) (x : Cx) : Bool → Prop := fun v => ∃ m, x.inv ≤ m ∧ m < x.upto now ∧ st m x.c.key = v
def CurW : Stp → Nat → Prop
  | .mark o (.told _) _, w => o = w
  | .drop o (.told _), w => o = w
  | .take o _ (.told _), w => o = w
  | .fin o (.told _), w => o = w
  | _, _ => False
def Dm (t : Tr) (w : Nat) : Prop := (t.wk w).state = 2 ∧ Doom t w
structure CxC (t : Tr) (x : Cx) : Prop where
  ns : x.c.kd ≠ .sek
  cc : CC t x.c
  owns : ∀ w, x.own w → OI t w ∧ (t.wk w).key = x.c.key ∧ ((x.c.kd = .ins ∧ (t.wk w).state = 1) ∨ (x.c.kd = .rem ∧ (t.wk w).state = 2))
/-- what a call is told that turned nothing -/
def ReadS (c : Cl) (seen : Bool → Prop) : Prop := (c.kd = .ins ∧ c.ans.ok = false ∧ seen true) ∨ (c.kd = .rem ∧ c.ans.ok = false ∧ seen false) ∨ (c.kd = .fnd ∧ seen c.ans.ok)
def CxO (t : Tr) (L : PT) (st : Nat → ByteArray → Bool) (now : Nat) (x : Cx) : Prop := match x.o with
  | some s => x.ret = none ∧ x.inv < now ∧ SI t x.c s ∧ LC t L x.c (SeenI st now x) x.own s ∧ ∀ w, x.own w → CurW s w ∨ Dm t w
  | none => (∃ r, x.ret = some r ∧ x.inv ≤ r ∧ r < now) ∧ x.c.ans.err = 0 ∧ ((x.c.ans.ok = true ∧ ∃ w, x.own w ∧ Done t (whole L) w ∧ ∀ w', x.own w' → w' = w ∨ Dm t w') ∨ (ReadS x.c (SeenI st now x) ∧ ∀ w, x.own w → Dm t w))
structure HI (t : Tr) (L : PT) (now : Nat) (st : Nat → ByteArray → Bool) (cs : List Cx) (lin : Nat → Option Nat) : Prop where
  li : LI t L
  ti : TI t
  cur : ∀ m k, now ≤ m + 1 → st m k = present t L k
  okc : ∀ x ∈ cs, CxC t x
  oko : ∀ x ∈ cs, CxO t L st now x
  sep : ∀ (i j : Nat) (x y : Cx) (w : Nat), i ≠ j → cs[i]? = some x → cs[j]? = some y → x.own w → ¬ y.own w
  owned : ∀ w, OI t w → WkAct t w → ∃ x ∈ cs, x.own w
  lin1 : ∀ w m, lin w = some m → OI t w ∧ Done t (whole L) w ∧ m < now ∧ 1 ≤ m ∧ (((t.wk w).state = 1 ∧ st (m - 1) (t.wk w).key = false ∧ st m (t.wk w).key = true) ∨ ((t.wk w).state = 2 ∧ st (m - 1) (t.wk w).key = true ∧ st m (t.wk w).key = false))
  lin2 : ∀ x ∈ cs, ∀ w, x.own w → Done t (whole L) w → ∃ m, lin w = some m
  lin3 : ∀ x ∈ cs, ∀ w m, x.own w → lin w = some m → x.inv < m ∧ ∀ r, x.ret = some r → m ≤ r
  flip : ∀ m k, 1 ≤ m → m < now → st m k ≠ st (m - 1) k → ∃ x ∈ cs, ∃ w, x.own w ∧ lin w = some m ∧ (t.wk w).key = k
  one : ∀ w w' m, lin w = some m → lin w' = some m → w = w'
section
variable {t t' : Tr} {L L' : PT} {c : Cl} {seen seen' : Bool → Prop} {own : Nat → Prop}
theorem Done.mono (hti : TI t) (hW : t.ws.length ≤ 900000000) (g : Kp t t' L L') {o : Nat} (ho : OI t o) (h : Done t (whole L) o) : Done t' (whole L') o := ⟨g.trn o ho h.1, fun hs => by
  rw [g.gr.wk o ho.1 ho.2] at hs ⊢
  have hold := ((hti.wks o ho.1 ho.2).rem hs).1
  have h3 := h.2 hs
  rw [g.mark _ hold (by rw [h3]; exact (packW_div (by omega) (by have := ho.2; omega)).2)]; exact h3⟩
theorem Dm.mono (g : Kp t t' L L') {w : Nat} (hw : OI t w) (h : Dm t w) : Dm t' w := ⟨by rw [g.gr.wk w hw.1 hw.2]; exact h.1, g.doom w hw h.1 h.2⟩
theorem Dm.done {w : Nat} {T : PT} (h : Dm t w) : ¬ Done t T w := fun hd => h.2.1 (hd.2 h.1)
theorem OI.mono (g : Gr t t') {w : Nat} (hw : OI t w) : OI t' w := ⟨hw.1, Nat.le_trans hw.2 g.wl⟩
theorem Told.seen_mono (hs : ∀ b, seen b → seen' b) (h : Told t L c seen own) : Told t L c seen' own := by
  intro hns
  obtain ⟨h1, h2⟩ := h hns
  exact ⟨h1, h2.imp id (fun h => h.imp id (fun h => h.imp (fun ⟨a, b, d⟩ => ⟨a, b, hs _ d⟩) (fun h => h.imp (fun ⟨a, b, d⟩ => ⟨a, b, hs _ d⟩) (fun ⟨a, b⟩ => ⟨a, hs _ b⟩))))⟩
theorem ReadS.mono (hs : ∀ b, seen b → seen' b) (h : ReadS c seen) : ReadS c seen' := h.imp (fun ⟨a, b, d⟩ => ⟨a, b, hs _ d⟩) (fun h => h.imp (fun ⟨a, b, d⟩ => ⟨a, b, hs _ d⟩) (fun ⟨a, b⟩ => ⟨a, hs _ b⟩))
theorem cur_one {s : Stp} {w w' : Nat} (h : CurW s w) (h' : CurW s w') : w = w' := by
  cases s with
  | mark o th fl => cases th <;> first | exact h.elim | exact (show o = w from h).symm.trans h'
  | drop o th => cases th <;> first | exact h.elim | exact (show o = w from h).symm.trans h'
  | take o nx th => cases th <;> first | exact h.elim | exact (show o = w from h).symm.trans h'
  | fin o th => cases th <;> first | exact h.elim | exact (show o = w from h).symm.trans h'
  | _ => exact h.elim
/-- what a step turned -/
structure Flat (t t' : Tr) (L L' : PT) (e : Option Nat) : Prop where
  pres : ∀ k, present t' L' k = present t L k ∨ ∃ i, e = some i ∧ k = (t.wk i).key
  turn : ∀ i, e = some i → OI t i ∧ WkAct t i ∧ ¬ Done t (whole L) i ∧ Done t' (whole L') i ∧ (((t.wk i).state = 1 ∧ present t L (t.wk i).key = false ∧ present t' L' (t.wk i).key = true) ∨ ((t.wk i).state = 2 ∧ present t L (t.wk i).key = true ∧ present t' L' (t.wk i).key = false))
  back : ∀ w, OI t' w → Done t' (whole L') w → e ≠ some w → OI t w ∧ Done t (whole L) w
theorem Eff.flat (h : Eff t t' L L') : ∃ e, Flat t t' L L' e := by
  cases h with
  | same h1 h2 => exact ⟨none, ⟨fun k => Or.inl (by unfold present; rw [h1]), (fun i e => by cases e), fun w hw hd _ => h2 w hw hd⟩⟩
  | ins i v oi st act was now h0 h1 h2 =>
    refine ⟨some i, ⟨fun k => ?_, fun j e => ?_, fun w hw hd hne => h2 w hw hd (fun e => hne (by rw [e]))⟩⟩
    · by_cases e : k = (t.wk i).key
      · exact Or.inr ⟨i, rfl, e⟩
      · left; unfold present; rw [h1, if_neg e]
    · simp only [Option.some.injEq] at e
      subst e
      exact ⟨oi, act, was, now, Or.inl ⟨st, by unfold present; rw [h0]; rfl, by unfold present; rw [h1, if_pos rfl]; rfl⟩⟩
  | del i oi st act was now h0 h1 h2 =>
    refine ⟨some i, ⟨fun k => ?_, fun j e => ?_, fun w hw hd hne => h2 w hw hd (fun e => hne (by rw [e]))⟩⟩
    · by_cases e : k = (t.wk i).key
      · exact Or.inr ⟨i, rfl, e⟩
      · left; unfold present; rw [h1, if_neg e]
    · simp only [Option.some.injEq] at e
      subst e
      refine ⟨oi, act, was, now, Or.inr ⟨st, ?_, by unfold present; rw [h1, if_pos rfl]; rfl⟩⟩
      unfold present
      cases hc : cont t L (t.wk i).key with
      | none => exact absurd hc h0
      | some v => rfl
/-- an active work was active, or is new -/
theorem act_back (h : LI t L) (hti : TI t) (hW : t.ws.length ≤ 900000000) (g : Kp t t' L L') {w : Nat} (hw : OI t w) (ha : WkAct t' w) : WkAct t w := by
  unfold WkAct at ha ⊢
  have hwk := hti.wks w hw.1 hw.2
  rw [g.gr.wk w hw.1 hw.2] at ha
  have hst : (t.wk w).state = 1 ∨ (t.wk w).state = 2 := by rcases hwk.kind with ⟨e, _⟩ | ⟨e, _⟩ <;> simp [e]
  have hr : 2 * (w : Int) ≤ rk (t.wd (t.wk w).at_) := by
    rcases hst with e | e
    · exact (h.wk1 w hw e).1.rk
    · exact (h.wk2 w hw e).1.rk
  have hf := (rk_flag (s := (t.wk w).state) (i := w) hst (by have := hw.2; omega)).1
  rcases g.rank _ hwk.at_ with e | e
  · rw [← e]; exact ha
  · rw [ha, hf] at e; omega
theorem cur_new (t : Tr) (c : Cl) (s : Stp) (w : Nat) (h1 : t.ws.length < w) (h2 : w ≤ (stepP t c s).1.ws.length) : ∃ s', (stepP t c s).2.2 = some s' ∧ CurW s' w := by
  cases s with
  | grow l =>
    revert h2
    simp only [stepP]
    split
    · split
      · intro h2
        refine ⟨_, rfl, ?_⟩
        have := (Gr.split (t.begin ⟨1, c.key, (c.up 0).node, l, some (t.ns.length + 2), 0⟩ (c.up 0).seen) l c.key c.val).2.2.1
        rw [this] at h2
        have := (Gr.begin t ⟨1, c.key, (c.up 0).node, l, some (t.ns.length + 2), 0⟩ (c.up 0).seen).2
        show t.ws.length + 1 = w
        omega
      · rename_i hc
        intro h2
        rw [begin_no (by simpa using hc)] at h2
        have h2' : w ≤ t.ws.length := h2
        omega
    · intro h2
      have h2' : w ≤ t.ws.length := h2
      omega
  | lose l =>
    revert h2
    simp only [stepP]
    intro h2
    cases hc : t.ms.casB (t.word (c.up 1).node) (c.up 1).seen with
    | false =>
      rw [begin_no hc] at h2
      have h2' : w ≤ t.ws.length := h2
      omega
    | true =>
      rw [if_pos rfl]
      refine ⟨_, rfl, ?_⟩
      have := (Gr.begin t ⟨2, c.key, (c.up 1).node, (c.up 0).node, none, (c.up 0).seen⟩ (c.up 1).seen).2
      show t.ws.length + 1 = w
      omega
  | desc b m => have h2' : w ≤ t.ws.length := h2; omega
  | beg => have h2' : w ≤ t.ws.length := h2; omega
  | look => have h2' : w ≤ t.ws.length := h2; omega
  | down => have h2' : w ≤ t.ws.length := h2; omega
  | mark o th fl => have h2' : w ≤ t.ws.length := h2; omega
  | drop o th => have h2' : w ≤ t.ws.length := h2; omega
  | take o nx th => have h2' : w ≤ t.ws.length := h2; omega
  | fin o th => have h2' : w ≤ t.ws.length := h2; omega
theorem cur_old (t : Tr) (c : Cl) {s : Stp} {w : Nat} (h : CurW s w) : (∃ s', (stepP t c s).2.2 = some s' ∧ CurW s' w) ∨ (∃ th fl, s = .mark w th fl ∧ (stepP t c s).2.2 = some (.fin w fl)) ∨ (∃ l, s = .fin w (.told l) ∧ (stepP t c s).2.2 = none) := by
  cases s with
  | mark o th fl =>
    cases th with
    | told l =>
      have e : o = w := h
      subst e
      simp only [stepP]
      split
      · exact Or.inl ⟨_, rfl, rfl⟩
      · exact Or.inr (Or.inl ⟨_, _, rfl, rfl⟩)
    | look => exact h.elim
    | fail => exact h.elim
  | drop o th =>
    cases th with
    | told l => have e : o = w := h; subst e; exact Or.inl ⟨_, rfl, rfl⟩
    | look => exact h.elim
    | fail => exact h.elim
  | take o nx th =>
    cases th with
    | told l => have e : o = w := h; subst e; exact Or.inl ⟨_, rfl, rfl⟩
    | look => exact h.elim
    | fail => exact h.elim
  | fin o th =>
    cases th with
    | told l => have e : o = w := h; subst e; exact Or.inr (Or.inr ⟨l, rfl, rfl⟩)
    | look => exact h.elim
    | fail => exact h.elim
  | desc b m => exact h.elim
  | beg => exact h.elim
  | look => exact h.elim
  | down => exact h.elim
  | grow l => exact h.elim
  | lose l => exact h.elim
theorem cur_th {s : Stp} {w : Nat} (h : CurW s w) (hl : LC t L c seen own s) : own w ∧ (t.wk w).key = c.key ∧ ((c.kd = .ins ∧ (t.wk w).state = 1) ∨ (c.kd = .rem ∧ (t.wk w).state = 2)) := by
  have hst := hl.stp
  cases s with
  | mark o th fl =>
    cases th with
    | told l => have e : o = w := h; subst e; exact hst.1
    | look => exact h.elim
    | fail => exact h.elim
  | drop o th =>
    cases th with
    | told l => have e : o = w := h; subst e; exact hst.1
    | look => exact h.elim
    | fail => exact h.elim
  | take o nx th =>
    cases th with
    | told l => have e : o = w := h; subst e; exact hst.1
    | look => exact h.elim
    | fail => exact h.elim
  | fin o th =>
    cases th with
    | told l => have e : o = w := h; subst e; exact hst.1
    | look => exact h.elim
    | fail => exact h.elim
  | desc b m => exact h.elim
  | beg => exact h.elim
  | look => exact h.elim
  | down => exact h.elim
  | grow l => exact h.elim
  | lose l => exact h.elim
end
end Go.Proofs.Ytmhiolhgofackaa
namespace Go.Proofs.Ytmhiolhgofackaa
open Go.RowKit
set_option linter.unusedVariables false
set_option linter.unusedSimpArgs false

section
variable {t : Tr} {L : PT} {now : Nat} {st : Nat → ByteArray → Bool} {cs : List Cx} {lin : Nat → Option Nat}
theorem CxO.inv (x : Cx) (h : CxO t L st now x) : x.inv < now := by
  unfold CxO at h
  cases ho : x.o with
  | none => rw [ho] at h; obtain ⟨⟨r, _, h1, h2⟩, _⟩ := h; omega
  | some s => rw [ho] at h; exact h.2.1
theorem HI.now1 (h : HI t L now st cs lin) {x : Cx} (hx : x ∈ cs) : 1 ≤ now := by have := CxO.inv x (h.oko x hx); omega
/-- moments go on -/
def stN (st : Nat → ByteArray → Bool) (now : Nat) (p : ByteArray → Bool) : Nat → ByteArray → Bool := fun m k => if m < now then st m k else p k
theorem seen_more {p : ByteArray → Bool} {x y : Cx} (hi : y.inv = x.inv) (hk : y.c.key = x.c.key) (hr : x.upto now ≤ now) (hr2 : x.upto now ≤ y.upto (now + 1)) : ∀ b, SeenI st now x b → SeenI (stN st now p) (now + 1) y b := by
  rintro b ⟨m, h1, h2, h3⟩
  refine ⟨m, by rw [hi]; exact h1, by omega, ?_⟩
  unfold stN
  rw [if_pos (by omega), hk]; exact h3
theorem CxO.upto (x : Cx) (h : CxO t L st now x) : x.upto now ≤ now := by
  unfold CxO at h
  unfold Cx.upto
  cases ho : x.o with
  | none => rw [ho] at h; obtain ⟨⟨r, h0, h1, h2⟩, _⟩ := h; rw [h0]; exact h2
  | some s => rw [ho] at h; rw [h.1]; exact Nat.le_refl _
/-- those that don't step -/
theorem CxO.others {t' : Tr} {L' : PT} (hti : TI t) (hW : t.ws.length ≤ 900000000) (g : Kp t t' L L') (hcur : ∀ m k, now ≤ m + 1 → st m k = present t L k) {x : Cx} (hc : CxC t x) (h : CxO t L st now x) : CxC t' x ∧ CxO t' L' (stN st now (present t' L')) (now + 1) x := by
  refine ⟨⟨hc.ns, hc.cc.mono g.gr, fun w hw => ?_⟩, ?_⟩
  · obtain ⟨h1, h2, h3⟩ := hc.owns w hw
    exact ⟨h1.mono g.gr, by rw [g.gr.wk w h1.1 h1.2]; exact h2, by rw [g.gr.wk w h1.1 h1.2]; exact h3⟩
  · have hu := CxO.upto x h
    have hinv := CxO.inv x h
    unfold CxO at h ⊢
    cases ho : x.o with
    | none =>
      rw [ho] at h
      obtain ⟨⟨r, h0, h1, h2⟩, h3, h4⟩ := h
      refine ⟨⟨r, h0, h1, by omega⟩, h3, ?_⟩
      rcases h4 with ⟨g1, w, g2, g3, g4⟩ | ⟨g1, g2⟩
      · exact Or.inl ⟨g1, w, g2, Done.mono hti hW g (hc.owns w g2).1 g3, fun w' hw => (g4 w' hw).imp id (fun e => e.mono g (hc.owns w' hw).1)⟩
      · exact Or.inr ⟨g1.mono (seen_more rfl rfl hu (by unfold Cx.upto; rw [h0]; exact Nat.le_refl _)), fun w hw => (g2 w hw).mono g (hc.owns w hw).1⟩
    | some s =>
      rw [ho] at h
      obtain ⟨h0, h1, h2, h3, h4⟩ := h
      have hn : SeenI st now x (present t L x.c.key) := ⟨now - 1, by omega, by unfold Cx.upto; rw [h0]; show now - 1 < now; omega, hcur _ _ (by omega)⟩
      refine ⟨h0, by omega, h2.mono hti g.gr, (LC.mono hti hc.cc h2 hW g hn h3).seen_mono (seen_more rfl rfl hu (by unfold Cx.upto; rw [h0]; show now ≤ now + 1; omega)), fun w hw => (h4 w hw).imp id (fun e => e.mono g (hc.owns w hw).1)⟩
set_option maxHeartbeats 1000000 in
/-- one of them steps -/
theorem hi_step (h : HI t L now st cs lin) {j : Nat} {x : Cx} {s : Stp} (hj : cs[j]? = some x) (ho : x.o = some s) (hb : Bd t x.c) :
    ∃ L' lin', HI (stepP t x.c s).1 L' (now + 1) (stN st now (present (stepP t x.c s).1 L')) (cs.set j ⟨(stepP t x.c s).2.1, (stepP t x.c s).2.2, x.inv, if (stepP t x.c s).2.2.isNone then some now else none, ownS x.own t (stepP t x.c s).1⟩) lin' := by
  have hxm := List.mem_of_getElem? hj
  have hjl := (List.getElem?_eq_some_iff.1 hj).1
  have hc := h.okc x hxm
  have hox := h.oko x hxm
  have hinv := CxO.inv x hox
  have hup := CxO.upto x hox
  have hox' := hox
  unfold CxO at hox'
  rw [ho] at hox'
  obtain ⟨h0, h1, h2, h3, h4⟩ := hox'
  have hn : SeenI st now x (present t L x.c.key) := ⟨now - 1, by omega, by unfold Cx.upto; rw [h0]; show now - 1 < now; omega, h.cur _ _ (by omega)⟩
  obtain ⟨L', ⟨gli, g, geff⟩, gout⟩ := li_step h.li h.ti hc.cc hb hn hc.ns h2 h3
  obtain ⟨_, k2, k3, ⟨k4, k5, k6, k7⟩, k8, k9, _⟩ := ti_step h.ti hc.cc hb h2
  obtain ⟨e, hf⟩ := Eff.flat geff
  obtain ⟨t', ht'⟩ : ∃ t', t' = (stepP t x.c s).1 := ⟨_, rfl⟩
  obtain ⟨out, hout⟩ : ∃ out, out = (stepP t x.c s).2 := ⟨_, rfl⟩
  have hcn := cur_new t x.c s
  have hco := fun w hw => cur_old t x.c (s := s) (w := w) hw
  rw [← ht'] at hcn gli g hf gout k2 k3 k5 k6 k8 k9 ⊢
  rw [← hout] at hcn hco gout k4 k5 k6 ⊢
  obtain ⟨x', hx'⟩ : ∃ x' : Cx, x' = ⟨out.1, out.2, x.inv, if out.2.isNone then some now else none, ownS x.own t t'⟩ := ⟨_, rfl⟩
  rw [← hx']
  obtain ⟨gk, gm⟩ := gout
  have hk' : x'.c.key = x.c.key := by rw [hx']; exact gk
  have hi' : x'.inv = x.inv := by rw [hx']
  have hown' : ∀ w, x'.own w ↔ x.own w ∨ (t.ws.length < w ∧ w ≤ t'.ws.length) := fun w => by rw [hx']; exact Iff.rfl
  have hW := hb.ws
  have hwl := g.gr.wl
  have hWb := hb.ws
  have hup2 : x.upto now ≤ x'.upto (now + 1) := by
    unfold Cx.upto
    rw [hx', h0]
    dsimp only
    cases out.2 <;> simp
  have hseen := seen_more (st := st) (p := present t' L') hi' hk' hup hup2
  have hget : ∀ (i : Nat) (y : Cx), (cs.set j x')[i]? = some y → (i = j ∧ y = x') ∨ (i ≠ j ∧ cs[i]? = some y) := fun i y hy => by
    rw [List.getElem?_set] at hy
    split at hy
    · rename_i e1
      exact Or.inl ⟨e1.symm, (Option.some.inj hy).symm⟩
    · rename_i e1
      exact Or.inr ⟨fun e2 => e1 e2.symm, hy⟩
  have hmem : ∀ y ∈ cs.set j x', y = x' ∨ ∃ i, i ≠ j ∧ cs[i]? = some y := fun y hy => by
    obtain ⟨i, hi⟩ := List.getElem?_of_mem hy
    rcases hget i y hi with ⟨_, e1⟩ | ⟨e1, e2⟩
    · exact Or.inl e1
    · exact Or.inr ⟨i, e1, e2⟩
  have hx'm : x' ∈ cs.set j x' := by
    refine List.mem_of_getElem? (i := j) ?_
    rw [List.getElem?_set, if_pos rfl, if_pos hjl]
  -- whoever owned a work still does
  have howner : ∀ y ∈ cs, ∀ w, y.own w → ∃ y' ∈ cs.set j x', y'.own w := fun y hy w hw => by
    obtain ⟨i, hi⟩ := List.getElem?_of_mem hy
    by_cases hij : i = j
    · subst hij
      rw [hj] at hi
      cases hi
      exact ⟨x', hx'm, (hown' w).2 (Or.inl hw)⟩
    · exact ⟨y, List.mem_of_getElem? (i := i) (by rw [List.getElem?_set, if_neg (fun e => hij e.symm)]; exact hi), hw⟩
  have hwk : ∀ w, OI t w → t'.wk w = t.wk w := fun w hw => g.gr.wk w hw.1 hw.2
  -- the one that stepped
  have hnewcur : ∀ w, t.ws.length < w → w ≤ t'.ws.length → ∃ s', out.2 = some s' ∧ CurW s' w := fun w a b => hcn w a b
  have hxc : CxC t' x' := by
    refine ⟨by rw [hx']; show out.1.kd ≠ .sek; rw [k4]; exact hc.ns, by rw [hx']; exact k5, fun w hw => ?_⟩
    rw [hx']
    show OI t' w ∧ (t'.wk w).key = out.1.key ∧ ((out.1.kd = .ins ∧ (t'.wk w).state = 1) ∨ (out.1.kd = .rem ∧ (t'.wk w).state = 2))
    rcases (hown' w).1 hw with hw | ⟨w1, w2⟩
    · obtain ⟨o1, o2, o3⟩ := hc.owns w hw
      rw [hwk w o1, gk, k4]
      exact ⟨o1.mono g.gr, o2, o3⟩
    · obtain ⟨s', hs', hcw⟩ := hnewcur w w1 w2
      rw [hs'] at gm
      obtain ⟨c1, c2, c3⟩ := cur_th hcw gm
      exact ⟨⟨by omega, w2⟩, c2, c3⟩
  have hxo : CxO t' L' (stN st now (present t' L')) (now + 1) x' := by
    unfold CxO
    have hxo2 : x'.o = out.2 := by rw [hx']
    rw [hxo2]
    cases hs' : out.2 with
    | none =>
      rw [hs'] at gm
      have hr : x'.ret = some now := by rw [hx', hs']; rfl
      have hg2 : Told t' L' x'.c (SeenI st now x) x'.own := by rw [hx']; exact gm
      obtain ⟨t1, t2⟩ := hg2 hxc.ns
      have hold : ∀ w, x'.own w → x.own w := fun w hw => by
        rcases (hown' w).1 hw with hw | ⟨w1, w2⟩
        · exact hw
        · obtain ⟨s', e1, _⟩ := hnewcur w w1 w2
          rw [hs'] at e1; cases e1
      have hcase : ∀ w, x.own w → (∃ l, s = .fin w (.told l)) ∨ Dm t' w := fun w hw => by
        rcases h4 w hw with hcw | hd
        · rcases hco w hcw with ⟨s', e1, _⟩ | ⟨th, fl, e1, e2⟩ | ⟨l, e1, e2⟩
          · rw [hs'] at e1; cases e1
          · rw [hs'] at e2; cases e2
          · exact Or.inl ⟨l, e1⟩
        · exact Or.inr (hd.mono g (hc.owns w hw).1)
      refine ⟨⟨now, hr, by rw [hi']; omega, by omega⟩, t1, ?_⟩
      have hcan : ∀ o, x'.own o → Done t' (whole L') o → ∃ l, s = .fin o (.told l) := fun o hoo hd => by
        rcases hcase o (hold o hoo) with e | e
        · exact e
        · exact absurd hd e.done
      have hok : ∀ o, (∃ l, s = .fin o (.told l)) → x'.c.ans.ok = true := fun o ⟨l, e⟩ => by
        have : (stepP t x.c s).2.1.ans.ok = true := by rw [e]; rfl
        rw [hx', hout]; exact this
      have hdone : (∃ o, x'.own o ∧ Done t' (whole L') o) → x'.c.ans.ok = true ∧ ∃ w, x'.own w ∧ Done t' (whole L') w ∧ ∀ w', x'.own w' → w' = w ∨ Dm t' w' := fun ⟨o, o1, o2⟩ => by
        have hs1 := hcan o o1 o2
        refine ⟨hok o hs1, o, o1, o2, fun w' hw' => ?_⟩
        rcases hcase w' (hold w' hw') with ⟨l2, e2⟩ | e2
        · obtain ⟨l1, e1⟩ := hs1
          rw [e1] at e2
          simp only [Stp.fin.injEq] at e2
          exact Or.inl e2.1.symm
        · exact Or.inr e2
      have hall : ∀ w, x.own w → (∃ l, s = .fin w (.told l)) → Done t' (whole L') w := fun w hw ⟨l, e⟩ => by
        subst e
        rcases h3.stp.2.1 with hd | ⟨_, _, hno⟩
        · exact Done.mono h.ti hW g (hc.owns w hw).1 hd
        · exact absurd rfl (hno l)
      by_cases hex : ∃ w, x'.own w ∧ Done t' (whole L') w
      · exact Or.inl (hdone hex)
      · have hdm : ∀ w, x'.own w → Dm t' w := fun w hw => by
          rcases hcase w (hold w hw) with e | e
          · exact absurd ⟨w, hw, hall w (hold w hw) e⟩ hex
          · exact e
        refine Or.inr ⟨?_, hdm⟩
        rcases t2 with ⟨_, _, o, o1, _, _, _, o2⟩ | ⟨_, _, o, o1, _, _, _, o2⟩ | ⟨a1, a2, a3⟩ | ⟨a1, a2, a3⟩ | ⟨a1, a2⟩
        · exact absurd ⟨o, o1, o2⟩ hex
        · exact absurd ⟨o, o1, o2⟩ hex
        · exact Or.inl ⟨a1, a2, hseen _ a3⟩
        · exact Or.inr (Or.inl ⟨a1, a2, hseen _ a3⟩)
        · exact Or.inr (Or.inr ⟨a1, hseen _ a2⟩)
    | some s' =>
      rw [hs'] at gm
      have hr : x'.ret = none := by rw [hx', hs']; rfl
      have hsi : SI t' out.1 s' := k6 s' hs'
      refine ⟨hr, by rw [hi']; omega, by rw [hx']; exact hsi, ?_, fun w hw => ?_⟩
      · have hg2 : LC t' L' x'.c (SeenI st now x) x'.own s' := by rw [hx']; exact gm
        exact hg2.seen_mono hseen
      · rcases (hown' w).1 hw with hw | ⟨w1, w2⟩
        · have o1 := (hc.owns w hw).1
          rcases h4 w hw with hcw | hd
          · rcases hco w hcw with ⟨s2, e1, e2⟩ | ⟨th, fl, e1, e2⟩ | ⟨l, e1, e2⟩
            · rw [hs'] at e1
              cases e1
              exact Or.inl e2
            · right
              rw [hs'] at e2
              cases e2
              subst e1
              have hst := h3.stp
              obtain ⟨_, _, _, hfl⟩ := hst
              have hth : ∃ l, th = .told l := by
                cases th with
                | told l => exact ⟨l, rfl⟩
                | look => exact hcw.elim
                | fail => exact hcw.elim
              obtain ⟨l, hth⟩ := hth
              exact gm.stp.2.2 (hfl l hth)
            · rw [hs'] at e2; cases e2
          · exact Or.inr (hd.mono g o1)
        · obtain ⟨s2, e1, e2⟩ := hnewcur w w1 w2
          rw [hs'] at e1
          cases e1
          exact Or.inl e2
  have hoth : ∀ i y, i ≠ j → cs[i]? = some y → CxC t' y ∧ CxO t' L' (stN st now (present t' L')) (now + 1) y := fun i y _ hy => CxO.others h.ti hW g h.cur (h.okc y (List.mem_of_getElem? hy)) (h.oko y (List.mem_of_getElem? hy))
  have hown_oi : ∀ (i : Nat) (y : Cx) (w : Nat), cs[i]? = some y → y.own w → OI t w := fun i y w hy hw => ((h.okc y (List.mem_of_getElem? hy)).owns w hw).1
  have hnow := h.now1 hxm
  have hst1 : ∀ m k, m < now → stN st now (present t' L') m k = st m k := fun m k hm => by unfold stN; rw [if_pos hm]
  have hst2 : ∀ m k, now ≤ m → stN st now (present t' L') m k = present t' L' k := fun m k hm => by unfold stN; rw [if_neg (by omega)]
  have hst3 : ∀ k, stN st now (present t' L') (now - 1) k = present t L k := fun k => by rw [hst1 _ _ (by omega)]; exact h.cur _ _ (by omega)
  refine ⟨L', fun w => if e = some w then some now else lin w, gli, k2, fun m k hm => hst2 m k (by omega), fun y hy => ?_, fun y hy => ?_, fun i i2 y z w hne hy hz hw => ?_, fun w hw ha => ?_, fun w m hm => ?_, fun y hy w hw hd => ?_, fun y hy w m hw hm => ?_, fun m k hm1 hm2 hne => ?_, fun w w' m hm hm' => ?_⟩
  · rcases hmem y hy with rfl | ⟨i, hi, hy2⟩
    · exact hxc
    · exact (hoth i y hi hy2).1
  · rcases hmem y hy with rfl | ⟨i, hi, hy2⟩
    · exact hxo
    · exact (hoth i y hi hy2).2
  · rcases hget i y hy with ⟨e1, rfl⟩ | ⟨e1, e2⟩
    · rcases hget i2 z hz with ⟨e3, rfl⟩ | ⟨e3, e4⟩
      · omega
      · intro hzw
        have hoi := hown_oi i2 z w e4 hzw
        rcases (hown' w).1 hw with hw | ⟨w1, w2⟩
        · exact h.sep j i2 x z w (fun e => e3 e.symm) hj e4 hw hzw
        · have := hoi.2; omega
    · rcases hget i2 z hz with ⟨e3, rfl⟩ | ⟨e3, e4⟩
      · intro hzw
        have hoi := hown_oi i y w e2 hw
        rcases (hown' w).1 hzw with hzw | ⟨w1, w2⟩
        · exact h.sep i j y x w e1 e2 hj hw hzw
        · have := hoi.2; omega
      · exact h.sep i i2 y z w hne e2 e4 hw
  · by_cases hwt : w ≤ t.ws.length
    · have hoi : OI t w := ⟨hw.1, hwt⟩
      obtain ⟨y, hy, hyw⟩ := h.owned w hoi (act_back h.li h.ti hW g hoi ha)
      exact howner y hy w hyw
    · exact ⟨x', hx'm, (hown' w).2 (Or.inr ⟨by omega, hw.2⟩)⟩
  · split at hm
    · rename_i he
      simp only [Option.some.injEq] at hm
      subst hm
      obtain ⟨t1, t2, t3, t4, t5⟩ := hf.turn w he
      rw [hwk w t1, hst3, hst2 now _ (Nat.le_refl _)]
      exact ⟨t1.mono g.gr, t4, by omega, hnow, t5⟩
    · obtain ⟨l1, l2, l3, l4, l5⟩ := h.lin1 w m hm
      rw [hwk w l1, hst1 m _ l3, hst1 (m - 1) _ (by omega)]
      exact ⟨l1.mono g.gr, Done.mono h.ti hW g l1 l2, by omega, l4, l5⟩
  · split
    · exact ⟨now, rfl⟩
    · rename_i he
      have hyoi : OI t' w := by
        rcases hmem y hy with rfl | ⟨i, hi, hy2⟩
        · exact (hxc.owns w hw).1
        · exact (hown_oi i y w hy2 hw).mono g.gr
      obtain ⟨b1, b2⟩ := hf.back w hyoi hd he
      rcases hmem y hy with rfl | ⟨i, hi, hy2⟩
      · rcases (hown' w).1 hw with hw | ⟨w1, w2⟩
        · exact h.lin2 x hxm w hw b2
        · have := b1.2; omega
      · exact h.lin2 y (List.mem_of_getElem? hy2) w hw b2
  · split at hm
    · rename_i he
      simp only [Option.some.injEq] at hm
      subst hm
      obtain ⟨t1, t2, t3, t4, t5⟩ := hf.turn w he
      rcases hmem y hy with rfl | ⟨i, hi, hy2⟩
      · refine ⟨by rw [hi']; exact hinv, fun r hr => ?_⟩
        rw [hx'] at hr
        dsimp only at hr
        split at hr
        · cases hr; exact Nat.le_refl _
        · cases hr
      · have hyo := h.oko y (List.mem_of_getElem? hy2)
        refine ⟨CxO.inv y hyo, fun r hr => ?_⟩
        unfold CxO at hyo
        cases hyo2 : y.o with
        | none =>
          rw [hyo2] at hyo
          obtain ⟨_, _, hyd⟩ := hyo
          rcases hyd with ⟨_, w0, q1, q2, q3⟩ | ⟨_, q3⟩
          · rcases q3 w hw with e2 | hd
            · rw [e2] at t3; exact absurd q2 t3
            · exact absurd t4 (hd.mono g t1).done
          · exact absurd t4 ((q3 w hw).mono g t1).done
        | some s2 =>
          rw [hyo2] at hyo
          rw [hyo.1] at hr; cases hr
    · obtain ⟨l1, l2, l3, _, _⟩ := h.lin1 w m hm
      rcases hmem y hy with rfl | ⟨i, hi, hy2⟩
      · rcases (hown' w).1 hw with hw | ⟨w1, w2⟩
        · obtain ⟨a1, a2⟩ := h.lin3 x hxm w m hw hm
          refine ⟨by rw [hi']; exact a1, fun r hr => ?_⟩
          rw [hx'] at hr
          dsimp only at hr
          split at hr
          · cases hr; omega
          · cases hr
        · have := l1.2; omega
      · exact h.lin3 y (List.mem_of_getElem? hy2) w m hw hm
  · by_cases hmn : m < now
    · rw [hst1 m k hmn, hst1 (m - 1) k (by omega)] at hne
      obtain ⟨y, hy, w, hyw, hl, hk⟩ := h.flip m k hm1 hmn hne
      obtain ⟨y', hy', hyw'⟩ := howner y hy w hyw
      obtain ⟨l1, l2, _⟩ := h.lin1 w m hl
      refine ⟨y', hy', w, hyw', ?_, by rw [hwk w l1]; exact hk⟩
      split
      · rename_i he
        obtain ⟨_, _, t3, _⟩ := hf.turn w he
        exact absurd l2 t3
      · exact hl
    · have hme : m = now := by omega
      subst hme
      rw [hst2 m k (Nat.le_refl _), hst3] at hne
      rcases hf.pres k with e1 | ⟨i, e1, e2⟩
      · exact absurd e1 hne
      · obtain ⟨t1, t2, _⟩ := hf.turn i e1
        obtain ⟨y, hy, hyw⟩ := h.owned i t1 t2
        obtain ⟨y', hy', hyw'⟩ := howner y hy i hyw
        exact ⟨y', hy', i, hyw', by rw [if_pos e1], by rw [hwk i t1]; exact e2.symm⟩
  · split at hm <;> split at hm'
    · rename_i e1 e2
      rw [e1] at e2
      exact Option.some.inj e2
    · rename_i e1 e2
      simp only [Option.some.injEq] at hm
      have := (h.lin1 w' m hm').2.2.1
      omega
    · rename_i e1 e2
      simp only [Option.some.injEq] at hm'
      have := (h.lin1 w m hm).2.2.1
      omega
    · exact h.one w w' m hm hm'
end
end Go.Proofs.Ytmhiolhgofackaa
namespace Go.Proofs.Ytmhiolhgofackaa
open Go.RowKit
set_option linter.unusedVariables false
set_option linter.unusedSimpArgs false

section
variable {t t' : Tr} {L : PT} {now : Nat} {st : Nat → ByteArray → Bool} {cs : List Cx} {lin : Nat → Option Nat}
theorem stN_same (hcur : ∀ m k, now ≤ m + 1 → st m k = present t L k) : stN st now (present t L) = st := by
  funext m k
  unfold stN
  split
  · rfl
  · exact (hcur m k (by omega)).symm
/-- a call begins: nothing is turned -/
theorem hi_begin (h : HI t L now st cs lin) (hW : t.ws.length ≤ 900000000) {c : Cl} {s : Stp} (hns : c.kd ≠ .sek) (hcc : CC t c) (hsi : SI t c s) (hlc : ∀ seen own, LC t L c seen own s) :
    HI t L (now + 1) st (cs ++ [⟨c, some s, now, none, fun _ => False⟩]) lin := by
  have g : Kp t t L L := Kp.same rfl rfl (fun _ => rfl)
  have hoth : ∀ y ∈ cs, CxC t y ∧ CxO t L st (now + 1) y := fun y hy => by
    have := CxO.others h.ti hW g h.cur (h.okc y hy) (h.oko y hy)
    rw [stN_same h.cur] at this
    exact this
  have hget : ∀ (i : Nat) (y : Cx), (cs ++ [(⟨c, some s, now, none, fun _ => False⟩ : Cx)])[i]? = some y → (cs[i]? = some y) ∨ y = ⟨c, some s, now, none, fun _ => False⟩ := fun i y hy => by
    by_cases hi : i < cs.length
    · rw [List.getElem?_append_left hi] at hy; exact Or.inl hy
    · rw [List.getElem?_append_right (by omega)] at hy
      have := List.mem_of_getElem? hy
      simp only [List.mem_singleton] at this
      exact Or.inr this
  have hmem : ∀ y ∈ cs ++ [(⟨c, some s, now, none, fun _ => False⟩ : Cx)], y ∈ cs ∨ y = ⟨c, some s, now, none, fun _ => False⟩ := fun y hy => by
    rcases List.mem_append.1 hy with hy | hy
    · exact Or.inl hy
    · simp only [List.mem_singleton] at hy; exact Or.inr hy
  refine ⟨h.li, h.ti, fun m k hm => h.cur m k (by omega), fun y hy => ?_, fun y hy => ?_, fun i j y z w hne hy hz hw => ?_, fun w hw ha => ?_, fun w m hm => ?_, fun y hy w hw hd => ?_, fun y hy w m hw hm => ?_, fun m k hm1 hm2 hne => ?_, h.one⟩
  · rcases hmem y hy with hy | rfl
    · exact (hoth y hy).1
    · exact ⟨hns, hcc, fun w hw => hw.elim⟩
  · rcases hmem y hy with hy | rfl
    · exact (hoth y hy).2
    · exact ⟨rfl, by show now < now + 1; omega, hsi, hlc _ _, fun w hw => hw.elim⟩
  · rcases hget i y hy with hy | rfl
    · rcases hget j z hz with hz | rfl
      · exact h.sep i j y z w hne hy hz hw
      · exact id
    · exact hw.elim
  · obtain ⟨y, hy, hyw⟩ := h.owned w hw ha
    exact ⟨y, List.mem_append_left _ hy, hyw⟩
  · obtain ⟨l1, l2, l3, l4⟩ := h.lin1 w m hm
    exact ⟨l1, l2, by omega, l4⟩
  · rcases hmem y hy with hy | rfl
    · exact h.lin2 y hy w hw hd
    · exact hw.elim
  · rcases hmem y hy with hy | rfl
    · exact h.lin3 y hy w m hw hm
    · exact hw.elim
  · by_cases e : m < now
    · obtain ⟨y, hy, w, hw⟩ := h.flip m k hm1 e hne
      exact ⟨y, List.mem_append_left _ hy, w, hw⟩
    · exact absurd (by rw [h.cur m k (by omega), h.cur (m - 1) k (by omega)]) hne
/-- nothing happens at a moment -/
theorem hi_tick (h : HI t L now st cs lin) (hW : t.ws.length ≤ 900000000) : HI t L (now + 1) st cs lin := by
  have g : Kp t t L L := Kp.same rfl rfl (fun _ => rfl)
  have hoth : ∀ y ∈ cs, CxC t y ∧ CxO t L st (now + 1) y := fun y hy => by
    have := CxO.others h.ti hW g h.cur (h.okc y hy) (h.oko y hy)
    rw [stN_same h.cur] at this
    exact this
  refine ⟨h.li, h.ti, fun m k hm => h.cur m k (by omega), fun y hy => (hoth y hy).1, fun y hy => (hoth y hy).2, h.sep, h.owned, fun w m hm => ?_, h.lin2, h.lin3, fun m k hm1 hm2 hne => ?_, h.one⟩
  · obtain ⟨l1, l2, l3, l4⟩ := h.lin1 w m hm
    exact ⟨l1, l2, by omega, l4⟩
  · by_cases e : m < now
    · exact h.flip m k hm1 e hne
    · exact absurd (by rw [h.cur m k (by omega), h.cur (m - 1) k (by omega)]) hne
def kdI : Kd → Int
  | .ins => 1
  | .rem => 2
  | .fnd => 3
  | .sek => 4
/-- a call as it is noted -/
def caOf (x : Cx) : Ca := ⟨kdI x.c.kd, x.c.key, x.ret.isSome && x.c.ans.ok, x.inv, match x.ret with | some r => (r : Int) | none => -1⟩
theorem caOf_ret {x : Cx} (h : 0 ≤ (caOf x).ret) : ∃ r, x.ret = some r ∧ (caOf x).ret = r := by
  unfold caOf at h ⊢
  cases hr : x.ret with
  | none => rw [hr] at h; simp at h
  | some r => exact ⟨r, rfl, rfl⟩
/-- a call's moment -/
def Mo (st : Nat → ByteArray → Bool) (lin : Nat → Option Nat) (x : Cx) (o : Option Nat) : Prop :=
  (∃ w m, x.own w ∧ lin w = some m ∧ o = some (2 * m)) ∨
  ((∀ w m, x.own w → lin w ≠ some m) ∧ ((x.ret = none ∧ o = none) ∨ ∃ r m, x.ret = some r ∧ x.inv ≤ m ∧ m ≤ r ∧ o = some (2 * m + 1) ∧ ((x.c.kd = .ins ∧ x.c.ans.ok = false ∧ st m x.c.key = true) ∨ (x.c.kd = .rem ∧ x.c.ans.ok = false ∧ st m x.c.key = false) ∨ (x.c.kd = .fnd ∧ st m x.c.key = x.c.ans.ok))))
theorem mo_ex (h : HI t L now st cs lin) {x : Cx} (hx : x ∈ cs) : ∃ o, Mo st lin x o := by
  by_cases he : ∃ w m, x.own w ∧ lin w = some m
  · obtain ⟨w, m, h1, h2⟩ := he
    exact ⟨some (2 * m), Or.inl ⟨w, m, h1, h2, rfl⟩⟩
  · have hno : ∀ w m, x.own w → lin w ≠ some m := fun w m h1 h2 => he ⟨w, m, h1, h2⟩
    have ho := h.oko x hx
    unfold CxO at ho
    cases hxo : x.o with
    | some s => rw [hxo] at ho; exact ⟨none, Or.inr ⟨hno, Or.inl ⟨ho.1, rfl⟩⟩⟩
    | none =>
      rw [hxo] at ho
      obtain ⟨⟨r, h0, h1, h2⟩, _, h4⟩ := ho
      rcases h4 with ⟨_, w, g2, g3, _⟩ | ⟨g1, _⟩
      · obtain ⟨m, hm⟩ := h.lin2 x hx w g2 g3
        exact absurd hm (hno w m g2)
      · have hup : x.upto now = r + 1 := by unfold Cx.upto; rw [h0]
        rcases g1 with ⟨a1, a2, m, m1, m2, m3⟩ | ⟨a1, a2, m, m1, m2, m3⟩ | ⟨a1, m, m1, m2, m3⟩
        · exact ⟨some (2 * m + 1), Or.inr ⟨hno, Or.inr ⟨r, m, h0, m1, by omega, rfl, Or.inl ⟨a1, a2, m3⟩⟩⟩⟩
        · exact ⟨some (2 * m + 1), Or.inr ⟨hno, Or.inr ⟨r, m, h0, m1, by omega, rfl, Or.inr (Or.inl ⟨a1, a2, m3⟩)⟩⟩⟩
        · exact ⟨some (2 * m + 1), Or.inr ⟨hno, Or.inr ⟨r, m, h0, m1, by omega, rfl, Or.inr (Or.inr ⟨a1, m3⟩)⟩⟩⟩
open Classical in
noncomputable def moOf (st : Nat → ByteArray → Bool) (lin : Nat → Option Nat) (x : Cx) : Option Nat := if h : ∃ o, Mo st lin x o then h.choose else none
theorem mo_of (h : HI t L now st cs lin) {x : Cx} (hx : x ∈ cs) : Mo st lin x (moOf st lin x) := by
  have he := mo_ex h hx
  unfold moOf
  rw [dif_pos he]
  exact he.choose_spec
/-- a call has one work at most that was turned -/
theorem own_once (h : HI t L now st cs lin) {x : Cx} (hx : x ∈ cs) {w w' m m' : Nat} (h1 : x.own w) (h2 : x.own w') (l1 : lin w = some m) (l2 : lin w' = some m') : w = w' := by
  have d1 := (h.lin1 w m l1).2.1
  have d2 := (h.lin1 w' m' l2).2.1
  have ho := h.oko x hx
  unfold CxO at ho
  cases hxo : x.o with
  | some s =>
    rw [hxo] at ho
    obtain ⟨_, _, _, _, h4⟩ := ho
    rcases h4 w h1 with e1 | e1
    · rcases h4 w' h2 with e2 | e2
      · exact cur_one e1 e2
      · exact absurd d2 e2.done
    · exact absurd d1 e1.done
  | none =>
    rw [hxo] at ho
    obtain ⟨_, _, h4⟩ := ho
    rcases h4 with ⟨_, w0, _, _, g4⟩ | ⟨_, g2⟩
    · rcases g4 w h1 with e1 | e1
      · rcases g4 w' h2 with e2 | e2
        · rw [e1, e2]
        · exact absurd d2 e2.done
      · exact absurd d1 e1.done
    · exact absurd d1 (g2 w h1).done
def ofK (k : ByteArray) (x : Cx) : Bool := decide (x.c.key = k)
theorem hi_lin (h : HI t L now st cs lin) (k : ByteArray) : Lin k (fun m => st m k) 1 ((cs.filter (ofK k)).map fun x => (caOf x, moOf st lin x)) := by
  have hin : ∀ y ∈ (cs.filter (ofK k)).map (fun x => (caOf x, moOf st lin x)), ∃ x ∈ cs, x.c.key = k ∧ y = (caOf x, moOf st lin x) := fun y hy => by
    obtain ⟨x, hx, rfl⟩ := List.mem_map.1 hy
    obtain ⟨h1, h2⟩ := List.mem_filter.1 hx
    exact ⟨x, h1, of_decide_eq_true h2, rfl⟩
  have hkind : ∀ x ∈ cs, ∀ w m, x.own w → lin w = some m → 1 ≤ m ∧ m < now ∧ x.inv < m ∧ (∀ r, x.ret = some r → m ≤ r) ∧ st m x.c.key = doIs (kdI x.c.kd) (st (m - 1) x.c.key) ∧ doOk (kdI x.c.kd) (st (m - 1) x.c.key) = true := fun x hx w m hw hl => by
    obtain ⟨l1, l2, l3, l4, l5⟩ := h.lin1 w m hl
    obtain ⟨a1, a2⟩ := h.lin3 x hx w m hw hl
    obtain ⟨o1, o2, o3⟩ := (h.okc x hx).owns w hw
    rw [o2] at l5
    refine ⟨l4, l3, a1, a2, ?_⟩
    rcases l5 with ⟨s1, s2, s3⟩ | ⟨s1, s2, s3⟩
    · rcases o3 with ⟨k1, _⟩ | ⟨_, k2⟩
      · rw [s2, s3, k1]; exact ⟨rfl, rfl⟩
      · rw [s1] at k2; cases k2
    · rcases o3 with ⟨_, k2⟩ | ⟨k1, _⟩
      · rw [s1] at k2; cases k2
      · rw [s2, s3, k1]; exact ⟨rfl, rfl⟩
  have hok : ∀ x ∈ cs, ∀ w m, x.own w → lin w = some m → ∀ r, x.ret = some r → x.c.ans.ok = true := fun x hx w m hw hl r hr => by
    have ho := h.oko x hx
    unfold CxO at ho
    cases hxo : x.o with
    | some s => rw [hxo] at ho; rw [ho.1] at hr; cases hr
    | none =>
      rw [hxo] at ho
      obtain ⟨_, _, h4⟩ := ho
      rcases h4 with ⟨g1, _⟩ | ⟨_, g2⟩
      · exact g1
      · exact absurd (h.lin1 w m hl).2.1 (g2 w hw).done
  have hret : ∀ x : Cx, 0 ≤ (caOf x).ret → ∃ r, x.ret = some r ∧ (caOf x).ret = r := fun x => caOf_ret
  refine ⟨fun y hy => ?_, fun y hy hn => ?_, fun y hy m hm => ?_, fun y hy m hm => ?_, fun y hy m hm => ?_, fun m hm1 _ hne => ?_, ?_⟩
  · obtain ⟨x, hx, hk, rfl⟩ := hin y hy
    exact hk
  · obtain ⟨x, hx, hk, rfl⟩ := hin y hy
    have hmo := mo_of h hx
    dsimp only at hn
    rw [hn] at hmo
    rcases hmo with ⟨_, _, _, _, e⟩ | ⟨_, ⟨e, _⟩ | ⟨_, _, _, _, _, e, _⟩⟩
    · cases e
    · show (match x.ret with | some r => (r : Int) | none => -1) < 0
      rw [e]; simp
    · cases e
  · obtain ⟨x, hx, hk, rfl⟩ := hin y hy
    have hmo := mo_of h hx
    dsimp only at hm ⊢
    rw [hm] at hmo
    rcases hmo with ⟨w, q, hw, hl, e⟩ | ⟨_, ⟨_, e⟩ | ⟨r, q, hr, q1, q2, e, _⟩⟩
    · simp only [Option.some.injEq] at e
      obtain ⟨b1, b2, b3, b4, _⟩ := hkind x hx w q hw hl
      have em : m / 2 = q := by omega
      refine ⟨by omega, by rw [em]; show (x.inv : Int) ≤ q; omega, fun hr => ?_⟩
      obtain ⟨r, hr1, hr2⟩ := hret x hr
      rw [hr2, em]
      have := b4 r hr1
      omega
    · cases e
    · simp only [Option.some.injEq] at e
      have em : m / 2 = q := by omega
      refine ⟨by omega, by rw [em]; show (x.inv : Int) ≤ q; omega, fun hr2 => ?_⟩
      obtain ⟨r', hr1, hr3⟩ := hret x hr2
      rw [hr] at hr1
      simp only [Option.some.injEq] at hr1
      rw [hr3, em]; omega
  · obtain ⟨x, hx, hk, rfl⟩ := hin y hy
    have hmo := mo_of h hx
    dsimp only at hm ⊢
    rw [hm] at hmo
    rcases hmo with ⟨w, q, hw, hl, e⟩ | ⟨_, ⟨_, e⟩ | ⟨r, q, hr, q1, q2, e, _⟩⟩
    · simp only [Option.some.injEq] at e
      obtain ⟨b1, b2, b3, b4, b5, b6⟩ := hkind x hx w q hw hl
      have em : m = q := by omega
      subst em
      rw [hk] at b5 b6
      refine ⟨b1, b5, fun hr => ?_⟩
      obtain ⟨r, hr1, _⟩ := hret x hr
      show doOk (kdI x.c.kd) (st (m - 1) k) = (x.ret.isSome && x.c.ans.ok)
      rw [b6, hok x hx w m hw hl r hr1, hr1]; rfl
    · cases e
    · simp only [Option.some.injEq] at e; omega
  · obtain ⟨x, hx, hk, rfl⟩ := hin y hy
    have hmo := mo_of h hx
    dsimp only at hm ⊢
    rw [hm] at hmo
    rcases hmo with ⟨w, q, hw, hl, e⟩ | ⟨_, ⟨_, e⟩ | ⟨r, q, hr, q1, q2, e, hread⟩⟩
    · simp only [Option.some.injEq] at e; omega
    · cases e
    · simp only [Option.some.injEq] at e
      have em : m = q := by omega
      subst em
      rw [hk] at hread
      show st m k = doIs (kdI x.c.kd) (st m k) ∧ (0 ≤ (caOf x).ret → doOk (kdI x.c.kd) (st m k) = (x.ret.isSome && x.c.ans.ok))
      rw [hr]
      show st m k = doIs (kdI x.c.kd) (st m k) ∧ (0 ≤ (caOf x).ret → doOk (kdI x.c.kd) (st m k) = x.c.ans.ok)
      rcases hread with ⟨k1, k2, k3⟩ | ⟨k1, k2, k3⟩ | ⟨k1, k3⟩
      · rw [k3, k1, k2]; exact ⟨rfl, fun _ => rfl⟩
      · rw [k3, k1, k2]; exact ⟨rfl, fun _ => rfl⟩
      · rw [k1, ← k3]; exact ⟨rfl, fun _ => rfl⟩
  · have hmn : m < now := by
      by_cases e : m < now
      · exact e
      · exact absurd (show st m k = st (m - 1) k by rw [h.cur m k (by omega), h.cur (m - 1) k (by omega)]) hne
    obtain ⟨x, hx, w, hw, hl, hkw⟩ := h.flip m k hm1 hmn hne
    have hxk : x.c.key = k := by rw [← hkw]; exact ((h.okc x hx).owns w hw).2.1.symm
    refine ⟨(caOf x, moOf st lin x), List.mem_map.2 ⟨x, List.mem_filter.2 ⟨hx, decide_eq_true hxk⟩, rfl⟩, ?_⟩
    have hmo := mo_of h hx
    rcases hmo with ⟨w', q, hw', hl', e⟩ | ⟨hno, _⟩
    · have hww := own_once h hx hw hw' hl hl'
      subst hww
      rw [hl] at hl'
      simp only [Option.some.injEq] at hl'
      show moOf st lin x = some (2 * m)
      rw [e, hl']
    · exact absurd hl (hno w m hw)
  · rw [List.pairwise_map]
    refine List.Pairwise.filter _ ?_
    rw [List.pairwise_iff_getElem]
    intro i j hi hj hij m hm hm2
    have ei : cs[i]? = some cs[i] := List.getElem?_eq_getElem hi
    have ej : cs[j]? = some cs[j] := List.getElem?_eq_getElem hj
    have mi := mo_of h (List.getElem_mem hi)
    have mj := mo_of h (List.getElem_mem hj)
    dsimp only at hm hm2
    rw [hm] at mi
    rw [hm2] at mj
    rcases mi with ⟨w, q, hw, hl, e⟩ | ⟨_, ⟨_, e⟩ | ⟨_, q, _, _, _, e, _⟩⟩
    · rcases mj with ⟨w', q', hw', hl', e'⟩ | ⟨_, ⟨_, e'⟩ | ⟨_, q', _, _, _, e', _⟩⟩
      · simp only [Option.some.injEq] at e e'
        have hq : q = m := by omega
        have hq' : q' = m := by omega
        rw [hq] at hl
        rw [hq'] at hl'
        have := h.one w w' m hl hl'
        subst this
        exact h.sep i j _ _ w (by omega) ei ej hw hw'
      · cases e'
      · simp only [Option.some.injEq] at e'; omega
    · cases e
    · simp only [Option.some.injEq] at e; omega
/-- those of each key fit -/
theorem hi_fit (h : HI t L now st cs lin) (k : ByteArray) {S : SetB} (hS : S k = st 0 k) : Fit ((cs.filter (ofK k)).map caOf) S := by
  have := Lin.fit (st := fun m => st m k) _ (S := S) rfl (Nat.le_refl 1) (hi_lin h k) (by rw [hS]; rfl)
  rw [List.map_map] at this
  exact this
end
end Go.Proofs.Ytmhiolhgofackaa
