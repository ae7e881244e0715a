/- PACKAGE bst: Step (written by bst_step.py)
PACKAGE bst: each Step does as the plain one -/
import Derived.Test.YtmhiolhgofackaaBsLos
import Derived.Laws.EntriesVeiled
namespace Go.Proofs.Ytmhiolhgofackaa
open Go.RowKit
set_option linter.unusedVariables false
set_option linter.unusedSimpArgs false

/-- there are Seeks (a law that asks for none has a seat without their functions) -/
def seekNo : Nat := 1000000
def SeekOk : Prop := seekNo < 1000000
def remNo : Nat := 1000000
def RemOk : Prop := remNo < 1000000
/-- a deletion is made where there are deletions -/
def KdOk (k : Kd) : Prop := k = .rem → RemOk
theorem KdOk.of {k : Kd} (h : k ≠ .rem) : KdOk k := fun e => absurd e h
def MdOk : Kd → Md → Prop
  | .fnd, .find => True
  | .sek, .seek => SeekOk
  | .sek, .left => SeekOk
  | .ins, .way => True
  | .rem, .way => True
  | _, _ => False
def ThOk (t : Tr) (c : Cl) : Th → Prop
  | .told l => c.kd = .ins ∨ (c.kd = .rem ∧ l < t.ns.length)
  | .look => True
  | .fail => c.kd = .rem ∧ c.path ≠ []
/-- what a step wants -/
def StepOk (t : Tr) (c : Cl) : Stp → Prop
  | .desc b m => MdOk c.kd m ∧ DescOk t c (t.kid b) m
  | .beg => c.kd = .ins ∧ NdOk t 2 ∧ DescOk t ({ c with full := !t.room, path := [⟨2, false, 0⟩] } : Cl) (t.kid (t.toward 2 c.key)) .way
  | .look => (c.kd = .ins ∨ c.kd = .rem) ∧ c.path ≠ [] ∧ NdOk t (c.up 0).node ∧ IsU (t.ms.at (t.word (c.up 0).node)) ∧ HlpOk t (t.ms.at (t.word (c.up 0).node))
  | .down => (c.kd = .ins ∨ c.kd = .rem) ∧ c.path ≠ [] ∧ NdOk t (c.up 0).node ∧ DescOk t c (t.kid (t.toward (c.up 0).node c.key)) .way
  | .grow l => c.kd = .ins ∧ GrowOk t c l
  | .lose l => c.kd = .rem ∧ LoseOk t c l
  | .mark o th fl => 1 ≤ o ∧ o ≤ t.ws.length ∧ NdOk t (t.wk o).old
  | .drop o th => 1 ≤ o ∧ o ≤ t.ws.length ∧ NdOk t (t.wk o).old ∧ t.kid (t.beside (t.wk o).old (t.wk o).key) < t.ns.length
  | .take o nx th => WkOk t o ∧ nx < t.ns.length
  | .fin o th => WkOk t o ∧ ThOk t c th
structure Small (t : Tr) (c : Cl) : Prop where
  cells : t.ms.c.length ≤ 65536
  asked : t.ms.n ≤ 1000000000000
  ws : t.ws.length ≤ 900000000
  path : c.path.length ≤ 1000000000
/-- what a Step leaves -/
def StepPost (X : List Nat) (w : World) (A : TA) (a : CA) (kd : Kd) (t' : Tr) (o : Out) (e : Ending) (w' : World) : Prop :=
  ∃ A' a' V, e = .returned (.bool o.2.isNone) ∧ Cf X w' A' a' t' o.1 V ∧ OutV X w' A' a' kd V o.2 ∧ o.1.kd = kd ∧ Ext A A' ∧ (∃ pv, a' = { a with pv := pv }) ∧ Fr (Both A a kd) w w' ∧ ∀ x ∈ Both A' a' kd, x ∈ Both A a kd ∨ w.heap.size ≤ x
theorem StpAt.form {X : List Nat} {w : World} {A : TA} {a : CA} {kd : Kd} {V : Value} {s : Stp} (h : StpAt X w A a kd V s) : ∃ f x y, V = .func f x y := by
  cases s with
  | desc b m => obtain ⟨_, _, _, _, h, _⟩ := h; exact ⟨_, _, _, h⟩
  | beg => exact ⟨_, _, _, h⟩
  | look => obtain ⟨_, h, _⟩ := h; exact ⟨_, _, _, h⟩
  | down => obtain ⟨_, h, _⟩ := h; exact ⟨_, _, _, h⟩
  | grow l => obtain ⟨_, h, _⟩ := h; exact ⟨_, _, _, h⟩
  | lose l => obtain ⟨_, h, _⟩ := h; exact ⟨_, _, _, h⟩
  | mark o th fl => obtain ⟨_, _, _, _, _, _, h, _⟩ := h; exact ⟨_, _, _, h⟩
  | drop o th => obtain ⟨_, _, _, _, h, _⟩ := h; exact ⟨_, _, _, h⟩
  | take o n th => obtain ⟨_, _, _, _, _, h, _⟩ := h; exact ⟨_, _, _, h⟩
  | fin o th => obtain ⟨_, _, _, _, h, _⟩ := h; exact ⟨_, _, _, h⟩
theorem CallM.setN {X : List Nat} {w : World} {A : TA} {a : CA} {c : Cl} {N : Value} (h : CallM X w A a c N) (V : Value) : CallM X (w.setCell ⟨a.cb, 0, none⟩ V) A a c V ∧ Fr [a.cb] w (w.setCell ⟨a.cb, 0, none⟩ V) := by
  have hf : Fr [a.cb] w (w.setCell ⟨a.cb, 0, none⟩ V) := (Fr.refl _ w).setCell (Or.inl (by simp)) _
  have hb : CallB (w.setCell ⟨a.cb, 0, none⟩ V) a.cb V c.ans := by
    have := set_block h.cbk 0 V
    simpa [CallB, clV] using this
  have hi : Iv X w (w.setCell ⟨a.cb, 0, none⟩ V) := hf.iv (mut_one h.cbk (imm_ty (by decide) (by decide)))
  have ne : ∀ k cur T f, w.heap[k]? = some (.cells cur T f) → T ≠ 103 → k ∉ [a.cb] := by
    intro k cur T f hk hT hm
    simp only [List.mem_singleton] at hm
    subst hm
    have := h.cbk
    unfold CallB at this
    rw [hk] at this; simp only [Option.some.injEq, Obj.cells.injEq] at this
    exact hT this.2.1
  refine ⟨⟨h.ctx.keep hi, hb, fun e => ?_, fun e => hf.keep (h.full e) (ne _ _ _ _ (h.full e) (by decide)), fun e => ⟨hf.keep (h.over e).1 (ne _ _ _ _ (h.over e).1 (by decide)), (h.over e).2⟩⟩, hf⟩
  obtain ⟨h1, h2⟩ := h.way e
  refine ⟨hf.keep h1 (ne _ _ _ _ h1 (by decide)), ownsRow_fr hf h2 (fun k hk => ?_)⟩
  rcases h2.2 with ⟨hv, _⟩ | ⟨g, cap, cur, hv, _, hh, _⟩
  · rw [hv] at hk; cases hk
  · rw [hv] at hk; cases hk
    exact ne _ _ _ _ hh (by decide)
/-- the result is noted -/
theorem Post.noted {X : List Nat} {w w' : World} {A : TA} {a : CA} {kd : Kd} {N V : Value} {t' : Tr} {o : Out} (h : Post X w A a kd N t' o (.returned V) w') : (∃ n, w'.cell? ⟨a.cb, 0, none⟩ = some n) ∧ w'.frozen? ⟨a.cb, 0, none⟩ = false ∧ (w'.setCell ⟨a.cb, 0, none⟩ V).cell? ⟨a.cb, 0, none⟩ = some V ∧ ((o.2 = none ∧ V = .nilFunc) ∨ (∃ s f x y, o.2 = some s ∧ V = .func f x y)) ∧
    StepPost X w A a kd t' o (.returned (.bool o.2.isNone)) (w'.setCell ⟨a.cb, 0, none⟩ V) := by
  obtain ⟨A', a', V', hV, hcf, hov, hk, hext, ⟨pv, rfl⟩, hfr, hfn⟩ := h
  cases hV
  have hb := hcf.call.cbk
  obtain ⟨hs, hf⟩ := hcf.call.setN V
  have hcb : a.cb ∉ A'.foot := hcf.call.sep hcf.tree _ (CA.cb_in _ _)
  have hi : Iv X w' (w'.setCell ⟨a.cb, 0, none⟩ V) := hf.iv (mut_one hb (imm_ty (by decide) (by decide)))
  refine ⟨⟨_, by simpa [clV] using cell_block hb 0⟩, free_block hb 0, by simpa [CallB, clV] using cell_block hs.cbk 0, ?_, A', _, V, rfl, ⟨hcf.tree.keep hf hi (fun k hk' hm => ?_), hs, fun x hx => Nat.lt_of_lt_of_le (hcf.xs x hx) hf.size⟩, ?_, hk, hext, ⟨pv, rfl⟩, hfr.trans hf (fun x hx => ?_), hfn⟩
  · cases ho : o.2 with
    | none => rw [ho] at hov; exact Or.inl ⟨rfl, hov⟩
    | some s =>
      rw [ho] at hov
      obtain ⟨f, x, y, hv⟩ := StpAt.form hov
      exact Or.inr ⟨s, f, x, y, rfl, hv⟩
  · simp only [List.mem_singleton] at hm
    subst hm
    exact hcb hk'
  · cases ho : o.2 with
    | none => rw [ho] at hov; exact hov
    | some s => rw [ho] at hov; exact StpAt.keep hi hov
  · simp only [List.mem_singleton] at hx
    subst hx
    exact Or.inl (List.mem_append_right _ (CA.cb_in _ _))
theorem eql_fn (f : Fn) (x y : Array Value) (w : World) : (binOp .eql 59 (.func f x y) .nilFunc).run Try.prog w = .ok (.bool false) w := by kernel_rfl
theorem eql_nil (w : World) : (binOp .eql 59 .nilFunc .nilFunc).run Try.prog w = .ok (.bool true) w := by kernel_rfl
theorem neq_fn (f : Fn) (x y : Array Value) (w : World) : (binOp .neq 59 (.func f x y) .nilFunc).run Try.prog w = .ok (.bool true) w := by kernel_rfl
theorem neq_nil (w : World) : (binOp .neq 59 .nilFunc .nilFunc).run Try.prog w = .ok (.bool false) w := by kernel_rfl

set_option maxHeartbeats 2000000 in
theorem stepF_desc {X : List Nat} {w : World} {A : TA} {a : CA} {t' : Tr} {o : Out} {kd : Kd} {r : An} (p0 p1 p2 p3 : Nat) (hb : CallB w a.cb (fn 68 [p0, p1, p2, p3]) r)
    (hc : Calls Try.prog 68 #[pt p0, pt p1, pt p2, pt p3] w (Post X w A a kd (fn 68 [p0, p1, p2, p3]) t' o)) : Calls Try.prog 24 #[pt a.cb] w (StepPost X w A a kd t' o) := by
  have HC := Lib.hid hc
  unfold CallB clV fn at hb
  simp only [List.map_cons, List.map_nil] at hb
  obtain ⟨c0, _⟩ := cells5 hb
  have ef := eql_fn
  have en := eql_nil
  clear hc hb
  go_enter Try.func24, Try.ntmps24
  go_wp2_with (go_at_call 68; refine HC.out.mono ?_; rintro e w1 hp; obtain ⟨V, rfl, HRR⟩ := hp.ret; refine go_stop ?_)
  unfold Stop
  obtain ⟨⟨n, d0⟩, df, d1, hv, hpost⟩ := HRR.out.noted
  obtain ⟨w2, hw2⟩ : ∃ w2, w2 = w1.setCell ⟨a.cb, 0, none⟩ V := ⟨_, rfl⟩
  have HPO := Lib.hid hpost
  clear hpost hp HRR c0
  rcases hv with ⟨ho, rfl⟩ | ⟨s, f, x, y, ho, rfl⟩
  · rw [ho] at HPO
    clear ho
    go_wp2
    go_ret
    exact HPO.out
  · rw [ho] at HPO
    clear ho
    go_wp2
    go_ret
    exact HPO.out

set_option maxHeartbeats 2000000 in
theorem stepF_beg {X : List Nat} {w : World} {A : TA} {a : CA} {t' : Tr} {o : Out} {kd : Kd} {r : An} (p0 p1 p2 : Nat) (hb : CallB w a.cb (fn 48 [p0, p1, p2]) r)
    (hc : Calls Try.prog 48 #[pt p0, pt p1, pt p2] w (Post X w A a kd (fn 48 [p0, p1, p2]) t' o)) : Calls Try.prog 24 #[pt a.cb] w (StepPost X w A a kd t' o) := by
  have HC := Lib.hid hc
  unfold CallB clV fn at hb
  simp only [List.map_cons, List.map_nil] at hb
  obtain ⟨c0, _⟩ := cells5 hb
  have ef := eql_fn
  have en := eql_nil
  clear hc hb
  go_enter Try.func24, Try.ntmps24
  go_wp2_with (go_at_call 48; refine HC.out.mono ?_; rintro e w1 hp; obtain ⟨V, rfl, HRR⟩ := hp.ret; refine go_stop ?_)
  unfold Stop
  obtain ⟨⟨n, d0⟩, df, d1, hv, hpost⟩ := HRR.out.noted
  obtain ⟨w2, hw2⟩ : ∃ w2, w2 = w1.setCell ⟨a.cb, 0, none⟩ V := ⟨_, rfl⟩
  have HPO := Lib.hid hpost
  clear hpost hp HRR c0
  rcases hv with ⟨ho, rfl⟩ | ⟨s, f, x, y, ho, rfl⟩
  · rw [ho] at HPO
    clear ho
    go_wp2
    go_ret
    exact HPO.out
  · rw [ho] at HPO
    clear ho
    go_wp2
    go_ret
    exact HPO.out

set_option maxHeartbeats 2000000 in
theorem stepF_look {X : List Nat} {w : World} {A : TA} {a : CA} {t' : Tr} {o : Out} {kd : Kd} {r : An} (p0 : Nat) (hb : CallB w a.cb (fn 90 [p0]) r)
    (hc : Calls Try.prog 90 #[pt p0] w (Post X w A a kd (fn 90 [p0]) t' o)) : Calls Try.prog 24 #[pt a.cb] w (StepPost X w A a kd t' o) := by
  have HC := Lib.hid hc
  unfold CallB clV fn at hb
  simp only [List.map_cons, List.map_nil] at hb
  obtain ⟨c0, _⟩ := cells5 hb
  have ef := eql_fn
  have en := eql_nil
  clear hc hb
  go_enter Try.func24, Try.ntmps24
  go_wp2_with (go_at_call 90; refine HC.out.mono ?_; rintro e w1 hp; obtain ⟨V, rfl, HRR⟩ := hp.ret; refine go_stop ?_)
  unfold Stop
  obtain ⟨⟨n, d0⟩, df, d1, hv, hpost⟩ := HRR.out.noted
  obtain ⟨w2, hw2⟩ : ∃ w2, w2 = w1.setCell ⟨a.cb, 0, none⟩ V := ⟨_, rfl⟩
  have HPO := Lib.hid hpost
  clear hpost hp HRR c0
  rcases hv with ⟨ho, rfl⟩ | ⟨s, f, x, y, ho, rfl⟩
  · rw [ho] at HPO
    clear ho
    go_wp2
    go_ret
    exact HPO.out
  · rw [ho] at HPO
    clear ho
    go_wp2
    go_ret
    exact HPO.out

set_option maxHeartbeats 2000000 in
theorem stepF_down {X : List Nat} {w : World} {A : TA} {a : CA} {t' : Tr} {o : Out} {kd : Kd} {r : An} (p0 : Nat) (hb : CallB w a.cb (fn 86 [p0]) r)
    (hc : Calls Try.prog 86 #[pt p0] w (Post X w A a kd (fn 86 [p0]) t' o)) : Calls Try.prog 24 #[pt a.cb] w (StepPost X w A a kd t' o) := by
  have HC := Lib.hid hc
  unfold CallB clV fn at hb
  simp only [List.map_cons, List.map_nil] at hb
  obtain ⟨c0, _⟩ := cells5 hb
  have ef := eql_fn
  have en := eql_nil
  clear hc hb
  go_enter Try.func24, Try.ntmps24
  go_wp2_with (go_at_call 86; refine HC.out.mono ?_; rintro e w1 hp; obtain ⟨V, rfl, HRR⟩ := hp.ret; refine go_stop ?_)
  unfold Stop
  obtain ⟨⟨n, d0⟩, df, d1, hv, hpost⟩ := HRR.out.noted
  obtain ⟨w2, hw2⟩ : ∃ w2, w2 = w1.setCell ⟨a.cb, 0, none⟩ V := ⟨_, rfl⟩
  have HPO := Lib.hid hpost
  clear hpost hp HRR c0
  rcases hv with ⟨ho, rfl⟩ | ⟨s, f, x, y, ho, rfl⟩
  · rw [ho] at HPO
    clear ho
    go_wp2
    go_ret
    exact HPO.out
  · rw [ho] at HPO
    clear ho
    go_wp2
    go_ret
    exact HPO.out

set_option maxHeartbeats 2000000 in
theorem stepF_grow {X : List Nat} {w : World} {A : TA} {a : CA} {t' : Tr} {o : Out} {kd : Kd} {r : An} (p0 p1 p2 p3 p4 p5 p6 : Nat) (hb : CallB w a.cb (fn 52 [p0, p1, p2, p3, p4, p5, p6]) r)
    (hc : Calls Try.prog 52 #[pt p0, pt p1, pt p2, pt p3, pt p4, pt p5, pt p6] w (Post X w A a kd (fn 52 [p0, p1, p2, p3, p4, p5, p6]) t' o)) : Calls Try.prog 24 #[pt a.cb] w (StepPost X w A a kd t' o) := by
  have HC := Lib.hid hc
  unfold CallB clV fn at hb
  simp only [List.map_cons, List.map_nil] at hb
  obtain ⟨c0, _⟩ := cells5 hb
  have ef := eql_fn
  have en := eql_nil
  clear hc hb
  go_enter Try.func24, Try.ntmps24
  go_wp2_with (go_at_call 52; refine HC.out.mono ?_; rintro e w1 hp; obtain ⟨V, rfl, HRR⟩ := hp.ret; refine go_stop ?_)
  unfold Stop
  obtain ⟨⟨n, d0⟩, df, d1, hv, hpost⟩ := HRR.out.noted
  obtain ⟨w2, hw2⟩ : ∃ w2, w2 = w1.setCell ⟨a.cb, 0, none⟩ V := ⟨_, rfl⟩
  have HPO := Lib.hid hpost
  clear hpost hp HRR c0
  rcases hv with ⟨ho, rfl⟩ | ⟨s, f, x, y, ho, rfl⟩
  · rw [ho] at HPO
    clear ho
    go_wp2
    go_ret
    exact HPO.out
  · rw [ho] at HPO
    clear ho
    go_wp2
    go_ret
    exact HPO.out

set_option maxHeartbeats 2000000 in
theorem stepF_mark {X : List Nat} {w : World} {A : TA} {a : CA} {t' : Tr} {o : Out} {kd : Kd} {r : An} (p0 p1 p2 p3 : Nat) (hb : CallB w a.cb (fn 93 [p0, p1, p2, p3]) r)
    (hc : Calls Try.prog 93 #[pt p0, pt p1, pt p2, pt p3] w (Post X w A a kd (fn 93 [p0, p1, p2, p3]) t' o)) : Calls Try.prog 24 #[pt a.cb] w (StepPost X w A a kd t' o) := by
  have HC := Lib.hid hc
  unfold CallB clV fn at hb
  simp only [List.map_cons, List.map_nil] at hb
  obtain ⟨c0, _⟩ := cells5 hb
  have ef := eql_fn
  have en := eql_nil
  clear hc hb
  go_enter Try.func24, Try.ntmps24
  go_wp2_with (go_at_call 93; refine HC.out.mono ?_; rintro e w1 hp; obtain ⟨V, rfl, HRR⟩ := hp.ret; refine go_stop ?_)
  unfold Stop
  obtain ⟨⟨n, d0⟩, df, d1, hv, hpost⟩ := HRR.out.noted
  obtain ⟨w2, hw2⟩ : ∃ w2, w2 = w1.setCell ⟨a.cb, 0, none⟩ V := ⟨_, rfl⟩
  have HPO := Lib.hid hpost
  clear hpost hp HRR c0
  rcases hv with ⟨ho, rfl⟩ | ⟨s, f, x, y, ho, rfl⟩
  · rw [ho] at HPO
    clear ho
    go_wp2
    go_ret
    exact HPO.out
  · rw [ho] at HPO
    clear ho
    go_wp2
    go_ret
    exact HPO.out

set_option maxHeartbeats 2000000 in
theorem stepF_drop {X : List Nat} {w : World} {A : TA} {a : CA} {t' : Tr} {o : Out} {kd : Kd} {r : An} (p0 p1 p2 : Nat) (hb : CallB w a.cb (fn 94 [p0, p1, p2]) r)
    (hc : Calls Try.prog 94 #[pt p0, pt p1, pt p2] w (Post X w A a kd (fn 94 [p0, p1, p2]) t' o)) : Calls Try.prog 24 #[pt a.cb] w (StepPost X w A a kd t' o) := by
  have HC := Lib.hid hc
  unfold CallB clV fn at hb
  simp only [List.map_cons, List.map_nil] at hb
  obtain ⟨c0, _⟩ := cells5 hb
  have ef := eql_fn
  have en := eql_nil
  clear hc hb
  go_enter Try.func24, Try.ntmps24
  go_wp2_with (go_at_call 94; refine HC.out.mono ?_; rintro e w1 hp; obtain ⟨V, rfl, HRR⟩ := hp.ret; refine go_stop ?_)
  unfold Stop
  obtain ⟨⟨n, d0⟩, df, d1, hv, hpost⟩ := HRR.out.noted
  obtain ⟨w2, hw2⟩ : ∃ w2, w2 = w1.setCell ⟨a.cb, 0, none⟩ V := ⟨_, rfl⟩
  have HPO := Lib.hid hpost
  clear hpost hp HRR c0
  rcases hv with ⟨ho, rfl⟩ | ⟨s, f, x, y, ho, rfl⟩
  · rw [ho] at HPO
    clear ho
    go_wp2
    go_ret
    exact HPO.out
  · rw [ho] at HPO
    clear ho
    go_wp2
    go_ret
    exact HPO.out

set_option maxHeartbeats 2000000 in
theorem stepF_take {X : List Nat} {w : World} {A : TA} {a : CA} {t' : Tr} {o : Out} {kd : Kd} {r : An} (p0 p1 p2 p3 : Nat) (hb : CallB w a.cb (fn 79 [p0, p1, p2, p3]) r)
    (hc : Calls Try.prog 79 #[pt p0, pt p1, pt p2, pt p3] w (Post X w A a kd (fn 79 [p0, p1, p2, p3]) t' o)) : Calls Try.prog 24 #[pt a.cb] w (StepPost X w A a kd t' o) := by
  have HC := Lib.hid hc
  unfold CallB clV fn at hb
  simp only [List.map_cons, List.map_nil] at hb
  obtain ⟨c0, _⟩ := cells5 hb
  have ef := eql_fn
  have en := eql_nil
  clear hc hb
  go_enter Try.func24, Try.ntmps24
  go_wp2_with (go_at_call 79; refine HC.out.mono ?_; rintro e w1 hp; obtain ⟨V, rfl, HRR⟩ := hp.ret; refine go_stop ?_)
  unfold Stop
  obtain ⟨⟨n, d0⟩, df, d1, hv, hpost⟩ := HRR.out.noted
  obtain ⟨w2, hw2⟩ : ∃ w2, w2 = w1.setCell ⟨a.cb, 0, none⟩ V := ⟨_, rfl⟩
  have HPO := Lib.hid hpost
  clear hpost hp HRR c0
  rcases hv with ⟨ho, rfl⟩ | ⟨s, f, x, y, ho, rfl⟩
  · rw [ho] at HPO
    clear ho
    go_wp2
    go_ret
    exact HPO.out
  · rw [ho] at HPO
    clear ho
    go_wp2
    go_ret
    exact HPO.out

set_option maxHeartbeats 2000000 in
theorem stepF_end {X : List Nat} {w : World} {A : TA} {a : CA} {t' : Tr} {o : Out} {kd : Kd} {r : An} (p0 p1 p2 : Nat) (hb : CallB w a.cb (fn 91 [p0, p1, p2]) r)
    (hc : Calls Try.prog 91 #[pt p0, pt p1, pt p2] w (Post X w A a kd (fn 91 [p0, p1, p2]) t' o)) : Calls Try.prog 24 #[pt a.cb] w (StepPost X w A a kd t' o) := by
  have HC := Lib.hid hc
  unfold CallB clV fn at hb
  simp only [List.map_cons, List.map_nil] at hb
  obtain ⟨c0, _⟩ := cells5 hb
  have ef := eql_fn
  have en := eql_nil
  clear hc hb
  go_enter Try.func24, Try.ntmps24
  go_wp2_with (go_at_call 91; refine HC.out.mono ?_; rintro e w1 hp; obtain ⟨V, rfl, HRR⟩ := hp.ret; refine go_stop ?_)
  unfold Stop
  obtain ⟨⟨n, d0⟩, df, d1, hv, hpost⟩ := HRR.out.noted
  obtain ⟨w2, hw2⟩ : ∃ w2, w2 = w1.setCell ⟨a.cb, 0, none⟩ V := ⟨_, rfl⟩
  have HPO := Lib.hid hpost
  clear hpost hp HRR c0
  rcases hv with ⟨ho, rfl⟩ | ⟨s, f, x, y, ho, rfl⟩
  · rw [ho] at HPO
    clear ho
    go_wp2
    go_ret
    exact HPO.out
  · rw [ho] at HPO
    clear ho
    go_wp2
    go_ret
    exact HPO.out
end Go.Proofs.Ytmhiolhgofackaa
namespace Go.Proofs.Ytmhiolhgofackaa
open Go.RowKit
set_option linter.unusedVariables false
set_option linter.unusedSimpArgs false

theorem desc_sek1 (hok : SeekOk) {X : List Nat} {w : World} {A : TA} {a : CA} {t : Tr} {c : Cl} {N : Value} (h : Cf X w A a t c N) (hk : c.kd = .sek) (b : Br) (p0 p1 p2 p3 : Nat) (h0 : Va X w p0 96 (pt A.tb)) (h1 : w.heap[p1]? = some (.cells #[.int .i64 b.cell, .int .u64 b.first] 105 (0, 0)))
    (h2 : Va X w p2 107 (towV a .seek)) (h3 : Va X w p3 110 (leafV a .sek .seek)) (hl : t.ms.c.length ≤ 65536) (hn : t.ms.n ≤ 1000000000000) (hd : DescOk t c (t.kid b) .seek) :
    Calls Try.prog 68 #[pt p0, pt p1, pt p2, pt p3] w (Post X w A a .sek N (t.ask b.cell) (c.desc (t.ask b.cell) (t.kid b) .seek)) := absurd hok (by unfold SeekOk seekNo; decide)
theorem desc_sek2 (hok : SeekOk) {X : List Nat} {w : World} {A : TA} {a : CA} {t : Tr} {c : Cl} {N : Value} (h : Cf X w A a t c N) (hk : c.kd = .sek) (b : Br) (p0 p1 p2 p3 : Nat) (h0 : Va X w p0 96 (pt A.tb)) (h1 : w.heap[p1]? = some (.cells #[.int .i64 b.cell, .int .u64 b.first] 105 (0, 0)))
    (h2 : Va X w p2 107 (towV a .left)) (h3 : Va X w p3 110 (leafV a .sek .left)) (hl : t.ms.c.length ≤ 65536) (hn : t.ms.n ≤ 1000000000000) (hd : DescOk t c (t.kid b) .left) :
    Calls Try.prog 68 #[pt p0, pt p1, pt p2, pt p3] w (Post X w A a .sek N (t.ask b.cell) (c.desc (t.ask b.cell) (t.kid b) .left)) := absurd hok (by unfold SeekOk seekNo; decide)
theorem desc_rem1 (hok : RemOk) {X : List Nat} {w : World} {A : TA} {a : CA} {t : Tr} {c : Cl} {N : Value} (h : Cf X w A a t c N) (hk : c.kd = .rem) (b : Br) (p0 p1 p2 p3 : Nat) (h0 : Va X w p0 96 (pt A.tb)) (h1 : w.heap[p1]? = some (.cells #[.int .i64 b.cell, .int .u64 b.first] 105 (0, 0)))
    (h2 : Va X w p2 107 (towV a .way)) (h3 : Va X w p3 110 (leafV a .rem .way)) (hl : t.ms.c.length ≤ 65536) (hn : t.ms.n ≤ 1000000000000) (hd : DescOk t c (t.kid b) .way) :
    Calls Try.prog 68 #[pt p0, pt p1, pt p2, pt p3] w (Post X w A a .rem N (t.ask b.cell) (c.desc (t.ask b.cell) (t.kid b) .way)) := absurd hok (by unfold RemOk remNo; decide)
theorem down_rem1 (hok : RemOk) {X : List Nat} {w : World} {A : TA} {a : CA} {t : Tr} {c : Cl} {N : Value} (h : Cf X w A a t c N) (hk : c.kd = .rem) (p : Nat) (h0 : Va X w p 111 (pt a.wb)) (hl : t.ms.c.length ≤ 65536) (hn : t.ms.n ≤ 1000000000000)
    (hp : c.path ≠ []) (hlen : c.path.length ≤ 1000000000) (hno : NdOk t (c.up 0).node) (hd : DescOk t c (t.kid (t.toward (c.up 0).node c.key)) .way) :
    Calls Try.prog 86 #[pt p] w (Post X w A a .rem N (t.ask (t.toward (c.up 0).node c.key).cell) (if (t.nd (t.kid (t.toward (c.up 0).node c.key))).inner then (c.pass (t.kid (t.toward (c.up 0).node c.key)), some .look) else c.leaf t (t.kid (t.toward (c.up 0).node c.key)) .way)) := absurd hok (by unfold RemOk remNo; decide)
theorem end_toldr1 (hok : RemOk) {X : List Nat} {w : World} {A : TA} {a : CA} {t : Tr} {c : Cl} {N : Value} (h : Cf X w A a t c N) (hk : c.kd = .rem) (o : Nat) (l bl : Nat) (p0 p1 p2 : Nat) (h0 : Va X w p0 96 (pt A.tb)) (h1 : Va X w p1 115 (A.wp o))
    (h3 : Va X w p2 59 (fn 1000000 [a.b3, a.b1, bl])) (hl : t.ms.c.length ≤ 65536) (hn : t.ms.n ≤ 1000000000000) (ho : WkOk t o) (hws : t.ws.length ≤ 1000000000) (hbl : Va X w bl 45 (A.np l)) (hln : l < t.ns.length) :
    Calls Try.prog 91 #[pt p0, pt p1, pt p2] w (Post X w A a .rem N ((t.cas (t.word (t.wk o).at_) (packW (t.wk o).state o) (packW 0 o)).done o) (c.run t (.told l))) := absurd hok (by unfold RemOk remNo; decide)
theorem end_fail1 (hok : RemOk) {X : List Nat} {w : World} {A : TA} {a : CA} {t : Tr} {c : Cl} {N : Value} (h : Cf X w A a t c N) (hk : c.kd = .rem) (o : Nat) (p0 p1 p2 : Nat) (h0 : Va X w p0 96 (pt A.tb)) (h1 : Va X w p1 115 (A.wp o))
    (h3 : Va X w p2 59 (fn 1000000 [a.b4])) (hl : t.ms.c.length ≤ 65536) (hn : t.ms.n ≤ 1000000000000) (ho : WkOk t o) (hws : t.ws.length ≤ 1000000000) (hp : c.path ≠ []) (hpl : c.path.length ≤ 1000000000) :
    Calls Try.prog 91 #[pt p0, pt p1, pt p2] w (Post X w A a .rem N ((t.cas (t.word (t.wk o).at_) (packW (t.wk o).state o) (packW 0 o)).done o) (c.run t .fail)) := absurd hok (by unfold RemOk remNo; decide)
theorem bt_lose1 (hok : RemOk) {X : List Nat} {w : World} {A : TA} {a : CA} {t : Tr} {c : Cl} {V : Value} {l : Nat} (h : Cf X w A a t c V) (hs : StpAt X w A a c.kd V (.lose l)) (ok : StepOk t c (.lose l)) :
    Calls Try.prog 24 #[pt a.cb] w (StepPost X w A a c.kd (stepP t c (.lose l)).1 (stepP t c (.lose l)).2) := absurd hok (by unfold RemOk remNo; decide)
theorem bt_step {X : List Nat} {w : World} {A : TA} {a : CA} {t : Tr} {c : Cl} {V : Value} {s : Stp} (h : Cf X w A a t c V) (hs : StpAt X w A a c.kd V s) (hr : KdOk c.kd) (ok : StepOk t c s) (sm : Small t c) :
    Calls Try.prog 24 #[pt a.cb] w (StepPost X w A a c.kd (stepP t c s).1 (stepP t c s).2) := by
  obtain ⟨s1, s2, s3, s4⟩ := sm
  cases s with
  | desc b m =>
    obtain ⟨hm, hd⟩ := ok
    obtain ⟨p0, p1, p2, p3, rfl, v0, v1, v2, v3⟩ := hs
    refine stepF_desc p0 p1 p2 p3 h.call.cbk ?_
    cases hk : c.kd <;> cases m <;> simp only [hk, MdOk] at hm <;> rw [hk] at v3
    · exact desc_way_ins h hk b p0 p1 p2 p3 v0 v1 v2 v3 s1 s2 hd
    · exact desc_rem1 (hr hk) h hk b p0 p1 p2 p3 v0 v1 v2 v3 s1 s2 hd
    · exact desc_find h hk b p0 p1 p2 p3 v0 v1 v2 v3 s1 s2 hd
    · exact desc_sek1 hm h hk b p0 p1 p2 p3 v0 v1 v2 v3 s1 s2 hd
    · exact desc_sek2 hm h hk b p0 p1 p2 p3 v0 v1 v2 v3 s1 s2 hd
  | beg =>
    obtain ⟨hk, hn, hd⟩ := ok
    have hv : V = begV a := hs
    subst hv
    refine stepF_beg a.b0 a.b5 a.b4 h.call.cbk ?_
    rw [hk]
    exact step_beg h hk hn s1 s2 hd
  | look =>
    obtain ⟨hk, hp, hn, hu, hh⟩ := ok
    obtain ⟨p, rfl, v⟩ := hs
    exact stepF_look p h.call.cbk (step_look h rfl hk p v s1 s2 (by omega) hp s4 hn hu hh)
  | down =>
    obtain ⟨hk, hp, hn, hd⟩ := ok
    obtain ⟨p, rfl, v⟩ := hs
    refine stepF_down p h.call.cbk ?_
    rcases hk with hk | hk
    · rw [hk]; exact step_down_ins h hk p v s1 s2 hp s4 hn hd
    · rw [hk]; exact down_rem1 (hr hk) h hk p v s1 s2 hp s4 hn hd
  | grow l =>
    obtain ⟨hk, hg⟩ := ok
    obtain ⟨b, rfl, v⟩ := hs
    refine stepF_grow a.b0 a.b6 a.b1 a.b4 b a.b2 a.b3 h.call.cbk ?_
    rw [hk]
    exact step_grow h hk l b v hg
  | lose l => exact bt_lose1 (hr ok.1) h hs ok
  | mark o th fl =>
    obtain ⟨o1, o2, hn⟩ := ok
    obtain ⟨p0, p1, p2, p3, T, F, rfl, v0, v1, v2, v3, hT, hF⟩ := hs
    exact stepF_mark p1 p0 p2 p3 h.call.cbk (step_mark h rfl o th fl T F p0 p1 p2 p3 v0 v1 v2 v3 hT hF s1 s2 o1 o2 hn)
  | drop o th =>
    obtain ⟨o1, o2, hn, hkid⟩ := ok
    obtain ⟨p0, p1, p2, T, rfl, v0, v1, v2, hT⟩ := hs
    exact stepF_drop p0 p1 p2 h.call.cbk (step_drop h rfl o th T p0 p1 p2 v0 v1 v2 hT s1 s2 o1 o2 hn hkid)
  | take o nx th =>
    obtain ⟨ho, hnx⟩ := ok
    obtain ⟨p0, p1, p2, p3, T, rfl, v0, v1, v2, v3, hT⟩ := hs
    exact stepF_take p0 p1 p2 p3 h.call.cbk (step_take h rfl o nx th T p0 p1 p2 p3 v0 v1 v2 v3 hT s1 s2 ho hnx)
  | fin o th =>
    obtain ⟨ho, hth⟩ := ok
    obtain ⟨p0, p1, p2, T, rfl, v0, v1, v2, hT⟩ := hs
    refine stepF_end p0 p1 p2 h.call.cbk ?_
    cases th with
    | told l =>
      rcases hth with hk | ⟨hk, hl⟩
      · rw [hk] at hT ⊢
        have hT' : T = fn 58 [a.b3, a.b1, a.b2] := hT
        subst hT'
        exact step_end_toldi h hk o l p0 p1 p2 v0 v1 v2 s1 s2 ho (by omega)
      · rw [hk] at hT ⊢
        obtain ⟨bl, rfl, vl⟩ := hT
        exact end_toldr1 (hr hk) h hk o l bl p0 p1 p2 v0 v1 v2 s1 s2 ho (by omega) vl hl
    | look =>
      have hT' : T = .func (.func 78) #[pt a.wb] #[] := hT
      subst hT'
      exact step_end_look h rfl o p0 p1 p2 v0 v1 v2 s1 s2 ho (by omega)
    | fail =>
      obtain ⟨hk, hp⟩ := hth
      have hT' : T = fn 1000000 [a.b4] := hT
      subst hT'
      rw [hk]
      exact end_fail1 (hr hk) h hk o p0 p1 p2 v0 v1 v2 s1 s2 ho (by omega) hp s4
/-- a call that is done, or nil -/
theorem step_done {w : World} {a : CA} {r : An} (hb : CallB w a.cb .nilFunc r) : Calls Try.prog 24 #[pt a.cb] w fun e w' => e = .returned (.bool true) ∧ w = w' := by
  unfold CallB clV at hb
  obtain ⟨c0, _⟩ := cells5 hb
  have en := eql_nil
  clear hb
  go_enter Try.func24, Try.ntmps24
  go_wp2
  go_ret
  exact ⟨rfl, rfl⟩
theorem ans_done {w : World} {a : CA} {r : An} (hb : CallB w a.cb .nilFunc r) : Calls Try.prog 25 #[pt a.cb] w fun e w' => e = .returned (.tuple #[r.agg, .bool true]) ∧ Fr [] w w' := by
  have hlt := lt_of_block hb
  unfold CallB clV at hb
  have hf : Fr [] w (w.alloc (.cells #[.bool false, .string ⟨#[]⟩, .int .u64 0, .int .i64 0] 71)) := (Fr.refl [] w).alloc _
  obtain ⟨c0, c1, c2, c3, c4, _⟩ := cells5 (hf.keep hb (by simp))
  obtain ⟨d0, d1, d2, d3, df⟩ := cells4 (new_block w (.cells #[.bool false, .string ⟨#[]⟩, .int .u64 0, .int .i64 0] 71))
  have f0 := df 0
  have f1 := df 1
  have f2 := df 2
  have f3 := df 3
  have n1 : ¬ a.cb = w.heap.size := by omega
  have n2 : ¬ w.heap.size = a.cb := by omega
  have ef := neq_fn
  have en := neq_nil
  have HF := Lib.hid hf
  clear hb hf df
  go_enter Try.func25, Try.ntmps25
  go_wp2
  refine bodyPost_ret (v := .tuple #[.agg #[.bool r.ok, .string r.key, .int .u64 r.val, .int .i64 r.err], .bool true]) (by simp [results, Try.results25, go_sem, *]) rfl ⟨rfl, ?_⟩
  exact (Fr.refl [] w).alloc _
theorem ans_not {w : World} {a : CA} {r : An} {f : Fn} {x y : Array Value} (hb : CallB w a.cb (.func f x y) r) : Calls Try.prog 25 #[pt a.cb] w fun e w' => e = .returned (.tuple #[An.no.agg, .bool false]) ∧ Fr [] w w' := by
  have hlt := lt_of_block hb
  unfold CallB clV at hb
  have hf : Fr [] w (w.alloc (.cells #[.bool false, .string ⟨#[]⟩, .int .u64 0, .int .i64 0] 71)) := (Fr.refl [] w).alloc _
  obtain ⟨c0, c1, c2, c3, c4, _⟩ := cells5 (hf.keep hb (by simp))
  obtain ⟨d0, d1, d2, d3, df⟩ := cells4 (new_block w (.cells #[.bool false, .string ⟨#[]⟩, .int .u64 0, .int .i64 0] 71))
  have f0 := df 0
  have f1 := df 1
  have f2 := df 2
  have f3 := df 3
  have n1 : ¬ a.cb = w.heap.size := by omega
  have n2 : ¬ w.heap.size = a.cb := by omega
  have ef := neq_fn
  have en := neq_nil
  have HF := Lib.hid hf
  clear hb hf df
  go_enter Try.func25, Try.ntmps25
  go_wp2
  refine bodyPost_ret (v := .tuple #[.agg #[.bool false, .string ⟨#[]⟩, .int .u64 0, .int .i64 0], .bool false]) (by simp [results, Try.results25, go_sem, *]) rfl ⟨rfl, ?_⟩
  exact (Fr.refl [] w).alloc _
end Go.Proofs.Ytmhiolhgofackaa
