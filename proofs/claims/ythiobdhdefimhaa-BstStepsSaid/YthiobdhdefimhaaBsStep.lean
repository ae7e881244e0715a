/- PACKAGE bst: Step (written by bst_step.py) -/
import Derived.Test.YthiobdhdefimhaaBsLos
import Derived.Laws.EntriesVeiled
namespace Go.Proofs.Ythiobdhdefimhaa
open Go.RowKit
set_option linter.unusedVariables false
set_option linter.unusedSimpArgs false

def MdOk : Kd → Md → Prop
  | .fnd, .find => True
  | .sek, .seek => True
  | .sek, .left => True
  | .ins, .way => True
  | .rem, .way => True
  | _, _ => False
def ThOk (t : Tr) (c : Cl) : Th → Prop
  | .told l => c.kd = .ins ∨ (c.kd = .rem ∧ l < t.ns.length)
  | .look => True
  | .fail => c.kd = .rem ∧ c.path ≠ []
/-- what a step wants -/
def StepOk (t : Tr) (c : Cl) : Stp → Prop
  | .desc b m => MdOk c.kd m ∧ DescOk t c (t.kid b) m
  | .beg => c.kd = .ins ∧ NdOk t 2 ∧ DescOk t ({ c with full := !t.room, path := [⟨2, false, 0⟩] } : Cl) (t.kid (t.toward 2 c.key)) .way
  | .look => (c.kd = .ins ∨ c.kd = .rem) ∧ c.path ≠ [] ∧ NdOk t (c.up 0).node ∧ IsU (t.ms.at (t.word (c.up 0).node)) ∧ HlpOk t (t.ms.at (t.word (c.up 0).node))
  | .down => (c.kd = .ins ∨ c.kd = .rem) ∧ c.path ≠ [] ∧ NdOk t (c.up 0).node ∧ DescOk t c (t.kid (t.toward (c.up 0).node c.key)) .way
  | .grow l => c.kd = .ins ∧ GrowOk t c l
  | .lose l => c.kd = .rem ∧ LoseOk t c l
  | .mark o th fl => 1 ≤ o ∧ o ≤ t.ws.length ∧ NdOk t (t.wk o).old
  | .drop o th => 1 ≤ o ∧ o ≤ t.ws.length ∧ NdOk t (t.wk o).old ∧ t.kid (t.beside (t.wk o).old (t.wk o).key) < t.ns.length
  | .take o nx th => WkOk t o ∧ nx < t.ns.length
  | .fin o th => WkOk t o ∧ ThOk t c th
structure Small (t : Tr) (c : Cl) : Prop where
  cells : t.ms.c.length ≤ 65536
  asked : t.ms.n ≤ 1000000000000
  ws : t.ws.length ≤ 900000000
  path : c.path.length ≤ 1000000000
/-- what a Step leaves -/
def StepPost (X : List Nat) (w : World) (A : TA) (a : CA) (kd : Kd) (t' : Tr) (o : Out) (e : Ending) (w' : World) : Prop :=
  ∃ A' a' V, e = .returned (.bool o.2.isNone) ∧ Cf X w' A' a' t' o.1 V ∧ OutV X w' A' a' kd V o.2 ∧ o.1.kd = kd ∧ Ext A A' ∧ (∃ pv, a' = { a with pv := pv }) ∧ Fr (Both A a kd) w w' ∧ ∀ x ∈ Both A' a' kd, x ∈ Both A a kd ∨ w.heap.size ≤ x
theorem StpAt.form {X : List Nat} {w : World} {A : TA} {a : CA} {kd : Kd} {V : Value} {s : Stp} (h : StpAt X w A a kd V s) : ∃ f x y, V = .func f x y := by
  cases s with
  | desc b m => obtain ⟨_, _, _, _, h, _⟩ := h; exact ⟨_, _, _, h⟩
  | beg => exact ⟨_, _, _, h⟩
  | look => obtain ⟨_, h, _⟩ := h; exact ⟨_, _, _, h⟩
  | down => obtain ⟨_, h, _⟩ := h; exact ⟨_, _, _, h⟩
  | grow l => obtain ⟨_, h, _⟩ := h; exact ⟨_, _, _, h⟩
  | lose l => obtain ⟨_, h, _⟩ := h; exact ⟨_, _, _, h⟩
  | mark o th fl => obtain ⟨_, _, _, _, _, _, h, _⟩ := h; exact ⟨_, _, _, h⟩
  | drop o th => obtain ⟨_, _, _, _, h, _⟩ := h; exact ⟨_, _, _, h⟩
  | take o n th => obtain ⟨_, _, _, _, _, h, _⟩ := h; exact ⟨_, _, _, h⟩
  | fin o th => obtain ⟨_, _, _, _, h, _⟩ := h; exact ⟨_, _, _, h⟩
theorem CallM.setN {X : List Nat} {w : World} {A : TA} {a : CA} {c : Cl} {N : Value} (h : CallM X w A a c N) (V : Value) : CallM X (w.setCell ⟨a.cb, 0, none⟩ V) A a c V ∧ Fr [a.cb] w (w.setCell ⟨a.cb, 0, none⟩ V) := by
  have hf : Fr [a.cb] w (w.setCell ⟨a.cb, 0, none⟩ V) := (Fr.refl _ w).setCell (Or.inl (by simp)) _
  have hb : CallB (w.setCell ⟨a.cb, 0, none⟩ V) a.cb V c.ans := by
    have := set_block h.cbk 0 V
    simpa [CallB, clV] using this
  have hi : Iv X w (w.setCell ⟨a.cb, 0, none⟩ V) := hf.iv (mut_one h.cbk (imm_ty (by decide) (by decide)))
  have ne : ∀ k cur T f, w.heap[k]? = some (.cells cur T f) → T ≠ 85 → k ∉ [a.cb] := by
    intro k cur T f hk hT hm
    simp only [List.mem_singleton] at hm
    subst hm
    have := h.cbk
    unfold CallB at this
    rw [hk] at this; simp only [Option.some.injEq, Obj.cells.injEq] at this
    exact hT this.2.1
  refine ⟨⟨h.ctx.keep hi, hb, fun e => ?_, fun e => hf.keep (h.full e) (ne _ _ _ _ (h.full e) (by decide)), fun e => ⟨hf.keep (h.over e).1 (ne _ _ _ _ (h.over e).1 (by decide)), (h.over e).2⟩⟩, hf⟩
  obtain ⟨h1, h2⟩ := h.way e
  refine ⟨hf.keep h1 (ne _ _ _ _ h1 (by decide)), ownsRow_fr hf h2 (fun k hk => ?_)⟩
  rcases h2.2 with ⟨hv, _⟩ | ⟨g, cap, cur, hv, _, hh, _⟩
  · rw [hv] at hk; cases hk
  · rw [hv] at hk; cases hk
    exact ne _ _ _ _ hh (by decide)
/-- the result is noted -/
theorem Post.noted {X : List Nat} {w w' : World} {A : TA} {a : CA} {kd : Kd} {N V : Value} {t' : Tr} {o : Out} (h : Post X w A a kd N t' o (.returned V) w') : (∃ n, w'.cell? ⟨a.cb, 0, none⟩ = some n) ∧ w'.frozen? ⟨a.cb, 0, none⟩ = false ∧ (w'.setCell ⟨a.cb, 0, none⟩ V).cell? ⟨a.cb, 0, none⟩ = some V ∧ ((o.2 = none ∧ V = .nilFunc) ∨ (∃ s f x y, o.2 = some s ∧ V = .func f x y)) ∧
    StepPost X w A a kd t' o (.returned (.bool o.2.isNone)) (w'.setCell ⟨a.cb, 0, none⟩ V) := by
  obtain ⟨A', a', V', hV, hcf, hov, hk, hext, ⟨pv, rfl⟩, hfr, hfn⟩ := h
  cases hV
  have hb := hcf.call.cbk
  obtain ⟨hs, hf⟩ := hcf.call.setN V
  have hcb : a.cb ∉ A'.foot := hcf.call.sep hcf.tree _ (CA.cb_in _ _)
  have hi : Iv X w' (w'.setCell ⟨a.cb, 0, none⟩ V) := hf.iv (mut_one hb (imm_ty (by decide) (by decide)))
  refine ⟨⟨_, by simpa [clV] using cell_block hb 0⟩, free_block hb 0, by simpa [CallB, clV] using cell_block hs.cbk 0, ?_, A', _, V, rfl, ⟨hcf.tree.keep hf hi (fun k hk' hm => ?_), hs, fun x hx => Nat.lt_of_lt_of_le (hcf.xs x hx) hf.size⟩, ?_, hk, hext, ⟨pv, rfl⟩, hfr.trans hf (fun x hx => ?_), hfn⟩
  · cases ho : o.2 with
    | none => rw [ho] at hov; exact Or.inl ⟨rfl, hov⟩
    | some s =>
      rw [ho] at hov
      obtain ⟨f, x, y, hv⟩ := StpAt.form hov
      exact Or.inr ⟨s, f, x, y, rfl, hv⟩
  · simp only [List.mem_singleton] at hm
    subst hm
    exact hcb hk'
  · cases ho : o.2 with
    | none => rw [ho] at hov; exact hov
    | some s => rw [ho] at hov; exact StpAt.keep hi hov
  · simp only [List.mem_singleton] at hx
    subst hx
    exact Or.inl (List.mem_append_right _ (CA.cb_in _ _))
theorem eql_fn (f : Fn) (x y : Array Value) (w : World) : (binOp .eql 81 (.func f x y) .nilFunc).run Try.prog w = .ok (.bool false) w := by kernel_rfl
theorem eql_nil (w : World) : (binOp .eql 81 .nilFunc .nilFunc).run Try.prog w = .ok (.bool true) w := by kernel_rfl
theorem neq_fn (f : Fn) (x y : Array Value) (w : World) : (binOp .neq 81 (.func f x y) .nilFunc).run Try.prog w = .ok (.bool true) w := by kernel_rfl
theorem neq_nil (w : World) : (binOp .neq 81 .nilFunc .nilFunc).run Try.prog w = .ok (.bool false) w := by kernel_rfl

set_option maxHeartbeats 2000000 in
theorem stepF_desc {X : List Nat} {w : World} {A : TA} {a : CA} {t' : Tr} {o : Out} {kd : Kd} {r : An} (p0 p1 p2 p3 : Nat) (hb : CallB w a.cb (fn 74 [p0, p1, p2, p3]) r)
    (hc : Calls Try.prog 74 #[pt p0, pt p1, pt p2, pt p3] w (Post X w A a kd (fn 74 [p0, p1, p2, p3]) t' o)) : Calls Try.prog 20 #[pt a.cb] w (StepPost X w A a kd t' o) := by
  have HC := Lib.hid hc
  unfold CallB clV fn at hb
  simp only [List.map_cons, List.map_nil] at hb
  obtain ⟨c0, _⟩ := cells5 hb
  have ef := eql_fn
  have en := eql_nil
  clear hc hb
  go_enter Try.func20, Try.ntmps20
  go_wp2_with (go_at_call 74; refine HC.out.mono ?_; rintro e w1 hp; obtain ⟨V, rfl, HRR⟩ := hp.ret; refine go_stop ?_)
  unfold Stop
  obtain ⟨⟨n, d0⟩, df, d1, hv, hpost⟩ := HRR.out.noted
  obtain ⟨w2, hw2⟩ : ∃ w2, w2 = w1.setCell ⟨a.cb, 0, none⟩ V := ⟨_, rfl⟩
  have HPO := Lib.hid hpost
  clear hpost hp HRR c0
  rcases hv with ⟨ho, rfl⟩ | ⟨s, f, x, y, ho, rfl⟩
  · rw [ho] at HPO
    clear ho
    go_wp2
    go_ret
    exact HPO.out
  · rw [ho] at HPO
    clear ho
    go_wp2
    go_ret
    exact HPO.out

set_option maxHeartbeats 2000000 in
theorem stepF_beg {X : List Nat} {w : World} {A : TA} {a : CA} {t' : Tr} {o : Out} {kd : Kd} {r : An} (p0 p1 p2 : Nat) (hb : CallB w a.cb (fn 51 [p0, p1, p2]) r)
    (hc : Calls Try.prog 51 #[pt p0, pt p1, pt p2] w (Post X w A a kd (fn 51 [p0, p1, p2]) t' o)) : Calls Try.prog 20 #[pt a.cb] w (StepPost X w A a kd t' o) := by
  have HC := Lib.hid hc
  unfold CallB clV fn at hb
  simp only [List.map_cons, List.map_nil] at hb
  obtain ⟨c0, _⟩ := cells5 hb
  have ef := eql_fn
  have en := eql_nil
  clear hc hb
  go_enter Try.func20, Try.ntmps20
  go_wp2_with (go_at_call 51; refine HC.out.mono ?_; rintro e w1 hp; obtain ⟨V, rfl, HRR⟩ := hp.ret; refine go_stop ?_)
  unfold Stop
  obtain ⟨⟨n, d0⟩, df, d1, hv, hpost⟩ := HRR.out.noted
  obtain ⟨w2, hw2⟩ : ∃ w2, w2 = w1.setCell ⟨a.cb, 0, none⟩ V := ⟨_, rfl⟩
  have HPO := Lib.hid hpost
  clear hpost hp HRR c0
  rcases hv with ⟨ho, rfl⟩ | ⟨s, f, x, y, ho, rfl⟩
  · rw [ho] at HPO
    clear ho
    go_wp2
    go_ret
    exact HPO.out
  · rw [ho] at HPO
    clear ho
    go_wp2
    go_ret
    exact HPO.out

set_option maxHeartbeats 2000000 in
theorem stepF_look {X : List Nat} {w : World} {A : TA} {a : CA} {t' : Tr} {o : Out} {kd : Kd} {r : An} (p0 : Nat) (hb : CallB w a.cb (fn 95 [p0]) r)
    (hc : Calls Try.prog 95 #[pt p0] w (Post X w A a kd (fn 95 [p0]) t' o)) : Calls Try.prog 20 #[pt a.cb] w (StepPost X w A a kd t' o) := by
  have HC := Lib.hid hc
  unfold CallB clV fn at hb
  simp only [List.map_cons, List.map_nil] at hb
  obtain ⟨c0, _⟩ := cells5 hb
  have ef := eql_fn
  have en := eql_nil
  clear hc hb
  go_enter Try.func20, Try.ntmps20
  go_wp2_with (go_at_call 95; refine HC.out.mono ?_; rintro e w1 hp; obtain ⟨V, rfl, HRR⟩ := hp.ret; refine go_stop ?_)
  unfold Stop
  obtain ⟨⟨n, d0⟩, df, d1, hv, hpost⟩ := HRR.out.noted
  obtain ⟨w2, hw2⟩ : ∃ w2, w2 = w1.setCell ⟨a.cb, 0, none⟩ V := ⟨_, rfl⟩
  have HPO := Lib.hid hpost
  clear hpost hp HRR c0
  rcases hv with ⟨ho, rfl⟩ | ⟨s, f, x, y, ho, rfl⟩
  · rw [ho] at HPO
    clear ho
    go_wp2
    go_ret
    exact HPO.out
  · rw [ho] at HPO
    clear ho
    go_wp2
    go_ret
    exact HPO.out

set_option maxHeartbeats 2000000 in
theorem stepF_down {X : List Nat} {w : World} {A : TA} {a : CA} {t' : Tr} {o : Out} {kd : Kd} {r : An} (p0 : Nat) (hb : CallB w a.cb (fn 93 [p0]) r)
    (hc : Calls Try.prog 93 #[pt p0] w (Post X w A a kd (fn 93 [p0]) t' o)) : Calls Try.prog 20 #[pt a.cb] w (StepPost X w A a kd t' o) := by
  have HC := Lib.hid hc
  unfold CallB clV fn at hb
  simp only [List.map_cons, List.map_nil] at hb
  obtain ⟨c0, _⟩ := cells5 hb
  have ef := eql_fn
  have en := eql_nil
  clear hc hb
  go_enter Try.func20, Try.ntmps20
  go_wp2_with (go_at_call 93; refine HC.out.mono ?_; rintro e w1 hp; obtain ⟨V, rfl, HRR⟩ := hp.ret; refine go_stop ?_)
  unfold Stop
  obtain ⟨⟨n, d0⟩, df, d1, hv, hpost⟩ := HRR.out.noted
  obtain ⟨w2, hw2⟩ : ∃ w2, w2 = w1.setCell ⟨a.cb, 0, none⟩ V := ⟨_, rfl⟩
  have HPO := Lib.hid hpost
  clear hpost hp HRR c0
  rcases hv with ⟨ho, rfl⟩ | ⟨s, f, x, y, ho, rfl⟩
  · rw [ho] at HPO
    clear ho
    go_wp2
    go_ret
    exact HPO.out
  · rw [ho] at HPO
    clear ho
    go_wp2
    go_ret
    exact HPO.out

set_option maxHeartbeats 2000000 in
theorem stepF_grow {X : List Nat} {w : World} {A : TA} {a : CA} {t' : Tr} {o : Out} {kd : Kd} {r : An} (p0 p1 p2 p3 p4 p5 p6 : Nat) (hb : CallB w a.cb (fn 55 [p0, p1, p2, p3, p4, p5, p6]) r)
    (hc : Calls Try.prog 55 #[pt p0, pt p1, pt p2, pt p3, pt p4, pt p5, pt p6] w (Post X w A a kd (fn 55 [p0, p1, p2, p3, p4, p5, p6]) t' o)) : Calls Try.prog 20 #[pt a.cb] w (StepPost X w A a kd t' o) := by
  have HC := Lib.hid hc
  unfold CallB clV fn at hb
  simp only [List.map_cons, List.map_nil] at hb
  obtain ⟨c0, _⟩ := cells5 hb
  have ef := eql_fn
  have en := eql_nil
  clear hc hb
  go_enter Try.func20, Try.ntmps20
  go_wp2_with (go_at_call 55; refine HC.out.mono ?_; rintro e w1 hp; obtain ⟨V, rfl, HRR⟩ := hp.ret; refine go_stop ?_)
  unfold Stop
  obtain ⟨⟨n, d0⟩, df, d1, hv, hpost⟩ := HRR.out.noted
  obtain ⟨w2, hw2⟩ : ∃ w2, w2 = w1.setCell ⟨a.cb, 0, none⟩ V := ⟨_, rfl⟩
  have HPO := Lib.hid hpost
  clear hpost hp HRR c0
  rcases hv with ⟨ho, rfl⟩ | ⟨s, f, x, y, ho, rfl⟩
  · rw [ho] at HPO
    clear ho
    go_wp2
    go_ret
    exact HPO.out
  · rw [ho] at HPO
    clear ho
    go_wp2
    go_ret
    exact HPO.out

set_option maxHeartbeats 2000000 in
theorem stepF_lose {X : List Nat} {w : World} {A : TA} {a : CA} {t' : Tr} {o : Out} {kd : Kd} {r : An} (p0 p1 p2 p3 p4 : Nat) (hb : CallB w a.cb (fn 67 [p0, p1, p2, p3, p4]) r)
    (hc : Calls Try.prog 67 #[pt p0, pt p1, pt p2, pt p3, pt p4] w (Post X w A a kd (fn 67 [p0, p1, p2, p3, p4]) t' o)) : Calls Try.prog 20 #[pt a.cb] w (StepPost X w A a kd t' o) := by
  have HC := Lib.hid hc
  unfold CallB clV fn at hb
  simp only [List.map_cons, List.map_nil] at hb
  obtain ⟨c0, _⟩ := cells5 hb
  have ef := eql_fn
  have en := eql_nil
  clear hc hb
  go_enter Try.func20, Try.ntmps20
  go_wp2_with (go_at_call 67; refine HC.out.mono ?_; rintro e w1 hp; obtain ⟨V, rfl, HRR⟩ := hp.ret; refine go_stop ?_)
  unfold Stop
  obtain ⟨⟨n, d0⟩, df, d1, hv, hpost⟩ := HRR.out.noted
  obtain ⟨w2, hw2⟩ : ∃ w2, w2 = w1.setCell ⟨a.cb, 0, none⟩ V := ⟨_, rfl⟩
  have HPO := Lib.hid hpost
  clear hpost hp HRR c0
  rcases hv with ⟨ho, rfl⟩ | ⟨s, f, x, y, ho, rfl⟩
  · rw [ho] at HPO
    clear ho
    go_wp2
    go_ret
    exact HPO.out
  · rw [ho] at HPO
    clear ho
    go_wp2
    go_ret
    exact HPO.out

set_option maxHeartbeats 2000000 in
theorem stepF_mark {X : List Nat} {w : World} {A : TA} {a : CA} {t' : Tr} {o : Out} {kd : Kd} {r : An} (p0 p1 p2 p3 : Nat) (hb : CallB w a.cb (fn 88 [p0, p1, p2, p3]) r)
    (hc : Calls Try.prog 88 #[pt p0, pt p1, pt p2, pt p3] w (Post X w A a kd (fn 88 [p0, p1, p2, p3]) t' o)) : Calls Try.prog 20 #[pt a.cb] w (StepPost X w A a kd t' o) := by
  have HC := Lib.hid hc
  unfold CallB clV fn at hb
  simp only [List.map_cons, List.map_nil] at hb
  obtain ⟨c0, _⟩ := cells5 hb
  have ef := eql_fn
  have en := eql_nil
  clear hc hb
  go_enter Try.func20, Try.ntmps20
  go_wp2_with (go_at_call 88; refine HC.out.mono ?_; rintro e w1 hp; obtain ⟨V, rfl, HRR⟩ := hp.ret; refine go_stop ?_)
  unfold Stop
  obtain ⟨⟨n, d0⟩, df, d1, hv, hpost⟩ := HRR.out.noted
  obtain ⟨w2, hw2⟩ : ∃ w2, w2 = w1.setCell ⟨a.cb, 0, none⟩ V := ⟨_, rfl⟩
  have HPO := Lib.hid hpost
  clear hpost hp HRR c0
  rcases hv with ⟨ho, rfl⟩ | ⟨s, f, x, y, ho, rfl⟩
  · rw [ho] at HPO
    clear ho
    go_wp2
    go_ret
    exact HPO.out
  · rw [ho] at HPO
    clear ho
    go_wp2
    go_ret
    exact HPO.out

set_option maxHeartbeats 2000000 in
theorem stepF_drop {X : List Nat} {w : World} {A : TA} {a : CA} {t' : Tr} {o : Out} {kd : Kd} {r : An} (p0 p1 p2 : Nat) (hb : CallB w a.cb (fn 97 [p0, p1, p2]) r)
    (hc : Calls Try.prog 97 #[pt p0, pt p1, pt p2] w (Post X w A a kd (fn 97 [p0, p1, p2]) t' o)) : Calls Try.prog 20 #[pt a.cb] w (StepPost X w A a kd t' o) := by
  have HC := Lib.hid hc
  unfold CallB clV fn at hb
  simp only [List.map_cons, List.map_nil] at hb
  obtain ⟨c0, _⟩ := cells5 hb
  have ef := eql_fn
  have en := eql_nil
  clear hc hb
  go_enter Try.func20, Try.ntmps20
  go_wp2_with (go_at_call 97; refine HC.out.mono ?_; rintro e w1 hp; obtain ⟨V, rfl, HRR⟩ := hp.ret; refine go_stop ?_)
  unfold Stop
  obtain ⟨⟨n, d0⟩, df, d1, hv, hpost⟩ := HRR.out.noted
  obtain ⟨w2, hw2⟩ : ∃ w2, w2 = w1.setCell ⟨a.cb, 0, none⟩ V := ⟨_, rfl⟩
  have HPO := Lib.hid hpost
  clear hpost hp HRR c0
  rcases hv with ⟨ho, rfl⟩ | ⟨s, f, x, y, ho, rfl⟩
  · rw [ho] at HPO
    clear ho
    go_wp2
    go_ret
    exact HPO.out
  · rw [ho] at HPO
    clear ho
    go_wp2
    go_ret
    exact HPO.out

set_option maxHeartbeats 2000000 in
theorem stepF_take {X : List Nat} {w : World} {A : TA} {a : CA} {t' : Tr} {o : Out} {kd : Kd} {r : An} (p0 p1 p2 p3 : Nat) (hb : CallB w a.cb (fn 85 [p0, p1, p2, p3]) r)
    (hc : Calls Try.prog 85 #[pt p0, pt p1, pt p2, pt p3] w (Post X w A a kd (fn 85 [p0, p1, p2, p3]) t' o)) : Calls Try.prog 20 #[pt a.cb] w (StepPost X w A a kd t' o) := by
  have HC := Lib.hid hc
  unfold CallB clV fn at hb
  simp only [List.map_cons, List.map_nil] at hb
  obtain ⟨c0, _⟩ := cells5 hb
  have ef := eql_fn
  have en := eql_nil
  clear hc hb
  go_enter Try.func20, Try.ntmps20
  go_wp2_with (go_at_call 85; refine HC.out.mono ?_; rintro e w1 hp; obtain ⟨V, rfl, HRR⟩ := hp.ret; refine go_stop ?_)
  unfold Stop
  obtain ⟨⟨n, d0⟩, df, d1, hv, hpost⟩ := HRR.out.noted
  obtain ⟨w2, hw2⟩ : ∃ w2, w2 = w1.setCell ⟨a.cb, 0, none⟩ V := ⟨_, rfl⟩
  have HPO := Lib.hid hpost
  clear hpost hp HRR c0
  rcases hv with ⟨ho, rfl⟩ | ⟨s, f, x, y, ho, rfl⟩
  · rw [ho] at HPO
    clear ho
    go_wp2
    go_ret
    exact HPO.out
  · rw [ho] at HPO
    clear ho
    go_wp2
    go_ret
    exact HPO.out

set_option maxHeartbeats 2000000 in
theorem stepF_end {X : List Nat} {w : World} {A : TA} {a : CA} {t' : Tr} {o : Out} {kd : Kd} {r : An} (p0 p1 p2 : Nat) (hb : CallB w a.cb (fn 96 [p0, p1, p2]) r)
    (hc : Calls Try.prog 96 #[pt p0, pt p1, pt p2] w (Post X w A a kd (fn 96 [p0, p1, p2]) t' o)) : Calls Try.prog 20 #[pt a.cb] w (StepPost X w A a kd t' o) := by
  have HC := Lib.hid hc
  unfold CallB clV fn at hb
  simp only [List.map_cons, List.map_nil] at hb
  obtain ⟨c0, _⟩ := cells5 hb
  have ef := eql_fn
  have en := eql_nil
  clear hc hb
  go_enter Try.func20, Try.ntmps20
  go_wp2_with (go_at_call 96; refine HC.out.mono ?_; rintro e w1 hp; obtain ⟨V, rfl, HRR⟩ := hp.ret; refine go_stop ?_)
  unfold Stop
  obtain ⟨⟨n, d0⟩, df, d1, hv, hpost⟩ := HRR.out.noted
  obtain ⟨w2, hw2⟩ : ∃ w2, w2 = w1.setCell ⟨a.cb, 0, none⟩ V := ⟨_, rfl⟩
  have HPO := Lib.hid hpost
  clear hpost hp HRR c0
  rcases hv with ⟨ho, rfl⟩ | ⟨s, f, x, y, ho, rfl⟩
  · rw [ho] at HPO
    clear ho
    go_wp2
    go_ret
    exact HPO.out
  · rw [ho] at HPO
    clear ho
    go_wp2
    go_ret
    exact HPO.out
end Go.Proofs.Ythiobdhdefimhaa
