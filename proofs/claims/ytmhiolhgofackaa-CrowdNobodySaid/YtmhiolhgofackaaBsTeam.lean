/- PACKAGE bst: calls beside each other, each at a step of its own -/
import Derived.Test.YtmhiolhgofackaaBsMine
namespace Go.Proofs.Ytmhiolhgofackaa
open Go.RowKit
set_option linter.unusedVariables false
set_option linter.unusedSimpArgs false

/-! a block more that a call may change -/
section
variable {X : List Nat} {w : World} {A : TA} {a : CA} {kd : Kd} {y : Nat}
theorem Va.wide {b : Nat} {T : TypeId} {v : Value} (h : Va X w b T v) (hy : w.heap.size ≤ y) : Va (y :: X) w b T v := ⟨h.blk, fun hm => by
  rcases List.mem_cons.1 hm with e | e
  · have := h.lt; omega
  · exact h.out e, h.ty⟩
theorem CtxI.wide {key : ByteArray} {val : Int} (h : CtxI X w A a kd key val) (hi : w.heap.size ≤ y) : CtxI (y :: X) w A a kd key val :=
  ⟨h.vc.wide hi, h.vt.wide hi, h.vk.wide hi, fun e => (h.vx e).wide hi, fun e => (h.vw e).wide hi, fun e => ⟨(h.v2 e).1.wide hi, (h.v2 e).2.1.wide hi, (h.v2 e).2.2.wide hi⟩, fun e => (h.v7 e).wide hi, fun e => (h.vf e).wide hi⟩
theorem ThAt.wide {V : Value} (hi : w.heap.size ≤ y) : ∀ {th : Th}, ThAt X w A a kd V th → ThAt (y :: X) w A a kd V th
  | .told l, h => by
    cases kd
    · exact h
    all_goals obtain ⟨b, h1, h2⟩ := h; exact ⟨b, h1, h2.wide hi⟩
  | .look, h => h
  | .fail, h => h
theorem StpAt.wide {V : Value} (hi : w.heap.size ≤ y) : ∀ {s : Stp}, StpAt X w A a kd V s → StpAt (y :: X) w A a kd V s
  | .desc b m, ⟨p0, p1, p2, p3, h1, h2, h3, h4, h5⟩ => ⟨p0, p1, p2, p3, h1, h2.wide hi, h3, h4.wide hi, h5.wide hi⟩
  | .beg, h => h
  | .look, ⟨p, h1, h2⟩ => ⟨p, h1, h2.wide hi⟩
  | .down, ⟨p, h1, h2⟩ => ⟨p, h1, h2.wide hi⟩
  | .grow l, ⟨p, h1, h2⟩ => ⟨p, h1, h2.wide hi⟩
  | .lose l, ⟨p, h1, h2⟩ => ⟨p, h1, h2.wide hi⟩
  | .mark o th fl, ⟨p0, p1, p2, p3, T, F, h1, h2, h3, h4, h5, h6, h7⟩ => ⟨p0, p1, p2, p3, T, F, h1, h2.wide hi, h3.wide hi, h4.wide hi, h5.wide hi, h6.wide hi, h7.wide hi⟩
  | .drop o th, ⟨p0, p1, p2, T, h1, h2, h3, h4, h6⟩ => ⟨p0, p1, p2, T, h1, h2.wide hi, h3.wide hi, h4.wide hi, h6.wide hi⟩
  | .take o n th, ⟨p0, p1, p2, p3, T, h1, h2, h3, h4, h5, h6⟩ => ⟨p0, p1, p2, p3, T, h1, h2.wide hi, h3.wide hi, h4.wide hi, h5.wide hi, h6.wide hi⟩
  | .fin o th, ⟨p0, p1, p2, T, h1, h2, h3, h4, h6⟩ => ⟨p0, p1, p2, T, h1, h2.wide hi, h3.wide hi, h4.wide hi, h6.wide hi⟩
theorem CallM.wide {c : Cl} {N : Value} (h : CallM X w A a c N) (hi : w.heap.size ≤ y) : CallM (y :: X) w A a c N :=
  ⟨h.ctx.wide hi, h.cbk, h.way, h.full, fun e => ⟨(h.over e).1, List.mem_cons_of_mem _ (h.over e).2⟩⟩
end
/-- one of them -/
structure Cs where
  a : CA
  c : Cl
  V : Value
  o : Option Stp
def Cs.foot (q : Cs) : List Nat := q.a.foot q.c.kd
structure St (X : List Nat) (w : World) (A : TA) (t : Tr) (B : Nat) (q : Cs) : Prop where
  call : CallM X w A q.a q.c q.V
  ov : OutV X w A q.a q.c.kd q.V q.o
  cc : CC t q.c
  si : ∀ s, q.o = some s → SI t q.c s
  len : q.c.path.length ≤ B
  kdok : KdOk q.c.kd
theorem St.keep {X S : List Nat} {w w' : World} {A A' : TA} {t t' : Tr} {B B' : Nat} {q : Cs} (h : St X w A t B q) (hT : TreeAt w A t) (hti : TI t) (hf : Fr S w w') (hi : Iv X w w') (hs : ∀ k ∈ q.foot, k ∉ S) (he : Ext A A') (hg : Gr t t') (hB : B ≤ B') : St X w' A' t' B' q := by
  refine ⟨(h.call.keep hf hi hs).ext he (by rw [hT.nlen]; exact h.cc.clIn), ?_, h.cc.mono hg, fun s hs => (h.si s hs).mono hti hg, Nat.le_trans h.len hB, h.kdok⟩
  cases ho : q.o with
  | none => have := h.ov; rw [ho] at this; exact this
  | some s =>
    have := h.ov
    rw [ho] at this
    exact StpAt.ext he (by rw [hT.nlen, hT.wlen]; exact (h.si s ho).stpIn h.cc) (StpAt.keep hi this)
theorem St.wide {X : List Nat} {w : World} {A : TA} {t : Tr} {B y : Nat} {q : Cs} (h : St X w A t B q) (hy : w.heap.size ≤ y) : St (y :: X) w A t B q := by
  refine ⟨h.call.wide hy, ?_, h.cc, h.si, h.len, h.kdok⟩
  cases ho : q.o with
  | none => have := h.ov; rw [ho] at this; exact this
  | some s => have := h.ov; rw [ho] at this; exact StpAt.wide hy this
structure TeamS (w0 w : World) (tb mb : Nat) (ps : List Nat) (n : Nat) (K : List (Nat × Obj)) (cnt : Nat) (ds : List Bool) (X : List Nat) (A : TA) (t : Tr) (qs : List Cs) : Prop where
  htb : A.tb = tb
  hmb : A.mb = mb
  tree : TreeAt w A t
  xs : ∀ x ∈ X, x < w.heap.size
  ti : TI t
  ns : t.ns.length ≤ 1000 + 3 * n
  ws : t.ws.length ≤ 1000 + n
  hcnt : t.ms.n = cnt
  asked : t.ms.n ≤ 100000000 + n
  cbs : qs.map (fun q => q.a.cb) = ps
  dn : qs.map (fun q => q.o.isNone) = ds
  st : ∀ q ∈ qs, St X w A t (10 + 2 * n) q
  dis : ∀ (i j : Nat) (q r : Cs), i ≠ j → qs[i]? = some q → qs[j]? = some r → ∀ y ∈ q.foot, y ∉ r.foot
  fr : Fr [] w0 w
  low : ∀ y ∈ A.foot, w0.heap.size ≤ y
  lowq : ∀ q ∈ qs, ∀ y ∈ q.foot, w0.heap.size ≤ y
  rows : ∀ r ∈ K, w.heap[r.1]? = some r.2 ∧ r.1 ∉ A.foot ∧ ∀ q ∈ qs, r.1 ∉ q.foot
def Team (w0 w : World) (tb mb : Nat) (ps : List Nat) (n : Nat) (K : List (Nat × Obj)) (cnt : Nat) (ds : List Bool) : Prop := ∃ X A t qs, TeamS w0 w tb mb ps n K cnt ds X A t qs
section
variable {w0 w w' : World} {tb mb n cnt : Nat} {ps : List Nat} {K : List (Nat × Obj)} {ds : List Bool}
theorem Team.fr (h : Team w0 w tb mb ps n K cnt ds) : Fr [] w0 w := by
  obtain ⟨X, A, t, qs, h⟩ := h
  exact h.fr
theorem Team.at (h : Team w0 w tb mb ps n K cnt ds) {b : Nat} {o : Obj} (hm : (b, o) ∈ K) : w.heap[b]? = some o := by
  obtain ⟨X, A, t, qs, h⟩ := h
  exact (h.rows _ hm).1
theorem Team.keep0 (h : Team w0 w tb mb ps n K cnt ds) (hf : Fr [] w w') : Team w0 w' tb mb ps n K cnt ds := by
  obtain ⟨X, A, t, qs, h⟩ := h
  exact ⟨X, A, t, qs, { h with tree := h.tree.keep0 hf, xs := fun x hx => Nat.lt_of_lt_of_le (h.xs x hx) hf.size, st := fun q hq => (h.st q hq).keep h.tree h.ti hf hf.iv0 (by simp) (Ext.refl A) (Gr.refl t) (Nat.le_refl _), fr := h.fr.trans hf (by simp), rows := fun r hr => ⟨hf.keep (h.rows r hr).1 (by simp), (h.rows r hr).2⟩ }⟩
theorem TeamS.lt {X : List Nat} {A : TA} {t : Tr} {qs : List Cs} (h : TeamS w0 w tb mb ps n K cnt ds X A t qs) : ∀ q ∈ qs, ∀ y ∈ q.foot, y < w.heap.size := fun q hq => (h.st q hq).call.lt
theorem TeamS.sep {X : List Nat} {A : TA} {t : Tr} {qs : List Cs} (h : TeamS w0 w tb mb ps n K cnt ds X A t qs) : ∀ q ∈ qs, ∀ y ∈ q.foot, y ∉ A.foot := fun q hq => (h.st q hq).call.sep h.tree
theorem Team.alloc (h : Team w0 w tb mb ps n K cnt ds) (c : Array Value) (T : TypeId) : Team w0 (w.alloc (.cells c T)) tb mb ps n ((w.heap.size, .cells c T (0, 0)) :: K) cnt ds := by
  have h' := h.keep0 ((Fr.refl [] w).alloc (.cells c T))
  obtain ⟨X, A, t, qs, h⟩ := h
  have hf : Fr [] w (w.alloc (.cells c T)) := (Fr.refl [] w).alloc _
  have hlt := h.tree.toTreeB.lt
  have hltq := h.lt
  refine ⟨X, A, t, qs, { h with tree := h.tree.keep0 hf, xs := fun x hx => Nat.lt_of_lt_of_le (h.xs x hx) hf.size, st := fun q hq => (h.st q hq).keep h.tree h.ti hf hf.iv0 (by simp) (Ext.refl A) (Gr.refl t) (Nat.le_refl _), fr := h.fr.trans hf (by simp), rows := fun r hr => ?_ }⟩
  rcases List.mem_cons.1 hr with rfl | hr
  · exact ⟨new_block w _, fun hm => Nat.lt_irrefl _ (hlt _ hm), fun q hq hm => Nat.lt_irrefl _ (hltq q hq _ hm)⟩
  · exact ⟨hf.keep (h.rows r hr).1 (by simp), (h.rows r hr).2⟩
theorem Team.start {x : Hold} {m : Nat} (h : Mine w0 w tb mb x m []) (hm : m ≤ 100) : ∃ cnt, Team w0 w tb mb [] 0 [] cnt [] := by
  obtain ⟨A, h1, h2, ⟨t, L, hT, hg⟩, h4, h5, h6⟩ := h
  exact ⟨t.ms.n, [], A, t, [], ⟨h1, h2, hT, by simp, hg.ti, by have := hg.ns; omega, by have := hg.ws; omega, rfl, by have := hg.cnt; omega, rfl, rfl, by simp, by simp, h4, h5, by simp, by simp⟩⟩
/-- one more -/
theorem TeamS.add {X X' : List Nat} {A : TA} {t : Tr} {qs : List Cs} (h : TeamS w0 w tb mb ps n K cnt ds X A t qs) (hX : X' = X ∨ ∃ y, w.heap.size ≤ y ∧ X' = y :: X) {c : Cl} {s : Stp} (hkk : KdOk c.kd) (hc : CC t c) (hs : SI t c s) (hl : c.path.length ≤ 1) {p : Nat}
    (hp : MadePost X' w A t c s (.returned (pt p)) w') : ∃ A' a V, TeamS w0 w' tb mb (ps ++ [p]) n K cnt (ds ++ [false]) X' A' t (qs ++ [⟨a, c, V, some s⟩]) := by
  obtain ⟨A', a, V, he, hcf, hov, hext, hfr, hfA, hfa, hcb⟩ := hp
  simp only [Ending.returned.injEq, Value.pointer.injEq, Option.some.injEq, Addr.mk.injEq, and_true] at he
  subst he
  have hlt := h.lt
  have hsep := h.sep
  have hsep' := hcf.call.sep hcf.tree
  have hst : ∀ q ∈ qs, St X' w' A' t (10 + 2 * n) q := fun q hq => by
    have h1 : St X' w A t (10 + 2 * n) q := by
      rcases hX with e | ⟨y, hy, e⟩
      · rw [e]; exact h.st q hq
      · rw [e]; exact (h.st q hq).wide hy
    exact h1.keep h.tree h.ti hfr (h.tree.iv hfr) (hsep q hq) hext (Gr.refl t) (Nat.le_refl _)
  have hqa : ∀ q ∈ qs, ∀ y ∈ q.foot, y ∉ a.foot c.kd := fun q hq y hy hm => by
    rcases hfa y hm with e | e
    · exact hsep q hq y hy e
    · have := hlt q hq y hy; omega
  have hget : ∀ (i : Nat) (q : Cs), (qs ++ [(⟨a, c, V, some s⟩ : Cs)])[i]? = some q → qs[i]? = some q ∨ (i = qs.length ∧ q = ⟨a, c, V, some s⟩) := fun i q hq => by
    by_cases hi : i < qs.length
    · rw [List.getElem?_append_left hi] at hq; exact Or.inl hq
    · rw [List.getElem?_append_right (by omega)] at hq
      have hi2 := (List.getElem?_eq_some_iff.1 hq).1
      simp at hi2
      have e : i - qs.length = 0 := by omega
      rw [e] at hq
      simp at hq
      exact Or.inr ⟨by omega, hq.symm⟩
  refine ⟨A', a, V, ⟨hext.tb.trans h.htb, hext.mb.trans h.hmb, hcf.tree, hcf.xs, h.ti, h.ns, h.ws, h.hcnt, h.asked, by rw [List.map_append, h.cbs]; rfl, by rw [List.map_append, h.dn]; rfl, fun q hq => ?_, fun i j q r hij hq hr y hy hm => ?_, h.fr.trans hfr (fun y hy => Or.inr (h.low y hy)), fun y hy => (hfA y hy).elim (h.low y) (fun e => Nat.le_trans h.fr.size e), fun q hq y hy => ?_, fun r hr => ⟨hfr.keep (h.rows r hr).1 (h.rows r hr).2.1, fun hm => ?_, fun q hq hm => ?_⟩⟩⟩
  · rcases List.mem_append.1 hq with hq | hq
    · exact hst q hq
    · simp only [List.mem_singleton] at hq; subst hq
      exact ⟨hcf.call, hov, hc, (fun s' e => by cases e; exact hs), by show c.path.length ≤ _; omega, hkk⟩
  · rcases hget i q hq with h1 | ⟨h1, rfl⟩
    · rcases hget j r hr with h2 | ⟨h2, rfl⟩
      · exact h.dis i j q r hij h1 h2 y hy hm
      · exact hqa q (List.mem_of_getElem? h1) y hy hm
    · rcases hget j r hr with h2 | ⟨h2, rfl⟩
      · exact hqa r (List.mem_of_getElem? h2) y hm hy
      · omega
  · rcases List.mem_append.1 hq with hq | hq
    · exact h.lowq q hq y hy
    · simp only [List.mem_singleton] at hq; subst hq
      exact (hfa y hy).elim (h.low y) (fun e => Nat.le_trans h.fr.size e)
  · have hl := lt_of_block (h.rows r hr).1
    rcases hfA _ hm with e | e
    · exact (h.rows r hr).2.1 e
    · omega
  · have hl := lt_of_block (h.rows r hr).1
    rcases List.mem_append.1 hq with hq | hq
    · exact (h.rows r hr).2.2 q hq hm
    · simp only [List.mem_singleton] at hq; subst hq
      rcases hfa _ hm with e | e
      · exact (h.rows r hr).2.1 e
      · omega
theorem team_add {X X' : List Nat} {A : TA} {t : Tr} {qs : List Cs} (h : TeamS w0 w tb mb ps n K cnt ds X A t qs) (hX : X' = X ∨ ∃ y, w.heap.size ≤ y ∧ X' = y :: X) {c : Cl} {s : Stp} (hkk : KdOk c.kd) (hc : CC t c) (hs : SI t c s) (hl : c.path.length ≤ 1) {p : Nat}
    (hp : MadePost X' w A t c s (.returned (pt p)) w') : Team w0 w' tb mb (ps ++ [p]) n K cnt (ds ++ [false]) := by
  obtain ⟨A', a, V, k⟩ := h.add hX hkk hc hs hl hp
  exact ⟨_, _, _, _, k⟩
theorem made_ci {t : Tr} (h : TI t) (kind : Int) (k : ByteArray) (v : Int) : CC t (madeC kind k v) ∧ SI t (madeC kind k v) (madeS t kind k) ∧ (madeC kind k v).path.length ≤ 1 := by
  unfold madeC madeS
  by_cases k1 : kind = 1
  · rw [if_pos k1, if_pos k1]
    exact ⟨(ins_made k v).1, (ins_made k v).2, Nat.zero_le _⟩
  · rw [if_neg k1, if_neg k1]
    by_cases k2 : kind = 2
    · rw [if_pos k2, if_pos k2]
      exact ⟨(rem_made h k).1, (rem_made h k).2, Nat.le_refl _⟩
    · rw [if_neg k2, if_neg k2]
      exact ⟨(fnd_made h k).1, (fnd_made h k).2, Nat.zero_le _⟩
theorem TeamS.here {X : List Nat} {A : TA} {t : Tr} {qs : List Cs} (h : TeamS w0 w tb mb ps n K cnt ds X A t qs) {i p : Nat} {d : Bool} (hp : ps[i]? = some p) (hd : ds[i]? = some d) : ∃ q, qs[i]? = some q ∧ q.a.cb = p ∧ q.o.isNone = d := by
  rw [← h.cbs, List.getElem?_map] at hp
  rw [← h.dn, List.getElem?_map] at hd
  cases hq : qs[i]? with
  | none => rw [hq] at hp; cases hp
  | some q =>
    rw [hq] at hp hd
    simp only [Option.map_some, Option.some.injEq] at hp hd
    exact ⟨q, rfl, hp, hd⟩
theorem team_answer (h : Team w0 w tb mb ps n K cnt ds) {i p : Nat} {d : Bool} (hp : ps[i]? = some p) (hd : ds[i]? = some d) :
    Calls Try.prog 25 #[pt p] w fun e w' => ∃ ok ke va er, e = .returned (.tuple #[.agg #[.bool ok, .string ke, .int .u64 va, .int .i64 er], .bool d]) ∧ Fr [] w w' := by
  obtain ⟨X, A, t, qs, h⟩ := h
  obtain ⟨q, hq, rfl, rfl⟩ := h.here hp hd
  have hst := h.st q (List.mem_of_getElem? hq)
  cases ho : q.o with
  | none =>
    have hv := hst.ov
    rw [ho] at hv
    have hb := hst.call.cbk
    have hv' : q.V = .nilFunc := hv
    rw [hv'] at hb
    exact (ans_done hb).mono fun e w' ⟨he, hf⟩ => ⟨_, _, _, _, he, hf⟩
  | some s =>
    have hv := hst.ov
    rw [ho] at hv
    obtain ⟨f, x, y, hv'⟩ := StpAt.form hv
    have hb := hst.call.cbk
    rw [hv'] at hb
    exact (ans_not hb).mono fun e w' ⟨he, hf⟩ => ⟨_, _, _, _, he, hf⟩
theorem TeamS.step {X : List Nat} {A : TA} {t : Tr} {qs : List Cs} (h : TeamS w0 w tb mb ps n K cnt ds X A t qs) (hn : n ≤ 1000) {i : Nat} {q : Cs} {s : Stp} (hq : qs[i]? = some q) (ho : q.o = some s) :
    Calls Try.prog 24 #[pt q.a.cb] w fun e w' => ∃ A' a' V', e = .returned (.bool (stepP t q.c s).2.2.isNone) ∧ Hid (TeamS w0 w' tb mb ps (n + 1) K (stepP t q.c s).1.ms.n (ds.set i (stepP t q.c s).2.2.isNone) X A' (stepP t q.c s).1 (qs.set i ⟨a', (stepP t q.c s).2.1, V', (stepP t q.c s).2.2⟩)) := by
  have hqm := List.mem_of_getElem? hq
  have hil := (List.getElem?_eq_some_iff.1 hq).1
  have hst := h.st q hqm
  obtain ⟨hcall, hov, hcc, hsi, hlen, hkk⟩ := hst
  rw [ho] at hov
  have hs := hsi s ho
  have hns := h.ns
  have hws := h.ws
  have has := h.asked
  have hbd : Bd t q.c := ⟨by omega, by omega, by omega, by omega⟩
  obtain ⟨k1, k2, k3, ⟨k4, k5, k6, k7⟩, k8, k9, k10, k11⟩ := ti_step h.ti hcc hbd hs
  have hcf : Cf X w A q.a t q.c q.V := ⟨h.tree, hcall, h.xs⟩
  refine (bt_step hcf hov hkk k1 (hbd.small h.ti)).mono ?_
  rintro e w' ⟨A', a', V', rfl, g1, g2, g3, g4, ⟨pv, hpv⟩, g5, g6⟩
  have hcb : a'.cb = q.a.cb := by rw [hpv]
  have hi : Iv X w w' := hcf.iv g5
  have hlt := h.lt
  have hsep := h.sep
  obtain ⟨q', hq'⟩ : ∃ q' : Cs, q' = ⟨a', (stepP t q.c s).2.1, V', (stepP t q.c s).2.2⟩ := ⟨_, rfl⟩
  have hfoot : ∀ y ∈ q'.foot, y ∈ Both A q.a q.c.kd ∨ w.heap.size ≤ y := fun y hy => by
    rw [hq'] at hy
    have hy' : y ∈ a'.foot (stepP t q.c s).2.1.kd := hy
    rw [g3] at hy'
    exact g6 y (List.mem_append_right _ hy')
  have hoff : ∀ (j : Nat) (r : Cs), j ≠ i → qs[j]? = some r → ∀ y ∈ r.foot, y ∉ Both A q.a q.c.kd := fun j r hj hr y hy hm => by
    rcases List.mem_append.1 hm with e | e
    · exact hsep r (List.mem_of_getElem? hr) y hy e
    · exact h.dis j i r q hj hr hq y hy e
  have hoq : ∀ (j : Nat) (r : Cs), j ≠ i → qs[j]? = some r → ∀ y ∈ r.foot, y ∉ q'.foot := fun j r hj hr y hy hm => by
    rcases hfoot y hm with e | e
    · exact hoff j r hj hr y hy e
    · have := hlt r (List.mem_of_getElem? hr) y hy; omega
  have hget : ∀ (j : Nat) (r : Cs), (qs.set i q')[j]? = some r → (j = i ∧ r = q') ∨ (j ≠ i ∧ qs[j]? = some r) := fun j r hr => by
    rw [List.getElem?_set] at hr
    split at hr
    · rename_i e
      exact Or.inl ⟨e.symm, (Option.some.inj hr).symm⟩
    · rename_i e
      exact Or.inr ⟨fun e2 => e e2.symm, hr⟩
  have hmem : ∀ r ∈ qs.set i q', r = q' ∨ ∃ j, j ≠ i ∧ qs[j]? = some r := fun r hr => by
    obtain ⟨j, hj⟩ := List.getElem?_of_mem hr
    rcases hget j r hj with ⟨_, e⟩ | ⟨e1, e2⟩
    · exact Or.inl e
    · exact Or.inr ⟨j, e1, e2⟩
  refine ⟨A', a', V', rfl, Lib.hid ?_⟩
  rw [← hq']
  have hlow : ∀ y ∈ Both A q.a q.c.kd, w0.heap.size ≤ y := fun y hy => (List.mem_append.1 hy).elim (h.low y) (h.lowq q hqm y)
  refine ⟨g4.tb.trans h.htb, g4.mb.trans h.hmb, g1.tree, g1.xs, k2, by omega, by omega, rfl, by omega, ?_, ?_, fun r hr => ?_, fun j1 j2 r1 r2 hj h1 h2 y hy hm => ?_, h.fr.trans g5 (fun y hy => Or.inr (hlow y hy)), fun y hy => (g6 y (List.mem_append_left _ hy)).elim (hlow y) (fun e => Nat.le_trans h.fr.size e), fun r hr y hy => ?_, fun r hr => ⟨g5.keep (h.rows r hr).1 (fun hm => ?_), fun hm => ?_, fun r2 hr2 hm => ?_⟩⟩
  · rw [← h.cbs]
    refine List.ext_getElem? (fun j => ?_)
    rw [List.getElem?_map, List.getElem?_map, List.getElem?_set]
    split
    · rename_i e; subst e
      rw [hq, hq']
      simp [hcb]
    · rfl
  · rw [← h.dn]
    refine List.ext_getElem? (fun j => ?_)
    rw [List.getElem?_map, List.getElem?_set, List.getElem?_set, List.getElem?_map, List.length_map]
    split
    · rw [hq']; rfl
    · rfl
  · rcases hmem r hr with rfl | ⟨j, hj, hjr⟩
    · rw [hq']
      exact ⟨g1.call, by show OutV X w' A' a' (stepP t q.c s).2.1.kd V' _; rw [g3]; exact g2, k5, k6, by show (stepP t q.c s).2.1.path.length ≤ _; omega, by show KdOk (stepP t q.c s).2.1.kd; rw [g3]; exact hkk⟩
    · exact (h.st r (List.mem_of_getElem? hjr)).keep h.tree h.ti g5 hi (hoff j r hj hjr) g4 k3 (by omega)
  · rcases hget j1 r1 h1 with ⟨e1, rfl⟩ | ⟨e1, e2⟩
    · rcases hget j2 r2 h2 with ⟨e3, rfl⟩ | ⟨e3, e4⟩
      · omega
      · exact hoq j2 r2 e3 e4 y hm hy
    · rcases hget j2 r2 h2 with ⟨e3, rfl⟩ | ⟨e3, e4⟩
      · exact hoq j1 r1 e1 e2 y hy hm
      · exact h.dis j1 j2 r1 r2 hj e2 e4 y hy hm
  · rcases hmem r hr with rfl | ⟨j, hj, hjr⟩
    · exact (hfoot y hy).elim (hlow y) (fun e => Nat.le_trans h.fr.size e)
    · exact h.lowq r (List.mem_of_getElem? hjr) y hy
  · rcases List.mem_append.1 hm with e | e
    · exact (h.rows r hr).2.1 e
    · exact (h.rows r hr).2.2 q hqm e
  · have hl := lt_of_block (h.rows r hr).1
    rcases g6 _ (List.mem_append_left _ hm) with e | e
    · rcases List.mem_append.1 e with e | e
      · exact (h.rows r hr).2.1 e
      · exact (h.rows r hr).2.2 q hqm e
    · omega
  · have hl := lt_of_block (h.rows r hr).1
    rcases hmem r2 hr2 with rfl | ⟨j, hj, hjr⟩
    · rcases hfoot _ hm with e | e
      · rcases List.mem_append.1 e with e | e
        · exact (h.rows r hr).2.1 e
        · exact (h.rows r hr).2.2 q hqm e
      · omega
    · exact (h.rows r hr).2.2 r2 (List.mem_of_getElem? hjr) hm
theorem team_step (h : Team w0 w tb mb ps n K cnt ds) (hn : n ≤ 1000) {i p : Nat} {d : Bool} (hp : ps[i]? = some p) (hd : ds[i]? = some d) :
    Calls Try.prog 24 #[pt p] w fun e w' => ∃ b, e = .returned (.bool b) ∧ Hid (∃ cnt', Team w0 w' tb mb ps (n + 1) K cnt' (ds.set i b) ∧ cnt ≤ cnt' ∧ cnt' ≤ cnt + 1 ∧ (d = true → cnt' = cnt)) := by
  obtain ⟨X, A, t, qs, h⟩ := h
  obtain ⟨q, hq, rfl, rfl⟩ := h.here hp hd
  have hqm := List.mem_of_getElem? hq
  have hil := (List.getElem?_eq_some_iff.1 hq).1
  have hst := h.st q hqm
  obtain ⟨hcall, hov, hcc, hsi, hlen, hkk⟩ := hst
  cases ho : q.o with
  | none =>
    rw [ho] at hov hd
    have hv : q.V = .nilFunc := hov
    have hb := hcall.cbk
    rw [hv] at hb
    refine (step_done hb).mono ?_
    rintro e w' ⟨rfl, rfl⟩
    have hds : ds.set i true = ds := by
      refine List.ext_getElem? (fun j => ?_)
      rw [List.getElem?_set]
      split
      · rename_i e; subst e
        rw [hd]; split
        · rfl
        · rename_i hx; have := (List.getElem?_eq_some_iff.1 hd).1; omega
      · rfl
    refine ⟨true, rfl, Lib.hid ⟨cnt, ?_, Nat.le_refl _, by omega, fun _ => rfl⟩⟩
    rw [hds]
    exact ⟨X, A, t, qs, { h with ns := by have := h.ns; omega, ws := by have := h.ws; omega, asked := by have := h.asked; omega, st := fun r hr => by have := h.st r hr; exact ⟨this.call, this.ov, this.cc, this.si, by have := this.len; omega, this.kdok⟩ }⟩
  | some s =>
    refine (h.step hn hq ho).mono ?_
    rintro e w' ⟨A', a', V', rfl, hT⟩
    have hs := hsi s ho
    have hns := h.ns
    have hws := h.ws
    have has := h.asked
    obtain ⟨_, _, _, _, _, _, k10, k11⟩ := ti_step h.ti hcc (⟨by omega, by omega, by omega, by omega⟩ : Bd t q.c) hs
    exact ⟨_, rfl, Lib.hid ⟨_, ⟨_, _, _, _, hT.out⟩, by rw [← h.hcnt]; exact k10, by rw [← h.hcnt]; exact k11, fun e => (by cases e)⟩⟩
end
end Go.Proofs.Ytmhiolhgofackaa
