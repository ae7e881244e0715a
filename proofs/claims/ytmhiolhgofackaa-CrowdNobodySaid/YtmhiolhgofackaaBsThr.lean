/- PACKAGE bst: calls beside each other, noted when they begin and when they are answered: those of each key fit -/
import Derived.Test.YtmhiolhgofackaaBsTeam
import Derived.Test.YtmhiolhgofackaaBsHi
namespace Go.Proofs.Ytmhiolhgofackaa
open Go.RowKit
set_option linter.unusedVariables false
set_option linter.unusedSimpArgs false

structure ThrS (w0 w : World) (tb mb : Nat) (ps : List Nat) (n : Nat) (K : List (Nat × Obj)) (now : Nat) (st : Nat → ByteArray → Bool) (cnt : Nat) (ds : List Bool) (X : List Nat) (A : TA) (t : Tr) (qs : List Cs) (L : PT) (cs : List Cx) (lin : Nat → Option Nat) : Prop where
  tm : TeamS w0 w tb mb ps n K cnt ds X A t qs
  hi : HI t L now st cs lin
  al : cs.map (fun x => (x.c, x.o)) = qs.map (fun q => (q.c, q.o))
/-- a tree and its calls, plainly -/
abbrev PlQ := Tr → List (Cl × Option Stp) → Prop
def plOf (qs : List Cs) : List (Cl × Option Stp) := qs.map (fun q => (q.c, q.o))
def ThrQ (Q : PlQ) (w0 w : World) (tb mb : Nat) (ps : List Nat) (n : Nat) (K : List (Nat × Obj)) (now : Nat) (S0 : SetB) (cas : List Ca) : Prop :=
  ∃ st cnt ds X A t qs L cs lin, ThrS w0 w tb mb ps n K now st cnt ds X A t qs L cs lin ∧ cas = cs.map caOf ∧ (∀ k, st 0 k = S0 k) ∧ Q t (plOf qs)
abbrev Thr := ThrQ (fun _ _ => True)
/-- a call is added -/
def addQ (Q : PlQ) (f : Tr → Cl × Option Stp) : PlQ := fun t' l' => ∃ l, Q t' l ∧ l' = l ++ [f t']
/-- the i-th one steps -/
def stepQ (Q : PlQ) (i : Nat) (b : Bool) : PlQ := fun t' l' => ∃ t l c s, Q t l ∧ l[i]? = some (c, some s) ∧ t' = (stepP t c s).1 ∧ l' = l.set i (stepP t c s).2 ∧ b = (stepP t c s).2.2.isNone
section
variable {Q : PlQ} {w0 w w' : World} {tb mb n now : Nat} {ps : List Nat} {K : List (Nat × Obj)} {S0 : SetB} {cas : List Ca}
theorem ThrQ.fr (h : ThrQ Q w0 w tb mb ps n K now S0 cas) : Fr [] w0 w := by
  obtain ⟨st, cnt, ds, X, A, t, qs, L, cs, lin, h, _⟩ := h
  exact h.tm.fr
theorem ThrQ.at (h : ThrQ Q w0 w tb mb ps n K now S0 cas) {b : Nat} {o : Obj} (hm : (b, o) ∈ K) : w.heap[b]? = some o := by
  obtain ⟨st, cnt, ds, X, A, t, qs, L, cs, lin, h, _⟩ := h
  exact (h.tm.rows _ hm).1
theorem ThrQ.mono {Q' : PlQ} (h : ThrQ Q w0 w tb mb ps n K now S0 cas) (hq : ∀ t l, Q t l → Q' t l) : ThrQ Q' w0 w tb mb ps n K now S0 cas := by
  obtain ⟨st, cnt, ds, X, A, t, qs, L, cs, lin, h, h2, h3, h4⟩ := h
  exact ⟨st, cnt, ds, X, A, t, qs, L, cs, lin, h, h2, h3, hq _ _ h4⟩
theorem ThrQ.thr (h : ThrQ Q w0 w tb mb ps n K now S0 cas) : Thr w0 w tb mb ps n K now S0 cas := h.mono (fun _ _ _ => trivial)
/-- those of each key fit -/
theorem ThrQ.fit (h : ThrQ Q w0 w tb mb ps n K now S0 cas) (k : ByteArray) : Fit (ofKey k cas) S0 := by
  obtain ⟨st, cnt, ds, X, A, t, qs, L, cs, lin, h, rfl, h0, _⟩ := h
  have := hi_fit h.hi k (S := S0) (h0 k).symm
  unfold ofKey
  rw [List.filter_map]
  exact this
theorem ThrQ.lens (h : ThrQ Q w0 w tb mb ps n K now S0 cas) : cas.length = ps.length := by
  obtain ⟨st, cnt, ds, X, A, t, qs, L, cs, lin, h, rfl, _⟩ := h
  rw [← h.tm.cbs, List.length_map, List.length_map]
  have := congrArg List.length h.al
  rw [List.length_map, List.length_map] at this
  exact this
/-- blocks that are known are written to -/
theorem TeamS.write {cnt : Nat} {ds : List Bool} {X : List Nat} {A : TA} {t : Tr} {qs : List Cs} (h : TeamS w0 w tb mb ps n K cnt ds X A t qs) {S : List Nat} {W : World} {K' : List (Nat × Obj)} (hS : ∀ b ∈ S, w0.heap.size ≤ b ∧ ∃ o, (b, o) ∈ K) (hf : Fr S w W) (hi : Iv X w W) (hK : ∀ r ∈ K', W.heap[r.1]? = some r.2 ∧ ((∃ o, (r.1, o) ∈ K) ∨ w.heap.size ≤ r.1)) : TeamS w0 W tb mb ps n K' cnt ds X A t qs := by
  have hno : ∀ b ∈ S, b ∉ A.foot ∧ ∀ q ∈ qs, b ∉ q.foot := fun b hb => by
    obtain ⟨_, o, ho⟩ := hS b hb
    exact (h.rows _ ho).2
  have hlt := h.tree.toTreeB.lt
  have hltq := h.lt
  exact { h with
    tree := h.tree.keep hf hi (fun k hk hm => (hno k hm).1 hk)
    xs := fun x hx => Nat.lt_of_lt_of_le (h.xs x hx) hf.size
    st := fun q hq => (h.st q hq).keep h.tree h.ti hf hi (fun k hk hm => (hno k hm).2 q hq hk) (Ext.refl A) (Gr.refl t) (Nat.le_refl _)
    fr := h.fr.trans hf (fun b hb => Or.inr (hS b hb).1)
    rows := fun r hr => by
      obtain ⟨k1, k2⟩ := hK r hr
      refine ⟨k1, ?_⟩
      rcases k2 with ⟨o, ho⟩ | k2
      · exact (h.rows _ ho).2
      · exact ⟨fun hm => by have := hlt _ hm; omega, fun q hq hm => by have := hltq q hq _ hm; omega⟩ }
theorem ThrQ.write (h : ThrQ Q w0 w tb mb ps n K now S0 cas) {S : List Nat} {W : World} {K' : List (Nat × Obj)} (hS : ∀ b ∈ S, w0.heap.size ≤ b ∧ ∃ o, (b, o) ∈ K) (hf : Fr S w W) (hi : ∀ X, Iv X w W) (hK : ∀ r ∈ K', W.heap[r.1]? = some r.2 ∧ ((∃ o, (r.1, o) ∈ K) ∨ w.heap.size ≤ r.1)) : ThrQ Q w0 W tb mb ps n K' now S0 cas := by
  obtain ⟨st, cnt, ds, X, A, t, qs, L, cs, lin, h, h2, h3⟩ := h
  exact ⟨st, cnt, ds, X, A, t, qs, L, cs, lin, ⟨h.tm.write hS hf (hi X) hK, h.hi, h.al⟩, h2, h3⟩
theorem ThrQ.keep0 (h : ThrQ Q w0 w tb mb ps n K now S0 cas) (hf : Fr [] w w') : ThrQ Q w0 w' tb mb ps n K now S0 cas :=
  h.write (S := []) (by simp) hf (fun _ => hf.iv0) (fun r hr => ⟨hf.keep (h.at (o := r.2) hr) (by simp), Or.inl ⟨r.2, hr⟩⟩)
theorem ThrQ.of {A : TA} {t : Tr} {L : PT} {x : Hold} {m : Nat} (h1 : A.tb = tb) (h2 : A.mb = mb) (hT : TreeAt w A t) (hg : Good t L x m) (h4 : Fr [] w0 w) (h5 : ∀ y ∈ A.foot, w0.heap.size ≤ y) (h6 : ∀ p ∈ K, w.heap[p.1]? = some p.2 ∧ p.1 ∉ A.foot) (hm : m ≤ 100) : ThrQ (fun t' l => t' = t ∧ l = []) w0 w tb mb [] 0 K 0 (fun k => (x k).isSome) [] := by
  have hcx : ∀ k, present t L k = (x k).isSome := fun k => by unfold present; rw [hg.cont]
  have hws : t.ws.length ≤ 900000000 := by have := hg.ws; omega
  refine ⟨fun _ k => present t L k, t.ms.n, [], [], A, t, [], L, [], fun _ => none, ⟨⟨h1, h2, hT, by simp, hg.ti, by have := hg.ns; omega, by have := hg.ws; omega, rfl, by have := hg.cnt; omega, rfl, rfl, by simp, by simp, h4, h5, by simp, fun r hr => ⟨(h6 r hr).1, (h6 r hr).2, by simp⟩⟩, ⟨hg.li, hg.ti, fun _ _ _ => rfl, by simp, by simp, by simp, fun w hw ha => absurd ha (quiet_act hg.quiet hg.li hg.ti hws hw), (fun w m hm => by cases hm), by simp, by simp, fun m k _ hm => by omega, (fun w w' m hm => by cases hm)⟩, rfl⟩, rfl, hcx, rfl, rfl⟩
theorem Thr.start {x : Hold} {m : Nat} (h : Mine w0 w tb mb x m K) (hm : m ≤ 100) : Thr w0 w tb mb [] 0 K 0 (fun k => (x k).isSome) [] := by
  obtain ⟨A, h1, h2, ⟨t, L, hT, hg⟩, h4, h5, h6⟩ := h
  exact (ThrQ.of h1 h2 hT hg h4 h5 h6 hm).thr
/-- New: nobody has a call of it -/
theorem thr_New {mv : Value} (hm : MemAt w mb mv ⟨[], 0⟩) (h4 : Fr [] w0 w) (hmb : w0.heap.size ≤ mb) (hmv : ∀ k, mv.ownBlock = some k → w0.heap.size ≤ k) :
    Calls Try.prog 5 #[pt mb] w fun e w' => ∃ tb, e = .returned (pt tb) ∧ Hid (ThrQ (fun t' l => t' = Tr.new ⟨[], 0⟩ ∧ l = []) w0 w' tb mb [] 0 [] 0 (fun _ => false) []) := by
  refine (bt_New mb mv ⟨[], 0⟩ w hm (by simp)).mono ?_
  rintro e w' ⟨A, rfl, k1, k2, k3, k4⟩
  have hft : ∀ x ∈ MemAt.foot mb mv, w0.heap.size ≤ x := fun x hx => by
    simp [MemAt.foot] at hx
    rcases hx with rfl | hx
    · exact hmb
    · exact hmv x hx
  exact ⟨A.tb, rfl, Lib.hid (ThrQ.of (x := fun _ => none) rfl k2 k1 (Good.new ⟨[], 0⟩ rfl rfl) (h4.trans k3 (fun x hx => Or.inr (hft x hx))) (fun y hy => (k4 y hy).elim (hft y) (fun h => Nat.le_trans h4.size h)) (by simp) (by omega))⟩
/-- a call is made; it may begin, or be forgotten -/
theorem thr_made {st : Nat → ByteArray → Bool} {cnt : Nat} {ds : List Bool} {X : List Nat} {A : TA} {t : Tr} {qs : List Cs} {L : PT} {cs : List Cx} {lin : Nat → Option Nat} (h : ThrS w0 w tb mb ps n K now st cnt ds X A t qs L cs lin) (hn : n ≤ 1000) (h0 : ∀ k, st 0 k = S0 k) (hQ : Q t (plOf qs)) {c : Cl} {s : Stp} {f : Tr → Cl × Option Stp} (hfs : f t = (c, some s)) (hns : c.kd ≠ .sek) (hkk : KdOk c.kd) (hc : CC t c) (hs : SI t c s) (hl : c.path.length ≤ 1) (hlc : ∀ seen own, LC t L c seen own s) {e : Ending} (hp : MadePost X w A t c s e w') :
    ∃ p, e = .returned (pt p) ∧ Hid (ThrQ Q w0 w' tb mb ps n K now S0 (cs.map caOf)) ∧ Hid (ThrQ (addQ Q f) w0 w' tb mb (ps ++ [p]) n K (now + 1) S0 (cs.map caOf ++ [⟨kdI c.kd, c.key, false, now, -1⟩])) ∧ Fr [] w0 w' := by
  have hp2 := hp
  obtain ⟨A', a, V, rfl, hcf, hov, hext, hfr, hfA, hfa, hcb⟩ := hp2
  obtain ⟨A2, a2, V2, hT2⟩ := h.tm.add (Or.inl rfl) hkk hc hs hl hp
  have hlt := h.tm.lt
  have hsep := h.tm.sep
  have hW : t.ws.length ≤ 900000000 := by have := h.tm.ws; omega
  refine ⟨a.cb, rfl, Lib.hid ⟨st, cnt, ds, X, A', t, qs, L, cs, lin, ⟨{ h.tm with htb := hext.tb.trans h.tm.htb, hmb := hext.mb.trans h.tm.hmb, tree := hcf.tree, xs := hcf.xs, st := fun q hq => (h.tm.st q hq).keep h.tm.tree h.tm.ti hfr (h.tm.tree.iv hfr) (hsep q hq) hext (Gr.refl t) (Nat.le_refl _), fr := h.tm.fr.trans hfr (fun y hy => Or.inr (h.tm.low y hy)), low := fun y hy => (hfA y hy).elim (h.tm.low y) (fun e => Nat.le_trans h.tm.fr.size e), rows := fun r hr => ⟨hfr.keep (h.tm.rows r hr).1 (h.tm.rows r hr).2.1, fun hm => ?_, (h.tm.rows r hr).2.2⟩ }, h.hi, h.al⟩, rfl, h0, hQ⟩, Lib.hid ⟨st, cnt, ds ++ [false], X, A2, t, qs ++ [⟨a2, c, V2, some s⟩], L, cs ++ [⟨c, some s, now, none, fun _ => False⟩], lin, ⟨hT2, hi_begin h.hi hW hns hc hs hlc, ?_⟩, ?_, h0, plOf qs, hQ, by rw [hfs]; unfold plOf; rw [List.map_append]; rfl⟩, hT2.fr⟩
  · have hl := lt_of_block (h.tm.rows r hr).1
    rcases hfA _ hm with e | e
    · exact (h.tm.rows r hr).2.1 e
    · omega
  · rw [List.map_append, List.map_append, h.al]; rfl
  · rw [List.map_append]; rfl
theorem thr_Insert (h : ThrQ Q w0 w tb mb ps n K now S0 cas) (hn : n ≤ 1000) (k : ByteArray) (v : Int) :
    Calls Try.prog 14 #[pt tb, .string k, .int .u64 v] w fun e w' => ∃ p, e = .returned (pt p) ∧ Hid (ThrQ Q w0 w' tb mb ps n K now S0 cas) ∧ Hid (ThrQ (addQ Q (fun _ => (Cl.new .ins k v, some .beg))) w0 w' tb mb (ps ++ [p]) n K (now + 1) S0 (cas ++ [⟨1, k, false, now, -1⟩])) ∧ Fr [] w0 w' := by
  obtain ⟨st, cnt, ds, X, A, t, qs, L, cs, lin, h, rfl, h0, hQ⟩ := h
  have htb := h.tm.htb
  subst htb
  refine (bt_Insert (X := X) k v h.tm.tree h.tm.xs).mono ?_
  intro e w' hp
  exact thr_made h hn h0 hQ (f := (fun _ => (Cl.new .ins k v, some .beg))) rfl (c := Cl.new .ins k v) (by simp [Cl.new]) (KdOk.of (by simp [Cl.new])) (ins_made k v).1 (ins_made k v).2 (Nat.zero_le _) (fun seen own => ins_lc k v) hp
theorem thr_Find (h : ThrQ Q w0 w tb mb ps n K now S0 cas) (hn : n ≤ 1000) (k : ByteArray) :
    Calls Try.prog 7 #[pt tb, .string k] w fun e w' => ∃ p, e = .returned (pt p) ∧ Hid (ThrQ Q w0 w' tb mb ps n K now S0 cas) ∧ Hid (ThrQ (addQ Q (fun t => (Cl.new .fnd k 0, some (.desc (t.toward 2 k) .find)))) w0 w' tb mb (ps ++ [p]) n K (now + 1) S0 (cas ++ [⟨3, k, false, now, -1⟩])) ∧ Fr [] w0 w' := by
  obtain ⟨st, cnt, ds, X, A, t, qs, L, cs, lin, h, rfl, h0, hQ⟩ := h
  have htb := h.tm.htb
  subst htb
  refine (bt_Find (X := X) k h.tm.tree h.tm.xs (h.tm.ti.nd (by have := h.tm.ns; omega) h.tm.ti.inn2)).mono ?_
  intro e w' hp
  exact thr_made h hn h0 hQ (f := (fun t => (Cl.new .fnd k 0, some (.desc (t.toward 2 k) .find)))) rfl (c := Cl.new .fnd k 0) (by simp [Cl.new]) (KdOk.of (by simp [Cl.new])) (fnd_made h.tm.ti k).1 (fnd_made h.tm.ti k).2 (Nat.zero_le _) (fun seen own => fnd_lc h.tm.ti k) hp
theorem al_get {cs : List Cx} {qs : List Cs} (h : cs.map (fun x => (x.c, x.o)) = qs.map (fun q => (q.c, q.o))) {i : Nat} {x : Cx} (hx : cs[i]? = some x) : ∃ q, qs[i]? = some q ∧ q.c = x.c ∧ q.o = x.o := by
  have h1 : (cs.map (fun x => (x.c, x.o)))[i]? = some (x.c, x.o) := by rw [List.getElem?_map, hx]; rfl
  rw [h, List.getElem?_map] at h1
  cases hq : qs[i]? with
  | none => rw [hq] at h1; cases h1
  | some q =>
    rw [hq] at h1
    simp only [Option.map_some, Option.some.injEq, Prod.mk.injEq] at h1
    exact ⟨q, rfl, h1.1, h1.2⟩
/-- a call that isn't answered steps -/
theorem thr_step (h : ThrQ Q w0 w tb mb ps n K now S0 cas) (hn : n ≤ 1000) {i p : Nat} {c : Ca} (hp : ps[i]? = some p) (hc : cas[i]? = some c) (hr : c.ret < 0) :
    Calls Try.prog 24 #[pt p] w fun e w' => ∃ b ok, e = .returned (.bool b) ∧ Hid (ThrQ (stepQ Q i b) w0 w' tb mb ps (n + 1) K (now + 1) S0 (cas.set i (if b then { c with ok := ok, ret := now } else c))) := by
  obtain ⟨st, cnt, ds, X, A, t, qs, L, cs, lin, h, rfl, h0, hQ⟩ := h
  rw [List.getElem?_map] at hc
  cases hx : cs[i]? with
  | none => rw [hx] at hc; cases hc
  | some x =>
    rw [hx] at hc
    simp only [Option.map_some, Option.some.injEq] at hc
    subst hc
    have hxm := List.mem_of_getElem? hx
    have hox := h.hi.oko x hxm
    have hret : x.ret = none := by
      unfold caOf at hr
      cases hrr : x.ret with
      | none => rfl
      | some r => rw [hrr] at hr; dsimp only at hr; omega
    obtain ⟨s, hs⟩ : ∃ s, x.o = some s := by
      unfold CxO at hox
      cases hxo : x.o with
      | some s => exact ⟨s, rfl⟩
      | none => rw [hxo] at hox; obtain ⟨⟨r, h1, _⟩, _⟩ := hox; rw [hret] at h1; cases h1
    obtain ⟨q, hq, hqc, hqo⟩ := al_get h.al hx
    have hpq : q.a.cb = p := by
      have := h.tm.cbs
      rw [← this, List.getElem?_map, hq] at hp
      simpa using hp
    have hst := h.tm.st q (List.mem_of_getElem? hq)
    have hb : Bd t x.c := by
      rw [← hqc]
      exact ⟨by have := h.tm.ns; omega, by have := h.tm.asked; omega, by have := h.tm.ws; omega, by have := hst.len; omega⟩
    obtain ⟨L', lin', hI⟩ := hi_step h.hi hx hs hb
    have hstep := h.tm.step hn hq (hqo.trans hs)
    rw [hpq, hqc] at hstep
    refine hstep.mono ?_
    rintro e w' ⟨A', a', V', rfl, hT⟩
    refine ⟨_, (stepP t x.c s).2.1.ans.ok, rfl, Lib.hid ⟨_, _, _, X, A', _, _, L', _, lin', ⟨hT.out, hI, ?_⟩, ?_, fun k => ?_, t, plOf qs, x.c, s, hQ, ?_, rfl, ?_, rfl⟩⟩
    · rw [List.map_set, List.map_set, h.al]
    · rw [List.map_set]
      congr 1
      have hkey : (stepP t x.c s).2.1.key = x.c.key := by
        have hox2 := hox
        unfold CxO at hox2
        rw [hs] at hox2
        obtain ⟨_, h1, h2, h3, _⟩ := hox2
        have hn2 : SeenI st now x (present t L x.c.key) := ⟨now - 1, by omega, by unfold Cx.upto; rw [hret]; show now - 1 < now; omega, h.hi.cur _ _ (by omega)⟩
        obtain ⟨_, _, ho⟩ := li_step h.hi.li h.hi.ti (h.hi.okc x hxm).cc hb hn2 (h.hi.okc x hxm).ns h2 h3
        exact ho.1
      have hkd : (stepP t x.c s).2.1.kd = x.c.kd := by
        have hox2 := hox
        unfold CxO at hox2
        rw [hs] at hox2
        obtain ⟨_, _, _, ⟨k4, _⟩, _⟩ := ti_step h.hi.ti (h.hi.okc x hxm).cc hb hox2.2.2.1
        exact k4
      unfold caOf
      dsimp only
      rw [hkey, hkd, hret]
      cases (stepP t x.c s).2.2 with
      | none => rfl
      | some s' => rfl
    · unfold stN
      by_cases e : 0 < now
      · rw [if_pos e]; exact h0 k
      · exact absurd (h.hi.now1 hxm) (by omega)
    · unfold plOf
      rw [List.getElem?_map, hq]
      show some (q.c, q.o) = _
      rw [hqc, hqo, hs]
    · unfold plOf
      rw [List.map_set]
/-- what is noted, and what there is -/
theorem ThrQ.look (h : ThrQ Q w0 w tb mb ps n K now S0 cas) : ∃ t l, Q t l ∧ l.length = cas.length ∧ ∀ (i : Nat) (c : Ca), cas[i]? = some c → ∃ cl o, l[i]? = some (cl, o) ∧ (c.ret < 0 ↔ o ≠ none) := by
  obtain ⟨st, cnt, ds, X, A, t, qs, L, cs, lin, h, rfl, h0, hQ⟩ := h
  refine ⟨t, plOf qs, hQ, ?_, fun i c hc => ?_⟩
  · have := congrArg List.length h.al
    rw [List.length_map, List.length_map] at this
    unfold plOf
    rw [List.length_map, List.length_map, this]
  · rw [List.getElem?_map] at hc
    cases hx : cs[i]? with
    | none => rw [hx] at hc; cases hc
    | some x =>
      rw [hx] at hc
      simp only [Option.map_some, Option.some.injEq] at hc
      subst hc
      obtain ⟨q, hq, hqc, hqo⟩ := al_get h.al hx
      refine ⟨x.c, x.o, ?_, ?_⟩
      · unfold plOf
        rw [List.getElem?_map, hq]
        show some (q.c, q.o) = _
        rw [hqc, hqo]
      · have hox := h.hi.oko x (List.mem_of_getElem? hx)
        unfold CxO at hox
        cases hxo : x.o with
        | some s =>
          rw [hxo] at hox
          have hr : x.ret = none := hox.1
          constructor
          · intro _ e; cases e
          · intro _
            unfold caOf
            rw [hr]
            show (-1 : Int) < 0
            omega
        | none =>
          rw [hxo] at hox
          obtain ⟨⟨r, h1, _⟩, _⟩ := hox
          constructor
          · intro hlt
            unfold caOf at hlt
            rw [h1] at hlt
            dsimp only at hlt
            omega
          · intro e; exact absurd rfl e
/-- a call that is answered -/
theorem thr_answer (h : ThrQ Q w0 w tb mb ps n K now S0 cas) {i p : Nat} {c : Ca} (hp : ps[i]? = some p) (hc : cas[i]? = some c) (hr : 0 ≤ c.ret) :
    Calls Try.prog 25 #[pt p] w fun e w' => ∃ ke va, e = .returned (.tuple #[.agg #[.bool c.ok, .string ke, .int .u64 va, .int .i64 0], .bool true]) ∧ Fr [] w w' := by
  obtain ⟨st, cnt, ds, X, A, t, qs, L, cs, lin, h, rfl, h0, _⟩ := h
  rw [List.getElem?_map] at hc
  cases hx : cs[i]? with
  | none => rw [hx] at hc; cases hc
  | some x =>
    rw [hx] at hc
    simp only [Option.map_some, Option.some.injEq] at hc
    subst hc
    have hxm := List.mem_of_getElem? hx
    have hox := h.hi.oko x hxm
    obtain ⟨r, hret, _⟩ := caOf_ret hr
    unfold CxO at hox
    cases hxo : x.o with
    | some s => rw [hxo] at hox; rw [hox.1] at hret; cases hret
    | none =>
      rw [hxo] at hox
      obtain ⟨_, herr, _⟩ := hox
      obtain ⟨q, hq, hqc, hqo⟩ := al_get h.al hx
      have hpq : q.a.cb = p := by
        have := h.tm.cbs
        rw [← this, List.getElem?_map, hq] at hp
        simpa using hp
      have hst := h.tm.st q (List.mem_of_getElem? hq)
      have hv := hst.ov
      rw [hqo, hxo] at hv
      have hv' : q.V = .nilFunc := hv
      have hb := hst.call.cbk
      rw [hv', hqc] at hb
      have := ans_done hb
      rw [hpq] at this
      refine this.mono fun e w' ⟨he, hf⟩ => ⟨x.c.ans.key, x.c.ans.val, ?_, hf⟩
      rw [he]
      unfold An.agg caOf
      rw [herr, hret]
      rfl
end
end Go.Proofs.Ytmhiolhgofackaa
