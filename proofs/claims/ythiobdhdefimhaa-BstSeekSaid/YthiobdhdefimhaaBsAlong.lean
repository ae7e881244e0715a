/- PACKAGE bst: a Seek that is under way, beside insertions -/
import Derived.Test.YthiobdhdefimhaaBsMine
namespace Go.Proofs.Ythiobdhdefimhaa
open Go.RowKit
set_option linter.unusedVariables false
set_option linter.unusedSimpArgs false

theorem SekI.same {n : Nat} {t t' : Tr} {L : PT} {c : Cl} {x0 : ByteArray → Prop} {s : Stp} (h2 : SameC t t') (h : SekI n t L c x0 s) : SekI n t' L c x0 s := by
  obtain ⟨k1, k2, b, md, rfl, hm⟩ := h
  have hnd := h2.nd
  refine ⟨k1, k2, b, md, rfl, ?_⟩
  have hS : ∀ {x : ByteArray} {C : List Fm}, Sides t' x C ↔ Sides t x C := fun {x C} => by
    unfold Sides; simp only [hnd]
  cases md with
  | find => exact hm.elim
  | way => exact hm.elim
  | seek =>
    obtain ⟨X, C1, m, C2, f, C, ⟨e1, e2, e3, e4, e5, e6, e7⟩, hn⟩ := hm
    exact ⟨X, C1, m, C2, f, C, ⟨e1, e2, hS.2 e3, e4, e5, e6, by rw [e7]; unfold Tr.br; rw [h2.left, h2.right]⟩, hn⟩
  | left =>
    obtain ⟨Y, m, C2, D, Z, ⟨e1, e2, e3, e4, e5, e6, e7⟩, hn⟩ := hm
    refine ⟨Y, m, C2, D, Z, ⟨e1, hS.2 e2, e3, e4, e5, ?_, fun x a b d => e7 x a b (hS.1 d)⟩, hn⟩
    rw [e6]
    cases D with
    | nil => exact (h2.right _).symm
    | cons g D => exact (h2.left _).symm
theorem sek_cl {m : Nat} {t : Tr} {L : PT} {c : Cl} {x0 : ByteArray → Prop} {s : Stp} (hi : SekI m t L c x0 s) (ok : StepOk t c s) (hc : ClIn t.ns.length c) : ClIn t.ns.length (stepP t c s).2.1 := by
  obtain ⟨hk, hp, b, md, rfl, hm⟩ := hi
  obtain ⟨_, hd⟩ := ok
  show ClIn _ (c.desc (t.ask b.cell) (t.kid b) md).1
  unfold Cl.desc
  split
  · cases md with
    | find => exact hm.elim
    | way => exact hm.elim
    | left => exact hc
    | seek =>
      unfold Cl.toward
      dsimp only
      split
      · exact ⟨hc.1, fun p e => by simp only [Option.some.injEq] at e; subst e; exact hd.1⟩
      · exact hc
  · have hf : ∀ l, ClIn t.ns.length (c.found (t.ask b.cell) l).1 := fun l => by
      unfold Cl.found; split <;> exact ⟨hc.1, hc.2⟩
    unfold Cl.leaf
    rw [hk]
    cases md with
    | find => exact hm.elim
    | way => exact hm.elim
    | left => exact hf _
    | seek =>
      dsimp only
      split
      · exact hf _
      · exact hc
def SkGo (t : Tr) (L : PT) (c : Cl) (x0 : ByteArray → Prop) (k : ByteArray) (x : Hold) : Option Stp → Prop
  | some s => ∃ m, SekI m t L c x0 s
  | none => SekX x0 x k c.ans
structure SkSt (w0 w : World) (tb mb p : Nat) (x0 : ByteArray → Prop) (k : ByteArray) (x : Hold) (n xb : Nat) (K : List (Nat × Obj)) (A : TA) (a : CA) (t : Tr) (L : PT) (c : Cl) (V : Value) (o : Option Stp) : Prop where
  htb : A.tb = tb
  hmb : A.mb = mb
  hcb : a.cb = p
  cf : Cf [xb] w A a t c V
  ov : OutV [xb] w A a .sek V o
  kd : c.kd = .sek
  key : c.key = k
  good : Good t L x n
  cl : ClIn t.ns.length c
  fr : Fr [] w0 w
  low : ∀ y ∈ Both A a .sek, w0.heap.size ≤ y
  rows : ∀ q ∈ K, w.heap[q.1]? = some q.2 ∧ q.1 ∉ Both A a .sek
  mono : ∀ y, x0 y → x y ≠ none
  goes : SkGo t L c x0 k x o
def Sk (w0 w : World) (tb mb p : Nat) (x0 : ByteArray → Prop) (k : ByteArray) (x : Hold) (n xb : Nat) (K : List (Nat × Obj)) : Prop := ∃ A a t L c V o, SkSt w0 w tb mb p x0 k x n xb K A a t L c V o
section
variable {w0 w w' : World} {tb mb p : Nat} {x0 : ByteArray → Prop} {k : ByteArray} {x : Hold} {n xb : Nat} {K : List (Nat × Obj)}
theorem Sk.fr (h : Sk w0 w tb mb p x0 k x n xb K) : Fr [] w0 w := by
  obtain ⟨A, a, t, L, c, V, o, h⟩ := h
  exact h.fr
theorem Sk.at (h : Sk w0 w tb mb p x0 k x n xb K) {b : Nat} {o : Obj} (hm : (b, o) ∈ K) : w.heap[b]? = some o := by
  obtain ⟨A, a, t, L, c, V, o, h⟩ := h
  exact (h.rows _ hm).1
theorem Sk.keep0 (h : Sk w0 w tb mb p x0 k x n xb K) (hf : Fr [] w w') : Sk w0 w' tb mb p x0 k x n xb K := by
  obtain ⟨A, a, t, L, c, V, o, h⟩ := h
  refine ⟨A, a, t, L, c, V, o, { h with cf := h.cf.keep0 hf, ov := ?_, fr := h.fr.trans hf (by simp), rows := fun q hq => ⟨hf.keep (h.rows q hq).1 (by simp), (h.rows q hq).2⟩ }⟩
  cases o with
  | none => exact h.ov
  | some s => exact StpAt.keep hf.iv0 h.ov
theorem sk_start (h : Mine w0 w tb mb x n K) (hn : n ≤ 2000) (k : ByteArray) :
    Calls Try.prog 17 #[pt tb, .string k] w fun e w' => ∃ p, e = .returned (pt p) ∧ Hid (∃ xb, Sk w0 w' tb mb p (fun y => x y ≠ none) k x n xb K) := by
  obtain ⟨A, rfl, rfl, ⟨t, L, hT, hg⟩, h4, h5, h6⟩ := h
  refine (bt_Seek (X := []) k hT (by simp) (hg.quiet.nd2 (by have := hg.ns; omega))).mono ?_
  rintro e w' ⟨xb, hxb, A1, a, V, rfl, hcf, hov, hext, hfr, hfA, hfa, hcb⟩
  have hkd : (Cl.sk t k).kd = .sek := by unfold Cl.sk; split <;> rfl
  have hkey : (Cl.sk t k).key = k := by unfold Cl.sk; split <;> rfl
  rw [hkd] at hov hfa
  have hns : 2 < t.ns.length := by have := hT.lo.1; omega
  have hbo : ∀ y ∈ Both A1 a .sek, y ∈ A.foot ∨ w.heap.size ≤ y := fun y hy => (List.mem_append.1 hy).elim (hfA y) (hfa y)
  refine ⟨a.cb, rfl, Lib.hid ⟨xb, A1, a, t, L, Cl.sk t k, V, some _, ⟨hext.tb, hext.mb, rfl, hcf, hov, hkd, hkey, hg, ?_, h4.trans hfr (fun y hy => Or.inr (h5 y hy)), fun y hy => (hbo y hy).elim (h5 y) (fun h => Nat.le_trans h4.size h), fun q hq => ⟨hfr.keep (h6 q hq).1 (h6 q hq).2, fun hm => ?_⟩, fun y hy => hy, SekI.start hg.quiet k _⟩⟩⟩
  · unfold Cl.sk
    split
    · exact ⟨by simp [Cl.new], fun p e => by simp only [Option.some.injEq] at e; omega⟩
    · exact ⟨by simp [Cl.new], fun p e => by simp [Cl.new] at e⟩
  · rcases hbo _ hm with h | h
    · exact (h6 q hq).2 h
    · have := lt_of_block (h6 q hq).1; omega
theorem sk_step (h : Sk w0 w tb mb p x0 k x n xb K) (hn : n ≤ 2000) :
    Calls Try.prog 20 #[pt p] w fun e w' => (∃ b, e = .returned (.bool b)) ∧ Hid (Sk w0 w' tb mb p x0 k x (n + 1) xb K) := by
  obtain ⟨A, a, t, L, c, V, o, h⟩ := h
  obtain ⟨htb, hmb, hcb, cf, ov, kd, key, good, cl, fr, low, rows, mono, goes⟩ := h
  subst hcb
  cases o with
  | none =>
    have hv : V = .nilFunc := ov
    subst hv
    refine (step_done cf.call.cbk).mono ?_
    rintro e w' ⟨rfl, rfl⟩
    exact ⟨⟨true, rfl⟩, Lib.hid ⟨A, a, t, L, c, _, none, ⟨htb, hmb, rfl, cf, ov, kd, key, good.mono (by omega), cl, fr, low, rows, mono, goes⟩⟩⟩
  | some s =>
    obtain ⟨m, hi⟩ := goes
    obtain ⟨s1, s2, s3, s3', s4, s5, s6⟩ := sek_step good.quiet good.ord (fun y hy => by rw [good.cont]; exact mono y hy) (by have := good.ns; omega) hi
    have hcl := sek_cl hi s1 cl
    have sm : Small t c := Room.small (k := 0) ((good.fit hn).room good.quiet 0 (by omega)) (by rw [hi.path]; exact Nat.zero_le _)
    have hst := bt_step cf (by rw [kd]; exact ov) s1 sm
    rw [kd] at hst
    refine hst.mono ?_
    rintro e w' ⟨A', a', V', rfl, k1, k2, k3, k4, ⟨pv, rfl⟩, k5, k6⟩
    refine ⟨⟨_, rfl⟩, Lib.hid ⟨A', { a with pv := pv }, (stepP t c s).1, L, (stepP t c s).2.1, V', (stepP t c s).2.2, ⟨k4.tb.trans htb, k4.mb.trans hmb, rfl, k1, k2, k3, s5.trans key, good.same s2 (by omega), by rw [s2.ns]; exact hcl, fr.trans k5 (fun y hy => Or.inr (low y hy)), fun y hy => (k6 y hy).elim (low y) (fun h => Nat.le_trans fr.size h), fun q hq => ⟨k5.keep (rows q hq).1 (rows q hq).2, fun hm => ?_⟩, mono, ?_⟩⟩⟩
    · rcases k6 _ hm with h | h
      · exact (rows q hq).2 h
      · have := lt_of_block (rows q hq).1; omega
    · cases ho : (stepP t c s).2.2 with
      | none =>
        rw [ho] at s6
        refine ⟨fun e => ?_, fun e => ?_⟩
        · have := s6.no e
          rw [key] at this; exact this
        · obtain ⟨g1, g2, g3, g4⟩ := s6.yes e
          rw [key] at g2 g4
          exact ⟨g1, g2, by rw [← good.cont, g3]; simp, g4⟩
      | some s' =>
        rw [ho] at s6
        obtain ⟨n', _, hi'⟩ := s6
        exact ⟨n', hi'.same s2⟩
theorem doX_mono (x : Hold) (key : ByteArray) (v : Int) {y : ByteArray} (h : x y ≠ none) : (doX x 1 key v).1 y ≠ none := by
  unfold doX
  rw [if_pos rfl]
  split
  · exact h
  · show Hold.put x key (some v) y ≠ none
    unfold Hold.put
    split
    · simp
    · exact h
theorem sk_insert (h : Sk w0 w tb mb p x0 k x n xb K) (hn : n ≤ 2000) (key : ByteArray) (v : Int) :
    Calls Try.prog 21 #[pt tb, .string key, .int .u64 v] w fun e w' => ∃ q, e = .returned (pt q) ∧ Hid (∀ W, Fr [] w' W → Calls Try.prog 9 #[pt q] W fun e w'' => ∃ ok ke va er, e = .returned (.agg #[.bool ok, .string ke, .int .u64 va, .int .i64 er]) ∧ Hid (∃ x', Sk w0 w'' tb mb p x0 k x' (n + 1) xb K)) := by
  obtain ⟨A, a, t, L, c, V, o, h⟩ := h
  obtain ⟨htb, hmb, hcb, cf, ov, kd, ckey, good, cl, fr, low, rows, mono, goes⟩ := h
  subst htb
  refine (bt_Insert (X := [xb]) key v cf.tree cf.xs).mono ?_
  rintro e w' hp
  have hp' := hp
  obtain ⟨A1, a1, V1, rfl, _⟩ := hp'
  refine ⟨a1.cb, rfl, Lib.hid fun W hW => ?_⟩
  obtain ⟨m, T, C, L', r1, r2, r3, r4, r5⟩ := op_do good hn 1 key v
  have hc1 : madeC 1 key v = Cl.new .ins key v := by unfold madeC; rw [if_pos rfl]
  have hs1 : madeS t 1 key = .beg := by unfold madeS; rw [if_pos rfl]
  rw [hc1, hs1] at r1
  refine (made_run (hp.later hW) r1).mono ?_
  rintro e w'' ⟨A', rfl, k1, k2, k3, k4⟩
  have hle : t.ns.length ≤ T.ns.length := by rw [← cf.tree.nlen, ← k1.nlen]; exact k2.nl
  have hbo : ∀ y ∈ Both A' a .sek, y ∈ Both A a .sek ∨ w.heap.size ≤ y := fun y hy => (List.mem_append.1 hy).elim (fun h => (k4 y h).imp (fun h => List.mem_append_left _ h) id) (fun h => Or.inl (List.mem_append_right _ h))
  refine ⟨C.ans.ok, C.ans.key, C.ans.val, C.ans.err, rfl, Lib.hid ⟨(doX x 1 key v).1, A', a, T, L', c, V, o, ⟨k2.tb, k2.mb.trans hmb, hcb, cf.treed k3 k1 k2 cl, ?_, kd, ckey, r2, ⟨fun p hp => Nat.lt_of_lt_of_le (cl.1 p hp) hle, fun p hp => Nat.lt_of_lt_of_le (cl.2 p hp) hle⟩, fr.trans k3 (fun y hy => Or.inr (low y (List.mem_append_left _ hy))), fun y hy => (hbo y hy).elim (low y) (fun h => Nat.le_trans fr.size h), fun q hq => ⟨k3.keep (rows q hq).1 (fun h => (rows q hq).2 (List.mem_append_left _ h)), fun hm => ?_⟩, fun y hy => doX_mono x key v (mono y hy), ?_⟩⟩⟩
  · cases o with
    | none => exact ov
    | some s =>
      obtain ⟨m', _, _, b, md, rfl, _⟩ := goes
      exact StpAt.ext (s := .desc b md) k2 (show True from trivial) (StpAt.keep (s := .desc b md) (cf.tree.iv k3) ov)
  · rcases hbo _ hm with h | h
    · exact (rows q hq).2 h
    · have := lt_of_block (rows q hq).1; omega
  · cases o with
    | none =>
      refine ⟨goes.no, fun e => ?_⟩
      obtain ⟨g1, g2, g3, g4⟩ := goes.yes e
      exact ⟨g1, g2, doX_mono x key v g3, g4⟩
    | some s =>
      obtain ⟨m', hi⟩ := goes
      exact hi.grow good.quiet r4 (r5 rfl)
set_option maxHeartbeats 2000000 in
theorem run_done {w : World} {a : CA} {r : An} (hb : CallB w a.cb .nilFunc r) : Calls Try.prog 9 #[pt a.cb] w fun e w' => e = .returned r.agg ∧ Fr [] w w' := by
  obtain ⟨wa, hwa⟩ : ∃ wa, wa = w.alloc (.cells #[.bool false, .string ⟨#[]⟩, .int .u64 0, .int .i64 0] 32) := ⟨_, rfl⟩
  have hfa : Fr [] w wa := by rw [hwa]; exact (Fr.refl [] w).alloc _
  have hrb : wa.heap[w.heap.size]? = some (.cells #[.bool false, .string ⟨#[]⟩, .int .u64 0, .int .i64 0] 32 (0, 0)) := by rw [hwa]; exact new_block w _
  have HS : Hid (∀ W, Fr [] w W → Calls Try.prog 20 #[pt a.cb] W fun e w' => e = .returned (.bool true) ∧ W = w') := Lib.hid fun W hW => step_done (hW.keep hb (by simp))
  have HAN : Hid (∀ W, Fr [] w W → Calls Try.prog 19 #[pt a.cb] W fun e w' => e = .returned (.tuple #[.agg #[.bool r.ok, .string r.key, .int .u64 r.val, .int .i64 r.err], .bool true]) ∧ Fr [] W w') := Lib.hid fun W hW => ans_done (hW.keep hb (by simp))
  have HWA := Lib.hid hwa
  have HFA := Lib.hid hfa
  have HRB := Lib.hid hrb
  clear hb hwa hfa hrb
  go_enter Try.func9, Try.ntmps9
  go_wp2_with fail
  rw [← HWA.out]
  go_loopg [] 1 (fun k wr => wr = wa)
  case atStart => rfl
  case round =>
    subst hrel
    go_wp2_with (go_at_call 20; refine (HS.out _ HFA.out).mono ?_; rintro e w2 ⟨rfl, rfl⟩; refine go_stop ?_)
    unfold Stop
    go_wp2_with (go_at_call 19; refine (HAN.out _ HFA.out).mono ?_; rintro e w3 ⟨rfl, hf3⟩; refine go_stop ?_)
    unfold Stop
    have HF3 := Lib.hid hf3
    have hrb3 := hf3.keep HRB.out (by simp)
    have hsz := lt_of_block hrb3
    obtain ⟨r0, r1, r2, r3, rf⟩ := cells4 hrb3
    obtain ⟨n0, n1, n2, n3, nf⟩ := cells4 (new_block w3 (.cells #[.bool r.ok, .string r.key, .int .u64 r.val, .int .i64 r.err] 32))
    have rf0 := rf 0
    have rf1 := rf 1
    have rf2 := rf 2
    have rf3 := rf 3
    have m1 : ¬ w.heap.size = w3.heap.size := by omega
    have m2 : ¬ w3.heap.size = w.heap.size := by omega
    clear hf3 hrb3 rf nf
    go_wp2
    refine bodyPost_ret (v := .agg #[.bool r.ok, .string r.key, .int .u64 r.val, .int .i64 r.err]) (by simp [results, Try.results9, go_sem, *]) rfl ⟨rfl, ?_⟩
    exact ((((((HFA.out.trans HF3.out (by simp) : Fr [] w w3).setCell (Or.inr (Nat.le_refl _)) _).setCell (Or.inr (Nat.le_refl _)) _).setCell (Or.inr (Nat.le_refl _)) _).setCell (Or.inr (Nat.le_refl _)) _).alloc _)
theorem sk_run (h : Sk w0 w tb mb p x0 k x n xb K) (hn : n ≤ 2000) :
    Calls Try.prog 9 #[pt p] w fun e w' => ∃ ok ke va er, e = .returned (.agg #[.bool ok, .string ke, .int .u64 va, .int .i64 er]) ∧ Hid (SekX x0 x k ⟨ok, ke, va, er⟩ ∧ Mine w0 w' tb mb x (n + 1) K) := by
  obtain ⟨A, a, t, L, c, V, o, h⟩ := h
  obtain ⟨htb, hmb, hcb, cf, ov, kd, ckey, good, cl, fr, low, rows, mono, goes⟩ := h
  subst hcb
  cases o with
  | none =>
    have hv : V = .nilFunc := ov
    subst hv
    refine (run_done cf.call.cbk).mono ?_
    rintro e w' ⟨rfl, hf⟩
    exact ⟨c.ans.ok, c.ans.key, c.ans.val, c.ans.err, rfl, Lib.hid ⟨goes, A, htb, hmb, ⟨t, L, cf.tree.keep0 hf, good.mono (by omega)⟩, fr.trans hf (by simp), fun y hy => low y (List.mem_append_left _ hy), fun q hq => ⟨hf.keep (rows q hq).1 (by simp), fun h => (rows q hq).2 (List.mem_append_left _ h)⟩⟩⟩
  | some s =>
    obtain ⟨m, hi⟩ := goes
    obtain ⟨j, T, C, r1, r2, r3⟩ := good.seek hn hi mono
    refine (bt_Run cf (by rw [kd]; exact ov) r1).mono ?_
    rintro e w' ⟨A', a', rfl, hw⟩
    obtain ⟨g1, g2, g3, g4, g5, g6⟩ := hw
    rw [kd] at g5 g6
    rw [ckey] at r3
    refine ⟨C.ans.ok, C.ans.key, C.ans.val, C.ans.err, rfl, Lib.hid ⟨r3, A', g3.tb.trans htb, g3.mb.trans hmb, ⟨T, L, g1.tree, r2⟩, fr.trans g5 (fun y hy => Or.inr (low y hy)), fun y hy => (g6 y (List.mem_append_left _ hy)).elim (low y) (fun h => Nat.le_trans fr.size h), fun q hq => ⟨g5.keep (rows q hq).1 (rows q hq).2, fun hm => ?_⟩⟩⟩
    rcases g6 _ (List.mem_append_left _ hm) with h | h
    · exact (rows q hq).2 h
    · have := lt_of_block (rows q hq).1; omega
end
end Go.Proofs.Ythiobdhdefimhaa
