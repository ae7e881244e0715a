/- A CROWD ON A TREE: Thr (XBsThr) beside a Crowd's memory; Begin, Pick, Idle, Clock, Calls there -/
import Derived.Test.YtmhiolhgofackaaCrP
import Derived.Test.YtmhiolhgofackaaBsThr
namespace Go.Proofs.Ytmhiolhgofackaa
open Go.RowKit
set_option linter.unusedVariables false
set_option linter.unusedSimpArgs false
section
variable {Q : PlQ} {w0 w w' : World} {tb mb n now : Nat} {ps : List Nat} {K : List (Nat × Obj)} {S0 : SetB} {cas : List Ca} {B : CB} {c : Cro}
/-- a call that isn't answered -/
theorem thr_answer_not (h : ThrQ Q w0 w tb mb ps n K now S0 cas) {i p : Nat} {x : Ca} (hp : ps[i]? = some p) (hc : cas[i]? = some x) (hr : x.ret < 0) :
    Calls Try.prog 25 #[pt p] w fun e w' => e = .returned (.tuple #[An.no.agg, .bool false]) ∧ Fr [] w w' := by
  obtain ⟨t, l, hQ, hl, hk⟩ := h.look
  obtain ⟨cl, o, h1, h2⟩ := hk i x hc
  obtain ⟨st, cnt, ds, X, A, t, qs, L, cs, lin, h, rfl, h0, _⟩ := h
  rw [List.getElem?_map] at hc
  cases hx : cs[i]? with
  | none => rw [hx] at hc; cases hc
  | some x' =>
    rw [hx] at hc
    simp only [Option.map_some, Option.some.injEq] at hc
    subst hc
    have hox := h.hi.oko x' (List.mem_of_getElem? hx)
    obtain ⟨q, hq, hqc, hqo⟩ := al_get h.al hx
    have hpq : q.a.cb = p := by
      have := h.tm.cbs
      rw [← this, List.getElem?_map, hq] at hp
      simpa using hp
    have hst := h.tm.st q (List.mem_of_getElem? hq)
    have hv := hst.ov
    unfold CxO at hox
    cases hxo : x'.o with
    | none =>
      rw [hxo] at hox
      obtain ⟨⟨r, h1, _⟩, _⟩ := hox
      unfold caOf at hr
      rw [h1] at hr
      dsimp only at hr
      omega
    | some s =>
      rw [hqo, hxo] at hv
      obtain ⟨f, y, z, hv'⟩ := StpAt.form hv
      have hb := hst.call.cbk
      rw [hv'] at hb
      have := ans_not hb
      rw [hpq] at this
      exact this
/-- behind a step -/
def ThrR (Q : PlQ) (w0 : World) (tb mb : Nat) (ps : List Nat) (n now : Nat) (S0 : SetB) (cas : List Ca) (i : Nat) (x : Ca) (W : World) (K : Rows) (b : Bool) (a : An) : Prop :=
  ThrQ (stepQ Q i b) w0 W tb mb ps (n + 1) K (now + 1) S0 (cas.set i (if b then { x with ok := a.ok, ret := now } else x)) ∧ a.err = 0 ∧ (b = false → a.ok = false)
theorem thr_steps (h : ThrQ Q w0 w tb mb ps n K now S0 cas) (hn : n ≤ 1000) {i p : Nat} {x : Ca} (hp : ps[i]? = some p) (hx : cas[i]? = some x) (hr : x.ret < 0) : Steps w0.heap.size w p K (ThrR Q w0 tb mb ps n now S0 cas i x) where
  step := fun W K' hW hk => by
    have h1 : ThrQ Q w0 W tb mb ps n K' now S0 cas := h.write (S := []) (by simp) hW (fun _ => hW.iv0) hk
    refine (thr_step h1 hn hp hx hr).mono ?_
    rintro e w' ⟨b, ok, he, h2⟩
    cases b
    · exact ⟨false, ⟨false, ByteArray.empty, 0, 0⟩, he, Lib.hid ⟨h2.out, rfl, fun _ => rfl⟩⟩
    · exact ⟨true, ⟨ok, ByteArray.empty, 0, 0⟩, he, Lib.hid ⟨h2.out, rfl, fun e => by cases e⟩⟩
  ans := by
    intro W K' b a hr'
    obtain ⟨h1, h2, h3⟩ := hr'
    have hil := get_lt hx
    cases b
    · refine (thr_answer_not h1 hp (x := x) (by simp only [Bool.false_eq_true, if_false]; rw [List.getElem?_set_self hil]) hr).mono ?_
      rintro e w' ⟨he, hf⟩
      exact ⟨An.no, (h3 rfl).symm, rfl, he, hf⟩
    · refine (thr_answer h1 hp (c := { x with ok := a.ok, ret := now }) (by simp only [if_true]; rw [List.getElem?_set_self hil]) (by show (0 : Int) ≤ (now : Int); omega)).mono ?_
      rintro e w' ⟨ke, va, he, hf⟩
      exact ⟨⟨a.ok, ke, va, 0⟩, rfl, rfl, he, hf⟩
  same := by
    rintro W K' b a a' ⟨h1, h2, h3⟩ ho he
    unfold ThrR
    rw [ho]
    exact ⟨h1, he, h3⟩
  at_ := fun hr' hm => hr'.1.at hm
  write := fun hr' hS hf hi hk => ⟨hr'.1.write hS hf hi hk, hr'.2⟩
  err := fun hr' => hr'.2.1
/-- a tree, its calls, and a Crowd that has them; E: blocks that stay -/
def CwS (Q : PlQ) (w0 w : World) (tb mb : Nat) (B : CB) (ps : List Nat) (n : Nat) (S0 : SetB) (c : Cro) (E : Rows) : Prop :=
  ∃ K, ThrQ Q w0 w tb mb ps n (E ++ K) c.now S0 c.cas ∧ CrAt w B ps c ∧ (∀ b ∈ B.foot, w0.heap.size ≤ b ∧ ∃ o, (b, o) ∈ K) ∧ (∀ r ∈ E, r.1 ∉ B.foot) ∧ CroOk c ∧ c.cas.length ≤ c.now ∧ n ≤ c.now
variable {E : Rows}
theorem CwS.ok (h : CwS Q w0 w tb mb B ps n S0 c E) : CroOk c := by obtain ⟨K, _, _, _, _, h, _⟩ := h; exact h
theorem CwS.cr (h : CwS Q w0 w tb mb B ps n S0 c E) : CrAt w B ps c := by obtain ⟨K, _, h, _⟩ := h; exact h
theorem CwS.fr (h : CwS Q w0 w tb mb B ps n S0 c E) : Fr [] w0 w := by obtain ⟨K, h, _⟩ := h; exact h.fr
theorem CwS.few (h : CwS Q w0 w tb mb B ps n S0 c E) : c.cas.length ≤ c.now := by obtain ⟨K, _, _, _, _, _, h, _⟩ := h; exact h
theorem CwS.lens (h : CwS Q w0 w tb mb B ps n S0 c E) : c.cas.length = ps.length := by obtain ⟨K, h, _⟩ := h; exact h.lens
theorem CwS.fit (h : CwS Q w0 w tb mb B ps n S0 c E) (k : ByteArray) : Fit (ofKey k c.cas) S0 := by obtain ⟨K, h, _⟩ := h; exact h.fit k
theorem CwS.at (h : CwS Q w0 w tb mb B ps n S0 c E) {b : Nat} {o : Obj} (hm : (b, o) ∈ E) : w.heap[b]? = some o := by
  obtain ⟨K, h, _⟩ := h
  exact h.at (List.mem_append_left _ hm)
theorem CwS.mono {Q' : PlQ} (h : CwS Q w0 w tb mb B ps n S0 c E) (hq : ∀ t l, Q t l → Q' t l) : CwS Q' w0 w tb mb B ps n S0 c E := by
  obtain ⟨K, h1, h⟩ := h
  exact ⟨K, h1.mono hq, h⟩
theorem CwS.keep0 (h : CwS Q w0 w tb mb B ps n S0 c E) (hf : Fr [] w w') : CwS Q w0 w' tb mb B ps n S0 c E := by
  obtain ⟨K, h1, h2, h3⟩ := h
  exact ⟨K, h1.keep0 hf, h2.keep0 hf, h3⟩
/-- other blocks that stay: known ones, and new ones -/
theorem CwS.rows {E' : Rows} (h : CwS Q w0 w tb mb B ps n S0 c E) (hf : Fr [] w w') (hE : ∀ r ∈ E', w'.heap[r.1]? = some r.2 ∧ ((∃ o, (r.1, o) ∈ E) ∨ w.heap.size ≤ r.1)) : CwS Q w0 w' tb mb B ps n S0 c E' := by
  obtain ⟨K, h1, h2, h3, h4, h5⟩ := h
  refine ⟨K, h1.write (S := []) (by simp) hf (fun _ => hf.iv0) (fun r hr => ?_), h2.keep0 hf, h3, fun r hr hm => ?_, h5⟩
  · rcases List.mem_append.1 hr with hr | hr
    · obtain ⟨k1, k2⟩ := hE r hr
      exact ⟨k1, k2.imp (fun ⟨o, ho⟩ => ⟨o, List.mem_append_left _ ho⟩) id⟩
    · exact ⟨hf.keep (h1.at (o := r.2) (List.mem_append_right _ hr)) (by simp), Or.inl ⟨_, List.mem_append_right _ hr⟩⟩
  · obtain ⟨_, k2⟩ := hE r hr
    rcases k2 with ⟨o, ho⟩ | k2
    · exact h4 _ ho hm
    · obtain ⟨o, ho⟩ := (h3 _ hm).2
      have := lt_of_block (h1.at (List.mem_append_right _ ho))
      omega
/-- a call was made: it may begin, or be forgotten -/
def MadeS (Q : PlQ) (f : Tr → Cl × Option Stp) (w0 w : World) (tb mb : Nat) (B : CB) (ps : List Nat) (n : Nat) (S0 : SetB) (c : Cro) (E : Rows) (p : Nat) (kind : Int) (key : ByteArray) : Prop :=
  CwS Q w0 w tb mb B ps n S0 c E ∧ ∃ K, ThrQ (addQ Q f) w0 w tb mb (ps ++ [p]) n (E ++ K) (c.now + 1) S0 (c.cas ++ [⟨kind, key, false, c.now, -1⟩]) ∧ ∀ b ∈ B.foot, ∃ o, (b, o) ∈ K
theorem MadeS.keep0 {f : Tr → Cl × Option Stp} {p : Nat} {kind : Int} {key : ByteArray} (h : MadeS Q f w0 w tb mb B ps n S0 c E p kind key) (hf : Fr [] w w') : MadeS Q f w0 w' tb mb B ps n S0 c E p kind key := by
  obtain ⟨h1, K, h2, h3⟩ := h
  exact ⟨h1.keep0 hf, K, h2.keep0 hf, h3⟩
theorem cw_Insert (h : CwS Q w0 w tb mb B ps n S0 c E) (hn : c.now ≤ 1000) (k : ByteArray) (v : Int) :
    Calls Try.prog 14 #[pt tb, .string k, .int .u64 v] w fun e w' => ∃ p, e = .returned (pt p) ∧ Hid (MadeS Q (fun _ => (Cl.new .ins k v, some .beg)) w0 w' tb mb B ps n S0 c E p 1 k) := by
  have h' := h
  obtain ⟨K, h1, h2, h3, h4, h5, h6, h7⟩ := h'
  refine (thr_Insert h1 (by omega) k v).mono ?_
  rintro e w' ⟨p, he, k1, k2, k3⟩
  exact ⟨p, he, Lib.hid ⟨⟨K, k1.out, h2.rows (K := E ++ K) (fun b hb => (h3 b hb).2.imp fun o ho => List.mem_append_right _ ho) (fun r hr => h1.at (o := r.2) hr) (fun r hr => k1.out.at (o := r.2) hr), h3, h4, h5, h6, h7⟩, K, k2.out, fun b hb => (h3 b hb).2⟩⟩
theorem cw_Find (h : CwS Q w0 w tb mb B ps n S0 c E) (hn : c.now ≤ 1000) (k : ByteArray) :
    Calls Try.prog 7 #[pt tb, .string k] w fun e w' => ∃ p, e = .returned (pt p) ∧ Hid (MadeS Q (fun t => (Cl.new .fnd k 0, some (.desc (t.toward 2 k) .find))) w0 w' tb mb B ps n S0 c E p 3 k) := by
  have h' := h
  obtain ⟨K, h1, h2, h3, h4, h5, h6, h7⟩ := h'
  refine (thr_Find h1 (by omega) k).mono ?_
  rintro e w' ⟨p, he, k1, k2, k3⟩
  exact ⟨p, he, Lib.hid ⟨⟨K, k1.out, h2.rows (K := E ++ K) (fun b hb => (h3 b hb).2.imp fun o ho => List.mem_append_right _ ho) (fun r hr => h1.at (o := r.2) hr) (fun r hr => k1.out.at (o := r.2) hr), h3, h4, h5, h6, h7⟩, K, k2.out, fun b hb => (h3 b hb).2⟩⟩
theorem CroOk.under {c : Cro} (h : CroOk c) {l : Nat} (hl : c.cas.length = l) : ∀ (u i : Nat), c.sl[u]? = some (some i) → i < l := fun u i hu => by
  obtain ⟨x, hx, _⟩ := h.has u i hu
  rw [← hl]
  exact get_lt hx
theorem cw_Begin_ok {f : Tr → Cl × Option Stp} {p : Nat} {kind : Int} {key : ByteArray} (h : MadeS Q f w0 w tb mb B ps n S0 c E p kind key) (hn : c.now ≤ 1000) {t : Int} {m : Nat} (ht : t = (m : Int)) (hs : c.sl[m]? = some none) :
    Calls Try.prog 8 #[pt B.cb, .int .i64 t, pt p, .int .i64 kind, .string key] w fun e w' => e = .returned (.int .i64 0) ∧ Hid (∃ v, CwS (addQ Q f) w0 w' tb mb { B with cv := v } (ps ++ [p]) n S0 (c.begin m kind key) E) := by
  subst ht
  obtain ⟨⟨K0, h1, h3, h4, hE, h5, h6, h7⟩, K, h2, hK⟩ := h
  refine (cr_Begin_ok h3 hs h1.lens.symm (h5.under h1.lens) (by omega) (by omega) p kind key).mono ?_
  rintro e w' ⟨he, v, hv⟩
  obtain ⟨k1, k2, k3⟩ := hv.out
  refine ⟨he, Lib.hid ⟨v, ?_⟩⟩
  obtain ⟨K', j1, j2⟩ := k1.objs
  have hfoot : ∀ b ∈ CB.foot { B with cv := v }, b ∈ B.foot ∨ w.heap.size ≤ b := by
    intro b hb
    unfold CB.foot at hb ⊢
    rcases List.mem_cons.1 hb with rfl | hb
    · exact Or.inl (List.mem_cons_self ..)
    rcases List.mem_cons.1 hb with rfl | hb
    · exact Or.inl (List.mem_cons_of_mem _ (List.mem_cons_self ..))
    · rcases k3 b (by simpa using hb) with e | e
      · exact Or.inl (by simp [e])
      · exact Or.inr e
  refine ⟨K', h2.write (S := B.foot) (fun b hb => ?_) k2 (iv_of k2 h3.types) (fun r hr => ?_), k1, fun b hb => ⟨?_, j2 b hb⟩, fun r hr hm => ?_, h5.begin hs kind key, ?_, ?_⟩
  · obtain ⟨o, ho⟩ := hK b hb
    exact ⟨(h4 b hb).1, o, List.mem_append_right _ ho⟩
  · rcases List.mem_append.1 hr with hr | hr
    · exact ⟨k2.keep (h1.at (o := r.2) (List.mem_append_left _ hr)) (hE r hr), Or.inl ⟨_, List.mem_append_left _ hr⟩⟩
    · obtain ⟨i1, i2⟩ := j1 r hr
      refine ⟨i1, (hfoot _ i2).imp (fun q => ?_) id⟩
      obtain ⟨o, ho⟩ := hK _ q
      exact ⟨o, List.mem_append_right _ ho⟩
  · rcases hfoot b hb with q | q
    · exact (h4 b q).1
    · exact Nat.le_trans h1.fr.size q
  · rcases hfoot _ hm with q | q
    · exact hE r hr q
    · have := lt_of_block (h1.at (o := r.2) (List.mem_append_left _ hr))
      omega
  · show (c.cas ++ _).length ≤ c.now + 1
    rw [List.length_append, List.length_singleton]; omega
  · show n ≤ c.now + 1
    omega
/-- it isn't begun -/
theorem cw_Begin_no {f : Tr → Cl × Option Stp} {p : Nat} {kind : Int} {key : ByteArray} (h : MadeS Q f w0 w tb mb B ps n S0 c E p kind key) {t : Int} (ht : t < 0 ∨ (c.sl.length : Int) ≤ t) :
    Calls Try.prog 8 #[pt B.cb, .int .i64 t, pt p, .int .i64 kind, .string key] w fun e w' => e = .returned (.int .i64 1) ∧ Hid (CwS Q w0 w' tb mb B ps n S0 c E) :=
  (cr_Begin_out h.1.cr ht (pt p) kind key).mono fun e w' ⟨he, hf⟩ => ⟨he, Lib.hid (h.1.keep0 hf)⟩
theorem cw_Begin_busy {f : Tr → Cl × Option Stp} {p : Nat} {kind : Int} {key : ByteArray} (h : MadeS Q f w0 w tb mb B ps n S0 c E p kind key) {t : Int} {m i : Nat} (ht : t = (m : Int)) (hs : c.sl[m]? = some (some i)) :
    Calls Try.prog 8 #[pt B.cb, .int .i64 t, pt p, .int .i64 kind, .string key] w fun e w' => e = .returned (.int .i64 8) ∧ Hid (CwS Q w0 w' tb mb B ps n S0 c E) := by
  subst ht
  exact (cr_Begin_busy h.1.cr hs p kind key).mono fun e w' ⟨he, hf⟩ => ⟨he, Lib.hid (h.1.keep0 hf)⟩
theorem cw_Pick (h : CwS Q w0 w tb mb B ps n S0 c E) (hn : c.now ≤ 1000) {t : Int} {m i : Nat} (ht : t = (m : Int)) (hs : c.sl[m]? = some (some i)) :
    Calls Try.prog 9 #[pt B.cb, .int .i64 t] w fun e w' => e = .returned (.bool true) ∧ Hid (∃ x b ok, c.cas[i]? = some x ∧ x.ret < 0 ∧ CwS (stepQ Q i b) w0 w' tb mb B ps (n + 1) S0 (c.pick m i x b ok) E) := by
  subst ht
  obtain ⟨K, h1, h3, h4, hE, h5, h6, h7⟩ := h
  obtain ⟨x, hx, hr⟩ := h5.has m i hs
  have hpi : i < ps.length := h5.under h1.lens m i hs
  have hp : ps[i]? = some ps[i] := List.getElem?_eq_getElem hpi
  refine (cr_Pick h3 hs hp hx (E := E) (KB := K) (thr_steps h1 (by omega) hp hx hr) h1.fr.size (fun r hr => h1.at (b := r.1) (o := r.2) hr) h4 hE (by omega)).mono ?_
  rintro e w' ⟨he, hR⟩
  obtain ⟨b, a, K', ⟨k1, k2, k3⟩, k4, k5⟩ := hR.out
  refine ⟨he, Lib.hid ⟨x, b, a.ok, hx, hr, K', k1, k4, fun k hk => ⟨(h4 k hk).1, k5 k hk⟩, hE, h5.pick hs hx b a.ok, ?_, ?_⟩⟩
  · show (c.cas.set _ _).length ≤ c.now + 1
    rw [List.length_set]; omega
  · show n + 1 ≤ c.now + 1
    omega
theorem cw_Pick_no (h : CwS Q w0 w tb mb B ps n S0 c E) {t : Int} (ht : (t < 0 ∨ (c.sl.length : Int) ≤ t) ∨ ∃ m : Nat, t = (m : Int) ∧ c.sl[m]? = some none) :
    Calls Try.prog 9 #[pt B.cb, .int .i64 t] w fun e w' => e = .returned (.bool false) ∧ Hid (CwS Q w0 w' tb mb B ps n S0 c E) :=
  (cr_Pick_no h.cr ht).mono fun e w' ⟨he, hf⟩ => ⟨he, Lib.hid (h.keep0 hf)⟩
end
end Go.Proofs.Ytmhiolhgofackaa
