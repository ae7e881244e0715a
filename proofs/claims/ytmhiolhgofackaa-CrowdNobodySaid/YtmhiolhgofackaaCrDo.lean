/- impostlaw16.do: contract; what a deed does to a Crowd, plainly
A CROWD IN A LAW: Calls, Idle, Clock; what deeds do to the clock and the notes, plainly -/
import Derived.Test.YtmhiolhgofackaaCrTh
import Derived.Test.YtmhiolhgofackaaCrLaw
namespace Go.Proofs.Ytmhiolhgofackaa
open Go.RowKit
set_option linter.unusedVariables false
set_option linter.unusedSimpArgs false

def BegR (c : Cro) (t : Int) (kind : Int) (key : ByteArray) (c' : Cro) (er : Int) : Prop :=
  (∃ m : Nat, t = (m : Int) ∧ c.sl[m]? = some none ∧ c' = c.begin m kind key ∧ er = 0) ∨ (∃ m i : Nat, t = (m : Int) ∧ c.sl[m]? = some (some i) ∧ c' = c ∧ er = 8) ∨ ((t < 0 ∨ (c.sl.length : Int) ≤ t) ∧ c' = c ∧ er = 1)
def PickR (c : Cro) (t : Int) (c' : Cro) : Prop :=
  (∃ (m i : Nat) (x : Ca) (b ok : Bool), t = (m : Int) ∧ c.sl[m]? = some (some i) ∧ c.cas[i]? = some x ∧ x.ret < 0 ∧ c' = c.pick m i x b ok) ∨ (((t < 0 ∨ (c.sl.length : Int) ≤ t) ∨ ∃ m : Nat, t = (m : Int) ∧ c.sl[m]? = some none) ∧ c' = c)
def begins (d : Dd) : Prop := d.kind = 1 ∨ d.kind = 2 ∨ d.kind = 3
def DoR (c : Cro) (d : Dd) (c' : Cro) (er : Int) : Prop := (begins d ∧ BegR c d.t d.kind d.key c' er) ∨ (¬ begins d ∧ PickR c d.t c' ∧ er = 0)
/-- a Crowd on a tree, whatever there is -/
def Cw (w0 w : World) (tb mb cb : Nat) (S0 : SetB) (c : Cro) (E : Rows) : Prop := ∃ B ps n, B.cb = cb ∧ CwS (fun _ _ => True) w0 w tb mb B ps n S0 c E
def MadeC (w0 w : World) (tb mb cb : Nat) (S0 : SetB) (c : Cro) (E : Rows) (p : Nat) (kind : Int) (key : ByteArray) : Prop := ∃ f B ps n, B.cb = cb ∧ MadeS (fun _ _ => True) f w0 w tb mb B ps n S0 c E p kind key
theorem slot_ways (c : Cro) (t : Int) : (∃ m : Nat, t = (m : Int) ∧ c.sl[m]? = some none) ∨ (∃ m i : Nat, t = (m : Int) ∧ c.sl[m]? = some (some i)) ∨ (t < 0 ∨ (c.sl.length : Int) ≤ t) := by
  by_cases h : t < 0 ∨ (c.sl.length : Int) ≤ t
  · exact Or.inr (Or.inr h)
  · have hm : t.toNat < c.sl.length := by omega
    have e : t = (t.toNat : Int) := by omega
    have hg : c.sl[t.toNat]? = some c.sl[t.toNat] := List.getElem?_eq_getElem hm
    cases hs : c.sl[t.toNat] with
    | none => exact Or.inl ⟨_, e, by rw [hg, hs]⟩
    | some i => exact Or.inr (Or.inl ⟨_, i, e, by rw [hg, hs]⟩)
section
variable {w0 w w' : World} {tb mb cb : Nat} {S0 : SetB} {c : Cro} {E : Rows}
theorem Cw.keep0 (h : Cw w0 w tb mb cb S0 c E) (hf : Fr [] w w') : Cw w0 w' tb mb cb S0 c E := by
  obtain ⟨B, ps, n, hb, h⟩ := h
  exact ⟨B, ps, n, hb, h.keep0 hf⟩
theorem MadeC.keep0 {p : Nat} {kind : Int} {key : ByteArray} (h : MadeC w0 w tb mb cb S0 c E p kind key) (hf : Fr [] w w') : MadeC w0 w' tb mb cb S0 c E p kind key := by
  obtain ⟨f, B, ps, n, hb, h⟩ := h
  exact ⟨f, B, ps, n, hb, h.keep0 hf⟩
theorem Cw.fr (h : Cw w0 w tb mb cb S0 c E) : Fr [] w0 w := by
  obtain ⟨B, ps, n, hb, h⟩ := h
  exact h.fr
theorem Cw.ok (h : Cw w0 w tb mb cb S0 c E) : CroOk c := by
  obtain ⟨B, ps, n, hb, h⟩ := h
  exact h.ok
theorem Cw.fit (h : Cw w0 w tb mb cb S0 c E) (k : ByteArray) : Fit (ofKey k c.cas) S0 := by
  obtain ⟨B, ps, n, hb, h⟩ := h
  exact h.fit k
theorem Cw.few (h : Cw w0 w tb mb cb S0 c E) : c.cas.length ≤ c.now := by
  obtain ⟨B, ps, n, hb, h⟩ := h
  exact h.few
theorem Cw.at (h : Cw w0 w tb mb cb S0 c E) {b : Nat} {o : Obj} (hm : (b, o) ∈ E) : w.heap[b]? = some o := by
  obtain ⟨B, ps, n, hb, h⟩ := h
  exact h.at hm
theorem MadeC.at {p : Nat} {kind : Int} {key : ByteArray} (h : MadeC w0 w tb mb cb S0 c E p kind key) {b : Nat} {o : Obj} (hm : (b, o) ∈ E) : w.heap[b]? = some o := by
  obtain ⟨f, B, ps, n, hb, h⟩ := h
  exact h.1.at hm
theorem Cw.rows {E' : Rows} (h : Cw w0 w tb mb cb S0 c E) (hf : Fr [] w w') (hE : ∀ r ∈ E', w'.heap[r.1]? = some r.2 ∧ ((∃ o, (r.1, o) ∈ E) ∨ w.heap.size ≤ r.1)) : Cw w0 w' tb mb cb S0 c E' := by
  obtain ⟨B, ps, n, hb, h⟩ := h
  exact ⟨B, ps, n, hb, h.rows hf hE⟩
theorem Cw.alloc (h : Cw w0 w tb mb cb S0 c E) (cs : Array Value) (T : TypeId) : Cw w0 (w.alloc (.cells cs T)) tb mb cb S0 c ((w.heap.size, .cells cs T (0, 0)) :: E) :=
  h.rows ((Fr.refl [] w).alloc _) (fun r hr => by
    rcases List.mem_cons.1 hr with rfl | hr
    · exact ⟨new_block w _, Or.inr (Nat.le_refl _)⟩
    · exact ⟨((Fr.refl [] w).alloc _).keep (h.at (o := r.2) hr) (by simp), Or.inl ⟨_, hr⟩⟩)
theorem Cw.sub {E' : Rows} (h : Cw w0 w tb mb cb S0 c E) (hE : ∀ r ∈ E', r ∈ E) : Cw w0 w tb mb cb S0 c E' := h.rows (Fr.refl [] w) (fun r hr => ⟨h.at (o := r.2) (hE r hr), Or.inl ⟨_, hE r hr⟩⟩)
theorem cw_ins (h : Cw w0 w tb mb cb S0 c E) (hn : c.now ≤ 1000) (k : ByteArray) (v : Int) :
    Calls Try.prog 14 #[pt tb, .string k, .int .u64 v] w fun e w' => ∃ p, e = .returned (pt p) ∧ Hid (MadeC w0 w' tb mb cb S0 c E p 1 k) := by
  obtain ⟨B, ps, n, hb, h⟩ := h
  exact (cw_Insert h hn k v).mono fun e w' ⟨p, he, h2⟩ => ⟨p, he, Lib.hid ⟨_, B, ps, n, hb, h2.out⟩⟩
theorem cw_find (h : Cw w0 w tb mb cb S0 c E) (hn : c.now ≤ 1000) (k : ByteArray) :
    Calls Try.prog 7 #[pt tb, .string k] w fun e w' => ∃ p, e = .returned (pt p) ∧ Hid (MadeC w0 w' tb mb cb S0 c E p 3 k) := by
  obtain ⟨B, ps, n, hb, h⟩ := h
  exact (cw_Find h hn k).mono fun e w' ⟨p, he, h2⟩ => ⟨p, he, Lib.hid ⟨_, B, ps, n, hb, h2.out⟩⟩
theorem cw_Begin {p : Nat} {kind : Int} {key : ByteArray} (h : MadeC w0 w tb mb cb S0 c E p kind key) (hn : c.now ≤ 1000) (t : Int) :
    Calls Try.prog 8 #[pt cb, .int .i64 t, pt p, .int .i64 kind, .string key] w fun e w' => ∃ er, e = .returned (.int .i64 er) ∧ Hid (∃ c', BegR c t kind key c' er ∧ Cw w0 w' tb mb cb S0 c' E) := by
  obtain ⟨f, B, ps, n, rfl, h⟩ := h
  rcases slot_ways c t with ⟨m, ht, hs⟩ | ⟨m, i, ht, hs⟩ | ht
  · refine (cw_Begin_ok h hn ht hs).mono ?_
    rintro e w' ⟨he, hv⟩
    obtain ⟨v, hv⟩ := hv.out
    exact ⟨0, he, Lib.hid ⟨_, Or.inl ⟨m, ht, hs, rfl, rfl⟩, { B with cv := v }, _, _, rfl, hv.mono (fun _ _ _ => trivial)⟩⟩
  · exact (cw_Begin_busy h ht hs).mono fun e w' ⟨he, hv⟩ => ⟨8, he, Lib.hid ⟨_, Or.inr (Or.inl ⟨m, i, ht, hs, rfl, rfl⟩), _, _, _, rfl, hv.out⟩⟩
  · exact (cw_Begin_no h ht).mono fun e w' ⟨he, hv⟩ => ⟨1, he, Lib.hid ⟨_, Or.inr (Or.inr ⟨ht, rfl, rfl⟩), _, _, _, rfl, hv.out⟩⟩
theorem cw_Pick_any (h : Cw w0 w tb mb cb S0 c E) (hn : c.now ≤ 1000) (t : Int) :
    Calls Try.prog 9 #[pt cb, .int .i64 t] w fun e w' => ∃ v, e = .returned v ∧ Hid (∃ c', PickR c t c' ∧ Cw w0 w' tb mb cb S0 c' E) := by
  obtain ⟨B, ps, n, rfl, h⟩ := h
  rcases slot_ways c t with ⟨m, ht, hs⟩ | ⟨m, i, ht, hs⟩ | ht
  · exact (cw_Pick_no h (Or.inr ⟨m, ht, hs⟩)).mono fun e w' ⟨he, hv⟩ => ⟨_, he, Lib.hid ⟨_, Or.inr ⟨Or.inr ⟨m, ht, hs⟩, rfl⟩, _, _, _, rfl, hv.out⟩⟩
  · refine (cw_Pick h hn ht hs).mono ?_
    rintro e w' ⟨he, hv⟩
    obtain ⟨x, b, ok, hx, hr, hv⟩ := hv.out
    exact ⟨_, he, Lib.hid ⟨_, Or.inl ⟨m, i, x, b, ok, ht, hs, hx, hr, rfl⟩, _, _, _, rfl, hv.mono (fun _ _ _ => trivial)⟩⟩
  · exact (cw_Pick_no h (Or.inl ht)).mono fun e w' ⟨he, hv⟩ => ⟨_, he, Lib.hid ⟨_, Or.inr ⟨Or.inl ht, rfl⟩, _, _, _, rfl, hv.out⟩⟩
end
end Go.Proofs.Ytmhiolhgofackaa
namespace Go.Proofs.Ytmhiolhgofackaa
open Go.RowKit
set_option linter.unusedVariables false
set_option linter.unusedSimpArgs false
section
variable {w0 w w' : World} {tb mb cb : Nat} {S0 : SetB} {c : Cro} {E : Rows}
theorem Cw.cr (h : Cw w0 w tb mb cb S0 c E) : ∃ B ps, B.cb = cb ∧ CrAt w B ps c := by
  obtain ⟨B, ps, n, hb, h⟩ := h
  exact ⟨B, ps, hb, h.cr⟩
theorem cw_Calls (h : Cw w0 w tb mb cb S0 c E) (hn : c.now ≤ 1000) : Calls Try.prog 11 #[pt cb] w fun e w' => ∃ v, e = .returned v ∧ LAt Ca.cells 41 5 w' v c.cas ∧ Fr [] w w' ∧ ∀ k, v.ownBlock = some k → w.heap.size ≤ k := by
  obtain ⟨B, ps, rfl, hc⟩ := h.cr
  exact cr_Calls hc (by have := h.few; omega)
theorem cw_Idle (h : Cw w0 w tb mb cb S0 c E) (t : Int) : Calls Try.prog 10 #[pt cb, .int .i64 t] w fun e w' => e = .returned (.bool (idleAt c t)) ∧ Fr [] w w' := by
  obtain ⟨B, ps, rfl, hc⟩ := h.cr
  exact cr_Idle hc t
theorem cw_Clock (h : Cw w0 w tb mb cb S0 c E) : Calls Try.prog 12 #[pt cb] w fun e w' => e = .returned (.int .i64 (c.now : Int)) ∧ w = w' := by
  obtain ⟨B, ps, rfl, hc⟩ := h.cr
  exact cr_Clock hc
end
theorem DoR.step {c c' : Cro} {d : Dd} {er : Int} (h : DoR c d c' er) : c'.now ≤ c.now + 1 ∧ c'.sl.length = c.sl.length := by
  have hp : ∀ (m i : Nat) (x : Ca) (b ok : Bool), (c.pick m i x b ok).now ≤ c.now + 1 ∧ (c.pick m i x b ok).sl.length = c.sl.length := fun m i x b ok => by
    refine ⟨Nat.le_refl _, ?_⟩
    show (if b then c.sl.set m none else c.sl).length = _
    cases b
    · rfl
    · simp only [if_true, List.length_set]
  rcases h with ⟨_, h⟩ | ⟨_, h, _⟩
  · rcases h with ⟨m, _, _, rfl, _⟩ | ⟨m, i, _, _, rfl, _⟩ | ⟨_, rfl, _⟩
    · exact ⟨Nat.le_refl _, by show (c.sl.set _ _).length = _; rw [List.length_set]⟩
    · exact ⟨by omega, rfl⟩
    · exact ⟨by omega, rfl⟩
  · rcases h with ⟨m, i, x, b, ok, _, _, _, _, rfl⟩ | ⟨_, rfl⟩
    · exact hp m i x b ok
    · exact ⟨by omega, rfl⟩
end Go.Proofs.Ytmhiolhgofackaa
