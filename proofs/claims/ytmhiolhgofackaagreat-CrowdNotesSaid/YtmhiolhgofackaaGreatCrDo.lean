/- impostlaw16.do: contract; what a deed does to a Crowd, plainly
A CROWD IN A LAW: Calls, Idle, Clock; what deeds do to the clock and the notes, plainly -/
import Derived.Test.YtmhiolhgofackaaGreatCrTh
import Derived.Test.YtmhiolhgofackaaGreatCrLaw
namespace Go.Proofs.YtmhiolhgofackaaGreat
open Go.RowKit
set_option linter.unusedVariables false
set_option linter.unusedSimpArgs false

def BegR (c : Cro) (t : Int) (kind : Int) (key : ByteArray) (c' : Cro) (er : Int) : Prop :=
  (∃ m : Nat, t = (m : Int) ∧ c.sl[m]? = some none ∧ c' = c.begin m kind key ∧ er = 0) ∨ (∃ m i : Nat, t = (m : Int) ∧ c.sl[m]? = some (some i) ∧ c' = c ∧ er = 8) ∨ ((t < 0 ∨ (c.sl.length : Int) ≤ t) ∧ c' = c ∧ er = 1)
def PickR (c : Cro) (t : Int) (c' : Cro) : Prop :=
  (∃ (m i : Nat) (x : Ca) (b ok : Bool), t = (m : Int) ∧ c.sl[m]? = some (some i) ∧ c.cas[i]? = some x ∧ x.ret < 0 ∧ c' = c.pick m i x b ok) ∨ (((t < 0 ∨ (c.sl.length : Int) ≤ t) ∨ ∃ m : Nat, t = (m : Int) ∧ c.sl[m]? = some none) ∧ c' = c)
def begins (d : Dd) : Prop := d.kind = 1 ∨ d.kind = 2 ∨ d.kind = 3
def DoR (c : Cro) (d : Dd) (c' : Cro) (er : Int) : Prop := (begins d ∧ BegR c d.t d.kind d.key c' er) ∨ (¬ begins d ∧ PickR c d.t c' ∧ er = 0)
/-- a Crowd on a tree, whatever there is -/
def Cw (w0 w : World) (tb mb cb : Nat) (S0 : SetB) (c : Cro) (E : Rows) : Prop := ∃ B ps n, B.cb = cb ∧ CwS (fun _ _ => True) w0 w tb mb B ps n S0 c E
def MadeC (w0 w : World) (tb mb cb : Nat) (S0 : SetB) (c : Cro) (E : Rows) (p : Nat) (kind : Int) (key : ByteArray) : Prop := ∃ f B ps n, B.cb = cb ∧ MadeS (fun _ _ => True) f w0 w tb mb B ps n S0 c E p kind key
theorem slot_ways (c : Cro) (t : Int) : (∃ m : Nat, t = (m : Int) ∧ c.sl[m]? = some none) ∨ (∃ m i : Nat, t = (m : Int) ∧ c.sl[m]? = some (some i)) ∨ (t < 0 ∨ (c.sl.length : Int) ≤ t) := by
  by_cases h : t < 0 ∨ (c.sl.length : Int) ≤ t
  · exact Or.inr (Or.inr h)
  · have hm : t.toNat < c.sl.length := by omega
    have e : t = (t.toNat : Int) := by omega
    have hg : c.sl[t.toNat]? = some c.sl[t.toNat] := List.getElem?_eq_getElem hm
    cases hs : c.sl[t.toNat] with
    | none => exact Or.inl ⟨_, e, by rw [hg, hs]⟩
    | some i => exact Or.inr (Or.inl ⟨_, i, e, by rw [hg, hs]⟩)
section
variable {w0 w w' : World} {tb mb cb : Nat} {S0 : SetB} {c : Cro} {E : Rows}
theorem Cw.keep0 (h : Cw w0 w tb mb cb S0 c E) (hf : Fr [] w w') : Cw w0 w' tb mb cb S0 c E := by
  obtain ⟨B, ps, n, hb, h⟩ := h
  exact ⟨B, ps, n, hb, h.keep0 hf⟩
theorem MadeC.keep0 {p : Nat} {kind : Int} {key : ByteArray} (h : MadeC w0 w tb mb cb S0 c E p kind key) (hf : Fr [] w w') : MadeC w0 w' tb mb cb S0 c E p kind key := by
  obtain ⟨f, B, ps, n, hb, h⟩ := h
  exact ⟨f, B, ps, n, hb, h.keep0 hf⟩
theorem Cw.fr (h : Cw w0 w tb mb cb S0 c E) : Fr [] w0 w := by
  obtain ⟨B, ps, n, hb, h⟩ := h
  exact h.fr
theorem Cw.ok (h : Cw w0 w tb mb cb S0 c E) : CroOk c := by
  obtain ⟨B, ps, n, hb, h⟩ := h
  exact h.ok
theorem Cw.fit (h : Cw w0 w tb mb cb S0 c E) (k : ByteArray) : Fit (ofKey k c.cas) S0 := by
  obtain ⟨B, ps, n, hb, h⟩ := h
  exact h.fit k
theorem Cw.few (h : Cw w0 w tb mb cb S0 c E) : c.cas.length ≤ c.now := by
  obtain ⟨B, ps, n, hb, h⟩ := h
  exact h.few
theorem Cw.at (h : Cw w0 w tb mb cb S0 c E) {b : Nat} {o : Obj} (hm : (b, o) ∈ E) : w.heap[b]? = some o := by
  obtain ⟨B, ps, n, hb, h⟩ := h
  exact h.at hm
theorem MadeC.at {p : Nat} {kind : Int} {key : ByteArray} (h : MadeC w0 w tb mb cb S0 c E p kind key) {b : Nat} {o : Obj} (hm : (b, o) ∈ E) : w.heap[b]? = some o := by
  obtain ⟨f, B, ps, n, hb, h⟩ := h
  exact h.1.at hm
theorem Cw.rows {E' : Rows} (h : Cw w0 w tb mb cb S0 c E) (hf : Fr [] w w') (hE : ∀ r ∈ E', w'.heap[r.1]? = some r.2 ∧ ((∃ o, (r.1, o) ∈ E) ∨ w.heap.size ≤ r.1)) : Cw w0 w' tb mb cb S0 c E' := by
  obtain ⟨B, ps, n, hb, h⟩ := h
  exact ⟨B, ps, n, hb, h.rows hf hE⟩
theorem Cw.alloc (h : Cw w0 w tb mb cb S0 c E) (cs : Array Value) (T : TypeId) : Cw w0 (w.alloc (.cells cs T)) tb mb cb S0 c ((w.heap.size, .cells cs T (0, 0)) :: E) :=
  h.rows ((Fr.refl [] w).alloc _) (fun r hr => by
    rcases List.mem_cons.1 hr with rfl | hr
    · exact ⟨new_block w _, Or.inr (Nat.le_refl _)⟩
    · exact ⟨((Fr.refl [] w).alloc _).keep (h.at (o := r.2) hr) (by simp), Or.inl ⟨_, hr⟩⟩)
theorem Cw.sub {E' : Rows} (h : Cw w0 w tb mb cb S0 c E) (hE : ∀ r ∈ E', r ∈ E) : Cw w0 w tb mb cb S0 c E' := h.rows (Fr.refl [] w) (fun r hr => ⟨h.at (o := r.2) (hE r hr), Or.inl ⟨_, hE r hr⟩⟩)
theorem cw_ins (h : Cw w0 w tb mb cb S0 c E) (hn : c.now ≤ 1000) (k : ByteArray) (v : Int) :
    Calls Tryz.prog 22 #[pt tb, .string k, .int .u64 v] w fun e w' => ∃ p, e = .returned (pt p) ∧ Hid (MadeC w0 w' tb mb cb S0 c E p 1 k) := by
  obtain ⟨B, ps, n, hb, h⟩ := h
  exact (cw_Insert h hn k v).mono fun e w' ⟨p, he, h2⟩ => ⟨p, he, Lib.hid ⟨_, B, ps, n, hb, h2.out⟩⟩
theorem cw_del (h : Cw w0 w tb mb cb S0 c E) (hn : c.now ≤ 1000) (k : ByteArray) :
    Calls Tryz.prog 25 #[pt tb, .string k] w fun e w' => ∃ p, e = .returned (pt p) ∧ Hid (MadeC w0 w' tb mb cb S0 c E p 2 k) := by
  obtain ⟨B, ps, n, hb, h⟩ := h
  exact (cw_Delete h hn k).mono fun e w' ⟨p, he, h2⟩ => ⟨p, he, Lib.hid ⟨_, B, ps, n, hb, h2.out⟩⟩
theorem cw_find (h : Cw w0 w tb mb cb S0 c E) (hn : c.now ≤ 1000) (k : ByteArray) :
    Calls Tryz.prog 26 #[pt tb, .string k] w fun e w' => ∃ p, e = .returned (pt p) ∧ Hid (MadeC w0 w' tb mb cb S0 c E p 3 k) := by
  obtain ⟨B, ps, n, hb, h⟩ := h
  exact (cw_Find h hn k).mono fun e w' ⟨p, he, h2⟩ => ⟨p, he, Lib.hid ⟨_, B, ps, n, hb, h2.out⟩⟩
theorem cw_Begin {p : Nat} {kind : Int} {key : ByteArray} (h : MadeC w0 w tb mb cb S0 c E p kind key) (hn : c.now ≤ 1000) (t : Int) :
    Calls Tryz.prog 21 #[pt cb, .int .i64 t, pt p, .int .i64 kind, .string key] w fun e w' => ∃ er, e = .returned (.int .i64 er) ∧ Hid (∃ c', BegR c t kind key c' er ∧ Cw w0 w' tb mb cb S0 c' E) := by
  obtain ⟨f, B, ps, n, rfl, h⟩ := h
  rcases slot_ways c t with ⟨m, ht, hs⟩ | ⟨m, i, ht, hs⟩ | ht
  · refine (cw_Begin_ok h hn ht hs).mono ?_
    rintro e w' ⟨he, hv⟩
    obtain ⟨v, hv⟩ := hv.out
    exact ⟨0, he, Lib.hid ⟨_, Or.inl ⟨m, ht, hs, rfl, rfl⟩, { B with cv := v }, _, _, rfl, hv.mono (fun _ _ _ => trivial)⟩⟩
  · exact (cw_Begin_busy h ht hs).mono fun e w' ⟨he, hv⟩ => ⟨8, he, Lib.hid ⟨_, Or.inr (Or.inl ⟨m, i, ht, hs, rfl, rfl⟩), _, _, _, rfl, hv.out⟩⟩
  · exact (cw_Begin_no h ht).mono fun e w' ⟨he, hv⟩ => ⟨1, he, Lib.hid ⟨_, Or.inr (Or.inr ⟨ht, rfl, rfl⟩), _, _, _, rfl, hv.out⟩⟩
theorem cw_Pick_any (h : Cw w0 w tb mb cb S0 c E) (hn : c.now ≤ 1000) (t : Int) :
    Calls Tryz.prog 13 #[pt cb, .int .i64 t] w fun e w' => ∃ v, e = .returned v ∧ Hid (∃ c', PickR c t c' ∧ Cw w0 w' tb mb cb S0 c' E) := by
  obtain ⟨B, ps, n, rfl, h⟩ := h
  rcases slot_ways c t with ⟨m, ht, hs⟩ | ⟨m, i, ht, hs⟩ | ht
  · exact (cw_Pick_no h (Or.inr ⟨m, ht, hs⟩)).mono fun e w' ⟨he, hv⟩ => ⟨_, he, Lib.hid ⟨_, Or.inr ⟨Or.inr ⟨m, ht, hs⟩, rfl⟩, _, _, _, rfl, hv.out⟩⟩
  · refine (cw_Pick h hn ht hs).mono ?_
    rintro e w' ⟨he, hv⟩
    obtain ⟨x, b, ok, hx, hr, hv⟩ := hv.out
    exact ⟨_, he, Lib.hid ⟨_, Or.inl ⟨m, i, x, b, ok, ht, hs, hx, hr, rfl⟩, _, _, _, rfl, hv.mono (fun _ _ _ => trivial)⟩⟩
  · exact (cw_Pick_no h (Or.inl ht)).mono fun e w' ⟨he, hv⟩ => ⟨_, he, Lib.hid ⟨_, Or.inr ⟨Or.inl ht, rfl⟩, _, _, _, rfl, hv.out⟩⟩
set_option maxRecDepth 20000 in
set_option maxHeartbeats 4000000 in
theorem cr_do (h : Cw w0 w tb mb cb S0 c E) (hn : c.now ≤ 1000) (d : Dd) :
    Calls Tryz.prog 8 #[pt tb, pt cb, d.agg] w fun e w' => ∃ er, e = .returned (.int .i64 er) ∧ Hid (∃ c', DoR c d c' er ∧ Cw w0 w' tb mb cb S0 c' E) := by
  obtain ⟨kind, t, key⟩ := d
  unfold Dd.agg
  dsimp only
  obtain ⟨wb, hwb⟩ : ∃ wb, wb = w.alloc (.cells #[.int .i64 kind, .int .i64 t, .string key] 32) := ⟨_, rfl⟩
  obtain ⟨q, hq⟩ : ∃ q, q = w.heap.size := ⟨_, rfl⟩
  have HB := Lib.hid (h.alloc #[.int .i64 kind, .int .i64 t, .string key] 32)
  rw [← hwb, ← hq] at HB
  have HWB := Lib.hid (show wb = _ ∧ q = _ from ⟨hwb, hq⟩)
  clear h hwb hq
  obtain ⟨_, b1, b2, b3⟩ := cells3 (HB.out.at (List.mem_cons_self ..))
  have hq1 := lt_of_block (HB.out.at (List.mem_cons_self ..))
  by_cases k1 : kind = 1
  · subst k1
    go_enter Tryz.func8, Tryz.ntmps8
    go_wp2_with fail
    rw [← HWB.out.1, ← HWB.out.2]
    go_region_held3 (fun W => W.cell? ⟨q, 1, none⟩ = some (.int .i64 t) ∧ W.cell? ⟨q, 2, none⟩ = some (.string key)) (go_keep)
      (first
        | (go_at_call 22; refine (cw_ins (HB.out.keep0 (Fr.refl [] wb).drew) hn key 5).mono ?_; rintro e w2 ⟨p, rfl, HM⟩
           obtain ⟨_, b1, b2, b3⟩ := cells3 (HM.out.at (List.mem_cons_self ..))
           have hq2 := lt_of_block (HM.out.at (List.mem_cons_self ..)))
        | (go_at_call 21; refine (cw_Begin HM.out hn t).mono ?_; rintro e w3 ⟨er, rfl, HV⟩
           have HA := Lib.hid (show w3.heap[q]? = some _ from by obtain ⟨c', hbr, hcw⟩ := HV.out; exact hcw.at (List.mem_cons_self ..))
           obtain ⟨_, b1, b2, b3⟩ := cells3 HA.out
           have hq3 := lt_of_block HA.out))
    all_goals go_wp2_with fail
    all_goals go_ret
    all_goals obtain ⟨c', hbr, hcw⟩ := HV.out
    all_goals exact ⟨er, rfl, Lib.hid ⟨c', Or.inl ⟨Or.inl rfl, hbr⟩, hcw.sub (fun r hr => List.mem_cons_of_mem _ hr)⟩⟩
  have f1 : (kind == 1) = false := by simpa using k1
  by_cases k2 : kind = 2
  · subst k2
    go_enter Tryz.func8, Tryz.ntmps8
    go_wp2_with fail
    rw [← HWB.out.1, ← HWB.out.2]
    go_region_held3 (fun W => W.cell? ⟨q, 1, none⟩ = some (.int .i64 t) ∧ W.cell? ⟨q, 2, none⟩ = some (.string key)) (go_keep)
      (first
        | (go_at_call 25; refine (cw_del (HB.out.keep0 (Fr.refl [] wb).drew) hn key).mono ?_; rintro e w2 ⟨p, rfl, HM⟩
           obtain ⟨_, b1, b2, b3⟩ := cells3 (HM.out.at (List.mem_cons_self ..))
           have hq2 := lt_of_block (HM.out.at (List.mem_cons_self ..)))
        | (go_at_call 21; refine (cw_Begin HM.out hn t).mono ?_; rintro e w3 ⟨er, rfl, HV⟩
           have HA := Lib.hid (show w3.heap[q]? = some _ from by obtain ⟨c', hbr, hcw⟩ := HV.out; exact hcw.at (List.mem_cons_self ..))
           obtain ⟨_, b1, b2, b3⟩ := cells3 HA.out
           have hq3 := lt_of_block HA.out))
    all_goals go_wp2_with fail
    all_goals go_ret
    all_goals obtain ⟨c', hbr, hcw⟩ := HV.out
    all_goals exact ⟨er, rfl, Lib.hid ⟨c', Or.inl ⟨Or.inr (Or.inl rfl), hbr⟩, hcw.sub (fun r hr => List.mem_cons_of_mem _ hr)⟩⟩
  have f2 : (kind == 2) = false := by simpa using k2
  by_cases k3 : kind = 3
  · subst k3
    go_enter Tryz.func8, Tryz.ntmps8
    go_wp2_with fail
    rw [← HWB.out.1, ← HWB.out.2]
    go_region_held3 (fun W => W.cell? ⟨q, 1, none⟩ = some (.int .i64 t) ∧ W.cell? ⟨q, 2, none⟩ = some (.string key)) (go_keep)
      (first
        | (go_at_call 26; refine (cw_find (HB.out.keep0 (Fr.refl [] wb).drew) hn key).mono ?_; rintro e w2 ⟨p, rfl, HM⟩
           obtain ⟨_, b1, b2, b3⟩ := cells3 (HM.out.at (List.mem_cons_self ..))
           have hq2 := lt_of_block (HM.out.at (List.mem_cons_self ..)))
        | (go_at_call 21; refine (cw_Begin HM.out hn t).mono ?_; rintro e w3 ⟨er, rfl, HV⟩
           have HA := Lib.hid (show w3.heap[q]? = some _ from by obtain ⟨c', hbr, hcw⟩ := HV.out; exact hcw.at (List.mem_cons_self ..))
           obtain ⟨_, b1, b2, b3⟩ := cells3 HA.out
           have hq3 := lt_of_block HA.out))
    all_goals go_wp2_with fail
    all_goals go_ret
    all_goals obtain ⟨c', hbr, hcw⟩ := HV.out
    all_goals exact ⟨er, rfl, Lib.hid ⟨c', Or.inl ⟨Or.inr (Or.inr rfl), hbr⟩, hcw.sub (fun r hr => List.mem_cons_of_mem _ hr)⟩⟩
  have f3 : (kind == 3) = false := by simpa using k3
  have HNB : Hid (¬ begins ⟨kind, t, key⟩) := Lib.hid (by rintro (e | e | e) <;> dsimp only at e <;> omega)
  clear k1 k2 k3
  go_enter Tryz.func8, Tryz.ntmps8
  go_wp2_with (go_at_call 13; rw [← HWB.out.1]; refine (cw_Pick_any HB.out hn t).mono ?_; rintro e w3 ⟨v, rfl, HV⟩; refine go_stop ?_)
  unfold Stop
  go_wp2_with fail
  go_ret
  obtain ⟨c', hbr, hcw⟩ := HV.out
  exact ⟨0, rfl, Lib.hid ⟨c', Or.inr ⟨HNB.out, hbr, rfl⟩, hcw.sub (fun r hr => List.mem_cons_of_mem _ hr)⟩⟩
end
end Go.Proofs.YtmhiolhgofackaaGreat
namespace Go.Proofs.YtmhiolhgofackaaGreat
open Go.RowKit
set_option linter.unusedVariables false
set_option linter.unusedSimpArgs false
section
variable {w0 w w' : World} {tb mb cb : Nat} {S0 : SetB} {c : Cro} {E : Rows}
theorem Cw.cr (h : Cw w0 w tb mb cb S0 c E) : ∃ B ps, B.cb = cb ∧ CrAt w B ps c := by
  obtain ⟨B, ps, n, hb, h⟩ := h
  exact ⟨B, ps, hb, h.cr⟩
theorem cw_Calls (h : Cw w0 w tb mb cb S0 c E) (hn : c.now ≤ 1000) : Calls Tryz.prog 10 #[pt cb] w fun e w' => ∃ v, e = .returned v ∧ LAt Ca.cells 40 5 w' v c.cas ∧ Fr [] w w' ∧ ∀ k, v.ownBlock = some k → w.heap.size ≤ k := by
  obtain ⟨B, ps, rfl, hc⟩ := h.cr
  exact cr_Calls hc (by have := h.few; omega)
theorem cw_Idle (h : Cw w0 w tb mb cb S0 c E) (t : Int) : Calls Tryz.prog 11 #[pt cb, .int .i64 t] w fun e w' => e = .returned (.bool (idleAt c t)) ∧ Fr [] w w' := by
  obtain ⟨B, ps, rfl, hc⟩ := h.cr
  exact cr_Idle hc t
theorem cw_Clock (h : Cw w0 w tb mb cb S0 c E) : Calls Tryz.prog 12 #[pt cb] w fun e w' => e = .returned (.int .i64 (c.now : Int)) ∧ w = w' := by
  obtain ⟨B, ps, rfl, hc⟩ := h.cr
  exact cr_Clock hc
end
theorem DoR.step {c c' : Cro} {d : Dd} {er : Int} (h : DoR c d c' er) : c'.now ≤ c.now + 1 ∧ c'.sl.length = c.sl.length := by
  have hp : ∀ (m i : Nat) (x : Ca) (b ok : Bool), (c.pick m i x b ok).now ≤ c.now + 1 ∧ (c.pick m i x b ok).sl.length = c.sl.length := fun m i x b ok => by
    refine ⟨Nat.le_refl _, ?_⟩
    show (if b then c.sl.set m none else c.sl).length = _
    cases b
    · rfl
    · simp only [if_true, List.length_set]
  rcases h with ⟨_, h⟩ | ⟨_, h, _⟩
  · rcases h with ⟨m, _, _, rfl, _⟩ | ⟨m, i, _, _, rfl, _⟩ | ⟨_, rfl, _⟩
    · exact ⟨Nat.le_refl _, by show (c.sl.set _ _).length = _; rw [List.length_set]⟩
    · exact ⟨by omega, rfl⟩
    · exact ⟨by omega, rfl⟩
  · rcases h with ⟨m, i, x, b, ok, _, _, _, _, rfl⟩ | ⟨_, rfl⟩
    · exact hp m i x b ok
    · exact ⟨by omega, rfl⟩
end Go.Proofs.YtmhiolhgofackaaGreat
