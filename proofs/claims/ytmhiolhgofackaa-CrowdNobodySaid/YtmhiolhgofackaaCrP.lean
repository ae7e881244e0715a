/- PACKAGE crowd IN MEMORY, and its contracts: threads, notes, the clock
PACKAGE crowd: Begin: contract
PACKAGE crowd: what is refused; a Crowd that is nil; New; answer, after, Pick: contracts
PACKAGE crowd: after, Pick: contracts -/
import Derived.Test.YtmhiolhgofackaaCr
import Derived.Test.YtmhiolhgofackaaOrAt
import Derived.Test.YtmhiolhgofackaaBsAt
import Derived.Deep.RegionLaw
import Derived.Test.YtmhiolhgofackaaBsStep
import Derived.StillTailTactics
namespace Go.Proofs.Ytmhiolhgofackaa
open Go.RowKit
set_option linter.unusedVariables false
set_option linter.unusedSimpArgs false

/-- where a crowd lies -/
structure CB where
  cb : Nat
  g : Nat
  off : Nat
  cap : Nat
  cv : Value
def CB.foot (B : CB) : List Nat := B.cb :: B.g :: B.cv.ownBlock.toList
/-- a thread's cells; ps: the calls' pointers, in turn -/
def slotC (ps : List Nat) : Option Nat → List Value
  | none => [.pointer none, .int .i64 0]
  | some i => [pt (ps.getD i 0), .int .i64 (i : Int)]
theorem slotC_len (ps : List Nat) : ∀ s, (slotC ps s).length = 2
  | none => rfl
  | some _ => rfl
structure CrAt (w : World) (B : CB) (ps : List Nat) (c : Cro) : Prop where
  hd : w.heap[B.cb]? = some (.cells #[.slice (some ⟨B.g, B.off, none⟩) c.sl.length B.cap, B.cv, .int .i64 (c.now : Int)] 68 (0, 0))
  th : LAt (slotC ps) 65 2 w (.slice (some ⟨B.g, B.off, none⟩) c.sl.length B.cap) c.sl
  cl : LAt Ca.cells 41 5 w B.cv c.cas
  ne1 : B.cb ≠ B.g
  ne2 : B.cv.ownBlock ≠ some B.cb
  ne3 : B.cv.ownBlock ≠ some B.g
  few : c.sl.length ≤ 8
  pos : 0 < c.sl.length
section
variable {w w' : World} {B : CB} {ps : List Nat} {c : Cro}
theorem CrAt.keep {S : List Nat} (h : CrAt w B ps c) (hf : Fr S w w') (hn : ∀ b ∈ S, b ∉ B.foot) : CrAt w' B ps c :=
  ⟨hf.keep h.hd (fun hm => hn _ hm (by simp [CB.foot])), h.th.keep hf (fun k hk hm => hn _ hm (by cases hk; simp [CB.foot])), h.cl.keep hf (fun k hk hm => hn _ hm (by simp [CB.foot, hk])), h.ne1, h.ne2, h.ne3, h.few, h.pos⟩
theorem CrAt.keep0 (h : CrAt w B ps c) (hf : Fr [] w w') : CrAt w' B ps c := h.keep hf (by simp)
set_option maxHeartbeats 1000000 in
theorem cr_thread_in (h : CrAt w B ps c) {t : Int} {n : Nat} (ht : t = (n : Int)) (hn : n < c.sl.length) : Calls Try.prog 21 #[pt B.cb, .int .i64 t] w fun e w' => e = .returned (.pointer (some ⟨B.g, B.off + n * 2, none⟩)) ∧ Fr [] w w' := by
  subst ht
  obtain ⟨c0, _, _, c3⟩ := cells3 h.hd
  have t1 : decide ((n : Int) < 0) = false := decide_eq_false (by omega)
  have t2 : decide ((c.sl.length : Int) ≤ (n : Int)) = false := decide_eq_false (by omega)
  go_enter Try.func21, Try.ntmps21
  go_wp2_with fail
  go_ret
  exact ⟨rfl, Fr.refl _ _⟩
set_option maxHeartbeats 1000000 in
theorem cr_thread_out (h : CrAt w B ps c) {t : Int} (ht : t < 0 ∨ (c.sl.length : Int) ≤ t) : Calls Try.prog 21 #[pt B.cb, .int .i64 t] w fun e w' => e = .returned (.pointer none) ∧ Fr [] w w' := by
  obtain ⟨c0, _, _, c3⟩ := cells3 h.hd
  by_cases h0 : t < 0
  · have t1 : decide (t < 0) = true := decide_eq_true h0
    clear ht
    go_enter Try.func21, Try.ntmps21
    go_wp2_with fail
    go_ret
    exact ⟨rfl, Fr.refl _ _⟩
  · have h1 : (c.sl.length : Int) ≤ t := by omega
    have t1 : decide (t < 0) = false := decide_eq_false h0
    have t2 : decide ((c.sl.length : Int) ≤ t) = true := decide_eq_true h1
    clear ht
    go_enter Try.func21, Try.ntmps21
    go_wp2_with fail
    go_ret
    exact ⟨rfl, Fr.refl _ _⟩
set_option maxHeartbeats 1000000 in
theorem cr_thread_nil (t : Int) (w : World) : Calls Try.prog 21 #[.pointer none, .int .i64 t] w fun e w' => e = .returned (.pointer none) ∧ Fr [] w w' := by
  go_enter Try.func21, Try.ntmps21
  go_wp2_with fail
  go_ret
  exact ⟨rfl, Fr.refl _ _⟩
/-- a thread's cells -/
theorem CrAt.slot (h : CrAt w B ps c) {n : Nat} {s : Option Nat} (hs : c.sl[n]? = some s) : ∃ p q, slotC ps s = [p, q] ∧ w.cell? ⟨B.g, B.off + n * 2, none⟩ = some p ∧ w.cell? ⟨B.g, B.off + n * 2 + 1, none⟩ = some q ∧ w.frozen? ⟨B.g, B.off + n * 2, none⟩ = false ∧ w.frozen? ⟨B.g, B.off + n * 2 + 1, none⟩ = false ∧ B.g < w.heap.size := by
  obtain ⟨g', off', c', hv, hg, _, hat⟩ := h.th.here (slotC_len ps) (by have := get_lt hs; omega)
  simp only [Value.slice.injEq, Option.some.injEq, Addr.mk.injEq, and_true, true_and] at hv
  obtain ⟨⟨rfl, rfl⟩, _⟩ := hv
  obtain ⟨a1, b1⟩ := hat n s hs 0 (by decide)
  obtain ⟨a2, b2⟩ := hat n s hs 1 (by decide)
  rw [← Nat.add_assoc] at a1 a2 b1 b2
  cases s with
  | none => exact ⟨_, _, rfl, a1, a2, b1, b2, hg⟩
  | some i => exact ⟨_, _, rfl, a1, a2, b1, b2, hg⟩
def idleAt (c : Cro) (t : Int) : Bool := decide (0 ≤ t) && (c.sl[t.toNat]? == some none)
theorem idle_out {t : Int} (ht : t < 0 ∨ (c.sl.length : Int) ≤ t) : idleAt c t = false := by
  unfold idleAt
  rcases ht with h | h
  · rw [decide_eq_false (by omega)]; rfl
  · rw [List.getElem?_eq_none (by omega)]; simp
theorem idle_in {n : Nat} {s : Option Nat} (hs : c.sl[n]? = some s) : idleAt c (n : Int) = s.isNone := by
  unfold idleAt
  rw [decide_eq_true (by omega), Int.toNat_natCast, hs]
  cases s <;> rfl
set_option maxHeartbeats 1000000 in
theorem cr_Idle (h : CrAt w B ps c) (t : Int) : Calls Try.prog 10 #[pt B.cb, .int .i64 t] w fun e w' => e = .returned (.bool (idleAt c t)) ∧ Fr [] w w' := by
  by_cases ht : 0 ≤ t ∧ t < c.sl.length
  · obtain ⟨n, rfl⟩ : ∃ n : Nat, t = (n : Int) := ⟨t.toNat, by omega⟩
    obtain ⟨s, hs⟩ : ∃ s, c.sl[n]? = some s := ⟨_, List.getElem?_eq_getElem (by omega)⟩
    have hT := Lib.hid (cr_thread_in h rfl (get_lt hs))
    rw [idle_in hs]
    have HH := Lib.hid h
    have HS := Lib.hid hs
    clear h hs ht
    go_enter Try.func10, Try.ntmps10
    go_wp2_with (go_at_call 21; refine hT.out.mono ?_; rintro e w1 ⟨rfl, hf⟩; refine go_stop ?_)
    unfold Stop
    obtain ⟨p, q, hpq, a1, a2, a3, a4, a5⟩ := (HH.out.keep0 hf).slot HS.out
    have HF := Lib.hid hf
    clear hf hT
    cases s with
    | none =>
      cases hpq
      go_wp2_with fail
      go_ret
      exact ⟨rfl, HF.out⟩
    | some i =>
      cases hpq
      go_wp2_with fail
      go_ret
      exact ⟨rfl, HF.out⟩
  · have ht' : t < 0 ∨ (c.sl.length : Int) ≤ t := by omega
    have hT := Lib.hid (cr_thread_out h ht')
    rw [idle_out ht']
    clear ht ht' h
    go_enter Try.func10, Try.ntmps10
    go_wp2_with (go_at_call 21; refine hT.out.mono ?_; rintro e w1 ⟨rfl, hf⟩; have HF := Lib.hid hf; clear hf)
    go_ret
    exact ⟨rfl, HF.out⟩
set_option maxHeartbeats 1000000 in
theorem cr_Clock (h : CrAt w B ps c) : Calls Try.prog 12 #[pt B.cb] w fun e w' => e = .returned (.int .i64 (c.now : Int)) ∧ w = w' := by
  obtain ⟨c0, c1, c2, c3⟩ := cells3 h.hd
  go_enter Try.func12, Try.ntmps12
  go_wp2_with fail
  go_ret
  exact ⟨rfl, rfl⟩
/-! notes -/
theorem cw_info : (Try.prog.info? 41).map (fun i => (i.zero, i.size, i.bytes)) = some (some (.agg #[.int .i64 0, .string ⟨#[]⟩, .bool false, .int .i64 0, .int .i64 0]), 5, 48) := by kernel_rfl
theorem cw_slice : Try.prog.underlying 33 = some (.slice 41) := Try.underlying33
set_option maxHeartbeats 1000000 in
theorem cr_noted {lv mv : Value} {l m : List Ca} (hl : LAt Ca.cells 41 5 w lv l) (hm : CaIn w mv m) (hb : l.length + m.length ≤ 100000) : Calls Try.prog 22 #[lv, mv] w fun e w' => ∃ v, e = .returned v ∧ LAt Ca.cells 41 5 w' v (l ++ m) ∧ Fr lv.ownBlock.toList w w' ∧ ∀ k, v.ownBlock = some k → lv.ownBlock = some k ∨ w.heap.size ≤ k := by
  obtain ⟨ls, lc, rfl, la, lb⟩ := LAt.form hl
  obtain ⟨ms, mc, rfl, ma, mb⟩ := LIn.form hm
  unfold maxLen at lb mb
  have HL := Lib.hid hl
  have HS := Lib.hid (LIn.src hm Ca.clen (by decide))
  clear hl hm
  go_enter Try.func22, Try.ntmps22
  go_wp2_with (at_builtin; refine wpList_append_src rfl (.tmp 5) (.tmp 6) 33 41 (.agg #[.int .i64 0, .string ⟨#[]⟩, .bool false, .int .i64 0, .int .i64 0]) 5 48 rfl cw_slice cw_info rfl (by decide) (.slice ls l.length lc) l.length (allC Ca.cells l) rfl HL.out (.slice ms m.length mc) m.length (allC Ca.cells m) rfl HS.out (allC_ones Ca.cone m) (by unfold maxLen; omega) (by omega) ?app)
  case app =>
  intro v w2 h1 h2 h3
  have H1 := Lib.hid h1
  have H2 := Lib.hid h2
  have H3 := Lib.hid h3
  clear h1 h2 h3
  go_wp2_with fail
  go_ret
  refine ⟨v, rfl, ?_, H2.out, fun k hk => (H3.out k hk).imp id (fun e => Nat.le_of_eq e.symm)⟩
  unfold LAt
  rw [allC_app, List.length_append]
  exact H1.out
theorem slice_len {s s' : Option Addr} {n n' c c' : Nat} (h : Value.slice s n c = .slice s' n' c') : n = n' := by cases h; rfl
set_option maxHeartbeats 1000000 in
theorem cr_Calls (h : CrAt w B ps c) (hb : c.cas.length ≤ 50000) : Calls Try.prog 11 #[pt B.cb] w fun e w' => ∃ v, e = .returned v ∧ LAt Ca.cells 41 5 w' v c.cas ∧ Fr [] w w' ∧ ∀ k, v.ownBlock = some k → w.heap.size ≤ k := by
  obtain ⟨c0, c1, c2, c3⟩ := cells3 h.hd
  have HN := Lib.hid (cr_noted (w := w) (LAt.nil w) (LAt.read h.cl Ca.clen) (by simp; omega))
  clear h
  go_enter Try.func11, Try.ntmps11
  go_wp2_with (go_at_call 22; refine HN.out.mono ?_; rintro e w1 ⟨v, rfl, h1, h2, h3⟩; have HE := Lib.hid (show LAt Ca.cells 41 5 w1 v c.cas ∧ Fr [] w w1 ∧ ∀ k, v.ownBlock = some k → w.heap.size ≤ k from ⟨by simpa using h1, h2, fun k hk => (h3 k hk).elim (fun e => by cases e) id⟩); clear h1 h2 h3)
  go_ret
  exact ⟨v, rfl, HE.out⟩
end
end Go.Proofs.Ytmhiolhgofackaa
namespace Go.Proofs.Ytmhiolhgofackaa
open Go.RowKit
set_option linter.unusedVariables false
set_option linter.unusedSimpArgs false

theorem allC_put {α : Type} {cs : α → List Value} {sz : Nat} (hc : ∀ x, (cs x).length = sz) {o : List α} {i q : Nat} {x x' : α} {u : Value} (hx : o[i]? = some x) (hq : q < sz) (hx' : cs x' = (cs x).set q u) :
    allC cs (o.set i x') = (allC cs o).set (i * sz + q) u := by
  have hi := (List.getElem?_eq_some_iff.1 hx).1
  apply List.ext_getElem?
  intro m
  by_cases hm : m < o.length * sz
  · have hsz : 0 < sz := by omega
    have hd : m / sz < o.length := Nat.div_lt_of_lt_mul (by rw [Nat.mul_comm]; exact hm)
    have hr : m % sz < sz := Nat.mod_lt _ hsz
    have he : m / sz * sz + m % sz = m := by rw [Nat.mul_comm]; exact Nat.div_add_mod m sz
    have hy : o[m / sz]? = some o[m / sz] := List.getElem?_eq_getElem hd
    have h2 := allC_at hc o _ _ hy _ hr
    rw [he] at h2
    rw [List.getElem?_set, allC_len hc]
    by_cases e : i = m / sz
    · have hs : (o.set i x')[m / sz]? = some x' := by rw [List.getElem?_set, if_pos e, if_pos hi]
      have h1 := allC_at hc (o.set i x') _ _ hs _ hr
      rw [he] at h1
      rw [h1, hx', List.getElem?_set, hc]
      have hxx : o[m / sz] = x := by
        have := hx; rw [e, hy] at this; exact Option.some.inj this
      by_cases eq : q = m % sz
      · rw [if_pos eq, if_pos hq, if_pos (by rw [e, eq]; exact he), if_pos (by rw [e, eq, he]; exact hm)]
      · rw [if_neg eq, if_neg (by intro h; apply eq; have h9 : i * sz + q = m / sz * sz + m % sz := h.trans he.symm; rw [e] at h9; omega), h2, hxx]
    · have hs : (o.set i x')[m / sz]? = some o[m / sz] := by rw [List.getElem?_set, if_neg e, hy]
      have h1 := allC_at hc (o.set i x') _ _ hs _ hr
      rw [he] at h1
      rw [h1, if_neg ?_, h2]
      intro h
      apply e
      rw [← h]
      have h5 := Nat.add_mul_div_right q i hsz
      rw [Nat.add_comm, h5, Nat.div_eq_of_lt hq, Nat.zero_add]
  · rw [List.getElem?_eq_none (by rw [allC_len hc, List.length_set]; omega), List.getElem?_eq_none (by rw [List.length_set, allC_len hc]; omega)]
section
variable {w w' : World} {B : CB} {ps : List Nat} {c : Cro}
theorem LAt.put {α : Type} {cs : α → List Value} {sz : Nat} {e : TypeId} (hc : ∀ x, (cs x).length = sz) {g off n cap : Nat} {o : List α} {i q : Nat} {x x' : α} {u : Value} (h : LAt cs e sz w (.slice (some ⟨g, off, none⟩) n cap) o) (hn : o.length = n) (hx : o[i]? = some x) (hq : q < sz) (hx' : cs x' = (cs x).set q u) :
    LAt cs e sz (w.setCell ⟨g, off + i * sz + q, none⟩ u) (.slice (some ⟨g, off, none⟩) n cap) (o.set i x') := by
  subst hn
  have h1 := Lies.set h (i * sz + q) u
  rw [← Nat.add_assoc] at h1
  unfold LAt
  rw [allC_put hc hx hq hx', List.length_set]
  exact h1
/-- an element of two cells is stored -/
theorem allC_two {α : Type} {cs cs' : α → List Value} (hc : ∀ x, (cs x).length = 2) (hc' : ∀ x, (cs' x).length = 2) {o : List α} {i : Nat} {x x' : α} {u v : Value} (hx : o[i]? = some x) (hsame : ∀ (j : Nat) (y : α), j ≠ i → o[j]? = some y → cs' y = cs y) (hx' : cs' x' = [u, v]) : allC cs' (o.set i x') = ((allC cs o).set (i * 2) u).set (i * 2 + 1) v := by
  have hi := get_lt hx
  have hl := hc x
  apply List.ext_getElem?
  intro m
  by_cases hm : m < o.length * 2
  · have hd : m / 2 < o.length := by omega
    have hr : m % 2 < 2 := by omega
    have he : m / 2 * 2 + m % 2 = m := by omega
    have hy : o[m / 2]? = some o[m / 2] := List.getElem?_eq_getElem hd
    have h2 := allC_at hc o _ _ hy _ hr
    rw [he] at h2
    rw [List.getElem?_set, List.getElem?_set, List.length_set, allC_len hc]
    by_cases e : i = m / 2
    · have hs : (o.set i x')[m / 2]? = some x' := by rw [List.getElem?_set, if_pos e, if_pos hi]
      have h1 := allC_at hc' (o.set i x') _ _ hs _ hr
      rw [he] at h1
      rw [h1, hx']
      have : m % 2 = 0 ∨ m % 2 = 1 := by omega
      rcases this with q | q
      · rw [q, if_neg (by omega), if_pos (by omega), if_pos (by omega)]; rfl
      · rw [q, if_pos (by omega), if_pos (by omega)]; rfl
    · have hs : (o.set i x')[m / 2]? = some o[m / 2] := by rw [List.getElem?_set, if_neg e, hy]
      have h1 := allC_at hc' (o.set i x') _ _ hs _ hr
      rw [he] at h1
      rw [h1, if_neg (by omega), if_neg (by omega), h2, hsame _ _ (fun q => e q.symm) hy]
  · rw [List.getElem?_eq_none (by rw [allC_len hc', List.length_set]; omega), List.getElem?_eq_none (by rw [List.length_set, List.length_set, allC_len hc]; omega)]
/-- a thread's call is set -/
theorem CrAt.setSlot (h : CrAt w B ps c) {n : Nat} {s s' : Option Nat} (hs : c.sl[n]? = some s) {ps' : List Nat} (hps : ∀ (u : Nat) (x : Option Nat), u ≠ n → c.sl[u]? = some x → slotC ps' x = slotC ps x) {u v : Value} (hu : slotC ps' s' = [u, v]) :
    CrAt ((w.setCell ⟨B.g, B.off + n * 2, none⟩ u).setCell ⟨B.g, B.off + n * 2 + 1, none⟩ v) B ps' ⟨c.sl.set n s', c.now, c.cas⟩ ∧ Fr [B.g] w ((w.setCell ⟨B.g, B.off + n * 2, none⟩ u).setCell ⟨B.g, B.off + n * 2 + 1, none⟩ v) := by
  have hf : Fr [B.g] w ((w.setCell ⟨B.g, B.off + n * 2, none⟩ u).setCell ⟨B.g, B.off + n * 2 + 1, none⟩ v) := ((Fr.refl [B.g] w).setCell (Or.inl (by simp)) u).setCell (Or.inl (by simp)) v
  have hlt := get_lt hs
  refine ⟨⟨?_, ?_, h.cl.keep hf (fun k hk hm => ?_), h.ne1, h.ne2, h.ne3, by rw [List.length_set]; exact h.few, by rw [List.length_set]; exact h.pos⟩, hf⟩
  · rw [List.length_set]
    exact hf.keep h.hd (by have := h.ne1; simpa using this)
  · have h1 := Lies.set h.th (n * 2) u
    have h2 := Lies.set h1 (n * 2 + 1) v
    rw [← Nat.add_assoc] at h2
    unfold LAt
    rw [List.length_set]
    have e : allC (slotC ps') (c.sl.set n s') = ((allC (slotC ps) c.sl).set (n * 2) u).set (n * 2 + 1) v := allC_two (slotC_len ps) (slotC_len ps') hs hps hu
    rw [e]
    exact h2
  · simp only [List.mem_singleton] at hm
    subst hm
    exact h.ne3 hk
/-- notes and the clock are set -/
theorem CrAt.note {W : World} {v : Value} {cas : List Ca} {now : Nat} (hd : W.heap[B.cb]? = some (.cells #[.slice (some ⟨B.g, B.off, none⟩) c.sl.length B.cap, B.cv, .int .i64 (c.now : Int)] 68 (0, 0))) (th : LAt (slotC ps) 65 2 W (.slice (some ⟨B.g, B.off, none⟩) c.sl.length B.cap) c.sl) (cl : LAt Ca.cells 41 5 W v cas)
    (ne1 : B.cb ≠ B.g) (ne2 : v.ownBlock ≠ some B.cb) (ne3 : v.ownBlock ≠ some B.g) (few : c.sl.length ≤ 8) (pos : 0 < c.sl.length) :
    CrAt ((W.setCell ⟨B.cb, 1, none⟩ v).setCell ⟨B.cb, 2, none⟩ (.int .i64 (now : Int))) { B with cv := v } ps ⟨c.sl, now, cas⟩ ∧ Fr [B.cb] W ((W.setCell ⟨B.cb, 1, none⟩ v).setCell ⟨B.cb, 2, none⟩ (.int .i64 (now : Int))) := by
  have hf : Fr [B.cb] W ((W.setCell ⟨B.cb, 1, none⟩ v).setCell ⟨B.cb, 2, none⟩ (.int .i64 (now : Int))) := ((Fr.refl [B.cb] W).setCell (Or.inl (by simp)) _).setCell (Or.inl (by simp)) _
  exact ⟨⟨set_block (set_block hd 1 v) 2 _, th.keep hf (fun k hk hm => by cases hk; simp at hm; exact ne1 hm.symm), cl.keep hf (fun k hk hm => by simp at hm; subst hm; exact ne2 hk), ne1, ne2, ne3, few, pos⟩, hf⟩
theorem CrAt.begEnd {w1 W2 w3 : World} {n : Nat} {s : Option Nat} {x : Ca} {v : Value} (h1 : Fr [] w w1) (h2 : CrAt W2 B ps ⟨c.sl.set n s, c.now, c.cas⟩ ∧ Fr [B.g] w1 W2) (hv : LAt Ca.cells 41 5 w3 v (c.cas ++ [x])) (hfr : Fr B.cv.ownBlock.toList W2 w3) (hnew : ∀ k, v.ownBlock = some k → B.cv.ownBlock = some k ∨ W2.heap.size ≤ k) :
    CrAt ((w3.setCell ⟨B.cb, 1, none⟩ v).setCell ⟨B.cb, 2, none⟩ (.int .i64 ((c.now : Int) + 1))) { B with cv := v } ps ⟨c.sl.set n s, c.now + 1, c.cas ++ [x]⟩ ∧ Fr B.foot w ((w3.setCell ⟨B.cb, 1, none⟩ v).setCell ⟨B.cb, 2, none⟩ (.int .i64 ((c.now : Int) + 1))) ∧ ∀ k, v.ownBlock = some k → B.cv.ownBlock = some k ∨ w.heap.size ≤ k := by
  obtain ⟨h, hg⟩ := h2
  have hlt1 := lt_of_block h.hd
  have hlt2 : B.g < W2.heap.size := h.th.lt _ rfl
  have n2 : v.ownBlock ≠ some B.cb := fun e => (hnew _ e).elim h.ne2 (fun q => by omega)
  have n3 : v.ownBlock ≠ some B.g := fun e => (hnew _ e).elim h.ne3 (fun q => by omega)
  have hw : w.heap.size ≤ W2.heap.size := Nat.le_trans h1.size hg.size
  obtain ⟨k1, k2⟩ := CrAt.note (c := ⟨c.sl.set n s, c.now, c.cas⟩) (now := c.now + 1) (hfr.keep h.hd (by simpa using h.ne2)) (h.th.keep hfr (fun k hk => by cases hk; simpa using h.ne3)) hv h.ne1 n2 n3 h.few h.pos
  refine ⟨k1, ?_, fun k hk => (hnew k hk).imp id (fun q => by omega)⟩
  have f1 : Fr B.foot w W2 := (h1.mono (by simp)).trans hg (fun q hq => Or.inl (by simp at hq; subst hq; simp [CB.foot]))
  exact (f1.trans hfr (fun q hq => Or.inl (by unfold CB.foot; simp at hq ⊢; exact Or.inr (Or.inr hq)))).trans k2 (fun q hq => Or.inl (by simp at hq; subst hq; simp [CB.foot]))
theorem slot_more {p : Nat} (hlt : ∀ (u i : Nat), c.sl[u]? = some (some i) → i < ps.length) {u : Nat} {x : Option Nat} (hx : c.sl[u]? = some x) : slotC (ps ++ [p]) x = slotC ps x := by
  cases x with
  | none => rfl
  | some i =>
    have := hlt u i hx
    show [pt ((ps ++ [p]).getD i 0), _] = [pt (ps.getD i 0), _]
    rw [List.getD_eq_getElem?_getD, List.getD_eq_getElem?_getD, List.getElem?_append_left this]
set_option maxRecDepth 20000 in
set_option maxHeartbeats 2000000 in
theorem cr_Begin_ok (h : CrAt w B ps c) {n : Nat} (hs : c.sl[n]? = some none) (hp : ps.length = c.cas.length) (hlt : ∀ (u i : Nat), c.sl[u]? = some (some i) → i < ps.length) (hb : c.cas.length ≤ 50000) (hnow : c.now ≤ 1000000) (p : Nat) (kind : Int) (key : ByteArray) :
    Calls Try.prog 8 #[pt B.cb, .int .i64 (n : Int), pt p, .int .i64 kind, .string key] w fun e w' => e = .returned (.int .i64 0) ∧ ∃ v, Hid (CrAt w' { B with cv := v } (ps ++ [p]) (c.begin n kind key) ∧ Fr B.foot w w' ∧ ∀ k, v.ownBlock = some k → B.cv.ownBlock = some k ∨ w.heap.size ≤ k) := by
  have hT := Lib.hid (cr_thread_in h rfl (get_lt hs))
  have HH := Lib.hid h
  have HS := Lib.hid hs
  have HP := Lib.hid (show ∀ (u : Nat) (x : Option Nat), u ≠ n → c.sl[u]? = some x → slotC (ps ++ [p]) x = slotC ps x from fun u x _ hx => slot_more hlt hx)
  have HQ : Hid (slotC (ps ++ [p]) (some c.cas.length) = [pt p, .int .i64 (c.cas.length : Int)]) := Lib.hid (by show [pt ((ps ++ [p]).getD c.cas.length 0), _] = _; rw [List.getD_eq_getElem?_getD, ← hp, List.getElem?_append_right (Nat.le_refl _), Nat.sub_self]; rfl)
  clear h hs hlt hp
  go_enter Try.func8, Try.ntmps8
  go_wp2_with (go_at_call 21; refine hT.out.mono ?_; rintro e w1 ⟨rfl, hf⟩; refine go_stop ?_)
  unfold Stop
  have H1 := Lib.hid (HH.out.keep0 hf)
  obtain ⟨q0, q1, hpq, a1, a2, a3, a4, a5⟩ := H1.out.slot HS.out
  cases hpq
  obtain ⟨c0, c1, c2, c3⟩ := cells3 H1.out.hd
  have hcb := lt_of_block H1.out.hd
  obtain ⟨ls, lc, hcv, la, lb⟩ := LAt.form H1.out.cl
  have HF := Lib.hid hf
  clear hf hT
  have n1 := H1.out.ne1
  have HCV := Lib.hid hcv
  rw [hcv] at c1
  clear hcv
  go_wp2_with fail
  clear a1 a2 a3 a4 a5
  obtain ⟨W2, hW2⟩ : ∃ W2, W2 = ((w1.setCell ⟨B.g, B.off + n * 2, none⟩ (pt p)).setCell ⟨B.g, B.off + n * 2 + 1, none⟩ (.int .i64 (c.cas.length : Int))) := ⟨_, rfl⟩
  rw [← hW2]
  have h2 := H1.out.setSlot (s' := some c.cas.length) HS.out HP.out HQ.out
  rw [← hW2] at h2
  have H2 := Lib.hid h2
  clear h2 hW2
  have hd2 := H2.out.1.hd
  obtain ⟨c0, c1, c2, c3⟩ := cells3 hd2
  rw [HCV.out] at c1
  have hcb := lt_of_block hd2
  dsimp only at c0 c1 c2
  have HN : Hid (∀ (W : World) (q : Nat), Fr [] W2 W → W.heap[q]? = some (.cells #[.int .i64 kind, .string key, .bool false, .int .i64 (c.now : Int), .int .i64 (-1)] 41 (0, 0)) → Calls Try.prog 22 #[.slice ls c.cas.length lc, .slice (some ⟨q, 0, none⟩) 1 1] W fun e w' => ∃ v, e = .returned v ∧ Hid (LAt Ca.cells 41 5 w' v (c.cas ++ [⟨kind, key, false, c.now, -1⟩]) ∧ Fr B.cv.ownBlock.toList W w' ∧ ∀ k, v.ownBlock = some k → B.cv.ownBlock = some k ∨ W.heap.size ≤ k)) := Lib.hid fun W q hW hq => by
    have hcl := H2.out.1.cl.keep0 hW
    have hnew : CaIn W (.slice (some ⟨q, 0, none⟩) 1 1) [⟨kind, key, false, c.now, -1⟩] := by
      refine ⟨some ⟨q, 0, none⟩, 1, rfl, Nat.le_refl _, by unfold maxLen; omega, fun _ => ⟨q, 0, rfl, lt_of_block hq, fun i x hx j hj => ?_⟩⟩
      have : i = 0 := by have := get_lt hx; simp at this; exact this
      subst this
      simp at hx
      subst hx
      rw [cell_block hq]
      match j, hj with
      | 0, _ => rfl
      | 1, _ => rfl
      | 2, _ => rfl
      | 3, _ => rfl
      | 4, _ => rfl
    rw [← HCV.out]
    exact (cr_noted hcl hnew (by dsimp only [List.length_singleton]; simp; omega)).mono fun e w' ⟨v, he, k1, k2, k3⟩ => ⟨v, he, Lib.hid ⟨k1, k2, k3⟩⟩
  clear n1
  have m1 : ∀ k o, ((W2.drewN k).alloc o).cell? ⟨B.cb, 1, none⟩ = some (.slice ls c.cas.length lc) := fun k o => (((Fr.refl [] W2).drewN k).alloc o).cell c1 (by simp)
  have m2 : ∀ k o, ((W2.drewN k).alloc o).cell? ⟨B.cb, 2, none⟩ = some (.int .i64 (c.now : Int)) := fun k o => (((Fr.refl [] W2).drewN k).alloc o).cell c2 (by simp)
  go_region_law
    (first
      | (go_simp; go_at_call 22; refine (HN.out _ W2.heap.size ((Fr.refl [] W2).alloc _).drew (new_block W2 _)).mono ?_; rintro e w3 ⟨v, rfl, HV⟩
         obtain ⟨vs, vc, rfl, va, vb⟩ := LAt.form HV.out.1
         have HF3 : Hid (Fr B.cv.ownBlock.toList W2 w3) := Lib.hid ((((Fr.refl [] W2).alloc (.cells #[.int .i64 kind, .string key, .bool false, .int .i64 (c.now : Int), .int .i64 (-1)] 41)).drew.mono (by simp)).trans HV.out.2.1 (fun x hx => Or.inl hx))
         have hd3 := HF3.out.keep H2.out.1.hd (by have := H2.out.1.ne2; simpa using this)
         have HD3 := Lib.hid hd3
         obtain ⟨d0, d1, d2, d3⟩ := cells3 hd3
         have hcb3 := lt_of_block hd3
         clear hd3))
  all_goals go_wp2_with fail
  all_goals go_ret
  all_goals refine ⟨rfl, .slice vs (c.cas.length + 1) vc, Lib.hid ?_⟩
  all_goals have hv := HV.out
  all_goals have e1 : (c.cas ++ [(⟨kind, key, false, c.now, -1⟩ : Ca)]).length = c.cas.length + 1 := by simp
  all_goals rw [e1] at hv
  all_goals exact CrAt.begEnd HF.out H2.out hv.1 HF3.out (fun k hk => (hv.2.2 k hk).imp id (fun q => Nat.le_trans (((Fr.refl [] W2).alloc _).drew).size q))
end
end Go.Proofs.Ytmhiolhgofackaa
namespace Go.Proofs.Ytmhiolhgofackaa
open Go.RowKit
set_option linter.unusedVariables false
set_option linter.unusedSimpArgs false
section
variable {w w' : World} {B : CB} {ps : List Nat} {c : Cro}
set_option maxRecDepth 20000 in
set_option maxHeartbeats 2000000 in
theorem cr_Begin_out (h : CrAt w B ps c) {t : Int} (ht : t < 0 ∨ (c.sl.length : Int) ≤ t) (x : Value) (kind : Int) (key : ByteArray) :
    Calls Try.prog 8 #[pt B.cb, .int .i64 t, x, .int .i64 kind, .string key] w fun e w' => e = .returned (.int .i64 1) ∧ Fr [] w w' := by
  have hT := Lib.hid (cr_thread_out h ht)
  clear h ht
  go_enter Try.func8, Try.ntmps8
  go_wp2_with (go_at_call 21; refine hT.out.mono ?_; rintro e w1 ⟨rfl, hf⟩; have HF := Lib.hid hf; clear hf)
  go_ret
  exact ⟨rfl, HF.out⟩
set_option maxRecDepth 20000 in
set_option maxHeartbeats 2000000 in
theorem cr_Begin_none (h : CrAt w B ps c) (t : Int) (kind : Int) (key : ByteArray) :
    Calls Try.prog 8 #[pt B.cb, .int .i64 t, .pointer none, .int .i64 kind, .string key] w fun e w' => e = .returned (.int .i64 1) ∧ Fr [] w w' := by
  by_cases ht : 0 ≤ t ∧ t < c.sl.length
  · obtain ⟨n, rfl⟩ : ∃ n : Nat, t = (n : Int) := ⟨t.toNat, by omega⟩
    have hT := Lib.hid (cr_thread_in h rfl (show n < c.sl.length by omega))
    clear h ht
    go_enter Try.func8, Try.ntmps8
    go_wp2_with (go_at_call 21; refine hT.out.mono ?_; rintro e w1 ⟨rfl, hf⟩; have HF := Lib.hid hf; clear hf)
    go_ret
    exact ⟨rfl, HF.out⟩
  · exact cr_Begin_out h (by omega) _ _ _
set_option maxRecDepth 20000 in
set_option maxHeartbeats 2000000 in
theorem cr_Begin_busy (h : CrAt w B ps c) {n i : Nat} (hs : c.sl[n]? = some (some i)) (p : Nat) (kind : Int) (key : ByteArray) :
    Calls Try.prog 8 #[pt B.cb, .int .i64 (n : Int), pt p, .int .i64 kind, .string key] w fun e w' => e = .returned (.int .i64 8) ∧ Fr [] w w' := by
  have hT := Lib.hid (cr_thread_in h rfl (get_lt hs))
  have HH := Lib.hid h
  have HS := Lib.hid hs
  clear h hs
  go_enter Try.func8, Try.ntmps8
  go_wp2_with (go_at_call 21; refine hT.out.mono ?_; rintro e w1 ⟨rfl, hf⟩; refine go_stop ?_)
  unfold Stop
  obtain ⟨q0, q1, hpq, a1, a2, a3, a4, a5⟩ := (HH.out.keep0 hf).slot HS.out
  cases hpq
  have HF := Lib.hid hf
  clear hf hT
  go_wp2_with fail
  go_ret
  exact ⟨rfl, HF.out⟩
/-! a Crowd that is nil -/
set_option maxRecDepth 20000 in
set_option maxHeartbeats 2000000 in
theorem cr_Begin_nil (w : World) (t : Int) (x : Value) (kind : Int) (key : ByteArray) :
    Calls Try.prog 8 #[.pointer none, .int .i64 t, x, .int .i64 kind, .string key] w fun e w' => e = .returned (.int .i64 1) ∧ Fr [] w w' := by
  have hT := Lib.hid (cr_thread_nil t w)
  go_enter Try.func8, Try.ntmps8
  go_wp2_with (go_at_call 21; refine hT.out.mono ?_; rintro e w1 ⟨rfl, hf⟩; have HF := Lib.hid hf; clear hf)
  go_ret
  exact ⟨rfl, HF.out⟩
set_option maxHeartbeats 1000000 in
theorem cr_Idle_nil (w : World) (t : Int) : Calls Try.prog 10 #[.pointer none, .int .i64 t] w fun e w' => e = .returned (.bool false) ∧ Fr [] w w' := by
  have hT := Lib.hid (cr_thread_nil t w)
  go_enter Try.func10, Try.ntmps10
  go_wp2_with (go_at_call 21; refine hT.out.mono ?_; rintro e w1 ⟨rfl, hf⟩; have HF := Lib.hid hf; clear hf)
  go_ret
  exact ⟨rfl, HF.out⟩
set_option maxHeartbeats 1000000 in
theorem cr_Pick_nil (w : World) (t : Int) : Calls Try.prog 9 #[.pointer none, .int .i64 t] w fun e w' => e = .returned (.bool false) ∧ Fr [] w w' := by
  have hT := Lib.hid (cr_thread_nil t w)
  go_enter Try.func9, Try.ntmps9
  go_wp2_with (go_at_call 21; refine hT.out.mono ?_; rintro e w1 ⟨rfl, hf⟩; have HF := Lib.hid hf; clear hf)
  go_ret
  exact ⟨rfl, HF.out⟩
theorem cr_Calls_nil (w : World) : Calls Try.prog 11 #[.pointer none] w fun e w' => e = .returned (.slice none 0 0) ∧ w = w' := by
  go_enter Try.func11, Try.ntmps11
  go_wp2_with fail
  go_ret
  exact ⟨rfl, rfl⟩
theorem cr_Clock_nil (w : World) : Calls Try.prog 12 #[.pointer none] w fun e w' => e = .returned (.int .i64 0) ∧ w = w' := by
  go_enter Try.func12, Try.ntmps12
  go_wp2_with fail
  go_ret
  exact ⟨rfl, rfl⟩
/-! New -/
theorem cr_New_nil (w : World) {n : Int} (hn : n < 1 ∨ 8 < n) : Calls Try.prog 13 #[.int .i64 n] w fun e w' => e = .returned (.pointer none) ∧ w = w' := by
  by_cases h1 : n < 1
  · have t1 : decide (n < 1) = true := decide_eq_true h1
    clear hn
    go_enter Try.func13, Try.ntmps13
    go_wp2_with fail
    go_ret
    exact ⟨rfl, rfl⟩
  · have t1 : decide (n < 1) = false := decide_eq_false h1
    have t2 : decide (8 < n) = true := decide_eq_true (by omega)
    clear hn
    go_enter Try.func13, Try.ntmps13
    go_wp2_with fail
    go_ret
    exact ⟨rfl, rfl⟩
theorem th_info : (Try.prog.info? 65).map (fun i => (i.zero, i.size, i.bytes)) = some (some (.agg #[.pointer none, .int .i64 0]), 2, 16) := by kernel_rfl
theorem th_slice : Try.prog.underlying 66 = some (.slice 65) := Try.underlying66
set_option maxRecDepth 20000 in
set_option maxHeartbeats 1000000 in
theorem cr_New (w : World) {n : Nat} (h1 : 1 ≤ n) (h8 : n ≤ 8) : Calls Try.prog 13 #[.int .i64 (n : Int)] w fun e w' => ∃ B, e = .returned (pt B.cb) ∧ Hid (CrAt w' B [] (Cro.new n) ∧ Fr [] w w' ∧ ∀ b ∈ B.foot, w.heap.size ≤ b) := by
  have t1 : decide ((n : Int) < 1) = false := decide_eq_false (by omega)
  have t2 : decide (8 < (n : Int)) = false := decide_eq_false (by omega)
  go_enter Try.func13, Try.ntmps13
  go_wp2_with (at_make; refine wpList_make_any rfl (.tmp 9) (.tmp 9) 66 65 (.agg #[.pointer none, .int .i64 0]) 2 16 rfl th_slice th_info rfl (by decide) n rfl rfl (by omega) (by unfold maxLen; omega) ?mk)
  case mk =>
  intro w2 k1 k2
  have H1 := Lib.hid (Lies.of_own k1)
  have H2 := Lib.hid k2
  clear k1 k2
  go_wp2_with fail
  go_ret
  refine ⟨⟨w2.heap.size, w.heap.size, 0, n, .slice none 0 0⟩, rfl, Lib.hid ⟨?_, H2.out.alloc _, ?_⟩⟩
  · have hf : Fr [] w2 (w2.alloc (.cells #[.slice (some ⟨w.heap.size, 0, none⟩) n n, .slice none 0 0, .int .i64 0] 68)) := (Fr.refl [] w2).alloc _
    have hlt : w.heap.size < w2.heap.size := H1.out.lt _ rfl
    have el : (Cro.new n).sl.length = n := by unfold Cro.new; simp
    refine ⟨?_, ?_, LAt.nil _, by show ¬ w2.heap.size = w.heap.size; omega, by simp [Value.ownBlock], by simp [Value.ownBlock], by rw [el]; exact h8, by rw [el]; omega⟩
    · rw [el]
      exact new_block w2 _
    · refine LAt.keep0 ?_ hf
      unfold LAt
      rw [el]
      have e2 : allC (slotC []) (Cro.new n).sl = (List.replicate n (Value.agg #[.pointer none, .int .i64 0]).cells.toList).flatten := by
        unfold Cro.new allC
        rw [List.map_replicate]
        rfl
      rw [e2]
      exact H1.out
  · intro b hb
    have hs := H2.out.size
    simp [CB.foot, Value.ownBlock] at hb
    omega
/-! a call is answered -/
/-- the crowd behind an answer -/
def Cro.told (c : Cro) (i : Nat) (x : Ca) (ok : Bool) : Cro := ⟨c.sl, c.now, c.cas.set i { x with ok := ok, ret := c.now }⟩
set_option maxRecDepth 20000 in
set_option maxHeartbeats 2000000 in
theorem cr_answer (h : CrAt w B ps c) {i : Nat} {x : Ca} (hx : c.cas[i]? = some x) (a : An) (ha : a.err = 0) : Calls Try.prog 26 #[pt B.cb, .int .i64 (i : Int), a.agg] w fun e w' => e = .returned (.tuple #[]) ∧ Hid (CrAt w' B ps (c.told i x a.ok) ∧ Fr B.foot w w') := by
  have t1 : (a.err == 0) = true := by rw [ha]; rfl
  unfold An.agg
  obtain ⟨ok, key, val, err⟩ := a
  dsimp only at t1 ha ⊢
  subst ha
  have hil := get_lt hx
  have HH := Lib.hid h
  have HX := Lib.hid hx
  clear h hx
  go_enter Try.func26, Try.ntmps26
  go_wp2_with fail
  obtain ⟨W1, hW1⟩ : ∃ W1, W1 = (w.alloc (.cells #[.bool ok, .string key, .int .u64 val, .int .i64 0] 71)) := ⟨_, rfl⟩
  obtain ⟨P, hP⟩ : ∃ P, P = w.heap.size := ⟨_, rfl⟩
  have hb1 : W1.heap[P]? = some (.cells #[.bool ok, .string key, .int .u64 val, .int .i64 0] 71 (0, 0)) := by rw [hW1, hP]; exact new_block w _
  have hf1 : Fr [] w W1 := by rw [hW1]; exact (Fr.refl [] w).alloc _
  rw [← hW1, ← hP]
  clear hW1
  have H1 := Lib.hid (HH.out.keep0 hf1)
  have HF1 := Lib.hid hf1
  clear hf1
  obtain ⟨b0, _, _, _, _⟩ := cells4 hb1
  obtain ⟨c0, c1, c2, c3⟩ := cells3 H1.out.hd
  obtain ⟨g, off, cap, hcv, hg, hcap, hat⟩ := H1.out.cl.here Ca.clen (by omega)
  have q := hat i x HX.out
  obtain ⟨e2, f2⟩ := q 2 (by decide)
  obtain ⟨e4, f4⟩ := q 4 (by decide)
  rw [← Nat.add_assoc] at e2 f2 e4 f4
  replace e2 : W1.cell? ⟨g, off + i * 5 + 2, none⟩ = some (.bool x.ok) := e2
  replace e4 : W1.cell? ⟨g, off + i * 5 + 4, none⟩ = some (.int .i64 x.ret) := e4
  have HCV := Lib.hid hcv
  rw [hcv] at c1
  have hcb := lt_of_block H1.out.hd
  have n1 : ¬ g = B.cb := fun e => H1.out.ne2 (by rw [hcv, e]; rfl)
  have n2 : ¬ g = P := fun e => by
    have := HH.out.cl.lt g (by rw [hcv]; rfl)
    omega
  have hP1 := lt_of_block hb1
  clear hcv hat q hb1 hP
  go_region_held3 (fun W => W.cell? ⟨B.cb, 1, none⟩ = some (.slice (some ⟨g, off, none⟩) c.cas.length cap) ∧ W.cell? ⟨B.cb, 2, none⟩ = some (.int .i64 (c.now : Int)) ∧ W.cell? ⟨P, 0, none⟩ = some (.bool ok)) (go_keep) (fail)
  go_end0
  refine ⟨rfl, Lib.hid ?_⟩
  have hcl := H1.out.cl
  rw [HCV.out] at hcl
  have k1 := LAt.put Ca.clen (u := .bool ok) (x' := { x with ok := ok }) hcl rfl HX.out (show 2 < 5 by decide) rfl
  have k2 := LAt.put Ca.clen (u := .int .i64 (c.now : Int)) (x' := { x with ok := ok, ret := c.now }) k1 (by rw [List.length_set]) (List.getElem?_set_self hil) (show 4 < 5 by decide) rfl
  rw [List.set_set] at k2
  have hf : Fr [g] W1 ((W1.setCell ⟨g, off + i * 5 + 2, none⟩ (.bool ok)).setCell ⟨g, off + i * 5 + 4, none⟩ (.int .i64 (c.now : Int))).drew := (((Fr.refl [g] W1).setCell (Or.inl (by simp)) _).setCell (Or.inl (by simp)) _).drew
  have hgv : B.cv.ownBlock = some g := by rw [HCV.out]; rfl
  refine ⟨⟨hf.keep H1.out.hd (by simpa using fun e => n1 e.symm), H1.out.th.keep hf (fun k hk hm => by cases hk; simp at hm; exact H1.out.ne3 (by rw [hgv, hm])), ?_, H1.out.ne1, H1.out.ne2, H1.out.ne3, H1.out.few, H1.out.pos⟩, ?_⟩
  · rw [HCV.out]
    exact k2
  · refine (HF1.out.mono (by simp)).trans hf (fun q hq => Or.inl ?_)
    simp at hq
    subst hq
    simp [CB.foot, hgv]
end
end Go.Proofs.Ytmhiolhgofackaa
namespace Go.Proofs.Ytmhiolhgofackaa
open Go.RowKit
set_option linter.unusedVariables false
set_option linter.unusedSimpArgs false

abbrev Rows := List (Nat × Obj)
/-- blocks that are known, of a world -/
def Known (W : World) (K : Rows) (w : World) (K' : Rows) : Prop := ∀ r ∈ K', W.heap[r.1]? = some r.2 ∧ ((∃ o, (r.1, o) ∈ K) ∨ w.heap.size ≤ r.1)
/-- a call that steps, and is asked behind that; R: what there is then -/
structure Steps (m0 : Nat) (w : World) (p : Nat) (K : Rows) (R : World → Rows → Bool → An → Prop) : Prop where
  step : ∀ W K', Fr [] w W → Known W K w K' → Calls Try.prog 24 #[pt p] W fun e w' => ∃ b a, e = .returned (.bool b) ∧ Hid (R w' K' b a)
  ans : ∀ {W K' b a}, R W K' b a → Calls Try.prog 25 #[pt p] W fun e w' => ∃ a' : An, a'.ok = a.ok ∧ a'.err = 0 ∧ e = .returned (.tuple #[a'.agg, .bool b]) ∧ Fr [] W w'
  same : ∀ {W K' b} {a a' : An}, R W K' b a → a'.ok = a.ok → a'.err = 0 → R W K' b a'
  at_ : ∀ {W K' b a r}, R W K' b a → r ∈ K' → W.heap[r.1]? = some r.2
  write : ∀ {W K' b a S W' K''}, R W K' b a → (∀ k ∈ S, m0 ≤ k ∧ ∃ o, (k, o) ∈ K') → Fr S W W' → (∀ X, Iv X W W') → Known W' K' W K'' → R W' K'' b a
  err : ∀ {W K' b a}, R W K' b a → a.err = 0
section
variable {w w' : World} {B : CB} {ps : List Nat} {c : Cro} {m0 p : Nat} {K : Rows} {R : World → Rows → Bool → An → Prop}
theorem Known.refl (h : ∀ r ∈ K, w.heap[r.1]? = some r.2) : Known w K w K := fun r hr => ⟨h r hr, Or.inl ⟨r.2, hr⟩⟩
/-- a block of another type than those that never change -/
theorem iv_of {S : List Nat} {W W' : World} (hf : Fr S W W') (hS : ∀ k ∈ S, ∃ cur T f, W.heap[k]? = some (.cells cur T f) ∧ T ∉ immT ∧ T ∉ oneT) (X : List Nat) : Iv X W W' :=
  hf.iv (fun k hk o ho hi => by
    obtain ⟨cur, T, f, h1, h2, h3⟩ := hS k hk
    rw [h1] at ho
    cases ho
    obtain ⟨cur', T', he, ht⟩ := hi
    cases he
    exact ht.elim h2 (fun q => h3 q.1))
abbrev ansO : Obj := .cells #[.bool false, .string ⟨#[]⟩, .int .u64 0, .int .i64 0] 71 (0, 0)
theorem ans_type : 71 ∉ immT ∧ 71 ∉ oneT := by decide
def AfterPost (w : World) (K : Rows) (R : World → Rows → Bool → An → Prop) (e : Ending) (w' : World) : Prop := ∃ b a, e = .returned (.tuple #[.agg #[.bool a.ok, .string a.key, .int .u64 a.val, .int .i64 a.err], .bool b]) ∧ R w' K b a
set_option maxRecDepth 20000 in
set_option maxHeartbeats 2000000 in
theorem cr_after (h : Steps m0 w p K R) (hm : m0 ≤ w.heap.size) (hK : ∀ r ∈ K, w.heap[r.1]? = some r.2) :
    Calls Try.prog 23 #[.func (.func 24) #[pt p] #[], .func (.func 25) #[pt p] #[]] w (AfterPost w K R) := by
  have HH := Lib.hid h
  have hf0 : Fr [] w (w.alloc (.cells #[.bool false, .string ⟨#[]⟩, .int .u64 0, .int .i64 0] 71)) := (Fr.refl [] w).alloc _
  have hb0 : (w.alloc (.cells #[.bool false, .string ⟨#[]⟩, .int .u64 0, .int .i64 0] 71)).heap[w.heap.size]? = some ansO := new_block w _
  have HS := Lib.hid (h.step _ ((w.heap.size, ansO) :: K) hf0 (fun r hr => by
    rcases List.mem_cons.1 hr with rfl | hr
    · exact ⟨hb0, Or.inr (Nat.le_refl _)⟩
    · exact ⟨hf0.keep (hK r hr) (by simp), Or.inl ⟨r.2, hr⟩⟩))
  clear h hf0 hb0
  go_enter Try.func23, Try.ntmps23
  go_wp2_with (go_at_call 24; refine HS.out.mono ?_; rintro e w1 ⟨b, a, rfl, H1⟩; refine go_stop ?_)
  unfold Stop
  go_wp2_with (go_at_call 25; refine (HH.out.ans H1.out).mono ?_; rintro e w2 ⟨a', ha1, ha2, rfl, hf2⟩; refine go_stop ?_)
  unfold Stop
  replace H1 := Lib.hid (HH.out.same H1.out ha1 ha2)
  clear ha1 ha2 a
  obtain ⟨a, ha⟩ : ∃ a, a = a' := ⟨_, rfl⟩
  rw [← ha] at H1 ⊢
  clear ha a'
  have hb2 := hf2.keep (HH.out.at_ H1.out (List.mem_cons_self ..)) (by simp)
  obtain ⟨b0, b1, b2, b3, b4⟩ := cells4 hb2
  have hlt := lt_of_block hb2
  have HF := Lib.hid hf2
  obtain ⟨P, hP⟩ : ∃ P, P = w.heap.size := ⟨_, rfl⟩
  rw [← hP] at b0 b1 b2 b3 b4 hlt H1 ⊢
  have HP := Lib.hid hP
  clear hf2 hb2 HS hP
  have HFW := Lib.hid (show ∀ (w2 : World) (u0 u1 u2 u3 : Value), Fr [] w1 w2 → Fr [P] w1 ((((w2.setCell ⟨P, 0, none⟩ u0).setCell ⟨P, 1, none⟩ u1).setCell ⟨P, 2, none⟩ u2).setCell ⟨P, 3, none⟩ u3) from fun w2 u0 u1 u2 u3 hf => (hf.mono (by simp)).trans (((((Fr.refl [P] w2).setCell (Or.inl (by simp)) _).setCell (Or.inl (by simp)) _).setCell (Or.inl (by simp)) _).setCell (Or.inl (by simp)) _) (fun x hx => Or.inl hx))
  have HA : Hid (a.agg = .agg #[.bool a.ok, .string a.key, .int .u64 a.val, .int .i64 a.err]) := Lib.hid rfl
  rw [HA.out]
  go_wp2_with fail
  refine bodyPost_ret (v := .tuple #[.agg #[.bool a.ok, .string a.key, .int .u64 a.val, .int .i64 a.err], .bool b]) (by simp [results, Try.results23, go_sem, *]) rfl ?_
  refine ⟨b, a, rfl, HH.out.write H1.out (S := [P]) (fun k hk => by simp at hk; subst hk; exact ⟨by rw [HP.out]; exact hm, ansO, List.mem_cons_self ..⟩) (HFW.out w2 _ _ _ _ HF.out) (iv_of (HFW.out w2 _ _ _ _ HF.out) (fun k hk => by simp at hk; subst hk; exact ⟨_, _, _, HH.out.at_ H1.out (List.mem_cons_self ..), ans_type⟩)) (fun r hr => ⟨?_, Or.inl ⟨r.2, List.mem_cons_of_mem _ hr⟩⟩)⟩
  have hne : r.1 ∉ [P] := by
    have := lt_of_block (hK r hr)
    simp; intro e; rw [HP.out] at e; omega
  exact (HFW.out w2 _ _ _ _ HF.out).keep (HH.out.at_ H1.out (List.mem_cons_of_mem _ hr)) hne
set_option maxRecDepth 20000 in
set_option maxHeartbeats 2000000 in
theorem cr_Pick_no (h : CrAt w B ps c) {t : Int} (ht : (t < 0 ∨ (c.sl.length : Int) ≤ t) ∨ ∃ n : Nat, t = (n : Int) ∧ c.sl[n]? = some none) : Calls Try.prog 9 #[pt B.cb, .int .i64 t] w fun e w' => e = .returned (.bool false) ∧ Fr [] w w' := by
  rcases ht with ht | ⟨n, rfl, hs⟩
  · have hT := Lib.hid (cr_thread_out h ht)
    clear h ht
    go_enter Try.func9, Try.ntmps9
    go_wp2_with (go_at_call 21; refine hT.out.mono ?_; rintro e w1 ⟨rfl, hf⟩; have HF := Lib.hid hf; clear hf)
    go_ret
    exact ⟨rfl, HF.out⟩
  · have hT := Lib.hid (cr_thread_in h rfl (get_lt hs))
    have HH := Lib.hid h
    have HS := Lib.hid hs
    clear h hs
    go_enter Try.func9, Try.ntmps9
    go_wp2_with (go_at_call 21; refine hT.out.mono ?_; rintro e w1 ⟨rfl, hf⟩; refine go_stop ?_)
    unfold Stop
    obtain ⟨q0, q1, hpq, a1, a2, a3, a4, a5⟩ := (HH.out.keep0 hf).slot HS.out
    cases hpq
    have HF := Lib.hid hf
    clear hf hT
    go_wp2_with fail
    go_ret
    exact ⟨rfl, HF.out⟩
theorem CrAt.rows {W : World} (h : CrAt w B ps c) (hB : ∀ b ∈ B.foot, ∃ o, (b, o) ∈ K) (hK : ∀ r ∈ K, w.heap[r.1]? = some r.2) (hW : ∀ r ∈ K, W.heap[r.1]? = some r.2) : CrAt W B ps c := by
  have e : ∀ b ∈ B.foot, W.heap[b]? = w.heap[b]? := fun b hb => by
    obtain ⟨o, ho⟩ := hB b hb
    exact (hW _ ho).trans (hK _ ho).symm
  have lies : ∀ {e' : TypeId} {sz n : Nat} {v : Value} {xs : List Value}, Lies w e' sz v n xs → (∀ k, v.ownBlock = some k → k ∈ B.foot) → Lies W e' sz v n xs := fun {e' sz n v xs} hl hv => by
    obtain ⟨h1, h2⟩ := hl
    refine ⟨h1, h2.imp id ?_⟩
    rintro ⟨g, off, cap, cur, rfl, hg, r⟩
    exact ⟨g, off, cap, cur, rfl, (e g (hv g rfl)).trans hg, r⟩
  exact ⟨(e _ (by simp [CB.foot])).trans h.hd, lies h.th (fun k hk => by cases hk; simp [CB.foot]), lies h.cl (fun k hk => by simp [CB.foot, hk]), h.ne1, h.ne2, h.ne3, h.few, h.pos⟩
theorem Known.trans {W W' : World} {K' K'' : Rows} (h : Known W K w K') (g : Known W' K' W K'') (hf : w.heap.size ≤ W.heap.size) : Known W' K w K'' := fun r hr => by
  obtain ⟨h1, h2⟩ := g r hr
  refine ⟨h1, ?_⟩
  rcases h2 with ⟨o, ho⟩ | h2
  · exact (h _ ho).2
  · exact Or.inr (by omega)
theorem Steps.at {W : World} {K' : Rows} (h : Steps m0 w p K R) (hf : Fr [] w W) (hk : Known W K w K') : Steps m0 W p K' R :=
  ⟨fun W' K'' hf' hk' => h.step W' K'' (hf.trans hf' (by simp)) (hk.trans hk' hf.size), h.ans, h.same, h.at_, h.write, h.err⟩
/-- the clock goes on -/
theorem CrAt.tick (h : CrAt w B ps c) : CrAt (w.setCell ⟨B.cb, 2, none⟩ (.int .i64 ((c.now : Int) + 1))) B ps ⟨c.sl, c.now + 1, c.cas⟩ ∧ Fr [B.cb] w (w.setCell ⟨B.cb, 2, none⟩ (.int .i64 ((c.now : Int) + 1))) := by
  have hf : Fr [B.cb] w (w.setCell ⟨B.cb, 2, none⟩ (.int .i64 ((c.now : Int) + 1))) := (Fr.refl [B.cb] w).setCell (Or.inl (by simp)) _
  exact ⟨⟨set_block h.hd 2 _, h.th.keep hf (fun k hk hm => by cases hk; simp at hm; exact h.ne1 hm.symm), h.cl.keep hf (fun k hk hm => by simp at hm; subst hm; exact h.ne2 hk), h.ne1, h.ne2, h.ne3, h.few, h.pos⟩, hf⟩
theorem Lies.block {e : TypeId} {sz n : Nat} {v : Value} {xs : List Value} (h : Lies w e sz v n xs) {k : Nat} (hk : v.ownBlock = some k) : ∃ cur, w.heap[k]? = some (.cells cur e (0, 0)) := by
  rcases h.2 with ⟨rfl, _⟩ | ⟨g, off, cap, cur, rfl, hg, _⟩
  · cases hk
  · cases hk; exact ⟨cur, hg⟩
theorem cr_types : (68 ∉ immT ∧ 68 ∉ oneT) ∧ (65 ∉ immT ∧ 65 ∉ oneT) ∧ (41 ∉ immT ∧ 41 ∉ oneT) := by decide
theorem CrAt.types (h : CrAt w B ps c) : ∀ k ∈ B.foot, ∃ cur T f, w.heap[k]? = some (.cells cur T f) ∧ T ∉ immT ∧ T ∉ oneT := by
  intro k hk
  unfold CB.foot at hk
  rcases List.mem_cons.1 hk with rfl | hk
  · exact ⟨_, _, _, h.hd, cr_types.1⟩
  rcases List.mem_cons.1 hk with rfl | hk
  · obtain ⟨cur, hc⟩ := Lies.block h.th rfl
    exact ⟨_, _, _, hc, cr_types.2.1⟩
  · obtain ⟨cur, hc⟩ := Lies.block h.cl (by simpa using hk)
    exact ⟨_, _, _, hc, cr_types.2.2⟩
/-- its blocks, as rows -/
theorem CrAt.objs (h : CrAt w B ps c) : ∃ K : Rows, (∀ r ∈ K, w.heap[r.1]? = some r.2 ∧ r.1 ∈ B.foot) ∧ ∀ b ∈ B.foot, ∃ o, (b, o) ∈ K := by
  refine ⟨B.foot.filterMap (fun k => w.heap[k]?.map (fun o => (k, o))), fun r hr => ?_, fun b hb => ?_⟩
  · obtain ⟨k, hk, he⟩ := List.mem_filterMap.1 hr
    cases ho : w.heap[k]? with
    | none => rw [ho] at he; cases he
    | some o => rw [ho] at he; cases he; exact ⟨ho, hk⟩
  · obtain ⟨cur, T, f, h1, _⟩ := h.types b hb
    exact ⟨_, List.mem_filterMap.2 ⟨b, hb, by rw [h1]; rfl⟩⟩
abbrev anC (a : An) : Array Value := #[.bool a.ok, .string a.key, .int .u64 a.val, .int .i64 a.err]
structure Picked (K : Rows) (R : World → Rows → Bool → An → Prop) (q : Nat) (b : Bool) (a : An) (W : World) : Prop where
  box : W.heap[q]? = some (.cells (anC a) 71 (0, 0))
  r : R W ((q, .cells (anC a) 71 (0, 0)) :: K) b a
theorem picked_new (h : Steps m0 w p K R) {W : World} {b : Bool} {a : An} (hr : R W K b a) : Picked K R W.heap.size b a (W.alloc (.cells (anC a) 71)) := by
  have hf : Fr [] W (W.alloc (.cells (anC a) 71)) := (Fr.refl [] W).alloc _
  refine ⟨new_block W _, h.write hr (S := []) (by simp) hf (fun X => hf.iv0) (fun r hm => ?_)⟩
  rcases List.mem_cons.1 hm with rfl | hm
  · exact ⟨new_block W _, Or.inr (Nat.le_refl _)⟩
  · exact ⟨hf.keep (h.at_ hr hm) (by simp), Or.inl ⟨_, hm⟩⟩
theorem picked_old (h : Steps m0 w p K R) {W : World} {P : Nat} {b : Bool} {a : An} (hP : m0 ≤ P) (hK : ∀ r ∈ K, r.1 ≠ P) (hr : R W ((P, ansO) :: K) b a) : Picked K R P b a ((((W.setCell ⟨P, 0, none⟩ (.bool a.ok)).setCell ⟨P, 1, none⟩ (.string a.key)).setCell ⟨P, 2, none⟩ (.int .u64 a.val)).setCell ⟨P, 3, none⟩ (.int .i64 a.err)) := by
  have hb := h.at_ hr (List.mem_cons_self ..)
  have hb2 := set_block (set_block (set_block (set_block hb 0 (.bool a.ok)) 1 (.string a.key)) 2 (.int .u64 a.val)) 3 (.int .i64 a.err)
  have hf : Fr [P] W ((((W.setCell ⟨P, 0, none⟩ (.bool a.ok)).setCell ⟨P, 1, none⟩ (.string a.key)).setCell ⟨P, 2, none⟩ (.int .u64 a.val)).setCell ⟨P, 3, none⟩ (.int .i64 a.err)) := ((((Fr.refl [P] W).setCell (Or.inl (by simp)) _).setCell (Or.inl (by simp)) _).setCell (Or.inl (by simp)) _).setCell (Or.inl (by simp)) _
  refine ⟨hb2, h.write hr (S := [P]) (fun k hk => by simp at hk; subst hk; exact ⟨hP, _, List.mem_cons_self ..⟩) hf (iv_of hf (fun k hk => by simp at hk; subst hk; exact ⟨_, _, _, hb, ans_type⟩)) (fun r hm => ?_)⟩
  rcases List.mem_cons.1 hm with rfl | hm
  · exact ⟨hb2, Or.inl ⟨_, List.mem_cons_self ..⟩⟩
  · exact ⟨hf.keep (h.at_ hr (List.mem_cons_of_mem _ hm)) (by simpa using hK r hm), Or.inl ⟨_, List.mem_cons_of_mem _ hm⟩⟩
theorem pick_false {n i : Nat} {x : Ca} {ok : Bool} (hs : c.sl[n]? = some (some i)) (hx : c.cas[i]? = some x) : c.pick n i x false ok = ⟨c.sl, c.now + 1, c.cas⟩ := by
  unfold Cro.pick
  simp only [Bool.false_eq_true, if_false, Cro.mk.injEq, true_and]
  apply List.ext_getElem?
  intro j
  by_cases hj : i = j
  · subst hj; rw [List.getElem?_set_self (get_lt hx)]; exact hx.symm
  · rw [List.getElem?_set_ne hj]
theorem picked_end (h : Steps m0 w p K R) {q : Nat} {b : Bool} {a : An} {W W' : World} {E KB : Rows} {c' : Cro} {S : List Nat} (hp : Picked K R q b a W) (hc : CrAt W B ps c) (hf : Fr S W W') (hc' : CrAt W' B ps c') (hS : ∀ k ∈ S, k ∈ B.foot) (hB : ∀ b ∈ B.foot, m0 ≤ b ∧ ∃ o, (b, o) ∈ KB) (hB2 : ∀ b ∈ B.foot, ∃ o, (b, o) ∈ K) (hKK : K = E ++ KB) (hE : ∀ r ∈ E, r.1 ∉ B.foot) :
    ∃ K', R W' (E ++ K') b a ∧ CrAt W' B ps c' ∧ ∀ k ∈ B.foot, ∃ o, (k, o) ∈ K' := by
  obtain ⟨K', k1, k2⟩ := hc'.objs
  refine ⟨K', h.write hp.r (S := S) (fun k hk => ?_) hf (iv_of hf (fun k hk => hc.types k (hS k hk))) (fun r hr => ?_), hc', k2⟩
  · obtain ⟨o, ho⟩ := hB2 k (hS k hk)
    exact ⟨(hB k (hS k hk)).1, o, List.mem_cons_of_mem _ ho⟩
  · rcases List.mem_append.1 hr with hr | hr
    · have hm : r ∈ K := by rw [hKK]; exact List.mem_append_left _ hr
      exact ⟨hf.keep (h.at_ hp.r (List.mem_cons_of_mem _ hm)) (fun hs => hE r hr (hS _ hs)), Or.inl ⟨_, List.mem_cons_of_mem _ hm⟩⟩
    · obtain ⟨j1, j2⟩ := k1 r hr
      obtain ⟨o, ho⟩ := hB2 _ j2
      exact ⟨j1, Or.inl ⟨o, List.mem_cons_of_mem _ ho⟩⟩
set_option maxRecDepth 20000 in
set_option maxHeartbeats 4000000 in
/-- a thread's call is picked -/
theorem cr_Pick (h : CrAt w B ps c) {n i : Nat} {x : Ca} (hs : c.sl[n]? = some (some i)) (hp : ps[i]? = some p) (hx : c.cas[i]? = some x) {E KB : Rows} (hst : Steps m0 w p (E ++ KB) R) (hm : m0 ≤ w.heap.size) (hK : ∀ r ∈ E ++ KB, w.heap[r.1]? = some r.2) (hB : ∀ b ∈ B.foot, m0 ≤ b ∧ ∃ o, (b, o) ∈ KB) (hE : ∀ r ∈ E, r.1 ∉ B.foot) (hnow : c.now ≤ 1000000) :
    Calls Try.prog 9 #[pt B.cb, .int .i64 (n : Int)] w fun e w' => e = .returned (.bool true) ∧ Hid (∃ b a K', R w' (E ++ K') b a ∧ CrAt w' B ps (c.pick n i x b a.ok) ∧ ∀ k ∈ B.foot, ∃ o, (k, o) ∈ K') := by
  have hT := Lib.hid (cr_thread_in h rfl (get_lt hs))
  have HH := Lib.hid h
  have HS := Lib.hid hs
  have HX := Lib.hid hx
  obtain ⟨K, hKK⟩ : ∃ K, K = E ++ KB := ⟨_, rfl⟩
  rw [← hKK] at hst hK
  have hB2 : ∀ b ∈ B.foot, ∃ o, (b, o) ∈ K := fun b hb => by
    obtain ⟨_, o, ho⟩ := hB b hb
    exact ⟨o, by rw [hKK]; exact List.mem_append_right _ ho⟩
  have HB2 := Lib.hid hB2
  have HE := Lib.hid hE
  have HKK := Lib.hid hKK
  have HM := Lib.hid hm
  clear h hs hx hKK hB2 hE
  go_enter Try.func9, Try.ntmps9
  go_wp2_with (go_at_call 21; refine hT.out.mono ?_; rintro e w1 ⟨rfl, hf⟩; refine go_stop ?_)
  unfold Stop
  obtain ⟨q0, q1, hpq, a1, a2, a3, a4, a5⟩ := (HH.out.keep0 hf).slot HS.out
  have hpp : ps.getD i 0 = p := by rw [List.getD_eq_getElem?_getD, hp]; rfl
  have hsl : slotC ps (some i) = [pt p, .int .i64 (i : Int)] := by show [pt (ps.getD i 0), _] = _; rw [hpp]
  rw [hsl] at hpq
  cases hpq
  have H1 := Lib.hid (HH.out.keep0 hf)
  have hK1 : ∀ r ∈ K, w1.heap[r.1]? = some r.2 := fun r hr => hf.keep (hK r hr) (by simp)
  have HK1 := Lib.hid hK1
  have HST := Lib.hid (show ∀ W K', Fr [] w1 W → Known W K w1 K' → Calls Try.prog 23 #[.func (.func 24) #[pt p] #[], .func (.func 25) #[pt p] #[]] W (AfterPost W K' R) from fun W K' hW hk => by
    have h2 := (hst.at hf (fun r hr => ⟨hK1 r hr, Or.inl ⟨r.2, hr⟩⟩)).at hW hk
    exact cr_after h2 (Nat.le_trans hm (Nat.le_trans hf.size hW.size)) (fun r hr => (hk r hr).1))
  have HK2 : Hid (Known (w1.alloc (.cells #[.bool false, .string ⟨#[]⟩, .int .u64 0, .int .i64 0] 71)).drew K w1 ((w1.heap.size, ansO) :: K)) := Lib.hid fun r hr => by
    rcases List.mem_cons.1 hr with rfl | hr
    · exact ⟨new_block w1 _, Or.inr (Nat.le_refl _)⟩
    · exact ⟨((Fr.refl [] w1).alloc _).keep (hK1 r hr) (by simp), Or.inl ⟨r.2, hr⟩⟩
  have HHS := Lib.hid hst
  have HB := Lib.hid hB
  have HF := Lib.hid hf
  have HSL := Lib.hid hsl
  clear hf hT hpp hsl hK1 hst hB hK hm
  have nb : ¬ w1.heap.size = B.g := by omega
  go_upto_region 4 with fail
  go_cut [6, 7] (fun s6 s7 wx => ∃ (q : Nat) (b : Bool) (a : An), s6 = .pointer (some ⟨q, 0, none⟩) ∧ s7 = .bool b ∧ Hid (Picked K R q b a wx))
  case first =>
    go_region_held3 (fun W => W.cell? ⟨B.g, B.off + n * 2, none⟩ = some (pt p)) (go_keep)
      (first
        | (go_at_call 23; refine (HST.out _ K (Fr.refl [] w1).drew (Known.refl HK1.out)).mono ?_; rintro e w2 ⟨b, a, rfl, hR⟩
           have H2 := Lib.hid (H1.out.rows HB2.out HK1.out (fun r hr => HHS.out.at_ hR hr))
           have HR := Lib.hid hR
           obtain ⟨z0, z1, hz, a1, a2, a3, a4, a5⟩ := H2.out.slot HS.out
           have ez : z0 = pt p := by rw [HSL.out] at hz; cases hz; rfl
           subst ez
           clear hR hz)
        | (go_at_call 23; refine (HST.out _ ((w1.heap.size, ansO) :: K) ((Fr.refl [] w1).alloc _).drew HK2.out).mono ?_; rintro e w2 ⟨b, a, rfl, hR⟩
           have H2 := Lib.hid (H1.out.rows HB2.out HK1.out (fun r hr => HHS.out.at_ hR (List.mem_cons_of_mem _ hr)))
           have HR := Lib.hid hR
           have hq2 := HHS.out.at_ hR (List.mem_cons_self ..)
           obtain ⟨y0, y1, y2, y3, y4⟩ := cells4 hq2
           obtain ⟨z0, z1, hz, a1, a2, a3, a4, a5⟩ := H2.out.slot HS.out
           have ez : z0 = pt p := by rw [HSL.out] at hz; cases hz; rfl
           subst ez
           clear hR hq2 hz))
    all_goals (go_wp2_with fail; go_meet)
    all_goals first
      | exact ⟨_, b, a, rfl, rfl, Lib.hid (picked_new HHS.out HR.out)⟩
      | exact ⟨_, b, a, rfl, rfl, Lib.hid (picked_old HHS.out (Nat.le_trans HM.out HF.out.size) (fun r hr e => by have := lt_of_block (HK1.out r hr); omega) HR.out)⟩
  case rest =>
    obtain ⟨q, b, a, rfl, rfl, HP⟩ := hcut
    have HC := Lib.hid (H1.out.rows HB2.out HK1.out (fun r hr => HHS.out.at_ HP.out.r (List.mem_cons_of_mem _ hr)))
    clear HST HK2 a1 a2 a3 a4 a5 nb
    cases b
    · obtain ⟨c0, c1, c2, c3⟩ := cells3 HC.out.hd
      have hcb := lt_of_block HC.out.hd
      go_wp2_with fail
      go_ret
      refine ⟨rfl, Lib.hid ?_⟩
      have hk := HC.out.tick
      obtain ⟨K', r1, r2, r3⟩ := picked_end HHS.out HP.out HC.out hk.2 hk.1 (fun k hk => by simp at hk; subst hk; simp [CB.foot]) HB.out HB2.out HKK.out HE.out
      exact ⟨false, a, K', r1, by rw [pick_false HS.out HX.out]; exact r2, r3⟩
    · obtain ⟨z0, z1, hz, a1, a2, a3, a4, a5⟩ := HC.out.slot HS.out
      rw [HSL.out] at hz
      cases hz
      obtain ⟨b0, b1, b2, b3, b4⟩ := cells4 HP.out.box
      have hcb := lt_of_block HC.out.hd
      have HAN := Lib.hid (show ∀ W, Fr [] wc W → Calls Try.prog 26 #[pt B.cb, .int .i64 (i : Int), .agg #[.bool a.ok, .string a.key, .int .u64 a.val, .int .i64 a.err]] W fun e w' => e = .returned (.tuple #[]) ∧ Hid (CrAt w' B ps (c.told i x a.ok) ∧ Fr B.foot W w') from fun W hW => cr_answer (HC.out.keep0 hW) HX.out a (HHS.out.err HP.out.r))
      go_wp2_with fail
      go_still_tail 6, (by kernel_rfl)
      go_wp2_with (go_at_call 26; refine (HAN.out _ (Fr.refl [] wc).drew).mono ?_; rintro e w4 ⟨rfl, H4⟩; refine go_stop ?_)
      unfold Stop
      clear a1 a2 a3 a4 a5 b0 b1 b2 b3 b4 hcb HAN
      obtain ⟨z0, z1, hz, a1, a2, a3, a4, a5⟩ := H4.out.1.slot HS.out
      rw [HSL.out] at hz
      cases hz
      obtain ⟨c0, c1, c2, c3⟩ := cells3 H4.out.1.hd
      have hcb := lt_of_block H4.out.1.hd
      have n1 : ¬ B.g = B.cb := fun e => H4.out.1.ne1 e.symm
      replace c2 : w4.cell? ⟨B.cb, 2, none⟩ = some (.int .i64 (c.now : Int)) := c2
      go_wp2_with fail
      go_ret
      refine ⟨rfl, Lib.hid ?_⟩
      have k1 := H4.out.1.setSlot (s' := none) HS.out (ps' := ps) (fun _ _ _ _ => rfl) (u := .pointer none) (v := .int .i64 0) rfl
      have k2 := k1.1.tick
      have hf : Fr B.foot wc _ := (((Fr.refl [] wc).drew.mono (by simp)).trans H4.out.2 (fun x hx => Or.inl hx)).trans ((k1.2.mono (T := [B.g, B.cb]) (by simp)).trans k2.2 (by simp)) (fun x hx => Or.inl (by simp at hx; rcases hx with rfl | rfl <;> simp [CB.foot]))
      obtain ⟨K', r1, r2, r3⟩ := picked_end HHS.out HP.out HC.out hf k2.1 (fun k hk => hk) HB.out HB2.out HKK.out HE.out
      exact ⟨true, a, K', r1, r2, r3⟩
end
end Go.Proofs.Ytmhiolhgofackaa
