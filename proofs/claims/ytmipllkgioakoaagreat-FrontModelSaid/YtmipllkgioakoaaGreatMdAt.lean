/- REQUESTS, ONE BEHIND THE OTHER, PLAINLY: what each is answered, and what it leaves; its laws. No memory here.
LISTS OF REQUESTS IN MEMORY -/
import Derived.Test.YtmipllkgioakoaaGreatTxAt
namespace Go.Proofs.YtmipllkgioakoaaGreat
open Go.RowKit
set_option linter.unusedVariables false
set_option linter.unusedSimpArgs false

/-- how many entries there were, and the map -/
structure MA where
  seq : Nat
  H : HA
def MA.zero : MA := ⟨0, HA.zero⟩
def MA.map (M : MA) : List Kv := mapN M.H.rows M.H.rows.length
def MA.at_ (M : MA) (q : Rq) : Int := if q.rev = 0 then M.H.rows.length else q.rev
def MA.chE (M : MA) (q : Rq) : Int := if planL M.map q = [] then 0 else if 1000 ≤ M.H.rows.length then 9 else if M.H.hor + 16 < M.H.rows.length + 1 then 3 else 0
def MA.err (M : MA) (q : Rq) : Int := if mayQ q = true then (if q.kind = 2 then M.H.atE (M.at_ q) else if q.kind = 3 then M.H.comE q.rev else M.chE q) else 1
def MA.next (M : MA) (q : Rq) : MA :=
  if mayQ q = true then (if q.kind = 2 then M else if q.kind = 3 then ⟨M.seq + 1, M.H.com q.rev⟩ else ⟨M.seq + 1, if M.chE q = 0 then M.H.app (planL M.map q) else M.H⟩) else M
def MA.ok (M : MA) (q : Rq) : Bool := decide (mayQ q = true ∧ q.kind = 1 ∧ M.err q = 0) && holdsC M.map q.cmps
def MA.tell (M : MA) (q : Rq) : List Kv := if mayQ q = true ∧ q.kind = 2 then M.H.atL (M.at_ q) q.f q.t else []
/-- an entry -/
def entryB (q : Rq) : Bool := mayQ q && !(decide (q.kind = 2))
/-- behind at most n requests -/
structure MOk (M : MA) (n : Nat) : Prop where
  seq : M.seq ≤ n
  hok : HOk M.H n
  gap : M.H.rows.length ≤ M.H.hor + 16
theorem MOk.zero : MOk MA.zero 0 := ⟨Nat.le_refl _, HOk.zero, Nat.zero_le _⟩
theorem MOk.mono {M : MA} {n n' : Nat} (h : MOk M n) (hn : n ≤ n') : MOk M n' := ⟨Nat.le_trans h.seq hn, h.hok.mono hn, h.gap⟩
theorem app_nil (H : HA) : H.app [] = H := by
  unfold HA.app rowOf putR
  simp [countO]
theorem kind_of {q : Rq} (h : mayQ q = true) : q.kind = 1 ∨ q.kind = 2 ∨ q.kind = 3 := by
  unfold mayQ at h
  by_cases h1 : q.kind = 1
  · exact Or.inl h1
  · by_cases h2 : q.kind = 2
    · exact Or.inr (Or.inl h2)
    · by_cases h3 : q.kind = 3
      · exact Or.inr (Or.inr h3)
      · rw [if_neg h1, if_neg h2, if_neg h3] at h; cases h
/-- the cases of an answer -/
theorem next_cases (M : MA) (q : Rq) :
    (mayQ q = false ∧ M.err q = 1 ∧ M.next q = M) ∨ (mayQ q = true ∧ q.kind = 2 ∧ M.err q = M.H.atE (M.at_ q) ∧ M.next q = M) ∨
    (mayQ q = true ∧ q.kind = 3 ∧ M.err q = M.H.comE q.rev ∧ M.next q = ⟨M.seq + 1, M.H.com q.rev⟩) ∨
    (mayQ q = true ∧ q.kind = 1 ∧ M.err q = M.chE q ∧ M.next q = ⟨M.seq + 1, if M.chE q = 0 then M.H.app (planL M.map q) else M.H⟩) := by
  unfold MA.err MA.next
  cases h : mayQ q
  · exact Or.inl ⟨rfl, by simp, by simp⟩
  · rcases kind_of h with hk | hk | hk
    · exact Or.inr (Or.inr (Or.inr ⟨rfl, hk, by simp [hk], by simp [hk]⟩))
    · exact Or.inr (Or.inl ⟨rfl, hk, by simp [hk], by simp [hk]⟩)
    · exact Or.inr (Or.inr (Or.inl ⟨rfl, hk, by simp [hk], by simp [hk]⟩))
theorem chE_room {M : MA} {q : Rq} (h : M.chE q = 0) : planL M.map q = [] ∨ M.H.rows.length + 1 ≤ M.H.hor + 16 := by
  unfold MA.chE at h
  split at h
  · rename_i h1; exact Or.inl h1
  · split at h
    · cases h
    · split at h
      · cases h
      · exact Or.inr (by omega)
theorem com_rows (H : HA) (rev : Int) : (H.com rev).rows = H.rows := by unfold HA.com; split <;> rfl
theorem MOk.next {M : MA} {n : Nat} (h : MOk M n) (q : Rq) : MOk (M.next q) (n + 1) := by
  rcases next_cases M q with ⟨_, _, he⟩ | ⟨_, _, _, he⟩ | ⟨_, _, _, he⟩ | ⟨hm, hk, _, he⟩
  · rw [he]; exact h.mono (by omega)
  · rw [he]; exact h.mono (by omega)
  · rw [he]
    refine ⟨by have := h.seq; show M.seq + 1 ≤ n + 1; omega, (h.hok.com q.rev).mono (by omega), ?_⟩
    show (M.H.com q.rev).rows.length ≤ (M.H.com q.rev).hor + 16
    have h1 := (HLater.com M.H q.rev).hor
    rw [com_rows]
    have := h.gap; omega
  · rw [he]
    have hpl := (plan_nodup (m := M.map) hm hk).2
    by_cases hc : M.chE q = 0
    · rw [if_pos hc]
      refine ⟨by have := h.seq; show M.seq + 1 ≤ n + 1; omega, h.hok.app (by omega), ?_⟩
      show (M.H.app _).rows.length ≤ M.H.hor + 16
      rcases chE_room hc with h1 | h1
      · rw [h1, app_nil]; exact h.gap
      · have h2 := (putR_len M.H.rows (rowOf M.H.rows (planL M.map q))).2
        have h3 : (M.H.app (planL M.map q)).rows.length ≤ M.H.rows.length + 1 := h2
        omega
    · rw [if_neg hc]
      exact ⟨by have := h.seq; show M.seq + 1 ≤ n + 1; omega, h.hok.mono (by omega), h.gap⟩
/-- what an answer's head tells -/
theorem next_later (M : MA) (q : Rq) : HLater M.H (M.next q).H := by
  rcases next_cases M q with ⟨_, _, he⟩ | ⟨_, _, _, he⟩ | ⟨_, _, _, he⟩ | ⟨hm, hk, _, he⟩
  · rw [he]; exact HLater.refl _
  · rw [he]; exact HLater.refl _
  · rw [he]; exact HLater.com _ _
  · rw [he]
    by_cases hc : M.chE q = 0
    · rw [if_pos hc]; exact HLater.app _ _
    · rw [if_neg hc]; exact HLater.refl _
theorem next_rows (M : MA) (q : Rq) : (M.next q).H.rows.length ≤ M.H.rows.length + 1 := by
  rcases next_cases M q with ⟨_, _, he⟩ | ⟨_, _, _, he⟩ | ⟨_, _, _, he⟩ | ⟨hm, hk, _, he⟩
  · rw [he]; omega
  · rw [he]; omega
  · rw [he]; show (M.H.com q.rev).rows.length ≤ _; rw [com_rows]; omega
  · rw [he]
    by_cases hc : M.chE q = 0
    · rw [if_pos hc]; exact (putR_len M.H.rows (rowOf M.H.rows (planL M.map q))).2
    · rw [if_neg hc]; show M.H.rows.length ≤ _; omega
theorem next_entry {M : MA} {q : Rq} (h : entryB q = true) : (M.next q).seq = M.seq + 1 := by
  unfold entryB at h
  simp at h
  rcases next_cases M q with ⟨h1, _, _⟩ | ⟨_, h1, _⟩ | ⟨_, _, _, he⟩ | ⟨_, _, _, he⟩
  · rw [h1] at h; cases h.1
  · exact absurd h1 h.2
  · rw [he]
  · rw [he]
theorem next_same {M : MA} {q : Rq} (h : entryB q = false) : M.next q = M := by
  unfold entryB at h
  rcases next_cases M q with ⟨_, _, he⟩ | ⟨_, _, _, he⟩ | ⟨h1, h2, _⟩ | ⟨h1, h2, _⟩
  · exact he
  · exact he
  · rw [h1, h2] at h; cases h
  · rw [h1, h2] at h; cases h
/-- what is refused, and what reads, leaves the map as it was -/
theorem next_refused {M : MA} {q : Rq} (h : M.err q ≠ 0 ∨ q.kind = 2) : (M.next q).H = M.H := by
  rcases next_cases M q with ⟨_, _, he⟩ | ⟨_, _, _, he⟩ | ⟨_, hk, hr, he⟩ | ⟨_, hk, hr, he⟩
  · rw [he]
  · rw [he]
  · rw [he]
    rcases h with h | h
    · rw [hr] at h
      show M.H.com q.rev = M.H
      unfold HA.com; rw [if_neg h]
    · rw [hk] at h; cases h
  · rw [he]
    rcases h with h | h
    · rw [hr] at h
      show (if M.chE q = 0 then _ else _) = _
      rw [if_neg h]
    · rw [hk] at h; cases h
theorem err_quiet {M : MA} {q : Rq} (h : M.err q ≠ 0) : M.ok q = false ∧ M.tell q = [] := by
  constructor
  · unfold MA.ok
    rw [decide_eq_false (fun hc => h hc.2.2)]; rfl
  · unfold MA.tell
    split
    · rename_i hc
      unfold MA.err at h
      rw [if_pos hc.1, if_pos hc.2] at h
      unfold HA.atL; rw [if_neg h]
    · rfl
/-- behind requests -/
def runM (M : MA) : List Rq → MA
  | [] => M
  | q :: r => runM (M.next q) r
theorem runM_snoc (M : MA) (l : List Rq) (q : Rq) : runM M (l ++ [q]) = (runM M l).next q := by
  induction l generalizing M with
  | nil => rfl
  | cons x r ih => exact ih (M.next x)
theorem runM_ok {M : MA} {n : Nat} (h : MOk M n) (l : List Rq) : MOk (runM M l) (n + l.length) := by
  induction l generalizing M n with
  | nil => exact h
  | cons x r ih =>
    have := ih (h.next x)
    rw [List.length_cons, show n + (r.length + 1) = n + 1 + r.length by omega]
    exact this
end Go.Proofs.YtmipllkgioakoaaGreat
namespace Go.Proofs.YtmipllkgioakoaaGreat
open Go.RowKit
set_option linter.unusedVariables false
set_option linter.unusedSimpArgs false

/-- a request, and where its slices lie -/
structure Rv where
  q : Rq
  c : Value
  t : Value
  e : Value
def Rv.cells (d : Rv) : List Value := [.int .i64 d.q.kind, .string d.q.f, .string d.q.t, .int .i64 d.q.rev, d.c, d.t, d.e]
theorem Rv.clen (d : Rv) : d.cells.length = 7 := rfl
def RvIn (w : World) (v : Value) (l : List Rv) : Prop := LIn Rv.cells 7 w v l ∧ ∀ d ∈ l, RqIn w d.q d.c d.t d.e
theorem RvIn.keep0 {w w' : World} {v : Value} {l : List Rv} (h : RvIn w v l) (hf : Fr [] w w') : RvIn w' v l := ⟨LIn.keep0 h.1 hf, fun d hd => (h.2 d hd).keep0 hf⟩
theorem RvIn.form {w : World} {v : Value} {l : List Rv} (h : RvIn w v l) : ∃ s c, v = .slice s l.length c ∧ l.length ≤ c ∧ c ≤ maxLen := LIn.form h.1
structure RvC (w : World) (g off : Nat) (x : Rv) : Prop where
  c0 : w.cell? ⟨g, off, none⟩ = some (.int .i64 x.q.kind)
  c1 : w.cell? ⟨g, off + 1, none⟩ = some (.string x.q.f)
  c2 : w.cell? ⟨g, off + 2, none⟩ = some (.string x.q.t)
  c3 : w.cell? ⟨g, off + 3, none⟩ = some (.int .i64 x.q.rev)
  c4 : w.cell? ⟨g, off + 4, none⟩ = some x.c
  c5 : w.cell? ⟨g, off + 5, none⟩ = some x.t
  c6 : w.cell? ⟨g, off + 6, none⟩ = some x.e
theorem RvC.keep {w w' : World} {g off : Nat} {x : Rv} {S : List Nat} (h : RvC w g off x) (hf : Fr S w w') (hg : g ∉ S) : RvC w' g off x :=
  ⟨hf.cell h.c0 hg, hf.cell h.c1 hg, hf.cell h.c2 hg, hf.cell h.c3 hg, hf.cell h.c4 hg, hf.cell h.c5 hg, hf.cell h.c6 hg⟩
theorem RvIn.here {w : World} {v : Value} {l : List Rv} (h : RvIn w v l) (hn : 0 < l.length) : ∃ g off c, v = .slice (some ⟨g, off, none⟩) l.length c ∧ g < w.heap.size ∧ l.length ≤ c ∧
    ∀ i x, l[i]? = some x → RvC w g (off + i * 7) x ∧ RqIn w x.q x.c x.t x.e := by
  obtain ⟨g, off, c, hv, h1, h2, h3⟩ := LIn.here h.1 hn
  refine ⟨g, off, c, hv, h1, h2, fun i x hx => ⟨?_, h.2 x (List.mem_of_getElem? hx)⟩⟩
  have q := h3 i x hx
  have e0 := q 0 (by decide)
  have e1 := q 1 (by decide)
  have e2 := q 2 (by decide)
  have e3 := q 3 (by decide)
  have e4 := q 4 (by decide)
  have e5 := q 5 (by decide)
  have e6 := q 6 (by decide)
  rw [← Nat.add_assoc] at e0 e1 e2 e3 e4 e5 e6
  exact ⟨e0, e1, e2, e3, e4, e5, e6⟩
/-- a request whose slices lie outside S -/
structure RqFar (S : List Nat) (w : World) (q : Rq) (cv tv ev : Value) : Prop where
  c : LFar S Cm.cells 4 w cv q.cmps
  t : LFar S Od.cells 3 w tv q.thn
  e : LFar S Od.cells 3 w ev q.els
  wf : q.f.size ≤ maxLen ∧ q.t.size ≤ maxLen
theorem RqFar.of_old {S : List Nat} {w w' : World} {q : Rq} {cv tv ev : Value} (h : RqIn w q cv tv ev) (hS : ∀ k ∈ S, w.heap.size ≤ k) (hf : Fr [] w w') : RqFar S w' q cv tv ev :=
  ⟨(LFar.of_old h.c hS).keep0 hf, (LFar.of_old h.t hS).keep0 hf, (LFar.of_old h.e hS).keep0 hf, h.wf⟩
theorem RqFar.nil (S : List Nat) (w : World) (k : Int) (f t : ByteArray) (r : Int) (wf : f.size ≤ maxLen ∧ t.size ≤ maxLen) : RqFar S w ⟨k, f, t, r, [], [], []⟩ (.slice none 0 0) (.slice none 0 0) (.slice none 0 0) := ⟨LFar.nil _ _, LFar.nil _ _, LFar.nil _ _, wf⟩
/-- a request that was told behind a structure's making -/
theorem RqFar.of_new {S : List Nat} {w w' : World} {q : Rq} {cv tv ev : Value} (h : RqIn w' q cv tv ev) (hc : ∀ v k, v = cv ∨ v = tv ∨ v = ev → v.ownBlock = some k → w.heap.size ≤ k) (hS : ∀ k ∈ S, k < w.heap.size) : RqFar S w' q cv tv ev :=
  ⟨LFar.of_new h.c (fun k hk => hc cv k (by simp) hk) hS, LFar.of_new h.t (fun k hk => hc tv k (by simp) hk) hS, LFar.of_new h.e (fun k hk => hc ev k (by simp) hk) hS, h.wf⟩
end Go.Proofs.YtmipllkgioakoaaGreat
