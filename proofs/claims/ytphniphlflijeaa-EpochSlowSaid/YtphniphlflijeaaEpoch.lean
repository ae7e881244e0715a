/- PACKAGE epoch: a pool as plain numbers, how it lies, contracts of has, Enter, Exit, Epoch -/
import Derived.Test.YtphniphlflijeaaMap
namespace Go.Proofs.Ytphniphlflijeaa
open Go.RowKit
set_option linter.unusedVariables false
set_option linter.unusedSimpArgs false

/-- a pool: the epoch; which threads are inside, of which epoch; what is retired, and when; how many were -/
structure PA where
  ep : Int
  th : List (Bool × Int)
  row : List (Int × Int)
  cnt : Nat
/-- what was retired at an epoch -/
def atE (row : List (Int × Int)) (e : Int) : List Int := (row.filter (fun x => decide (x.2 = e))).map (·.1)
def thCells : List (Bool × Int) → List Value
  | [] => []
  | x :: l => .bool x.1 :: .int .i64 x.2 :: thCells l
theorem thCells_len : ∀ l : List (Bool × Int), (thCells l).length = l.length * 2
  | [] => rfl
  | x :: l => by simp [thCells, thCells_len l]; omega
theorem thCells_at : ∀ (l : List (Bool × Int)) (j : Nat) (b : Bool) (e : Int), l[j]? = some (b, e) → (thCells l)[j * 2]? = some (.bool b) ∧ (thCells l)[j * 2 + 1]? = some (.int .i64 e)
  | [], _, _, _, h => by simp at h
  | x :: l, 0, b, e, h => by simp at h; subst h; simp [thCells]
  | x :: l, j + 1, b, e, h => by
    rw [show (j + 1) * 2 = j * 2 + 1 + 1 by omega]
    simp only [thCells, List.getElem?_cons_succ]
    exact thCells_at l j b e (by simpa using h)
theorem thCells_set : ∀ (l : List (Bool × Int)) (j : Nat) (b : Bool) (e : Int), j < l.length → thCells (l.set j (b, e)) = ((thCells l).set (j * 2) (.bool b)).set (j * 2 + 1) (.int .i64 e)
  | [], _, _, _, h => by simp at h
  | x :: l, 0, b, e, h => by simp [thCells]
  | x :: l, j + 1, b, e, h => by
    rw [show (j + 1) * 2 = j * 2 + 1 + 1 by omega]
    simp only [thCells, List.set_cons_succ]
    rw [thCells_set l j b e (by simpa using h)]
theorem thCells_out : ∀ (l : List (Bool × Int)) (j : Nat) (b c : Bool) (e : Int), l[j]? = some (c, e) → thCells (l.set j (b, e)) = (thCells l).set (j * 2) (.bool b)
  | [], _, _, _, _, h => by simp at h
  | x :: l, 0, b, c, e, h => by simp at h; subst h; simp [thCells]
  | x :: l, j + 1, b, c, e, h => by
    rw [show (j + 1) * 2 = j * 2 + 1 + 1 by omega]
    simp only [thCells, List.set_cons_succ]
    rw [thCells_out l j b c e (by simpa using h)]

/-- the rows of what was retired at each epoch -/
structure RowsAt (w : World) (S : List Nat) (at' : Int → List Int) (M : Int → Option Value) : Prop where
  no : ∀ e, M e = none → at' e = []
  yes : ∀ e v, M e = some v → at' e ≠ [] ∧ Lies w 33 1 v (at' e).length ((at' e).map (Value.int .u64))
  apart : ∀ e e' v v' k, M e = some v → M e' = some v' → v.ownBlock = some k → v'.ownBlock = some k → e = e'
  inS : ∀ e v k, M e = some v → v.ownBlock = some k → k ∈ S
/-- the kinds of blocks that a pool has -/
def poolObj : Obj → Prop
  | .cells _ t _ => t = 52 ∨ t = 62 ∨ t = 33
  | .map _ _ => True
  | _ => False
structure PoolAt (w : World) (p : Nat) (S : List Nat) (A : PA) (tb m : Nat) (M : Int → Option Value) : Prop where
  blk : w.heap[p]? = some (.cells #[.int .i64 A.ep, .slice (some ⟨tb, 0, none⟩) A.th.length A.th.length, .map (some m)] 52 (0, 0))
  thr : Lies w 62 2 (.slice (some ⟨tb, 0, none⟩) A.th.length A.th.length) A.th.length (thCells A.th)
  map : MapIs Try.prog 3 w m A.cnt M
  rows : RowsAt w S (atE A.row) M
  ps : p ∈ S
  ts : tb ∈ S
  ms : m ∈ S
  tag : ∀ k ∈ S, ∃ o, w.heap[k]? = some o ∧ poolObj o
/-- a pool that lies in the blocks S -/
def Pool (w : World) (p : Nat) (S : List Nat) (A : PA) : Prop := ∃ tb m M, PoolAt w p S A tb m M
/-- a pool in what a deed leaves -/
def PoolOut (w : World) (p : Nat) (S : List Nat) (A : PA) (w' : World) : Prop := ∃ S', Pool w' p S' A ∧ Fr S w w' ∧ ∀ k ∈ S', k ∈ S ∨ w.heap.size ≤ k

theorem lies_tag {w : World} {e : TypeId} {size n : Nat} {v : Value} {xs : List Value} {k : Nat} (h : Lies w e size v n xs) (hk : v.ownBlock = some k) : ∃ cur, w.heap[k]? = some (.cells cur e (0, 0)) := by
  rcases h.2 with ⟨rfl, _⟩ | ⟨g, off, cap, cur, rfl, hg, _⟩
  · cases hk
  · cases hk; exact ⟨_, hg⟩
theorem RowsAt.keep {w w' : World} {S S' : List Nat} {at' M} (h : RowsAt w S at' M) (hf : Fr S' w w') (hn : ∀ e v k, M e = some v → v.ownBlock = some k → k ∉ S') : RowsAt w' S at' M :=
  ⟨h.no, fun e v hm => ⟨(h.yes e v hm).1, (h.yes e v hm).2.keep hf (fun k hk => hn e v k hm hk)⟩, h.apart, h.inS⟩
section
variable {w w' : World} {p : Nat} {S : List Nat} {A : PA} {tb m : Nat} {M : Int → Option Value}
theorem PoolAt.tbp (h : PoolAt w p S A tb m M) : ¬ tb = p := by
  rintro rfl
  obtain ⟨cur, hc⟩ := lies_tag h.thr rfl
  rw [h.blk] at hc; simp at hc
theorem PoolAt.mp (h : PoolAt w p S A tb m M) : ¬ m = p := by
  rintro rfl
  obtain ⟨es, c, hc⟩ := h.map.isMap
  rw [h.blk] at hc; simp at hc
theorem PoolAt.mtb (h : PoolAt w p S A tb m M) : ¬ m = tb := by
  rintro rfl
  obtain ⟨es, c, hc⟩ := h.map.isMap
  obtain ⟨cur, hd⟩ := lies_tag h.thr rfl
  rw [hd] at hc; simp at hc
theorem PoolAt.far (h : PoolAt w p S A tb m M) : ∀ e v k, M e = some v → v.ownBlock = some k → k ≠ p ∧ k ≠ tb ∧ k ≠ m := by
  intro e v k hm hk
  obtain ⟨cur, hc⟩ := lies_tag (h.rows.yes e v hm).2 hk
  refine ⟨?_, ?_, ?_⟩
  · rintro rfl; rw [h.blk] at hc; simp at hc
  · rintro rfl; obtain ⟨cur, hd⟩ := lies_tag h.thr rfl; rw [hd] at hc; simp at hc
  · rintro rfl; obtain ⟨es, c, hd⟩ := h.map.isMap; rw [hd] at hc; simp at hc
/-- another block -/
theorem PoolAt.keep (h : PoolAt w p S A tb m M) {S' : List Nat} (hf : Fr S' w w') (hn : ∀ k ∈ S, k ∉ S') : PoolAt w' p S A tb m M :=
  ⟨hf.keep h.blk (hn _ h.ps), h.thr.keep hf (by intro k hk; cases hk; exact hn _ h.ts), h.map.keep hf (hn _ h.ms), h.rows.keep hf (fun e v k hm hk => hn _ (h.rows.inS e v k hm hk)), h.ps, h.ts, h.ms,
   fun k hk => by obtain ⟨o, h1, h2⟩ := h.tag k hk; exact ⟨o, hf.keep h1 (hn k hk), h2⟩⟩
theorem Pool.keep (h : Pool w p S A) {S' : List Nat} (hf : Fr S' w w') (hn : ∀ k ∈ S, k ∉ S') : Pool w' p S A := by
  obtain ⟨tb, m, M, h⟩ := h; exact ⟨tb, m, M, h.keep hf hn⟩
theorem Pool.lt (h : Pool w p S A) : ∀ k ∈ S, k < w.heap.size := by
  obtain ⟨tb, m, M, h⟩ := h
  intro k hk
  obtain ⟨o, h1, _⟩ := h.tag k hk
  exact lt_of_block h1
theorem Pool.mem (h : Pool w p S A) : p ∈ S := by obtain ⟨tb, m, M, h⟩ := h; exact h.ps
/-- a block of another kind is none of a pool's -/
theorem Pool.other (h : Pool w p S A) {k : Nat} {c : Array Value} {t : TypeId} {f : Nat × Nat} (hk : w.heap[k]? = some (.cells c t f)) (ht : ¬ (t = 52 ∨ t = 62 ∨ t = 33)) : k ∉ S := by
  intro hm
  obtain ⟨tb, m, M, h⟩ := h
  obtain ⟨o, h1, h2⟩ := h.tag k hm
  rw [hk] at h1
  cases h1
  exact ht h2
theorem Pool.out (h : Pool w p S A) : PoolOut w p S A w := ⟨S, h, Fr.refl _ _, fun k hk => Or.inl hk⟩
theorem PoolOut.outs {A' : PA} {w'' : World} (h : PoolOut w p S A w') : ∃ S', Pool w' p S' A ∧ ∀ {w''}, PoolOut w' p S' A' w'' → PoolOut w p S A' w'' := by
  obtain ⟨S', h1, h2, h3⟩ := h
  refine ⟨S', h1, fun ⟨S'', k1, k2, k3⟩ => ⟨S'', k1, h2.trans k2 h3, fun k hk => ?_⟩⟩
  rcases k3 k hk with h | h
  · exact h3 k h
  · right; have := h2.size; omega
theorem tag_frame (ht : ∀ k ∈ S, ∃ o, w.heap[k]? = some o ∧ poolObj o) {b : Nat} (hf : Fr [b] w w') (hb : ∃ o, w'.heap[b]? = some o ∧ poolObj o) : ∀ k ∈ S, ∃ o, w'.heap[k]? = some o ∧ poolObj o := by
  intro k hk
  by_cases hkb : k = b
  · subst hkb; exact hb
  · obtain ⟨o, h1, h2⟩ := ht k hk
    exact ⟨o, hf.keep h1 (by simpa using hkb), h2⟩
end

/-! has -/
def PA.has (A : PA) (t : Int) : Bool := decide (0 ≤ t ∧ t < A.th.length)
theorem epoch_has (w : World) (p : Nat) (t : Int) {S A tb m M} (h : PoolAt w p S A tb m M) (hl : A.th.length ≤ 8) :
    Calls Try.prog 28 #[.pointer (some ⟨p, 0, none⟩), .int .i64 t] w fun e w' => e = .returned (.bool (A.has t)) ∧ w = w' := by
  obtain ⟨c0, c1, c2, _⟩ := cells3 h.blk
  have HV : Hid (∀ b, decide (0 ≤ t ∧ t < A.th.length) = b → A.has t = b) := Lib.hid (fun b h => h)
  clear h
  by_cases h0 : 0 ≤ t
  · have t1 : decide (0 ≤ t) = true := by simpa using h0
    by_cases h1 : t < A.th.length
    · have t2 : decide (t < (A.th.length : Int)) = true := by simpa using h1
      go_enter Try.func28, Try.ntmps28
      go_wp2
      go_ret
      exact ⟨by rw [HV.out true (by simp; omega)]; rfl, rfl⟩
    · have t2 : decide (t < (A.th.length : Int)) = false := by simpa using h1
      go_enter Try.func28, Try.ntmps28
      go_wp2
      go_ret
      exact ⟨by rw [HV.out false (by simp; omega)]; rfl, rfl⟩
  · have t1 : decide (0 ≤ t) = false := by simpa using h0
    go_enter Try.func28, Try.ntmps28
    go_wp2
    go_ret
    exact ⟨by rw [HV.out false (by simp; omega)]; rfl, rfl⟩
theorem epoch_has_nil (w : World) (t : Int) : Calls Try.prog 28 #[.pointer none, .int .i64 t] w fun e w' => e = .returned (.bool false) ∧ w = w' := by
  go_enter Try.func28, Try.ntmps28
  go_wp2
  go_ret
  exact ⟨rfl, rfl⟩

/-! Epoch -/
theorem epoch_epoch (w : World) (p : Nat) {S A} (h : Pool w p S A) :
    Calls Try.prog 13 #[.pointer (some ⟨p, 0, none⟩)] w fun e w' => e = .returned (.int .i64 A.ep) ∧ w = w' := by
  obtain ⟨tb, m, M, h⟩ := h
  obtain ⟨c0, c1, c2, _⟩ := cells3 h.blk
  clear h
  go_enter Try.func13, Try.ntmps13
  go_wp2
  go_ret
  exact ⟨rfl, rfl⟩
theorem epoch_epoch_nil (w : World) : Calls Try.prog 13 #[.pointer none] w fun e w' => e = .returned (.int .i64 0) ∧ w = w' := by
  go_enter Try.func13, Try.ntmps13
  go_wp2
  go_ret
  exact ⟨rfl, rfl⟩

/-! Enter, Exit -/
def PA.inside (A : PA) (t : Int) : Bool := (A.th.getD t.toNat (false, 0)).1
def PA.since (A : PA) (t : Int) : Int := (A.th.getD t.toNat (false, 0)).2
def PA.enter (A : PA) (t : Int) : PA := if A.has t then (if A.inside t then A else { A with th := A.th.set t.toNat (true, A.ep) }) else A
def PA.enterE (A : PA) (t : Int) : Int := if A.has t then (if A.inside t then 8 else 0) else 1
def PA.exit (A : PA) (t : Int) : PA := if A.has t then (if A.inside t then { A with th := A.th.set t.toNat (false, A.since t) } else A) else A
def PA.exitE (A : PA) (t : Int) : Int := if A.has t then (if A.inside t then 0 else 4) else 1

theorem PoolAt.threads {w w' : World} {p : Nat} {S : List Nat} {A : PA} {tb m : Nat} {M} (h : PoolAt w p S A tb m M) {th : List (Bool × Int)} (hl : th.length = A.th.length) (hf : Fr [tb] w w')
    (ht : Lies w' 62 2 (.slice (some ⟨tb, 0, none⟩) A.th.length A.th.length) A.th.length (thCells th)) : PoolAt w' p S { A with th := th } tb m M := by
  refine ⟨?_, ?_, h.map.keep hf (by simpa using h.mtb), h.rows.keep hf ?_, h.ps, h.ts, h.ms, tag_frame h.tag hf ?_⟩
  · simp only [hl]; exact hf.keep h.blk (by simpa using fun e => h.tbp e.symm)
  · simpa only [hl] using ht
  · intro e v k hm hk; simpa using (h.far e v k hm hk).2.1
  · obtain ⟨cur, hc⟩ := lies_tag ht rfl; exact ⟨_, hc, Or.inr (Or.inl rfl)⟩

theorem epoch_enter (w : World) (p : Nat) (t : Int) {S A} (hp : Pool w p S A) (hl : A.th.length ≤ 8) :
    Calls Try.prog 17 #[.pointer (some ⟨p, 0, none⟩), .int .i64 t] w fun e w' => e = .returned (.int .i64 (A.enterE t)) ∧ PoolOut w p S (A.enter t) w' := by
  have HP := Lib.hid hp
  obtain ⟨tb, m, M, h⟩ := hp
  obtain ⟨c0, c1, c2, _⟩ := cells3 h.blk
  have HH := Lib.hid (epoch_has w p t h hl)
  have H := Lib.hid h
  by_cases hh : A.has t = true
  · have hb := of_decide_eq_true hh
    obtain ⟨q, rfl⟩ := Int.eq_ofNat_of_zero_le hb.1
    obtain ⟨hb0, hb1⟩ := hb
    have hq : q < A.th.length := by omega
    obtain ⟨⟨b, s⟩, hat⟩ : ∃ x, A.th[q]? = some x := ⟨_, List.getElem?_eq_getElem hq⟩
    obtain ⟨r0, r1⟩ := thCells_at _ _ _ _ hat
    obtain ⟨g, off, c, hv, hg, hc, hcells⟩ := h.thr.here (by omega)
    cases hv
    obtain ⟨d0, f0⟩ := hcells (q * 2) (by omega)
    obtain ⟨d1, f1⟩ := hcells (q * 2 + 1) (by omega)
    rw [r0] at d0
    rw [r1] at d1
    simp only [Nat.zero_add] at d0 d1 f0 f1
    have hin : A.inside q = b ∧ A.since q = s := by simp [PA.inside, PA.since, hat, List.getD_eq_getElem?_getD]
    have HI := Lib.hid hin
    have HS := Lib.hid hh
    have HQ := Lib.hid hq
    have htbp := h.tbp
    have hptb : ¬ p = tb := fun e => htbp e.symm
    clear h hh hat r0 r1 hcells hin
    cases b
    · go_enter Try.func17, Try.ntmps17
      go_wp2_with (go_at_call 28; refine HH.out.mono ?_; rintro e w1 ⟨rfl, rfl⟩; rw [HS.out])
      go_region_held3 (fun w' => w'.cell? ⟨p, 0, none⟩ = some (.int .i64 A.ep) ∧ w'.cell? ⟨p, 1, none⟩ = some (.slice (some ⟨tb, 0, none⟩) A.th.length A.th.length)) (go_keep) (fail)
      go_wp2
      go_ret
      refine ⟨by rw [PA.enterE, HS.out, HI.out.1]; rfl, ?_⟩
      rw [PA.enter, HS.out, HI.out.1, if_pos rfl, if_neg (by simp)]
      refine ⟨S, ⟨tb, m, M, (H.out.threads (by simp) (((Fr.refl _ w).setCell (Or.inl (by simp)) _).setCell (Or.inl (by simp)) _).drew ?_)⟩, (((Fr.refl _ w).setCell (Or.inl H.out.ts) _).setCell (Or.inl H.out.ts) _).drew, fun k hk => Or.inl hk⟩
      have k1 := (H.out.thr.set (q * 2) (.bool true)).set (q * 2 + 1) (.int .i64 A.ep)
      rw [← thCells_set _ _ _ _ HQ.out] at k1
      exact Lies.drew (by simpa using k1)
    · go_enter Try.func17, Try.ntmps17
      go_wp2_with (go_at_call 28; refine HH.out.mono ?_; rintro e w1 ⟨rfl, rfl⟩; rw [HS.out])
      go_ret
      refine ⟨by rw [PA.enterE, HS.out, HI.out.1]; rfl, ?_⟩
      rw [PA.enter, HS.out, HI.out.1, if_pos rfl, if_pos rfl]
      exact HP.out.out
  · have hh : A.has t = false := by simpa using hh
    have HS := Lib.hid hh
    clear h hh
    go_enter Try.func17, Try.ntmps17
    go_wp2_with (go_at_call 28; refine HH.out.mono ?_; rintro e w1 ⟨rfl, rfl⟩; rw [HS.out])
    go_ret
    refine ⟨by rw [PA.enterE, HS.out]; rfl, ?_⟩
    rw [PA.enter, HS.out]
    exact HP.out.out
theorem epoch_enter_nil (w : World) (t : Int) : Calls Try.prog 17 #[.pointer none, .int .i64 t] w fun e w' => e = .returned (.int .i64 1) ∧ w = w' := by
  go_enter Try.func17, Try.ntmps17
  go_wp2_with (go_at_call 28; refine (epoch_has_nil _ _).mono ?_; rintro e w1 ⟨rfl, rfl⟩)
  go_ret
  exact ⟨rfl, rfl⟩

theorem epoch_exit (w : World) (p : Nat) (t : Int) {S A} (hp : Pool w p S A) (hl : A.th.length ≤ 8) :
    Calls Try.prog 19 #[.pointer (some ⟨p, 0, none⟩), .int .i64 t] w fun e w' => e = .returned (.int .i64 (A.exitE t)) ∧ PoolOut w p S (A.exit t) w' := by
  have HP := Lib.hid hp
  obtain ⟨tb, m, M, h⟩ := hp
  obtain ⟨c0, c1, c2, _⟩ := cells3 h.blk
  have HH := Lib.hid (epoch_has w p t h hl)
  have H := Lib.hid h
  by_cases hh : A.has t = true
  · have hb := of_decide_eq_true hh
    obtain ⟨q, rfl⟩ := Int.eq_ofNat_of_zero_le hb.1
    obtain ⟨hb0, hb1⟩ := hb
    have hq : q < A.th.length := by omega
    obtain ⟨⟨b, s⟩, hat⟩ : ∃ x, A.th[q]? = some x := ⟨_, List.getElem?_eq_getElem hq⟩
    have HAT := Lib.hid hat
    obtain ⟨r0, r1⟩ := thCells_at _ _ _ _ hat
    obtain ⟨g, off, c, hv, hg, hc, hcells⟩ := h.thr.here (by omega)
    cases hv
    obtain ⟨d0, f0⟩ := hcells (q * 2) (by omega)
    rw [r0] at d0
    simp only [Nat.zero_add] at d0 f0
    have hin : A.inside q = b ∧ A.since q = s := by simp [PA.inside, PA.since, hat, List.getD_eq_getElem?_getD]
    have HI := Lib.hid hin
    have HS := Lib.hid hh
    have htbp := h.tbp
    have hptb : ¬ p = tb := fun e => htbp e.symm
    clear h hh hat r0 r1 hcells hin hq
    cases b
    · go_enter Try.func19, Try.ntmps19
      go_wp2_with (go_at_call 28; refine HH.out.mono ?_; rintro e w1 ⟨rfl, rfl⟩; rw [HS.out])
      go_ret
      refine ⟨by rw [PA.exitE, HS.out, HI.out.1]; rfl, ?_⟩
      rw [PA.exit, HS.out, HI.out.1, if_pos rfl, if_neg (by simp)]
      exact HP.out.out
    · go_enter Try.func19, Try.ntmps19
      go_wp2_with (go_at_call 28; refine HH.out.mono ?_; rintro e w1 ⟨rfl, rfl⟩; rw [HS.out])
      go_ret
      refine ⟨by rw [PA.exitE, HS.out, HI.out.1]; rfl, ?_⟩
      rw [PA.exit, HS.out, HI.out.1, HI.out.2, if_pos rfl, if_pos rfl]
      refine ⟨S, ⟨tb, m, M, (H.out.threads (by simp) ((Fr.refl _ w).setCell (Or.inl (by simp)) _) ?_)⟩, (Fr.refl _ w).setCell (Or.inl H.out.ts) _, fun k hk => Or.inl hk⟩
      have k1 := H.out.thr.set (q * 2) (.bool false)
      rw [← thCells_out _ _ _ _ _ HAT.out] at k1
      simpa using k1
  · have hh : A.has t = false := by simpa using hh
    have HS := Lib.hid hh
    clear h hh
    go_enter Try.func19, Try.ntmps19
    go_wp2_with (go_at_call 28; refine HH.out.mono ?_; rintro e w1 ⟨rfl, rfl⟩; rw [HS.out])
    go_ret
    refine ⟨by rw [PA.exitE, HS.out]; rfl, ?_⟩
    rw [PA.exit, HS.out]
    exact HP.out.out
theorem epoch_exit_nil (w : World) (t : Int) : Calls Try.prog 19 #[.pointer none, .int .i64 t] w fun e w' => e = .returned (.int .i64 1) ∧ w = w' := by
  go_enter Try.func19, Try.ntmps19
  go_wp2_with (go_at_call 28; refine (epoch_has_nil _ _).mono ?_; rintro e w1 ⟨rfl, rfl⟩)
  go_ret
  exact ⟨rfl, rfl⟩
end Go.Proofs.Ytphniphlflijeaa
