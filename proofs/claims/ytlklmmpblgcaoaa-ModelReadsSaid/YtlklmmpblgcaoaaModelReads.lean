/- A read at a revision is answered alike, again and again, whatever is put: for every two lists of requests and every revision. No condition. -/
import Derived.Test.YtlklmmpblgcaoaaMdAwake
import Derived.Test.YtlklmmpblgcaoaaMdLaw
namespace Go.Proofs.Ytlklmmpblgcaoaa.lawModelReads
open Go.ChangeShapes Go.WideShapes Go.ChangeAt Go.RowKit Go.Deep Go.ChangeMaps
set_option linter.unusedVariables false
set_option linter.unusedSimpArgs false

theorem runM_later (M : MA) (l : List Rq) : HLater M.H (runM M l).H := by
  induction l generalizing M with
  | nil => exact HLater.refl _
  | cons x r ih => exact (next_later M x).trans (ih (M.next x))
theorem atE_val (H : HA) (n : Nat) (hh : H.hor ≤ H.rows.length) : (n < H.hor ∧ ¬ H.rows.length < n ∧ H.atE n = 5) ∨ (¬ n < H.hor ∧ H.rows.length < n ∧ H.atE n = 6) ∨ (¬ n < H.hor ∧ ¬ H.rows.length < n ∧ H.atE n = 0) := by
  unfold HA.atE
  by_cases h1 : n < H.hor
  · exact Or.inl ⟨h1, by omega, by rw [if_pos (by omega)]⟩
  · by_cases h2 : H.rows.length < n
    · exact Or.inr (Or.inl ⟨h1, h2, by rw [if_neg (by omega), if_pos (by omega)]⟩)
    · exact Or.inr (Or.inr ⟨h1, h2, by rw [if_neg (by omega), if_neg (by omega)]⟩)
/-- the request that reads -/
def rq (n : Nat) : Rq := ⟨2, ⟨#[]⟩, ⟨#[]⟩, n, [], [], []⟩
theorem rq_may (n : Nat) : mayQ (rq n) = true := by
  have h : mayRangeB (⟨#[]⟩ : ByteArray).toList (⟨#[]⟩ : ByteArray).toList = true := by simp [mayRangeB, emptyB, ByteArray.toList_eq]
  unfold mayQ
  rw [if_neg (show ¬ (rq n).kind = 1 by show ¬ ((2 : Int) = 1); decide), if_pos (show (rq n).kind = 2 from rfl)]
  show (mayRangeB (⟨#[]⟩ : ByteArray).toList (⟨#[]⟩ : ByteArray).toList && decide (0 ≤ (n : Int))) = true
  rw [h]; simp
theorem rq_next (M : MA) (n : Nat) : M.next (rq n) = M := next_same (by unfold entryB rq; simp)
theorem rq_err (M : MA) (n : Nat) : M.err (rq n) = M.H.atE (M.at_ (rq n)) := by
  unfold MA.err; rw [if_pos (rq_may n), if_pos (show (rq n).kind = 2 from rfl)]
theorem rq_tell (M : MA) (n : Nat) : M.tell (rq n) = M.H.atL (M.at_ (rq n)) ⟨#[]⟩ ⟨#[]⟩ := by
  unfold MA.tell; rw [if_pos ⟨rq_may n, rfl⟩]; rfl
theorem rq_at0 (M : MA) : M.at_ (rq 0) = M.H.rows.length := by unfold MA.at_ rq; simp
theorem rq_at (M : MA) (n : Nat) (h : 0 < n) : M.at_ (rq n) = n := by unfold MA.at_ rq; rw [if_neg (by simp; omega)]
/-- what is read at n first, and later -/
theorem reads_cases {A B : MA} (h : HLater A.H B.H) (hh : B.H.hor ≤ B.H.rows.length) (ha : A.H.hor ≤ A.H.rows.length) (n : Nat) :
    (n = 0 ∧ B.err (rq n) = 0) ∨ (0 < n ∧ n < B.H.hor ∧ ¬ B.H.rows.length < n ∧ B.err (rq n) = 5 ∧ A.err (rq n) = 0) ∨ (0 < n ∧ n < B.H.hor ∧ ¬ B.H.rows.length < n ∧ B.err (rq n) = 5 ∧ A.err (rq n) ≠ 0) ∨
    (0 < n ∧ ¬ n < B.H.hor ∧ B.H.rows.length < n ∧ B.err (rq n) = 6 ∧ A.err (rq n) ≠ 0) ∨
    (0 < n ∧ ¬ n < B.H.hor ∧ ¬ B.H.rows.length < n ∧ B.err (rq n) = 0 ∧ A.err (rq n) ≠ 0) ∨
    (0 < n ∧ ¬ n < B.H.hor ∧ ¬ B.H.rows.length < n ∧ B.err (rq n) = 0 ∧ A.err (rq n) = 0 ∧ B.tell (rq n) = A.tell (rq n)) := by
  rcases Nat.eq_zero_or_pos n with rfl | hn
  · refine Or.inl ⟨rfl, ?_⟩
    rw [rq_err, rq_at0]
    exact (at_ok hh (Nat.le_refl _)).1
  · rw [rq_err, rq_err, rq_tell, rq_tell, rq_at _ _ hn, rq_at _ _ hn]
    have hl := h.len
    have hr := h.hor
    rcases atE_val B.H n hh with ⟨h1, h2, h3⟩ | ⟨h1, h2, h3⟩ | ⟨h1, h2, h3⟩
    · by_cases ha0 : A.H.atE n = 0
      · exact Or.inr (Or.inl ⟨hn, h1, h2, h3, ha0⟩)
      · exact Or.inr (Or.inr (Or.inl ⟨hn, h1, h2, h3, ha0⟩))
    · refine Or.inr (Or.inr (Or.inr (Or.inl ⟨hn, h1, h2, h3, fun hc => ?_⟩)))
      have := (atE_zero.1 hc).2; omega
    · by_cases ha0 : A.H.atE n = 0
      · refine Or.inr (Or.inr (Or.inr (Or.inr (Or.inr ⟨hn, h1, h2, h3, ha0, ?_⟩))))
        have h4 := atE_zero.1 ha0
        rw [(at_ok (by omega) (by omega)).2, (at_ok (by omega) (by omega)).2]
        exact h.map n (by omega)
      · exact Or.inr (Or.inr (Or.inr (Or.inr (Or.inl ⟨hn, h1, h2, h3, ha0⟩))))
/-- the loop: the model, the request, and what was told first -/
structure RdI (w : World) (A : MA) (n b0 b1 : Nat) (a0 a1 a2 e0 : Int) (k0 : Bool) (v0 : Value) (L0 : List Kv) (wr : World) (p : Nat) (S : List Nat) (B : MA) (k : Nat) : Prop where
  md : Md wr p S B
  ok : MOk B k
  later : HLater A.H B.H
  ge : ∀ k ∈ S, w.heap.size ≤ k
  n0 : b0 ∉ S
  n1 : b1 ∉ S
  q0 : wr.heap[b0]? = some (.cells #[.int .i64 2, .string ⟨#[]⟩, .string ⟨#[]⟩, .int .i64 n, .slice none 0 0, .slice none 0 0, .slice none 0 0] 39 (0, 0))
  q1 : wr.heap[b1]? = some (.cells #[.int .i64 a0, .int .i64 a1, .int .i64 a2, .int .i64 e0, .bool k0, v0] 32 (0, 0))
  l0 : LFar S Kv.cells 3 wr v0 L0
  fr : Fr [] w wr
section
variable {w : World} {A : MA} {n b0 b1 : Nat} {a0 a1 a2 e0 : Int} {k0 : Bool} {v0 : Value} {L0 : List Kv} {wr w' : World} {p : Nat} {S S' : List Nat} {B B' : MA} {k k' : Nat}
theorem RdI.keep (h : RdI w A n b0 b1 a0 a1 a2 e0 k0 v0 L0 wr p S B k) (hf : Fr [] wr w') : RdI w A n b0 b1 a0 a1 a2 e0 k0 v0 L0 w' p S B k :=
  ⟨h.md.keep hf (by simp), h.ok, h.later, h.ge, h.n0, h.n1, hf.keep h.q0 (by simp), hf.keep h.q1 (by simp), h.l0.keep0 hf, h.fr.trans hf (by simp)⟩
theorem RdI.step (h : RdI w A n b0 b1 a0 a1 a2 e0 k0 v0 L0 wr p S B k) (h1 : Md w' p S' B') (hk : MOk B' k') (hl : HLater B.H B'.H) (h4 : Fr S wr w') (h5 : Grow S S' wr) : RdI w A n b0 b1 a0 a1 a2 e0 k0 v0 L0 w' p S' B' k' :=
  ⟨h1, hk, h.later.trans hl, h5.ge h.fr.size h.ge, not_grow h5 h.n0 (lt_of_block h.q0), not_grow h5 h.n1 (lt_of_block h.q1), h4.keep h.q0 h.n0, h4.keep h.q1 h.n1, h.l0.step h4 h5, h.fr.trans h4 (fun k hk => Or.inr (h.ge k hk))⟩
end
set_option maxRecDepth 100000 in
set_option maxHeartbeats 8000000 in
theorem walk (lv mv : Value) (l m : List Rv) (rev : Int) (w : World) (hl : RvIn w lv l) (hm : RvIn w mv m) (hrev : (Lit.int .u8 rev).wf = true) : Calls Try.prog 5 #[lv, mv, .int .u8 rev] w fun e w' => e = .returned (.bool true) ∧ Below w.heap.size w w' := by
  obtain ⟨s1, c1, rfl, la, ma⟩ := hl.form
  obtain ⟨s2, c2, rfl, lb, mb⟩ := hm.form
  unfold maxLen at ma mb
  have hr8 : 0 ≤ rev ∧ rev < 256 := by simp [Lit.wf, IntKind.has, IntKind.min, IntKind.max, IntKind.signed, IntKind.bits] at hrev; omega
  have HL := Lib.hid hl
  have HM := Lib.hid hm
  clear hl hm hrev
  have HFEW : Hid (∀ X, Fr [] w X → Calls Try.prog 10 #[.slice s1 l.length c1] X fun e w' => e = .returned (.bool (fewB l)) ∧ Fr [] X w') := Lib.hid (fun X hX => mfew_any _ l X (HL.out.keep0 hX))
  have HFEW2 : Hid (∀ X, Fr [] w X → Calls Try.prog 10 #[.slice s2 m.length c2] X fun e w' => e = .returned (.bool (fewB m)) ∧ Fr [] X w') := Lib.hid (fun X hX => mfew_any _ m X (HM.out.keep0 hX))
  go_enter Try.func5, Try.ntmps5
  go_wp2_with (first
    | (go_at_call 8; refine (mdl_awake _).mono ?_; rintro e w1 ⟨rfl, h1⟩; have HF := Lib.hid h1; clear h1)
    | (go_at_call 10; refine (HFEW.out _ HF.out).mono ?_; rintro e w3 ⟨rfl, h1⟩; replace HF := Lib.hid (HF.out.trans h1 (by simp)); clear h1; refine go_stop ?_))
  unfold Stop
  cases hb : fewB l
  · clear hb
    go_wp2_with fail
    go_ret
    exact ⟨rfl, HF.out.below (Nat.le_refl _) (by simp)⟩
  have HFB := Lib.hid hb
  clear hb
  go_wp2_with (go_at_call 10; refine (HFEW2.out _ HF.out).mono ?_; rintro e w3 ⟨rfl, h1⟩; replace HF := Lib.hid (HF.out.trans h1 (by simp)); clear h1; refine go_stop ?_)
  unfold Stop
  cases hb : fewB m
  · clear hb
    go_wp2_with fail
    go_ret
    exact ⟨rfl, HF.out.below (Nat.le_refl _) (by simp)⟩
  have HFB2 := Lib.hid hb
  clear hb
  go_wp2_with (go_at_call 14; refine (mran_any _ l _ _ HL.out HF.out HFB.out).mono ?_; rintro e w4 ⟨p, S, rfl, h1, h2, h3⟩; refine go_stop ?_)
  unfold Stop
  have HS := Lib.hid h1
  have HG : Hid (∀ k ∈ S, w.heap.size ≤ k) := Lib.hid (fun k hk => Nat.le_trans HF.out.size (h3 k hk))
  replace HF := Lib.hid (HF.out.trans h2 (by simp))
  have HOK := Lib.hid (runV_ok l l.length)
  obtain ⟨M, hM⟩ : ∃ M, M = runV l := ⟨_, rfl⟩
  rw [← hM] at HS
  rw [List.take_length, ← hM] at HOK
  have hn60 := (few_small HFB.out).1
  have hm60 := (few_small HFB2.out).1
  have H8 := Lib.hid (few_small HFB2.out).2
  clear h1 h2 h3 hM
  go_wp2_with (go_at_call 11; refine go_stop ?_)
  unfold Stop
  obtain ⟨n, hn⟩ : ∃ n : Nat, rev % 20 = n := ⟨(rev % 20).toNat, by omega⟩
  rw [hn]
  have hal0 : Fr [] w4 (w4.alloc (.cells #[.int .i64 2, .string ⟨#[]⟩, .string ⟨#[]⟩, .int .i64 n, .slice none 0 0, .slice none 0 0, .slice none 0 0] 39)) := (Fr.refl [] w4).alloc _
  have hq0 := new_block w4 (.cells #[.int .i64 2, .string ⟨#[]⟩, .string ⟨#[]⟩, .int .i64 n, .slice none 0 0, .slice none 0 0, .slice none 0 0] 39)
  have hq0n : w4.heap.size ∉ S := fun hm => by have := HS.out.lt _ hm; omega
  refine (mdl_serve (n := l.length) (rq n) (.slice none 0 0) (.slice none 0 0) (.slice none 0 0) (HS.out.keep hal0 (by simp)) HOK.out (by omega) (RqFar.nil _ _ _ _ _ _ ⟨nil_wf, nil_wf⟩) (Nat.zero_le _) (Nat.zero_le _) (Nat.zero_le _)).mono ?_
  rintro e w5 ⟨v5, S5, rfl, h1, h2, h3, h4, h5⟩
  rw [rq_next] at h1 ⊢
  obtain ⟨e0, he0⟩ : ∃ e0, e0 = M.err (rq n) := ⟨_, rfl⟩
  obtain ⟨L0, hL0⟩ : ∃ L0, L0 = M.tell (rq n) := ⟨_, rfl⟩
  rw [← he0]
  rw [← hL0] at h2
  generalize M.ok (rq n) = k0
  obtain ⟨s5, c5, rfl, l5, m5⟩ := h2.form
  have hal1 : Fr [] w5 (w5.alloc (.cells #[.int .i64 M.seq, .int .i64 M.H.rows.length, .int .i64 M.H.hor, .int .i64 e0, .bool k0, .slice s5 L0.length c5] 32)) := (Fr.refl [] w5).alloc _
  have hi : RdI w M n w4.heap.size w5.heap.size M.seq M.H.rows.length M.H.hor e0 k0 (.slice s5 L0.length c5) L0 (w5.alloc (.cells #[.int .i64 M.seq, .int .i64 M.H.rows.length, .int .i64 M.H.hor, .int .i64 e0, .bool k0, .slice s5 L0.length c5] 32)) p S5 M l.length :=
    ⟨h1.keep hal1 (by simp), HOK.out, HLater.refl _, h5.ge (Nat.le_trans HF.out.size hal0.size) HG.out, not_grow h5 hq0n (lt_of_block hq0), fun hm => by have := h1.lt _ hm; omega, hal1.keep (h4.keep hq0 hq0n) (by simp), new_block w5 _, h2.keep0 hal1, ((HF.out.trans hal0 (by simp)).trans h4 (fun k hk => Or.inr (HG.out k hk))).trans hal1 (by simp)⟩
  have HI := Lib.hid hi
  have HE0 := Lib.hid he0
  have HL0 := Lib.hid hL0
  have hAH := HOK.out.hok.hor
  clear hi he0 hL0 h1 h2 h3 h4 h5 hal0 hal1 hq0 hq0n HS HG HF hr8 hn HFEW HFEW2
  generalize w4.heap.size = b0 at *
  go_wp2_with fail
  generalize hb1 : w5.heap.size = b1 at *
  generalize w5.alloc (.cells #[.int .i64 M.seq, .int .i64 M.H.rows.length, .int .i64 M.H.hor, .int .i64 e0, .bool k0, .slice s5 L0.length c5] 32) = w6 at *
  clear hb1
  go_loopw [12] (fun i wr => ∃ (j : Nat) (Sx : List Nat) (B : MA), i = .int .i64 j ∧ j ≤ m.length ∧ Hid (RdI w M n b0 b1 M.seq M.H.rows.length M.H.hor e0 k0 (.slice s5 L0.length c5) L0 wr p Sx B (l.length + j))) (fun i _ => m.length - (intOf i).toNat)
  case atStart => exact ⟨0, S5, M, rfl, Nat.zero_le _, HI⟩
  case round =>
    clear HI
    obtain ⟨j, Sx, B, rfl, hj, HI⟩ := hrel
    by_cases h : j < m.length
    · have t1 : decide ((j : Int) < (m.length : Int)) = true := by simp; omega
      obtain ⟨d, hd⟩ : ∃ d, m[j]? = some d := ⟨_, List.getElem?_eq_getElem h⟩
      obtain ⟨g, off, d1, e1, hg, _, k1⟩ := RvIn.here HM.out (by omega)
      cases e1
      obtain ⟨hc, hq⟩ := k1 j d hd
      obtain ⟨p0, p1, p2, p3, p4, p5, p6⟩ := hc.keep HI.out.fr (by simp)
      have HQ := Lib.hid (RqFar.of_old hq HI.out.ge HI.out.fr)
      have H8d := Lib.hid (H8.out d (List.mem_of_getElem? hd))
      clear hd k1 hc hq
      go_wp2_with (go_at_call 11; refine (mdl_serve (n := l.length + j) d.q d.c d.t d.e HI.out.md HI.out.ok (by omega) HQ.out H8d.out.1 H8d.out.2.1 H8d.out.2.2).mono ?_; rintro e w7 ⟨v7, S7, rfl, h1, h2, h3, h4, h5⟩; refine go_stop ?_)
      unfold Stop
      have hi := HI.out.step h1 (HI.out.ok.next d.q) (next_later B d.q) h4 h5
      have hwl := HI.out.fr.size
      clear h1 h2 h3 h4 h5 HI HQ H8d p0 p1 p2 p3 p4 p5 p6
      obtain ⟨B1, hB1⟩ : ∃ B1, B1 = B.next d.q := ⟨_, rfl⟩
      rw [← hB1] at hi ⊢
      clear hB1
      have HI := Lib.hid hi
      obtain ⟨z0, z1, z2, z3, z4, z5, z6, _⟩ := cells7 hi.q0
      clear hi
      go_wp2_with (go_at_call 11; refine (mdl_serve (n := l.length + j + 1) (rq n) (.slice none 0 0) (.slice none 0 0) (.slice none 0 0) HI.out.md HI.out.ok (by omega) (RqFar.nil _ _ _ _ _ _ ⟨nil_wf, nil_wf⟩) (Nat.zero_le _) (Nat.zero_le _) (Nat.zero_le _)).mono ?_; rintro e w8 ⟨v8, S8, rfl, h1, h2, h3, h4, h5⟩; refine go_stop ?_)
      unfold Stop
      rw [rq_next] at h1 ⊢
      obtain ⟨e1, he1⟩ : ∃ e1, e1 = B1.err (rq n) := ⟨_, rfl⟩
      obtain ⟨L1, hL1⟩ : ∃ L1, L1 = B1.tell (rq n) := ⟨_, rfl⟩
      rw [← he1]
      rw [← hL1] at h2
      generalize B1.ok (rq n) = k1
      have HE1 := Lib.hid he1
      have HL1 := Lib.hid hL1
      clear he1 hL1
      obtain ⟨s8, c8, rfl, l8, m8⟩ := h2.form
      have hal : Fr [] w8 (w8.alloc (.cells #[.int .i64 B1.seq, .int .i64 B1.H.rows.length, .int .i64 B1.H.hor, .int .i64 e1, .bool k1, .slice s8 L1.length c8] 32)) := (Fr.refl [] w8).alloc _
      have hi := (HI.out.step h1 HI.out.ok (HLater.refl _) h4 h5).keep hal
      have HR := Lib.hid (new_block w8 (.cells #[.int .i64 B1.seq, .int .i64 B1.H.rows.length, .int .i64 B1.H.hor, .int .i64 e1, .bool k1, .slice s8 L1.length c8] 32))
      have HV := Lib.hid (LIn.keep0 h2.lin hal)
      clear HI h1 h2 h3 h4 h5 hal z0 z1 z2 z3 z4 z5 z6
      have HI := Lib.hid hi
      clear hi
      go_wp2_with (go_at_call 13; refine (mdl_head HI.out.md).mono ?_; rintro e w9 ⟨rfl, h1⟩; refine go_stop ?_)
      unfold Stop
      have hal : Fr [] w9 (w9.alloc (.cells #[.int .i64 B1.seq, .int .i64 B1.H.rows.length, .int .i64 B1.H.hor] 28)) := (Fr.refl [] w9).alloc _
      have HH := Lib.hid (new_block w9 (.cells #[.int .i64 B1.seq, .int .i64 B1.H.rows.length, .int .i64 B1.H.hor] 28))
      replace HR := Lib.hid (hal.keep (h1.keep HR.out (by simp)) (by simp))
      replace HV := Lib.hid (LIn.keep0 (LIn.keep0 HV.out h1) hal)
      replace HI := Lib.hid ((HI.out.keep h1).keep hal)
      have HBH := Lib.hid HI.out.ok.hok.hor
      have hrc := reads_cases HI.out.later HBH.out hAH n
      rw [← HE0.out, ← HE1.out, ← HL0.out, ← HL1.out] at hrc
      have HN : Hid (w8.heap.size ≤ w9.heap.size) := Lib.hid (by have := lt_of_block (h1.keep (new_block w8 (.cells #[.int .i64 B1.seq, .int .i64 B1.H.rows.length, .int .i64 B1.H.hor, .int .i64 e1, .bool k1, .slice s8 L1.length c8] 32)) (by simp)); omega)
      clear h1 hal
      go_upto_region 14 with fail
      generalize w9.alloc (.cells #[.int .i64 B1.seq, .int .i64 B1.H.rows.length, .int .i64 B1.H.hor] 28) = wz at HH HR HV HI ⊢
      generalize w9.heap.size = b3 at HH HN ⊢
      generalize w8.heap.size = b2 at HR HN ⊢
      obtain ⟨r0, r1, r2, r3, r4, r5, _⟩ := cells6 HR.out
      obtain ⟨y0, y1, y2, _⟩ := cells3 HH.out
      obtain ⟨x0, x1, x2, x3, x4, x5, _⟩ := cells6 HI.out.q1
      have HRC := Lib.hid hrc
      clear hrc hwl t1
      rcases HRC.out with ⟨rfl, rfl⟩ | ⟨q1, q2, q3, rfl, rfl⟩ | ⟨q1, q2, q3, rfl, q5⟩ | ⟨q1, q2, q3, rfl, q5⟩ | ⟨q1, q2, q3, rfl, q5⟩ | ⟨q1, q2, q3, rfl, rfl, rfl⟩
      · have g1 : decide ((B1.H.rows.length : Int) < 0) = false := by simp
        go_wp2_with fail
        go_roundw
        case rel => exact ⟨j + 1, S8, B1, by go_num, by omega, HI⟩
        case measure => simp [intOf]; omega
      · have g1 : decide ((0 : Int) < (n : Int)) = true := by simp; omega
        have g1' : decide (0 < n) = true := by simp; omega
        have g2 : decide ((n : Int) < (B1.H.hor : Int)) = true := by simp; omega
        have g2' : decide (n < B1.H.hor) = true := by simp; omega
        have g3 : decide ((B1.H.rows.length : Int) < (n : Int)) = false := by simp; omega
        have g3' : decide (B1.H.rows.length < n) = false := by simp; omega
        clear q1 q2 q3 HRC
        go_wp2_with fail
        go_roundw
        case rel => exact ⟨j + 1, S8, B1, by go_num, by omega, HI⟩
        case measure => simp [intOf]; omega
      · have g1 : decide ((0 : Int) < (n : Int)) = true := by simp; omega
        have g1' : decide (0 < n) = true := by simp; omega
        have g2 : decide ((n : Int) < (B1.H.hor : Int)) = true := by simp; omega
        have g2' : decide (n < B1.H.hor) = true := by simp; omega
        have g3 : decide ((B1.H.rows.length : Int) < (n : Int)) = false := by simp; omega
        have g3' : decide (B1.H.rows.length < n) = false := by simp; omega
        have g4 : (e0 == 0) = false := by simpa using q5
        clear q5
        clear q1 q2 q3 HRC
        go_wp2_with fail
        go_roundw
        case rel => exact ⟨j + 1, S8, B1, by go_num, by omega, HI⟩
        case measure => simp [intOf]; omega
      · have g1 : decide ((0 : Int) < (n : Int)) = true := by simp; omega
        have g1' : decide (0 < n) = true := by simp; omega
        have g2 : decide ((n : Int) < (B1.H.hor : Int)) = false := by simp; omega
        have g2' : decide (n < B1.H.hor) = false := by simp; omega
        have g3 : decide ((B1.H.rows.length : Int) < (n : Int)) = true := by simp; omega
        have g3' : decide (B1.H.rows.length < n) = true := by simp; omega
        have g4 : (e0 == 0) = false := by simpa using q5
        clear q5
        clear q1 q2 q3 HRC
        go_wp2_with fail
        go_roundw
        case rel => exact ⟨j + 1, S8, B1, by go_num, by omega, HI⟩
        case measure => simp [intOf]; omega
      · have g1 : decide ((0 : Int) < (n : Int)) = true := by simp; omega
        have g1' : decide (0 < n) = true := by simp; omega
        have g2 : decide ((n : Int) < (B1.H.hor : Int)) = false := by simp; omega
        have g2' : decide (n < B1.H.hor) = false := by simp; omega
        have g3 : decide ((B1.H.rows.length : Int) < (n : Int)) = false := by simp; omega
        have g3' : decide (B1.H.rows.length < n) = false := by simp; omega
        have g4 : (e0 == 0) = false := by simpa using q5
        clear q5
        clear q1 q2 q3 HRC
        go_wp2_with fail
        go_roundw
        case rel => exact ⟨j + 1, S8, B1, by go_num, by omega, HI⟩
        case measure => simp [intOf]; omega
      · have g1 : decide ((0 : Int) < (n : Int)) = true := by simp; omega
        have g1' : decide (0 < n) = true := by simp; omega
        have g2 : decide ((n : Int) < (B1.H.hor : Int)) = false := by simp; omega
        have g2' : decide (n < B1.H.hor) = false := by simp; omega
        have g3 : decide ((B1.H.rows.length : Int) < (n : Int)) = false := by simp; omega
        have g3' : decide (B1.H.rows.length < n) = false := by simp; omega
        clear q1 q2 q3 HRC
        have hsame : sameB kvB L1 L1 = true := (sameB_eq kvB_eq).2 rfl
        have H1 := Lib.hid HI.out.l0.lin
        go_wp2_with (go_at_call 18; refine (rkvs_any _ _ _ _ _ HV.out H1.out).mono ?_; rintro e w11 ⟨rfl, h1⟩; rw [hsame]; refine go_stop ?_)
        unfold Stop
        replace HI := Lib.hid (HI.out.keep h1)
        clear h1 hsame
        go_wp2_with fail
        go_roundw
        case rel => exact ⟨j + 1, S8, B1, by go_num, by omega, HI⟩
        case measure => simp [intOf]; omega
    · have t1 : decide ((j : Int) < (m.length : Int)) = false := by simp; omega
      go_wp2_with fail
      go_ret
      exact ⟨rfl, HI.out.fr.below (Nat.le_refl _) (by simp)⟩

set_option maxRecDepth 100000 in
theorem contract (H : Type) (enc : TypeId × Value → H) (W : World) (base : Nat) (args : Array Value) (ds gs : List (DataW H)) (before : List MemPlace)
    (hval0 : ∀ (j : Nat) t v, Try.f5.params[j]? = some t → args[j]? = some v → Value.okWide Try.prog W .any base t v)
    (hW : DataW.Whole enc Try.prog Try.f5.params.toList Rows.modelReadsSpec.vars false W args.toList ds gs before) :
    Calls Try.prog 5 args W fun e W' => ∃ v, e = .returned v ∧ Rows.modelReadsSpec.post enc Try.prog Try.f5 false true false false W args v W' := by
  have hval : ∀ (j : Nat) t v, Try.f5.params[j]? = some t → args[j]? = some v → Value.okWide Try.prog W .any base t v := hval0
  have hW' := hW
  obtain ⟨p, q, hA0, hV, rfl, hfz, hnd⟩ := hW
  have hA : DataW.TrodAll enc Try.prog W 0 (fun _ => true) true Try.f5.params.toList args.toList ds p := hA0
  rw [Try.params5] at hA hval
  obtain ⟨v0, vs0, d0, ds0, p0, q0, hargs, rfl, rfl, h0, r0⟩ := trodAll_cons hA
  obtain ⟨v1, vs1, d1, ds1, p1, q1, rfl, rfl, rfl, h1, r1⟩ := trodAll_cons r0
  obtain ⟨v2, vs2, d2, ds2, p2, q2, rfl, rfl, rfl, h2, r2⟩ := trodAll_cons r1
  obtain ⟨rfl, rfl, rfl⟩ := trodAll_nil r2
  obtain rfl : args = #[v0, v1, v2] := by cases args; simp_all
  obtain ⟨rfl, rfl⟩ := trodVars_none hV
  have k0 := h0
  have lt0 : ∀ x ∈ p0, x.block < W.heap.size := by obtain ⟨m, hm⟩ := k0; exact DataW.trod_lt m _ _ _ hm
  have k1 := h1
  have lt1 : ∀ x ∈ p1, x.block < W.heap.size := by obtain ⟨m, hm⟩ := k1; exact DataW.trod_lt m _ _ _ hm
  have k2 := h2
  have lt2 : ∀ x ∈ p2, x.block < W.heap.size := by obtain ⟨m, hm⟩ := k2; exact DataW.trod_lt m _ _ _ hm
  obtain ⟨l, hl⟩ := open_reqs (hval 0 22 v0 rfl rfl) h0
  obtain ⟨m, hm⟩ := open_reqs (hval 1 22 v1 rfl rfl) h1
  obtain ⟨rev, rfl, _, _, wrev⟩ := open_int Try.underlying5 (hval 2 5 v2 rfl rfl) h2
  clear hA0 hval0 hval
  refine (walk v0 v1 l m rev W hl hm wrev).mono fun e W' ⟨he, bel⟩ => ?_
  subst he
  exact ⟨_, rfl, _, _, _, [], _, [], hW', trodAll_mk1 (shut_bool Try.underlying4 _), (trodAll_cons_mk (Below.trod laid_prog (by kernel_rfl) (of_decide_eq_true (by kernel_rfl)) k0 bel lt0) (trodAll_cons_mk (Below.trod laid_prog (by kernel_rfl) (of_decide_eq_true (by kernel_rfl)) k1 bel lt1) (trodAll_cons_mk (Below.trod laid_prog (by kernel_rfl) (of_decide_eq_true (by kernel_rfl)) k2 bel lt2) trodAll_mk0))), rfl, bel.frame _, fun h => by cases h⟩

set_option maxRecDepth 100000 in
theorem lifted (os : Os) (started : os.Started) (H : Type) (enc : TypeId × Value → H) :
    ReturnsInHanded {} Try.checked os 5 .any (Rows.modelReadsSpec.pre6 enc Try.prog Try.f5 Rows.modelReadsRow.domain false) (Rows.modelReadsSpec.post enc Try.prog Try.f5 false true false false) := by
  refine returnsInHanded_of_change (C := Try.checked) own_prog started (by kernel_rfl) Try.func5
    (ChangeSpec.witness6 (enc := enc) (C := Try.checked) false ⟨#[], #[.slice none 0 0, .slice none 0 0, .int .u8 0], []⟩ 8 (by kernel_rfl) (by kernel_rfl) (by kernel_rfl) (by kernel_rfl)) ?_
  intro W base args ds gs before hval hW _ _
  exact contract H enc W base args ds gs before hval hW

theorem proved : Rows.ModelReadsSaid :=
  OpenClaim.holds_of_wide 5 Try.f5 rfl rfl rfl rfl rfl rfl rfl ⟨rfl, rfl, rfl, rfl, rfl⟩ rfl rfl rfl rfl rfl (by kernel_rfl) Try.func5 (by kernel_rfl)
    (of_decide_eq_true (by kernel_rfl)) (by unfold Func.isWrapper; first | (rw [if_pos (by decide +kernel)]; kernel_rfl) | (rw [if_neg (by decide +kernel)]; exact ⟨rfl, rfl⟩))
    (fun os started H enc _ => lifted os started H enc)

end Go.Proofs.Ytlklmmpblgcaoaa.lawModelReads
