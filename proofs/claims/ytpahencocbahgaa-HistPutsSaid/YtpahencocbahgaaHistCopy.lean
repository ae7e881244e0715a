/- PACKAGE hist: Copy: contract -/
import Derived.Test.YtpahencocbahgaaHistForget
namespace Go.Proofs.Ytpahencocbahgaa
open Go.RowKit Go.Maps
set_option linter.unusedVariables false
set_option linter.unusedSimpArgs false

/-- a Hist that is being copied to: what is still left to come -/
structure Cp (w : World) (p : Nat) (S : List Nat) (rows : List (List Ev)) (hor : Nat) (V : ByteArray → List Ev) (lr : Int → Bool) (lk : ByteArray → Bool) (rm km n1 n2 : Nat) (R : Int → Option Value) (M : ByteArray → Option Value) : Prop where
  blk : w.heap[p]? = some (.cells #[.int .i64 hor, .int .i64 rows.length, .map (some rm), .map (some km)] 65 (0, 0))
  rmap : MapG Try.prog 3 intD isSl w rm n1 R
  kmap : MapG Try.prog 9 strD isSl w km n2 M
  ronly : ∀ e v, R e = some v → ∃ (i : Nat) (r : List Ev), e = (i : Int) + 1 ∧ hor ≤ i ∧ rows[i]? = some r ∧ EvAt w v r
  rhas : ∀ i : Nat, hor ≤ i → i < rows.length → lr ((i : Int) + 1) = false → (R ((i : Int) + 1)).isSome = true
  kno : ∀ k, lk k = false → M k = none → V k = []
  kyes : ∀ k v, M k = some v → EvAt w v (V k)
  apart : ∀ k k' v v' g, M k = some v → M k' = some v' → v.ownBlock = some g → v'.ownBlock = some g → k = k'
  cross : ∀ e v k v' g, R e = some v → M k = some v' → v.ownBlock = some g → v'.ownBlock = some g → False
  rS : ∀ e v g, R e = some v → v.ownBlock = some g → g ∈ S
  kS : ∀ k v g, M k = some v → v.ownBlock = some g → g ∈ S
  ps : p ∈ S
  rs : rm ∈ S
  ks : km ∈ S
  ne : rm ≠ km
  lt : ∀ k ∈ S, k < w.heap.size
section
variable {w w' w2 : World} {p : Nat} {S : List Nat} {rows : List (List Ev)} {hor : Nat} {V : ByteArray → List Ev} {lr : Int → Bool} {lk : ByteArray → Bool} {rm km n1 n2 : Nat} {R : Int → Option Value} {M : ByteArray → Option Value}
theorem Cp.done (h : Cp w p S rows hor V lr lk rm km n1 n2 R M) (hr : ∀ i : Nat, i < rows.length → lr ((i : Int) + 1) = false) (hk : ∀ k, V k = [] ∨ lk k = false) : HsAt w p S rows hor V rm km n1 n2 R M :=
  ⟨h.blk, h.rmap, h.kmap, h.ronly, fun i h1 h2 => h.rhas i h1 h2 (hr i h2), fun k hm => (hk k).elim id (fun hl => h.kno k hl hm), h.kyes, h.apart, h.cross, h.rS, h.kS, h.ps, h.rs, h.ks, h.ne, h.lt⟩
theorem Cp.rp (h : Cp w p S rows hor V lr lk rm km n1 n2 R M) : rm ≠ p := by
  rintro rfl; obtain ⟨es, c, hc⟩ := h.rmap.isMap; rw [h.blk] at hc; cases hc
theorem Cp.kp (h : Cp w p S rows hor V lr lk rm km n1 n2 R M) : km ≠ p := by
  rintro rfl; obtain ⟨es, c, hc⟩ := h.kmap.isMap; rw [h.blk] at hc; cases hc
theorem Cp.keep (h : Cp w p S rows hor V lr lk rm km n1 n2 R M) {T : List Nat} (hf : Fr T w w') (hd : ∀ k ∈ S, k ∉ T) : Cp w' p S rows hor V lr lk rm km n1 n2 R M :=
  ⟨hf.keep h.blk (hd _ h.ps), h.rmap.keep hf (hd _ h.rs), h.kmap.keep hf (hd _ h.ks),
   fun e v he => by obtain ⟨i, r, h1, h2, h3, h4⟩ := h.ronly e v he; exact ⟨i, r, h1, h2, h3, h4.keep hf (fun g hg => hd g (h.rS e v g he hg))⟩,
   h.rhas, h.kno, fun k v hk => (h.kyes k v hk).keep hf (fun g hg => hd g (h.kS k v g hk hg)), h.apart, h.cross, h.rS, h.kS, h.ps, h.rs, h.ks, h.ne,
   fun k hk => Nat.lt_of_lt_of_le (h.lt k hk) hf.size⟩
theorem Cp.far (h : Cp w p S rows hor V lr lk rm km n1 n2 R M) {v : Value} {l : List Ev} (hv : EvAt w v l) : ∀ g, v.ownBlock = some g → g ≠ rm ∧ g ≠ km :=
  fun g hg => ⟨not_map hv h.rmap g hg, not_map hv h.kmap g hg⟩
/-- a row more, in new memory -/
theorem Cp.rput (h : Cp w p S rows hor V lr lk rm km n1 n2 R M) {e : Int} {i m1 : Nat} {r : List Ev} {v1 : Value} (he : e = (i : Int) + 1) (hi : hor ≤ i) (hr : rows[i]? = some r) (hl : EvAt w v1 r) (hnew : ∀ g, v1.ownBlock = some g → g ∉ S)
    (hf : Fr [rm] w w2) (hm : MapG Try.prog 3 intD isSl w2 rm m1 (fun z => if z = e then some v1 else R z)) :
    Cp w2 p (S ++ v1.ownBlock.toList) rows hor V (fun z => lr z && !decide (z = e)) lk rm km m1 n2 (fun z => if z = e then some v1 else R z) M := by
  have inl : ∀ k, k ∈ S → k ∈ S ++ v1.ownBlock.toList := fun k hk => List.mem_append.2 (Or.inl hk)
  have old : ∀ v l g, EvAt w v l → v.ownBlock = some g → g ∉ [rm] := fun v l g hv hg => by simpa using (h.far hv g hg).1
  refine ⟨hf.keep h.blk (by simpa using h.rp.symm), hm, h.kmap.keep hf (by simpa using h.ne.symm), ?_, ?_, h.kno, fun k v hk => (h.kyes k v hk).keep hf (fun g hg => old v _ g (h.kyes k v hk) hg), h.apart, ?_, ?_, fun k v g hk hg => inl g (h.kS k v g hk hg), inl _ h.ps, inl _ h.rs, inl _ h.ks, h.ne, ?_⟩
  · intro z v hz
    by_cases hee : z = e
    · rw [if_pos hee] at hz; cases hz
      exact ⟨i, r, hee.trans he, hi, hr, hl.keep hf (fun g hg => old _ r g hl hg)⟩
    · rw [if_neg hee] at hz
      obtain ⟨i, r, h1, h2, h3, h4⟩ := h.ronly z v hz
      exact ⟨i, r, h1, h2, h3, h4.keep hf (fun g hg => old v r g h4 hg)⟩
  · intro j h1 h2 h3
    by_cases hjj : (j : Int) + 1 = e
    · rw [if_pos hjj]; rfl
    · rw [if_neg hjj]
      exact h.rhas j h1 h2 (by simpa [hjj] using h3)
  · intro z v k v' g hz hk hg hg'
    by_cases hee : z = e
    · rw [if_pos hee] at hz; cases hz
      exact hnew g hg (h.kS k v' g hk hg')
    · rw [if_neg hee] at hz; exact h.cross z v k v' g hz hk hg hg'
  · intro z v g hz hg
    by_cases hee : z = e
    · rw [if_pos hee] at hz; cases hz; simp [hg]
    · rw [if_neg hee] at hz; exact inl g (h.rS z v g hz hg)
  · intro k hk
    rcases List.mem_append.1 hk with hk | hk
    · exact Nat.lt_of_lt_of_le (h.lt k hk) hf.size
    · exact Nat.lt_of_lt_of_le (hl.lt k (Option.mem_toList.1 hk)) hf.size
/-- a key more, in new memory -/
theorem Cp.kput (h : Cp w p S rows hor V lr lk rm km n1 n2 R M) {e : ByteArray} {m1 : Nat} {v1 : Value} (hl : EvAt w v1 (V e)) (hnew : ∀ g, v1.ownBlock = some g → g ∉ S)
    (hf : Fr [km] w w2) (hm : MapG Try.prog 9 strD isSl w2 km m1 (fun z => if z = e then some v1 else M z)) :
    Cp w2 p (S ++ v1.ownBlock.toList) rows hor V lr (fun z => lk z && !decide (z = e)) rm km n1 m1 R (fun z => if z = e then some v1 else M z) := by
  have inl : ∀ k, k ∈ S → k ∈ S ++ v1.ownBlock.toList := fun k hk => List.mem_append.2 (Or.inl hk)
  have old : ∀ v l g, EvAt w v l → v.ownBlock = some g → g ∉ [km] := fun v l g hv hg => by simpa using (h.far hv g hg).2
  refine ⟨hf.keep h.blk (by simpa using h.kp.symm), h.rmap.keep hf (by simpa using h.ne), hm, ?_, h.rhas, ?_, ?_, ?_, ?_, fun k v g hk hg => inl g (h.rS k v g hk hg), ?_, inl _ h.ps, inl _ h.rs, inl _ h.ks, h.ne, ?_⟩
  · intro z v hz
    obtain ⟨i, r, h1, h2, h3, h4⟩ := h.ronly z v hz
    exact ⟨i, r, h1, h2, h3, h4.keep hf (fun g hg => old v r g h4 hg)⟩
  · intro k hk hM
    by_cases hee : k = e
    · rw [if_pos hee] at hM; cases hM
    · rw [if_neg hee] at hM
      exact h.kno k (by simpa [hee] using hk) hM
  · intro k v hk
    by_cases hee : k = e
    · rw [if_pos hee] at hk; cases hk; rw [hee]
      exact hl.keep hf (fun g hg => old _ _ g hl hg)
    · rw [if_neg hee] at hk
      exact (h.kyes k v hk).keep hf (fun g hg => old v _ g (h.kyes k v hk) hg)
  · intro k k' v v' g hk hk' hg hg'
    by_cases h1 : k = e <;> by_cases h2 : k' = e
    · rw [h1, h2]
    · rw [if_pos h1] at hk; rw [if_neg h2] at hk'; cases hk
      exact (hnew g hg (h.kS k' v' g hk' hg')).elim
    · rw [if_neg h1] at hk; rw [if_pos h2] at hk'; cases hk'
      exact (hnew g hg' (h.kS k v g hk hg)).elim
    · rw [if_neg h1] at hk; rw [if_neg h2] at hk'
      exact h.apart _ _ _ _ g hk hk' hg hg'
  · intro z v k v' g hz hk hg hg'
    by_cases hee : k = e
    · rw [if_pos hee] at hk; cases hk
      exact hnew g hg' (h.rS z v g hz hg)
    · rw [if_neg hee] at hk; exact h.cross z v k v' g hz hk hg hg'
  · intro k v g hk hg
    by_cases hee : k = e
    · rw [if_pos hee] at hk; cases hk; simp [hg]
    · rw [if_neg hee] at hk; exact inl g (h.kS k v g hk hg)
  · intro k hk
    rcases List.mem_append.1 hk with hk | hk
    · exact Nat.lt_of_lt_of_le (h.lt k hk) hf.size
    · exact Nat.lt_of_lt_of_le (hl.lt k (Option.mem_toList.1 hk)) hf.size
end
theorem vers_big {rows : List (List Ev)} {hor : Nat} {k : ByteArray} (hk : ¬ k.size ≤ maxLen) : versN rows hor k = [] := by
  cases h : versN rows hor k with
  | nil => rfl
  | cons e r =>
    have h1 : e ∈ versN rows hor k := by rw [h]; simp
    have := vers_key e h1
    exact absurd (by rw [← this]; exact e.wf.1) hk

theorem hist_new_at (w : World) : Calls Try.prog 20 #[] w fun e w' => ∃ p rm km, e = .returned (.pointer (some ⟨p, 0, none⟩)) ∧ w'.heap[p]? = some (.cells #[.int .i64 0, .int .i64 0, .map (some rm), .map (some km)] 65 (0, 0)) ∧ MapG Try.prog 3 intD isSl w' rm 0 (fun _ => none) ∧ MapG Try.prog 9 strD isSl w' km 0 (fun _ => none) ∧ Fr [] w w' ∧ w.heap.size ≤ p ∧ w.heap.size ≤ rm ∧ w.heap.size ≤ km ∧ rm ≠ km := by
  have hmm := @run_makeMap Try.prog
  go_enter Try.func20, Try.ntmps20
  go_wp2
  obtain ⟨b0, b1, b2, hf⟩ := three_boxes (S := []) (w := w) (a := .map #[] 0) (b := .map #[] 0) (c := .cells #[.int .i64 0, .int .i64 0, .map (some w.heap.size), .map (some (w.heap.size + 1))] 65) (by simp) (Fr.refl [] _)
  have m0 : MapG Try.prog 3 intD isSl _ w.heap.size 0 (fun _ => none) := (MapG.made Try.prog 3 intD isSl w).keep (((Fr.refl [] (w.alloc (.map #[] 0))).alloc (.map #[] 0)).alloc (.cells #[.int .i64 0, .int .i64 0, .map (some w.heap.size), .map (some (w.heap.size + 1))] 65)) (by simp)
  have m1 : MapG Try.prog 9 strD isSl _ (w.heap.size + 1) 0 (fun _ => none) := (by
    have := (MapG.made Try.prog 9 strD isSl (w.alloc (.map #[] 0))).keep ((Fr.refl [] ((w.alloc (.map #[] 0)).alloc (.map #[] 0))).alloc (.cells #[.int .i64 0, .int .i64 0, .map (some w.heap.size), .map (some (w.heap.size + 1))] 65)) (by simp)
    simpa using this)
  generalize ((w.alloc (.map #[] 0)).alloc (.map #[] 0)).alloc (.cells #[.int .i64 0, .int .i64 0, .map (some w.heap.size), .map (some (w.heap.size + 1))] 65) = w3 at *
  go_ret
  exact ⟨w.heap.size + 1 + 1, w.heap.size, w.heap.size + 1, rfl, b2, m0, m1, hf, by omega, by omega, by omega, by omega⟩

set_option maxRecDepth 100000 in
set_option maxHeartbeats 4000000 in
theorem hist_copy {w : World} {p : Nat} {S : List Nat} {H : HA} {n : Nat} (h : Hs w p S H) (hk : HOk H n) (hn : n ≤ 1000) : Calls Try.prog 18 #[.pointer (some ⟨p, 0, none⟩)] w fun e w' =>
    ∃ q S', e = .returned (.pointer (some ⟨q, 0, none⟩)) ∧ Hs w' q S' H ∧ Fr [] w w' ∧ ∀ k ∈ S', w.heap.size ≤ k := by
  have hfl : H.rows.flatten.length ≤ 100000 := by have := hk.flat; omega
  have hhor := hk.hor
  have hrl : H.rows.length ≤ 1000 := by have := hk.rev; omega
  obtain ⟨hwf, rm, km, n1, n2, R, M, b1, b2, h⟩ := h
  have hb22 : n2 ≤ 200000 := by
    have h1 := congrArg List.length (congrArg List.flatten (List.take_append_drop H.hor H.rows))
    rw [List.flatten_append, List.length_append] at h1
    omega
  obtain ⟨rows, hor⟩ := H
  dsimp only at *
  obtain ⟨c0, c1, c2, c3, _⟩ := cells4 h.blk
  have hpl := lt_of_block h.blk
  have HH := Lib.hid h
  have HW := Lib.hid hwf
  have HB2 := Lib.hid b2
  clear h b2 hwf
  go_enter Try.func18, Try.ntmps18
  go_wp2_with (go_at_call 20; refine (hist_new_at _).mono ?_; rintro e w1 ⟨q, rm1, km1, rfl, hb1, hr1, hk1, hf1, g1, g2, g3, g4⟩; refine go_stop ?_)
  unfold Stop
  obtain ⟨d0, d1, d2, d3, df⟩ := cells4 hb1
  have df0 := df 0
  have df1 := df 1
  have e0 := hf1.cell c0 (by simp)
  have e1 := hf1.cell c1 (by simp)
  have e2 := hf1.cell c2 (by simp)
  have e3 := hf1.cell c3 (by simp)
  have nqp : ¬ q = p := by omega
  have npq : ¬ p = q := by omega
  have HB1 := Lib.hid hb1
  have HR1 := Lib.hid hr1
  have HK1 := Lib.hid hk1
  have HF1 := Lib.hid hf1
  clear hb1 hr1 hk1 hf1 df c0 c1 c2 c3
  go_wp2_with (at_range; refine go_stop ?_)
  unfold Stop
  have HBS : Hid (((w1.setCell ⟨q, 0, none⟩ (.int .i64 hor)).setCell ⟨q, 1, none⟩ (.int .i64 rows.length)).heap[q]? = some (.cells #[.int .i64 hor, .int .i64 rows.length, .map (some rm1), .map (some km1)] 65 (0, 0))) := Lib.hid (by simpa using set_block (set_block HB1.out 0 (.int .i64 hor)) 1 (.int .i64 rows.length))
  have hfs : Fr [q] w1 ((w1.setCell ⟨q, 0, none⟩ (.int .i64 hor)).setCell ⟨q, 1, none⟩ (.int .i64 rows.length)) := ((Fr.refl [q] w1).setCell (p := ⟨q, 0, none⟩) (Or.inl (by simp)) _).setCell (p := ⟨q, 1, none⟩) (Or.inl (by simp)) _
  have HFS : Hid (Fr [] w ((w1.setCell ⟨q, 0, none⟩ (.int .i64 hor)).setCell ⟨q, 1, none⟩ (.int .i64 rows.length))) := Lib.hid (HF1.out.trans hfs (fun k hk => Or.inr (by simp at hk; omega)))
  have nrq : rm1 ≠ q := by rintro rfl; obtain ⟨es, c, hc⟩ := HR1.out.isMap; rw [HB1.out] at hc; cases hc
  have nkq : km1 ≠ q := by rintro rfl; obtain ⟨es, c, hc⟩ := HK1.out.isMap; rw [HB1.out] at hc; cases hc
  have HRS := Lib.hid (HR1.out.keep hfs (by simpa using nrq))
  have HKS := Lib.hid (HK1.out.keep hfs (by simpa using nkq))
  have hss := hfs.size
  have hlq := lt_of_block HBS.out
  have hlr := HRS.out.lt
  have hlk := HKS.out.lt
  clear hfs d0 d1 d2 d3 df0 df1 e0 e1 e2 e3 HB1 HR1 HK1
  generalize (w1.setCell ⟨q, 0, none⟩ (.int .i64 hor)).setCell ⟨q, 1, none⟩ (.int .i64 rows.length) = ws at *
  refine wpList_range_G rfl _ 62 rfl intD KI isSl 50 rows_map rm n1 R rfl (HH.out.rmap.keep HFS.out (by simp)) ?_
  intro w5 cnt0 hrg0 hcnt0 hf5
  have hcp0 : Cp w5 q [q, rm1, km1] rows hor (versN rows hor) (fun e => (R e).isSome) (fun k => (M k).isSome) rm1 km1 0 0 (fun _ => none) (fun _ => none) := by
    refine ⟨hf5.keep HBS.out (by simp), HRS.out.keep hf5 (by simp), HKS.out.keep hf5 (by simp), by simp, ?_, ?_, by simp, by simp, by simp, by simp, by simp, by simp, by simp, by simp, g4, ?_⟩
    · intro i h1 h2 h3
      rw [HH.out.rhas i h1 h2] at h3; cases h3
    · intro k h1 _
      cases hM : M k with
      | none => exact HH.out.kno k hM
      | some v => rw [hM] at h1; cases h1
    · have := hf5.size
      intro k hk
      simp at hk; omega
  have HCP := Lib.hid hcp0
  clear hcp0
  have HF5 := Lib.hid (HFS.out.trans hf5 (by simp))
  have HR5 := Lib.hid hrg0.ltR
  clear HBS HRS HKS hf5
  go_wp2_with fail
  go_frame
  go_loopw [] (fun wr => ∃ (left : Int → Bool) (cnt : Nat) (Sq : List Nat) (m1 : Nat) (R1 : Int → Option Value), RangeG Try.prog 3 intD isSl wr rm ws.heap.size n1 R left cnt ∧ Cp wr q Sq rows hor (versN rows hor) left (fun k => (M k).isSome) rm1 km1 m1 0 R1 (fun _ => none) ∧ m1 + cnt ≤ n1 ∧ Fr [] w wr ∧ ∀ k ∈ Sq, w.heap.size ≤ k ∧ k ≠ ws.heap.size) (fun wr => wr.rangeLeft rm ws.heap.size)
  case atStart => exact ⟨_, _, _, 0, _, hrg0, HCP.out, by omega, HF5.out, by simp; omega⟩
  case round =>
    obtain ⟨left, cnt, Sq, m1, R1, hrg, hcp, hm1, hf, hSq⟩ := hrel
    have HRG := Lib.hid hrg
    have HC := Lib.hid hcp
    have HF := Lib.hid hf
    have HSQ := Lib.hid hSq
    have HRL := Lib.hid hrg.ltR
    clear hrg hcp hf hSq
    go_wp2_with (at_next; refine wpList_next_G (β := Option Addr × Nat × Nat) rfl _ rfl intD KI isSl (fun c => .slice c.1 c.2.1 c.2.2) (fun v hv => isSl_inv hv) rm ws.heap.size n1 R left cnt rfl HRG.out ?_ ?_)
    · intro hl0
      have HL0 := Lib.hid hl0
      clear hl0
      have e3 := HF.out.cell (cells4 HH.out.blk).2.2.2.1 (by simp)
      have HCD := Lib.hid HC.out
      have HRO : Hid (∀ i : Nat, i < rows.length → left ((i : Int) + 1) = false) := Lib.hid (fun i hi => HL0.out _ (KI_ok (by omega) (by omega)))
      clear HRG HL0
      go_wp2_with (at_range; refine go_stop ?_)
      unfold Stop
      obtain ⟨r1, hr1⟩ : ∃ r1, r1 = wr.heap.size := ⟨_, rfl⟩
      refine wpList_range_G rfl _ 63 rfl strD KS isSl 67 keys_map km n2 M rfl (HH.out.kmap.keep HF.out (by simp)) ?_
      intro w9 cnt9 hrg9 hcnt9 hf9
      have hc9 := HC.out.keep hf9 (by simp)
      have HC9 := Lib.hid hc9
      have HF9 := Lib.hid (HF.out.trans hf9 (by simp))
      have HRL9 := Lib.hid hrg9.ltR
      have HSL : Hid (∀ k ∈ Sq, k < wr.heap.size) := Lib.hid HC.out.lt
      clear hc9 hf9 e3 HC HCD
      rw [← hr1] at hrg9 HRL9 HSL ⊢
      have hwr1 : w.heap.size ≤ r1 := by rw [hr1]; exact HF.out.size
      have HWR := Lib.hid hr1
      clear hr1 HRL HF
      go_wp2_with fail
      go_frame
      go_loopw [] (fun wr => ∃ (left2 : ByteArray → Bool) (cnt : Nat) (Sq : List Nat) (m2 : Nat) (M1 : ByteArray → Option Value), RangeG Try.prog 9 strD isSl wr km r1 n2 M left2 cnt ∧ Cp wr q Sq rows hor (versN rows hor) left left2 rm1 km1 m1 m2 R1 M1 ∧ m2 + cnt ≤ n2 ∧ Fr [] w wr ∧ ∀ k ∈ Sq, w.heap.size ≤ k ∧ k ≠ r1) (fun wr => wr.rangeLeft km r1)
      case atStart => exact ⟨_, _, Sq, 0, _, hrg9, HC9.out, by omega, HF9.out, fun k hk => ⟨(HSQ.out k hk).1, by have := HSL.out k hk; omega⟩⟩
      case round =>
        clear HC9 HF9 HSQ HSL HRL9
        obtain ⟨left2, cnt2, Sq2, m2, M1, hrg, hcp, hm2, hf, hSq⟩ := hrel
        have HRG := Lib.hid hrg
        have HC := Lib.hid hcp
        have HF := Lib.hid hf
        have HSQ := Lib.hid hSq
        have HRL := Lib.hid hrg.ltR
        clear hrg hcp hf hSq
        go_wp2_with (at_next; refine wpList_next_G (β := Option Addr × Nat × Nat) rfl _ rfl strD KS isSl (fun c => .slice c.1 c.2.1 c.2.2) (fun v hv => isSl_inv hv) km r1 n2 M left2 cnt2 rfl HRG.out ?_ ?_)
        · intro hl0
          have hs : Hs wr q Sq2 ⟨rows, hor⟩ := ⟨HW.out, rm1, km1, m1, m2, R1, M1, (by show m1 ≤ rows.length; omega), (by have := HB2.out; show m2 ≤ rows.flatten.length + (rows.take hor).flatten.length; omega), HC.out.done HRO.out (fun k => by
            by_cases hk : k.size ≤ maxLen
            · exact Or.inr (hl0 k hk)
            · exact Or.inl (vers_big hk))⟩
          have HS := Lib.hid hs
          clear hl0 hs
          go_wp2
          go_ret
          exact ⟨q, Sq2, rfl, HS.out, HF.out, fun k hk => (HSQ.out k hk).1⟩
        · intro x c1 c2 c3 w6 cnt6 hx hlx hMx hrg6 hlt6 hf6 hen
          simp only [strD] at hen hx ⊢
          have hat := HH.out.kyes x _ hMx
          have hrl9 : (versN rows hor x).length ≤ many := Nat.le_trans (vers_len _ _ _) (by unfold many; omega)
          have hcp6 := HC.out.keep hf6 (fun k hk hm => (HSQ.out k hk).2 (by simpa using hm))
          have hf06 : Fr [] w w6 := HF.out.trans hf6 (fun k hk => Or.inr (by simp at hk; omega))
          have HCL : Hid (∀ X, Fr [] w X → Calls Try.prog 38 #[.slice c1 c2 c3] X fun e w' => ∃ v', e = .returned v' ∧ OutAt Ev.cells 70 4 X w' v' (versN rows hor x) ∧ Fr [] X w') :=
            Lib.hid (fun X hX => clone_ver _ (versN rows hor x) X (LIn.keep0 hat.read hX) hrl9)
          obtain ⟨k0, k1, k2, k3, _⟩ := cells4 hcp6.blk
          have HC6 := Lib.hid hcp6
          have HF6 := Lib.hid hf06
          have HRG6 := Lib.hid hrg6
          have HX := Lib.hid hx
          have hrs6 := hrg6.ltR
          clear hlx hMx hrg6 hf6 hat hcp6 hf06 hx k0 k1 k2
          go_wp2_with fail
          go_region_held3 (fun w' => w'.cell? ⟨q, 3, none⟩ = some (.map (some km1))) (first | go_keep | assumption)
            ((go_at_call 38
              refine (HCL.out _ HF6.out.drew).mono ?_
              rintro e w7 ⟨v7, rfl, ho7, hf7⟩
              have hf67 : Fr [] w6 w7 := ((Fr.refl [] w6).drew).trans hf7 (by simp)
              have hc7 := HC6.out.keep hf67 (by simp)
              obtain ⟨s7, d7, hv7, _⟩ := ho7.lies.form
              obtain ⟨w8, hrun, hm8, hf8⟩ := hc7.kmap.store (t := 63) (E := 67) KS keys_map (by unfold maxLen; omega) (e := x) HX.out (x := v7) (by rw [hv7]; rfl)
              simp only [strD] at hrun
              have q2 := (cells4 hc7.blk).2.2.2.1
              have hc8 := hc7.kput ho7.lies (fun g hg hm => by have h1 := ho7.new g hg; have h2 := HC6.out.lt g hm; simp at h1; omega) hf8 hm8
              have q8 := (cells4 hc8.blk).2.2.2.1
              have HC8 := Lib.hid hc8
              have HRG8 := Lib.hid ((HRG6.out.keep hf67 (by simp) (by simp)).keep hf8 (by have := HH.out.kmap.lt; simp; omega) (by have := (HSQ.out _ HC.out.ks).2; simp; omega))
              have HF8 := Lib.hid ((HF6.out.trans hf67 (by simp)).trans hf8 (fun k hk => Or.inr (by simp at hk; omega)))
              have HN8 := Lib.hid ho7.new
              clear hf67 hc7 hm8 hf8 hc8 ho7 hf7 hv7))
          all_goals go_wp2
          all_goals
            refine ⟨⟨_, _, _, m2 + 1, _, HRG8.out, HC8.out, by omega, HF8.out, fun k hk => ?_⟩, ?_⟩
            · rcases List.mem_append.1 hk with hk | hk
              · exact HSQ.out k hk
              · have h1 := HN8.out k (Option.mem_toList.1 hk)
                simp at h1
                have := HF6.out.size; omega
            · rw [HRG.out.left_eq, HRG8.out.left_eq]; exact hlt6
    · intro x c1 c2 c3 w6 cnt6 hx hlx hMx hrg6 hlt6 hf6 hen
      simp only [intD] at hen hx ⊢
      obtain ⟨i, r, hxi, hi, hr, hat⟩ := HH.out.ronly x _ hMx
      have hrl9 : r.length ≤ many := by
        have h1 := gone_len rows i (i + 1)
        rw [gone_step (a := i) hr (Nat.le_refl _), gone_self, List.nil_append] at h1
        unfold many; omega
      have hcp6 := HC.out.keep hf6 (fun k hk hm => (HSQ.out k hk).2 (by simpa using hm))
      have hf06 : Fr [] w w6 := HF.out.trans hf6 (fun k hk => Or.inr (by have := hlr; have := HFS.out.size; simp at hk; omega))
      have HCL : Hid (∀ X, Fr [] w X → Calls Try.prog 34 #[.slice c1 c2 c3] X fun e w' => ∃ v', e = .returned v' ∧ OutAt Ev.cells 70 4 X w' v' r ∧ Fr [] X w') :=
        Lib.hid (fun X hX => clone_ev _ r X (LIn.keep0 hat.read hX) hrl9)
      obtain ⟨k0, k1, k2, k3, _⟩ := cells4 hcp6.blk
      have HC6 := Lib.hid hcp6
      have HF6 := Lib.hid hf06
      have HRG6 := Lib.hid hrg6
      have HXI := Lib.hid hxi
      have HR := Lib.hid hr
      have HX := Lib.hid hx
      have hrs6 := hrg6.ltR
      clear hlx hMx hrg6 hf6 hxi hr hat hcp6 hf06 hx k0 k1 k3
      go_wp2_with fail
      go_region_held3 (fun w' => w'.cell? ⟨q, 2, none⟩ = some (.map (some rm1))) (first | go_keep | assumption)
        ((go_at_call 34
          refine (HCL.out _ HF6.out.drew).mono ?_
          rintro e w7 ⟨v7, rfl, ho7, hf7⟩
          have hf67 : Fr [] w6 w7 := ((Fr.refl [] w6).drew).trans hf7 (by simp)
          have hc7 := HC6.out.keep hf67 (by simp)
          obtain ⟨s7, d7, hv7, _⟩ := ho7.lies.form
          obtain ⟨w8, hrun, hm8, hf8⟩ := hc7.rmap.store (t := 62) (E := 50) KI rows_map (by unfold maxLen; omega) (e := x) HX.out (x := v7) (by rw [hv7]; rfl)
          simp only [intD] at hrun
          have q2 := (cells4 hc7.blk).2.2.1
          have hc8 := hc7.rput HXI.out (by omega) HR.out ho7.lies (fun g hg hm => by have h1 := ho7.new g hg; have h2 := HC6.out.lt g hm; simp at h1; omega) hf8 hm8
          have q8 := (cells4 hc8.blk).2.2.1
          have HC8 := Lib.hid hc8
          have HRG8 := Lib.hid ((HRG6.out.keep hf67 (by simp) (by simp)).keep hf8 (by have := HH.out.rmap.lt; simp; omega) (by have := (HSQ.out _ HC.out.rs).2; simp; omega))
          have HF8 := Lib.hid ((HF6.out.trans hf67 (by simp)).trans hf8 (fun k hk => Or.inr (by simp at hk; omega)))
          have HN8 := Lib.hid ho7.new
          clear hf67 hc7 hm8 hf8 hc8 ho7 hf7 hv7))
      all_goals go_wp2
      all_goals
        refine ⟨⟨_, _, _, m1 + 1, _, HRG8.out, HC8.out, by omega, HF8.out, fun k hk => ?_⟩, ?_⟩
        · rcases List.mem_append.1 hk with hk | hk
          · exact HSQ.out k hk
          · have h1 := HN8.out k (Option.mem_toList.1 hk)
            simp at h1
            have := HF6.out.size; omega
        · rw [HRG.out.left_eq, HRG8.out.left_eq]; exact hlt6
end Go.Proofs.Ytpahencocbahgaa
