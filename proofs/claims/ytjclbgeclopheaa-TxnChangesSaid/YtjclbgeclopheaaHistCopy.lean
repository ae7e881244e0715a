/- PACKAGE hist: Copy: contract -/
import Derived.Test.YtjclbgeclopheaaHistCom
namespace Go.Proofs.Ytjclbgeclopheaa
open Go.RowKit Go.Maps
set_option linter.unusedVariables false
set_option linter.unusedSimpArgs false

/-- a Hist that is being copied to: what is still left to come -/
structure Cp (w : World) (p : Nat) (S : List Nat) (rows : List (List Ev)) (hor : Nat) (V : ByteArray → List Ev) (lr : Int → Bool) (lk : ByteArray → Bool) (rm km n1 n2 : Nat) (R : Int → Option Value) (M : ByteArray → Option Value) : Prop where
  blk : w.heap[p]? = some (.cells #[.int .i64 hor, .int .i64 rows.length, .map (some rm), .map (some km)] 77 (0, 0))
  rmap : MapG Try.prog 3 intD isSl w rm n1 R
  kmap : MapG Try.prog 9 strD isSl w km n2 M
  ronly : ∀ e v, R e = some v → ∃ (i : Nat) (r : List Ev), e = (i : Int) + 1 ∧ hor ≤ i ∧ rows[i]? = some r ∧ EvAt w v r
  rhas : ∀ i : Nat, hor ≤ i → i < rows.length → lr ((i : Int) + 1) = false → (R ((i : Int) + 1)).isSome = true
  kno : ∀ k, lk k = false → M k = none → V k = []
  kyes : ∀ k v, M k = some v → EvAt w v (V k)
  apart : ∀ k k' v v' g, M k = some v → M k' = some v' → v.ownBlock = some g → v'.ownBlock = some g → k = k'
  cross : ∀ e v k v' g, R e = some v → M k = some v' → v.ownBlock = some g → v'.ownBlock = some g → False
  rS : ∀ e v g, R e = some v → v.ownBlock = some g → g ∈ S
  kS : ∀ k v g, M k = some v → v.ownBlock = some g → g ∈ S
  ps : p ∈ S
  rs : rm ∈ S
  ks : km ∈ S
  ne : rm ≠ km
  lt : ∀ k ∈ S, k < w.heap.size
section
variable {w w' w2 : World} {p : Nat} {S : List Nat} {rows : List (List Ev)} {hor : Nat} {V : ByteArray → List Ev} {lr : Int → Bool} {lk : ByteArray → Bool} {rm km n1 n2 : Nat} {R : Int → Option Value} {M : ByteArray → Option Value}
theorem Cp.done (h : Cp w p S rows hor V lr lk rm km n1 n2 R M) (hr : ∀ i : Nat, i < rows.length → lr ((i : Int) + 1) = false) (hk : ∀ k, V k = [] ∨ lk k = false) : HsAt w p S rows hor V rm km n1 n2 R M :=
  ⟨h.blk, h.rmap, h.kmap, h.ronly, fun i h1 h2 => h.rhas i h1 h2 (hr i h2), fun k hm => (hk k).elim id (fun hl => h.kno k hl hm), h.kyes, h.apart, h.cross, h.rS, h.kS, h.ps, h.rs, h.ks, h.ne, h.lt⟩
theorem Cp.rp (h : Cp w p S rows hor V lr lk rm km n1 n2 R M) : rm ≠ p := by
  rintro rfl; obtain ⟨es, c, hc⟩ := h.rmap.isMap; rw [h.blk] at hc; cases hc
theorem Cp.kp (h : Cp w p S rows hor V lr lk rm km n1 n2 R M) : km ≠ p := by
  rintro rfl; obtain ⟨es, c, hc⟩ := h.kmap.isMap; rw [h.blk] at hc; cases hc
theorem Cp.keep (h : Cp w p S rows hor V lr lk rm km n1 n2 R M) {T : List Nat} (hf : Fr T w w') (hd : ∀ k ∈ S, k ∉ T) : Cp w' p S rows hor V lr lk rm km n1 n2 R M :=
  ⟨hf.keep h.blk (hd _ h.ps), h.rmap.keep hf (hd _ h.rs), h.kmap.keep hf (hd _ h.ks),
   fun e v he => by obtain ⟨i, r, h1, h2, h3, h4⟩ := h.ronly e v he; exact ⟨i, r, h1, h2, h3, h4.keep hf (fun g hg => hd g (h.rS e v g he hg))⟩,
   h.rhas, h.kno, fun k v hk => (h.kyes k v hk).keep hf (fun g hg => hd g (h.kS k v g hk hg)), h.apart, h.cross, h.rS, h.kS, h.ps, h.rs, h.ks, h.ne,
   fun k hk => Nat.lt_of_lt_of_le (h.lt k hk) hf.size⟩
theorem Cp.far (h : Cp w p S rows hor V lr lk rm km n1 n2 R M) {v : Value} {l : List Ev} (hv : EvAt w v l) : ∀ g, v.ownBlock = some g → g ≠ rm ∧ g ≠ km :=
  fun g hg => ⟨not_map hv h.rmap g hg, not_map hv h.kmap g hg⟩
/-- a row more, in new memory -/
theorem Cp.rput (h : Cp w p S rows hor V lr lk rm km n1 n2 R M) {e : Int} {i m1 : Nat} {r : List Ev} {v1 : Value} (he : e = (i : Int) + 1) (hi : hor ≤ i) (hr : rows[i]? = some r) (hl : EvAt w v1 r) (hnew : ∀ g, v1.ownBlock = some g → g ∉ S)
    (hf : Fr [rm] w w2) (hm : MapG Try.prog 3 intD isSl w2 rm m1 (fun z => if z = e then some v1 else R z)) :
    Cp w2 p (S ++ v1.ownBlock.toList) rows hor V (fun z => lr z && !decide (z = e)) lk rm km m1 n2 (fun z => if z = e then some v1 else R z) M := by
  have inl : ∀ k, k ∈ S → k ∈ S ++ v1.ownBlock.toList := fun k hk => List.mem_append.2 (Or.inl hk)
  have old : ∀ v l g, EvAt w v l → v.ownBlock = some g → g ∉ [rm] := fun v l g hv hg => by simpa using (h.far hv g hg).1
  refine ⟨hf.keep h.blk (by simpa using h.rp.symm), hm, h.kmap.keep hf (by simpa using h.ne.symm), ?_, ?_, h.kno, fun k v hk => (h.kyes k v hk).keep hf (fun g hg => old v _ g (h.kyes k v hk) hg), h.apart, ?_, ?_, fun k v g hk hg => inl g (h.kS k v g hk hg), inl _ h.ps, inl _ h.rs, inl _ h.ks, h.ne, ?_⟩
  · intro z v hz
    by_cases hee : z = e
    · rw [if_pos hee] at hz; cases hz
      exact ⟨i, r, hee.trans he, hi, hr, hl.keep hf (fun g hg => old _ r g hl hg)⟩
    · rw [if_neg hee] at hz
      obtain ⟨i, r, h1, h2, h3, h4⟩ := h.ronly z v hz
      exact ⟨i, r, h1, h2, h3, h4.keep hf (fun g hg => old v r g h4 hg)⟩
  · intro j h1 h2 h3
    by_cases hjj : (j : Int) + 1 = e
    · rw [if_pos hjj]; rfl
    · rw [if_neg hjj]
      exact h.rhas j h1 h2 (by simpa [hjj] using h3)
  · intro z v k v' g hz hk hg hg'
    by_cases hee : z = e
    · rw [if_pos hee] at hz; cases hz
      exact hnew g hg (h.kS k v' g hk hg')
    · rw [if_neg hee] at hz; exact h.cross z v k v' g hz hk hg hg'
  · intro z v g hz hg
    by_cases hee : z = e
    · rw [if_pos hee] at hz; cases hz; simp [hg]
    · rw [if_neg hee] at hz; exact inl g (h.rS z v g hz hg)
  · intro k hk
    rcases List.mem_append.1 hk with hk | hk
    · exact Nat.lt_of_lt_of_le (h.lt k hk) hf.size
    · exact Nat.lt_of_lt_of_le (hl.lt k (Option.mem_toList.1 hk)) hf.size
/-- a key more, in new memory -/
theorem Cp.kput (h : Cp w p S rows hor V lr lk rm km n1 n2 R M) {e : ByteArray} {m1 : Nat} {v1 : Value} (hl : EvAt w v1 (V e)) (hnew : ∀ g, v1.ownBlock = some g → g ∉ S)
    (hf : Fr [km] w w2) (hm : MapG Try.prog 9 strD isSl w2 km m1 (fun z => if z = e then some v1 else M z)) :
    Cp w2 p (S ++ v1.ownBlock.toList) rows hor V lr (fun z => lk z && !decide (z = e)) rm km n1 m1 R (fun z => if z = e then some v1 else M z) := by
  have inl : ∀ k, k ∈ S → k ∈ S ++ v1.ownBlock.toList := fun k hk => List.mem_append.2 (Or.inl hk)
  have old : ∀ v l g, EvAt w v l → v.ownBlock = some g → g ∉ [km] := fun v l g hv hg => by simpa using (h.far hv g hg).2
  refine ⟨hf.keep h.blk (by simpa using h.kp.symm), h.rmap.keep hf (by simpa using h.ne), hm, ?_, h.rhas, ?_, ?_, ?_, ?_, fun k v g hk hg => inl g (h.rS k v g hk hg), ?_, inl _ h.ps, inl _ h.rs, inl _ h.ks, h.ne, ?_⟩
  · intro z v hz
    obtain ⟨i, r, h1, h2, h3, h4⟩ := h.ronly z v hz
    exact ⟨i, r, h1, h2, h3, h4.keep hf (fun g hg => old v r g h4 hg)⟩
  · intro k hk hM
    by_cases hee : k = e
    · rw [if_pos hee] at hM; cases hM
    · rw [if_neg hee] at hM
      exact h.kno k (by simpa [hee] using hk) hM
  · intro k v hk
    by_cases hee : k = e
    · rw [if_pos hee] at hk; cases hk; rw [hee]
      exact hl.keep hf (fun g hg => old _ _ g hl hg)
    · rw [if_neg hee] at hk
      exact (h.kyes k v hk).keep hf (fun g hg => old v _ g (h.kyes k v hk) hg)
  · intro k k' v v' g hk hk' hg hg'
    by_cases h1 : k = e <;> by_cases h2 : k' = e
    · rw [h1, h2]
    · rw [if_pos h1] at hk; rw [if_neg h2] at hk'; cases hk
      exact (hnew g hg (h.kS k' v' g hk' hg')).elim
    · rw [if_neg h1] at hk; rw [if_pos h2] at hk'; cases hk'
      exact (hnew g hg' (h.kS k v g hk hg)).elim
    · rw [if_neg h1] at hk; rw [if_neg h2] at hk'
      exact h.apart _ _ _ _ g hk hk' hg hg'
  · intro z v k v' g hz hk hg hg'
    by_cases hee : k = e
    · rw [if_pos hee] at hk; cases hk
      exact hnew g hg' (h.rS z v g hz hg)
    · rw [if_neg hee] at hk; exact h.cross z v k v' g hz hk hg hg'
  · intro k v g hk hg
    by_cases hee : k = e
    · rw [if_pos hee] at hk; cases hk; simp [hg]
    · rw [if_neg hee] at hk; exact inl g (h.kS k v g hk hg)
  · intro k hk
    rcases List.mem_append.1 hk with hk | hk
    · exact Nat.lt_of_lt_of_le (h.lt k hk) hf.size
    · exact Nat.lt_of_lt_of_le (hl.lt k (Option.mem_toList.1 hk)) hf.size
end
theorem vers_big {rows : List (List Ev)} {hor : Nat} {k : ByteArray} (hk : ¬ k.size ≤ maxLen) : versN rows hor k = [] := by
  cases h : versN rows hor k with
  | nil => rfl
  | cons e r =>
    have h1 : e ∈ versN rows hor k := by rw [h]; simp
    have := vers_key e h1
    exact absurd (by rw [← this]; exact e.wf.1) hk

theorem hist_new_at (w : World) : Calls Try.prog 16 #[] w fun e w' => ∃ p rm km, e = .returned (.pointer (some ⟨p, 0, none⟩)) ∧ w'.heap[p]? = some (.cells #[.int .i64 0, .int .i64 0, .map (some rm), .map (some km)] 77 (0, 0)) ∧ MapG Try.prog 3 intD isSl w' rm 0 (fun _ => none) ∧ MapG Try.prog 9 strD isSl w' km 0 (fun _ => none) ∧ Fr [] w w' ∧ w.heap.size ≤ p ∧ w.heap.size ≤ rm ∧ w.heap.size ≤ km ∧ rm ≠ km := by
  have hmm := @run_makeMap Try.prog
  go_enter Try.func16, Try.ntmps16
  go_wp2
  obtain ⟨b0, b1, b2, hf⟩ := three_boxes (S := []) (w := w) (a := .map #[] 0) (b := .map #[] 0) (c := .cells #[.int .i64 0, .int .i64 0, .map (some w.heap.size), .map (some (w.heap.size + 1))] 77) (by simp) (Fr.refl [] _)
  have m0 : MapG Try.prog 3 intD isSl _ w.heap.size 0 (fun _ => none) := (MapG.made Try.prog 3 intD isSl w).keep (((Fr.refl [] (w.alloc (.map #[] 0))).alloc (.map #[] 0)).alloc (.cells #[.int .i64 0, .int .i64 0, .map (some w.heap.size), .map (some (w.heap.size + 1))] 77)) (by simp)
  have m1 : MapG Try.prog 9 strD isSl _ (w.heap.size + 1) 0 (fun _ => none) := (by
    have := (MapG.made Try.prog 9 strD isSl (w.alloc (.map #[] 0))).keep ((Fr.refl [] ((w.alloc (.map #[] 0)).alloc (.map #[] 0))).alloc (.cells #[.int .i64 0, .int .i64 0, .map (some w.heap.size), .map (some (w.heap.size + 1))] 77)) (by simp)
    simpa using this)
  generalize ((w.alloc (.map #[] 0)).alloc (.map #[] 0)).alloc (.cells #[.int .i64 0, .int .i64 0, .map (some w.heap.size), .map (some (w.heap.size + 1))] 77) = w3 at *
  go_ret
  exact ⟨w.heap.size + 1 + 1, w.heap.size, w.heap.size + 1, rfl, b2, m0, m1, hf, by omega, by omega, by omega, by omega⟩

end Go.Proofs.Ytjclbgeclopheaa
