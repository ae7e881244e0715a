/- PACKAGE hist: how a Hist lies in memory; what stores into it make of that -/
import Derived.Test.YtmipllkgioakoaaGreatMapG
import Derived.Test.YtmipllkgioakoaaGreatHsVer
import Derived.Test.YtmipllkgioakoaaGreatAway
namespace Go.Proofs.YtmipllkgioakoaaGreat
open Go.RowKit Go.Maps
set_option linter.unusedVariables false
set_option linter.unusedSimpArgs false

theorem hint_key : Tryz.prog.underlying 3 = some (.int .i64) := Tryz.underlying3
theorem hstr_key : Tryz.prog.underlying 9 = some .string := Tryz.underlying9
theorem rows_map : Tryz.prog.underlying 68 = some (.map 3 50) := Tryz.underlying68
theorem keys_map : Tryz.prog.underlying 69 = some (.map 9 75) := Tryz.underlying69
theorem zero_evs (w : World) : (zeroValue 50).run Tryz.prog w = .ok (.slice none 0 0) w := by kernel_rfl
theorem zero_vers (w : World) : (zeroValue 75).run Tryz.prog w = .ok (.slice none 0 0) w := by kernel_rfl
theorem KI : KeyT Tryz.prog 3 intD := intT hint_key
theorem KS : KeyT Tryz.prog 9 strD := strT hstr_key
theorem KI_ok {z : Int} (h0 : -1000000000 ≤ z) (h1 : z ≤ 1000000000) : intD.ok z := WalkArith.wf_i64 (by omega)

/-- a Hist at block p, of the blocks S; its maps rm and km have R and M; rows: all revisions' events; hor: the horizon; V: the keys' versions -/
structure HsAt (w : World) (p : Nat) (S : List Nat) (rows : List (List Ev)) (hor : Nat) (V : ByteArray → List Ev) (rm km n1 n2 : Nat) (R : Int → Option Value) (M : ByteArray → Option Value) : Prop where
  blk : w.heap[p]? = some (.cells #[.int .i64 hor, .int .i64 rows.length, .map (some rm), .map (some km)] 73 (0, 0))
  rmap : MapG Tryz.prog 3 intD isSl w rm n1 R
  kmap : MapG Tryz.prog 9 strD isSl w km n2 M
  ronly : ∀ e v, R e = some v → ∃ (i : Nat) (r : List Ev), e = (i : Int) + 1 ∧ hor ≤ i ∧ rows[i]? = some r ∧ EvAt w v r
  rhas : ∀ i : Nat, hor ≤ i → i < rows.length → (R ((i : Int) + 1)).isSome = true
  kno : ∀ k, M k = none → V k = []
  kyes : ∀ k v, M k = some v → EvAt w v (V k)
  apart : ∀ k k' v v' g, M k = some v → M k' = some v' → v.ownBlock = some g → v'.ownBlock = some g → k = k'
  cross : ∀ e v k v' g, R e = some v → M k = some v' → v.ownBlock = some g → v'.ownBlock = some g → False
  rS : ∀ e v g, R e = some v → v.ownBlock = some g → g ∈ S
  kS : ∀ k v g, M k = some v → v.ownBlock = some g → g ∈ S
  ps : p ∈ S
  rs : rm ∈ S
  ks : km ∈ S
  ne : rm ≠ km
  lt : ∀ k ∈ S, k < w.heap.size

section
variable {w w' w2 : World} {p : Nat} {S : List Nat} {rows : List (List Ev)} {hor : Nat} {V : ByteArray → List Ev} {rm km n1 n2 : Nat} {R : Int → Option Value} {M : ByteArray → Option Value}
/-- a row's block holds cells of its type -/
theorem at_tag {v : Value} {l : List Ev} {g : Nat} (h : EvAt w v l) (hg : v.ownBlock = some g) : ∃ cur, w.heap[g]? = some (.cells cur 63 (0, 0)) := by
  rcases h.2 with ⟨rfl, _⟩ | ⟨g', off, cap, cur, rfl, hg', _⟩
  · cases hg
  · cases hg; exact ⟨_, hg'⟩
theorem HsAt.rp (h : HsAt w p S rows hor V rm km n1 n2 R M) : rm ≠ p := by
  rintro rfl; obtain ⟨es, c, hc⟩ := h.rmap.isMap; rw [h.blk] at hc; cases hc
theorem HsAt.kp (h : HsAt w p S rows hor V rm km n1 n2 R M) : km ≠ p := by
  rintro rfl; obtain ⟨es, c, hc⟩ := h.kmap.isMap; rw [h.blk] at hc; cases hc
theorem ev_far (h : HsAt w p S rows hor V rm km n1 n2 R M) {v : Value} {l : List Ev} {g : Nat} (hv : EvAt w v l) (hg : v.ownBlock = some g) : g ≠ p ∧ g ≠ rm ∧ g ≠ km := by
  obtain ⟨cur, hc⟩ := at_tag hv hg
  refine ⟨?_, ?_, ?_⟩
  · rintro rfl; rw [h.blk] at hc; simp at hc
  · rintro rfl; obtain ⟨es, c, hd⟩ := h.rmap.isMap; rw [hd] at hc; cases hc
  · rintro rfl; obtain ⟨es, c, hd⟩ := h.kmap.isMap; rw [hd] at hc; cases hc
theorem HsAt.rfar (h : HsAt w p S rows hor V rm km n1 n2 R M) {e : Int} {v : Value} {g : Nat} (hr : R e = some v) (hg : v.ownBlock = some g) : g ≠ p ∧ g ≠ rm ∧ g ≠ km := by
  obtain ⟨i, r, _, _, _, hv⟩ := h.ronly e v hr; exact ev_far h hv hg
theorem HsAt.kfar (h : HsAt w p S rows hor V rm km n1 n2 R M) {k : ByteArray} {v : Value} {g : Nat} (hr : M k = some v) (hg : v.ownBlock = some g) : g ≠ p ∧ g ≠ rm ∧ g ≠ km := ev_far h (h.kyes k v hr) hg
/-- other blocks change -/
theorem HsAt.keep (h : HsAt w p S rows hor V rm km n1 n2 R M) {T : List Nat} (hf : Fr T w w') (hd : ∀ k ∈ S, k ∉ T) : HsAt w' p S rows hor V rm km n1 n2 R M :=
  ⟨hf.keep h.blk (hd _ h.ps), h.rmap.keep hf (hd _ h.rs), h.kmap.keep hf (hd _ h.ks),
   fun e v he => by obtain ⟨i, r, h1, h2, h3, h4⟩ := h.ronly e v he; exact ⟨i, r, h1, h2, h3, h4.keep hf (fun g hg => hd g (h.rS e v g he hg))⟩,
   h.rhas, h.kno, fun k v hk => (h.kyes k v hk).keep hf (fun g hg => hd g (h.kS k v g hk hg)), h.apart, h.cross, h.rS, h.kS, h.ps, h.rs, h.ks, h.ne,
   fun k hk => Nat.lt_of_lt_of_le (h.lt k hk) hf.size⟩
theorem HsAt.vers (h : HsAt w p S rows hor V rm km n1 n2 R M) {V' : ByteArray → List Ev} (hv : ∀ k, V' k = V k) : HsAt w p S rows hor V' rm km n1 n2 R M :=
  ⟨h.blk, h.rmap, h.kmap, h.ronly, h.rhas, fun k hk => by rw [hv]; exact h.kno k hk, fun k v hk => by rw [hv]; exact h.kyes k v hk, h.apart, h.cross, h.rS, h.kS, h.ps, h.rs, h.ks, h.ne, h.lt⟩
/-- a key's slice -/
theorem HsAt.get (h : HsAt w p S rows hor V rm km n1 n2 R M) (k : ByteArray) : EvAt w ((M k).getD (.slice none 0 0)) (V k) := by
  cases hM : M k with
  | none => rw [h.kno k hM]; exact LAt.nil _
  | some v => exact h.kyes k v hM
theorem HsAt.gfar (h : HsAt w p S rows hor V rm km n1 n2 R M) (k : ByteArray) : ∀ g, ((M k).getD (.slice none 0 0)).ownBlock = some g → (g ≠ p ∧ g ≠ rm ∧ g ≠ km) ∧ g ∈ S ∧ M k = some ((M k).getD (.slice none 0 0)) := by
  intro g hg
  cases hM : M k with
  | none => rw [hM] at hg; cases hg
  | some v => rw [hM] at hg; exact ⟨h.kfar hM hg, h.kS k v g hM hg, rfl⟩
/-- a key has another slice -/
theorem HsAt.kput (h : HsAt w p S rows hor V rm km n1 n2 R M) {key : ByteArray} {v0 v1 : Value} {L : List Ev} {m2 : Nat} (hv0 : v0 = (M key).getD (.slice none 0 0)) (hl : EvAt w2 v1 L) (hnew : ∀ g, v1.ownBlock = some g → v0.ownBlock = some g ∨ w.heap.size ≤ g)
    (hf : Fr (km :: v0.ownBlock.toList) w w2) (hm : MapG Tryz.prog 9 strD isSl w2 km m2 (fun z => if z = key then some v1 else M z)) :
    HsAt w2 p (S ++ v1.ownBlock.toList) rows hor (fun z => if z = key then L else V z) rm km n1 m2 R (fun z => if z = key then some v1 else M z) := by
  subst hv0
  have hfar := h.gfar key
  have inl : ∀ k, k ∈ S → k ∈ S ++ v1.ownBlock.toList := fun k hk => List.mem_append.2 (Or.inl hk)
  have out : ∀ g, g ≠ km → (∀ v, M key = some v → v.ownBlock ≠ some g) → g ∉ km :: ((M key).getD (.slice none 0 0)).ownBlock.toList := by
    intro g h1 h2 hm
    rcases List.mem_cons.1 hm with rfl | hm
    · exact h1 rfl
    · have := Option.mem_toList.1 hm
      exact h2 _ (hfar g this).2.2 this
  have pout := out p h.kp.symm (fun v hv hg => (h.kfar hv hg).1 rfl)
  have rout := out rm h.ne (fun v hv hg => (h.kfar hv hg).2.1 rfl)
  have rowout : ∀ e v g, R e = some v → v.ownBlock = some g → g ∉ km :: ((M key).getD (.slice none 0 0)).ownBlock.toList := fun e v g hr hg =>
    out g (h.rfar hr hg).2.2 (fun v' hv' hg' => h.cross e v key v' g hr hv' hg hg')
  have keyout : ∀ k v g, k ≠ key → M k = some v → v.ownBlock = some g → g ∉ km :: ((M key).getD (.slice none 0 0)).ownBlock.toList := fun k v g hk hr hg =>
    out g (h.kfar hr hg).2.2 (fun v' hv' hg' => hk (h.apart _ _ _ _ g hr hv' hg hg'))
  -- where the new slice lies: in the old one's block, or in a new one
  have new : ∀ g, v1.ownBlock = some g → (M key = some ((M key).getD (.slice none 0 0)) ∧ ((M key).getD (.slice none 0 0)).ownBlock = some g) ∨ w.heap.size ≤ g := fun g hg => by
    rcases hnew g hg with h1 | h1
    · exact Or.inl ⟨(hfar g h1).2.2, h1⟩
    · exact Or.inr h1
  refine ⟨hf.keep h.blk pout, h.rmap.keep hf rout, hm, ?_, h.rhas, ?_, ?_, ?_, ?_, fun e v g he hg => inl g (h.rS e v g he hg), ?_, inl _ h.ps, inl _ h.rs, inl _ h.ks, h.ne, ?_⟩
  · intro e v he
    obtain ⟨i, r, h1, h2, h3, h4⟩ := h.ronly e v he
    exact ⟨i, r, h1, h2, h3, h4.keep hf (fun g hg => rowout e v g he hg)⟩
  · intro k hk
    by_cases hkk : k = key
    · rw [if_pos hkk] at hk; cases hk
    · rw [if_neg hkk] at hk ⊢; exact h.kno k hk
  · intro k v hk
    by_cases hkk : k = key
    · rw [if_pos hkk] at hk ⊢; cases hk; exact hl
    · rw [if_neg hkk] at hk ⊢; exact (h.kyes k v hk).keep hf (fun g hg => keyout k v g hkk hk hg)
  · have one : ∀ k v g, k ≠ key → M k = some v → v.ownBlock = some g → v1.ownBlock = some g → False := by
      intro k v g hkk hk hg hg1
      rcases new g hg1 with ⟨h1, h2⟩ | h1
      · exact hkk (h.apart _ _ _ _ g hk h1 hg h2)
      · have := h.lt g (h.kS k v g hk hg); omega
    intro k k' v v' g hk hk' hg hg'
    by_cases h1 : k = key <;> by_cases h2 : k' = key
    · rw [h1, h2]
    · rw [if_pos h1] at hk; rw [if_neg h2] at hk'; cases hk
      exact (one k' v' g h2 hk' hg' hg).elim
    · rw [if_neg h1] at hk; rw [if_pos h2] at hk'; cases hk'
      exact (one k v g h1 hk hg hg').elim
    · rw [if_neg h1] at hk; rw [if_neg h2] at hk'
      exact h.apart _ _ _ _ g hk hk' hg hg'
  · intro e v k v' g he hk hg hg'
    by_cases hkk : k = key
    · rw [if_pos hkk] at hk; cases hk
      rcases new g hg' with ⟨h1, h2⟩ | h1
      · exact h.cross e v key _ g he h1 hg h2
      · have := h.lt g (h.rS e v g he hg); omega
    · rw [if_neg hkk] at hk; exact h.cross e v k v' g he hk hg hg'
  · intro k v g hk hg
    by_cases hkk : k = key
    · rw [if_pos hkk] at hk; cases hk; simp [hg]
    · rw [if_neg hkk] at hk; exact inl g (h.kS k v g hk hg)
  · intro k hk
    rcases List.mem_append.1 hk with hk | hk
    · exact Nat.lt_of_lt_of_le (h.lt k hk) hf.size
    · exact hl.lt k (Option.mem_toList.1 hk)
/-- a key has none any more -/
theorem HsAt.kdel (h : HsAt w p S rows hor V rm km n1 n2 R M) {key : ByteArray} {m2 : Nat} (hf : Fr [km] w w2) (hm : MapG Tryz.prog 9 strD isSl w2 km m2 (fun z => if z = key then none else M z)) :
    HsAt w2 p S rows hor (fun z => if z = key then [] else V z) rm km n1 m2 R (fun z => if z = key then none else M z) := by
  have sub : ∀ k v, (if k = key then none else M k) = some v → k ≠ key ∧ M k = some v := fun k v hk => by
    by_cases hkk : k = key
    · rw [if_pos hkk] at hk; cases hk
    · rw [if_neg hkk] at hk; exact ⟨hkk, hk⟩
  refine ⟨hf.keep h.blk (by simpa using h.kp.symm), h.rmap.keep hf (by simpa using h.ne), hm, ?_, h.rhas, ?_, ?_, ?_, ?_, h.rS, ?_, h.ps, h.rs, h.ks, h.ne, fun k hk => Nat.lt_of_lt_of_le (h.lt k hk) hf.size⟩
  · intro e v he
    obtain ⟨i, r, h1, h2, h3, h4⟩ := h.ronly e v he
    exact ⟨i, r, h1, h2, h3, h4.keep hf (fun g hg => by simpa using (h.rfar he hg).2.2)⟩
  · intro k hk
    by_cases hkk : k = key
    · rw [if_pos hkk]
    · rw [if_neg hkk] at hk ⊢; exact h.kno k hk
  · intro k v hk
    obtain ⟨h1, h2⟩ := sub k v hk
    rw [if_neg h1]
    exact (h.kyes k v h2).keep hf (fun g hg => by simpa using (h.kfar h2 hg).2.2)
  · intro k k' v v' g hk hk' hg hg'
    exact h.apart _ _ _ _ g (sub k v hk).2 (sub k' v' hk').2 hg hg'
  · intro e v k v' g he hk hg hg'
    exact h.cross e v k v' g he (sub k v' hk).2 hg hg'
  · intro k v g hk hg
    exact h.kS k v g (sub k v hk).2 hg
/-- a revision more -/
theorem HsAt.rput (h : HsAt w p S rows hor V rm km n1 n2 R M) {v1 : Value} {row : List Ev} {m1 : Nat} (hl : EvAt w2 v1 row) (hnew : ∀ g, v1.ownBlock = some g → g ∉ S) (hf : Fr [p, rm] w w2) (hh : hor ≤ rows.length)
    (hb : w2.heap[p]? = some (.cells #[.int .i64 hor, .int .i64 ((rows.length : Int) + 1), .map (some rm), .map (some km)] 73 (0, 0)))
    (hm : MapG Tryz.prog 3 intD isSl w2 rm m1 (fun z => if z = (rows.length : Int) + 1 then some v1 else R z)) :
    HsAt w2 p (S ++ v1.ownBlock.toList) (rows ++ [row]) hor V rm km m1 n2 (fun z => if z = (rows.length : Int) + 1 then some v1 else R z) M := by
  have inl : ∀ k, k ∈ S → k ∈ S ++ v1.ownBlock.toList := fun k hk => List.mem_append.2 (Or.inl hk)
  have old : ∀ v l g, EvAt w v l → v.ownBlock = some g → g ∉ [p, rm] := fun v l g hv hg => by
    have := ev_far h hv hg
    simp [this.1, this.2.1]
  refine ⟨by rw [hb]; simp, hm, h.kmap.keep hf (by simp [h.kp, h.ne.symm]), ?_, ?_, h.kno, fun k v hk => (h.kyes k v hk).keep hf (fun g hg => old v _ g (h.kyes k v hk) hg), h.apart, ?_, ?_, fun k v g hk hg => inl g (h.kS k v g hk hg), inl _ h.ps, inl _ h.rs, inl _ h.ks, h.ne, ?_⟩
  · intro e v he
    by_cases hee : e = (rows.length : Int) + 1
    · rw [if_pos hee] at he; cases he
      exact ⟨rows.length, row, hee, hh, by simp, hl⟩
    · rw [if_neg hee] at he
      obtain ⟨i, r, h1, h2, h3, h4⟩ := h.ronly e v he
      exact ⟨i, r, h1, h2, by rw [List.getElem?_append_left (List.getElem?_eq_some_iff.1 h3).1]; exact h3, h4.keep hf (fun g hg => old v r g h4 hg)⟩
  · intro i h1 h2
    by_cases hii : (i : Int) + 1 = (rows.length : Int) + 1
    · rw [if_pos hii]; rfl
    · rw [if_neg hii]
      refine h.rhas i h1 ?_
      simp at h2; omega
  · intro e v k v' g he hk hg hg'
    by_cases hee : e = (rows.length : Int) + 1
    · rw [if_pos hee] at he; cases he
      exact hnew g hg (h.kS k v' g hk hg')
    · rw [if_neg hee] at he; exact h.cross e v k v' g he hk hg hg'
  · intro e v g he hg
    by_cases hee : e = (rows.length : Int) + 1
    · rw [if_pos hee] at he; cases he; simp [hg]
    · rw [if_neg hee] at he; exact inl g (h.rS e v g he hg)
  · intro k hk
    rcases List.mem_append.1 hk with hk | hk
    · exact Nat.lt_of_lt_of_le (h.lt k hk) hf.size
    · exact hl.lt k (Option.mem_toList.1 hk)
/-- the horizon is one higher -/
theorem HsAt.rdel (h : HsAt w p S rows hor V rm km n1 n2 R M) {m1 : Nat} (hf : Fr [p, rm] w w2)
    (hb : w2.heap[p]? = some (.cells #[.int .i64 ((hor : Int) + 1), .int .i64 rows.length, .map (some rm), .map (some km)] 73 (0, 0)))
    (hm : MapG Tryz.prog 3 intD isSl w2 rm m1 (fun z => if z = (hor : Int) + 1 then none else R z)) :
    HsAt w2 p S rows (hor + 1) V rm km m1 n2 (fun z => if z = (hor : Int) + 1 then none else R z) M := by
  have old : ∀ v l g, EvAt w v l → v.ownBlock = some g → g ∉ [p, rm] := fun v l g hv hg => by
    have := ev_far h hv hg
    simp [this.1, this.2.1]
  have sub : ∀ e v, (if e = (hor : Int) + 1 then none else R e) = some v → e ≠ (hor : Int) + 1 ∧ R e = some v := fun e v he => by
    by_cases hee : e = (hor : Int) + 1
    · rw [if_pos hee] at he; cases he
    · rw [if_neg hee] at he; exact ⟨hee, he⟩
  refine ⟨by rw [hb]; simp, hm, h.kmap.keep hf (by simp [h.kp, h.ne.symm]), ?_, ?_, h.kno, fun k v hk => (h.kyes k v hk).keep hf (fun g hg => old v _ g (h.kyes k v hk) hg), h.apart, ?_, ?_, h.kS, h.ps, h.rs, h.ks, h.ne, fun k hk => Nat.lt_of_lt_of_le (h.lt k hk) hf.size⟩
  · intro e v he
    obtain ⟨g1, g2⟩ := sub e v he
    obtain ⟨i, r, h1, h2, h3, h4⟩ := h.ronly e v g2
    exact ⟨i, r, h1, by omega, h3, h4.keep hf (fun g hg => old v r g h4 hg)⟩
  · intro i h1 h2
    rw [if_neg (by omega)]
    exact h.rhas i (by omega) h2
  · intro e v k v' g he hk hg hg'
    exact h.cross e v k v' g (sub e v he).2 hk hg hg'
  · intro e v g he hg
    exact h.rS e v g (sub e v he).2 hg
end

/-- a Hist at block p, of the blocks S, that has H -/
def Hs (w : World) (p : Nat) (S : List Nat) (H : HA) : Prop :=
  HWf H.rows ∧ ∃ rm km n1 n2 R M, n1 ≤ H.rows.length ∧ n2 ≤ H.rows.flatten.length + (H.rows.take H.hor).flatten.length ∧ HsAt w p S H.rows H.hor (versN H.rows H.hor) rm km n1 n2 R M
theorem Hs.lt {w : World} {p : Nat} {S : List Nat} {H : HA} (h : Hs w p S H) : ∀ k ∈ S, k < w.heap.size := by
  obtain ⟨_, rm, km, n1, n2, R, M, _, _, h⟩ := h; exact h.lt
theorem Hs.keep {w w' : World} {p : Nat} {S T : List Nat} {H : HA} (h : Hs w p S H) (hf : Fr T w w') (hd : ∀ k ∈ S, k ∉ T) : Hs w' p S H := by
  obtain ⟨hw, rm, km, n1, n2, R, M, b1, b2, h⟩ := h; exact ⟨hw, rm, km, n1, n2, R, M, b1, b2, h.keep hf hd⟩
end Go.Proofs.YtmipllkgioakoaaGreat
