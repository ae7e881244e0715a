/- PACKAGE epoch: contract of Free -/
import Derived.Test.YtphniphlflijeaaEpochPast
namespace Go.Proofs.Ytphniphlflijeaa
open Go.RowKit Go.Maps
set_option linter.unusedVariables false
set_option linter.unusedSimpArgs false

def PA.freed (A : PA) : List Int := (A.row.filter (fun x => decide (x.2 + 2 ≤ A.ep))).map (·.1)
def PA.free (A : PA) : PA := { A with row := A.row.filter (fun x => !decide (x.2 + 2 ≤ A.ep)) }
/-- what Free leaves -/
def FreedIs (w : World) (p : Nat) (S : List Nat) (A : PA) (e : Ending) (w' : World) : Prop :=
  ∃ v : Value, e = .returned v ∧ Lies w' 33 1 v A.freed.length (A.freed.map (Value.int .u64)) ∧ (∀ k, v.ownBlock = some k → w.heap.size ≤ k) ∧ Pool w' p S A.free ∧ Fr S w w'

/-- the loop of Free -/
structure Frees (w1 wr : World) (m : Nat) (A : PA) (M : Int → Option Value) (L : List Int) (j : Nat) (v : Value) : Prop where
  map : MapIs Try.prog 3 wr m A.cnt (fun z => if z ∈ L.take j then none else M z)
  own : Lies wr 33 1 v ((L.take j).flatMap (atE A.row)).length (((L.take j).flatMap (atE A.row)).map (Value.int .u64))
  new : ∀ k, v.ownBlock = some k → w1.heap.size ≤ k
  fr : Fr [m] w1 wr

theorem Frees.step {w1 wr w2 w3 : World} {m : Nat} {A : PA} {M : Int → Option Value} {L : List Int} {j : Nat} {v v2 : Value} (h : Frees w1 wr m A M L j v) (hm : m < w1.heap.size) {e : Int} (he : L[j]? = some e)
    (ho : Lies w2 33 1 v2 (((L.take j).flatMap (atE A.row)).length + (atE A.row e).length) (((L.take j).flatMap (atE A.row)).map (Value.int .u64) ++ (atE A.row e).map (Value.int .u64))) (hf2 : Fr v.ownBlock.toList wr w2)
    (hn : ∀ k, v2.ownBlock = some k → v.ownBlock = some k ∨ k = wr.heap.size)
    (hm3 : MapIs Try.prog 3 w3 m A.cnt (fun z => if z = e then none else if z ∈ L.take j then none else M z)) (hf3 : Fr [m] w2 w3) : Frees w1 w3 m A M L (j + 1) v2 := by
  have htake : L.take (j + 1) = L.take j ++ [e] := by
    rw [List.take_add_one, he]; rfl
  have hsz := h.fr.size
  have hnew : ∀ k, v2.ownBlock = some k → w1.heap.size ≤ k := by
    intro k hk
    rcases hn k hk with h' | h'
    · exact h.new k h'
    · omega
  refine ⟨?_, ?_, hnew, ((h.fr.trans (hf2.mono (T := m :: v.ownBlock.toList) (fun k hk => Or.inl (by simp [hk]))) ?_).trans hf3 (by simp))⟩
  · have : (fun z => if z ∈ L.take (j + 1) then none else M z) = (fun z => if z = e then none else if z ∈ L.take j then none else M z) := by
      funext z
      rw [htake]
      by_cases h1 : z = e <;> by_cases h2 : z ∈ L.take j <;> simp [h1, h2]
    rw [this]; exact hm3
  · rw [htake, List.flatMap_append]
    simp only [List.flatMap_cons, List.flatMap_nil, List.append_nil, List.length_append, List.map_append]
    exact ho.keep hf3 (by intro k hk; have := hnew k hk; simp; omega)
  · intro k hk
    simp only [List.mem_cons, Option.mem_toList] at hk
    rcases hk with rfl | hk
    · exact Or.inl (by simp)
    · exact Or.inr (h.new k hk)

theorem Frees.done {w w1 wr : World} {p : Nat} {S : List Nat} {A : PA} {tb m : Nat} {M : Int → Option Value} {L : List Int} {v : Value} (hp : PoolAt w p S A tb m M) (hA : RowOk A) (hf0 : Fr [] w w1) (hL : L.Pairwise (· < ·)) (hmem : ∀ z, z ∈ L ↔ (∃ x ∈ A.row, x.2 = z) ∧ z + 2 ≤ A.ep)
    (h : Frees w1 wr m A M L L.length v) : FreedIs w p S A (.returned v) wr := by
  have htake : L.take L.length = L := List.take_length
  have hflat : L.flatMap (atE A.row) = A.freed := by
    rw [flat_sorted A.row hA.sorted L hL, PA.freed]
    congr 1
    apply List.filter_congr
    intro x hx
    rw [decide_eq_decide, hmem]
    exact ⟨fun h => h.2, fun h => ⟨⟨x, hx, rfl⟩, h⟩⟩
  have hf : Fr [m] w wr := (hf0.mono (by simp)).trans h.fr (by simp)
  have hsz := hf0.size
  have hmap := h.map
  have hown := h.own
  rw [htake] at hmap
  rw [htake, hflat] at hown
  have hat : ∀ e, atE (A.free).row e = if e + 2 ≤ A.ep then [] else atE A.row e := by
    intro e
    unfold atE PA.free
    simp only [List.filter_filter]
    split
    · rename_i h1
      rw [List.map_eq_nil_iff, List.filter_eq_nil_iff]
      intro x hx
      simp only [Bool.and_eq_true, decide_eq_true_eq, Bool.not_eq_true', decide_eq_false_iff_not, not_and, Classical.not_not]
      intro h2; omega
    · rename_i h1
      congr 1
      apply List.filter_congr
      intro x hx
      by_cases h2 : x.2 = e
      · subst h2; simp [h1]
      · simp [h2]
  refine ⟨v, rfl, hown, fun k hk => by have := h.new k hk; omega, ⟨tb, m, _, ⟨?_, ?_, hmap, ⟨?_, ?_, ?_, ?_⟩, hp.ps, hp.ts, hp.ms, ?_⟩⟩, hf.mono (fun k hk => by simp at hk; subst hk; exact Or.inl hp.ms)⟩
  · exact hf.keep hp.blk (by simpa using fun e => hp.mp e.symm)
  · exact hp.thr.keep hf (by intro k hk; cases hk; simpa using fun e => hp.mtb e.symm)
  · intro e he
    try dsimp only at he
    rw [hat]
    split
    · rfl
    · rename_i h1
      rw [if_neg (fun hm => h1 ((hmem e).1 hm).2)] at he
      exact hp.rows.no e he
  · intro e v he
    try dsimp only at he
    by_cases hm : e ∈ L
    · rw [if_pos hm] at he; cases he
    · rw [if_neg hm] at he
      obtain ⟨h1, h2⟩ := hp.rows.yes e v he
      have hne : ¬ e + 2 ≤ A.ep := fun hle => hm ((hmem e).2 ⟨mem_atE.1 h1, hle⟩)
      rw [hat, if_neg hne]
      exact ⟨h1, h2.keep hf (by intro k hk; simpa using (hp.far e v k he hk).2.2)⟩
  · intro e e' v v' k he he' hk hk'
    try dsimp only at he he'
    by_cases hm : e ∈ L
    · rw [if_pos hm] at he; cases he
    · by_cases hm' : e' ∈ L
      · rw [if_pos hm'] at he'; cases he'
      · rw [if_neg hm] at he; rw [if_neg hm'] at he'
        exact hp.rows.apart _ _ _ _ k he he' hk hk'
  · intro e v k he hk
    try dsimp only at he
    by_cases hm : e ∈ L
    · rw [if_pos hm] at he; cases he
    · rw [if_neg hm] at he; exact hp.rows.inS e v k he hk
  · obtain ⟨es, c, hc⟩ := hmap.isMap
    exact tag_frame hp.tag hf ⟨_, hc, trivial⟩

set_option maxHeartbeats 4000000 in
theorem epoch_free (w : World) (p : Nat) {S A} (hp : Pool w p S A) (hA : RowOk A) :
    Calls Try.prog 16 #[.pointer (some ⟨p, 0, none⟩)] w (FreedIs w p S A) := by
  have HP := Lib.hid (epoch_past w p hp hA)
  obtain ⟨tb, m, M, h⟩ := hp
  have H := Lib.hid h
  have HA := Lib.hid hA
  have hmlt := h.map.lt
  have hplt := lt_of_block h.blk
  have hrl := hA.len
  obtain ⟨c0, c1, c2, _⟩ := cells3 h.blk
  have hmp := h.mp
  have hpm : ¬ p = m := fun e => hmp e.symm
  have HPM := Lib.hid hpm
  clear h hA
  go_enter Try.func16, Try.ntmps16
  go_wp2_with (go_at_call 27; refine HP.out.mono ?_; rintro e w1 ⟨lv, L, rfl, hl, hnew, hf, hsort, hmem⟩; refine go_stop ?_)
  obtain ⟨ls, lc, rfl, hlc, _⟩ := hl.form
  have hsz := hf.size
  have HL := Lib.hid hl
  have HNEW := Lib.hid hnew
  have HF := Lib.hid hf
  have HSORT := Lib.hid hsort
  have HMEM := Lib.hid hmem
  have h2 := H.out.keep hf (by simp)
  have H2 := Lib.hid h2
  have hLlen : L.length ≤ 100000 := by
    by_cases hL0 : L.length = 0
    · omega
    · have h1 : ∀ (l : List Int), l.Pairwise (· < ·) → ∀ a b : Int, (∀ z ∈ l, a ≤ z ∧ z ≤ b) → a ≤ b + 1 → (l.length : Int) ≤ b - a + 1 := by
        intro l
        induction l with
        | nil => intro _ a b _ h; simp; omega
        | cons x r ih =>
          intro hp a b hz hab
          obtain ⟨hx, hr⟩ := List.pairwise_cons.1 hp
          have hxz := hz x (by simp)
          have := ih hr (x + 1) b (fun z hz' => ⟨by have := hx z hz'; omega, (hz z (by simp [hz'])).2⟩) (by omega)
          simp only [List.length_cons]; push_cast; omega
      have := h1 L hsort 0 (A.ep - 2) (fun z hz => by obtain ⟨⟨x, hx, rfl⟩, h3⟩ := (hmem z).1 hz; have := HA.out.row x hx; omega) (by
        obtain ⟨z, hz⟩ := List.exists_mem_of_length_pos (l := L) (by omega)
        obtain ⟨⟨x, hx, rfl⟩, h3⟩ := (hmem z).1 hz; have := HA.out.row x hx; omega)
      have := HA.out.ep1
      omega
  clear hl hnew hf hsort hmem h2
  unfold Stop
  go_wp2_with fail
  go_loopw [3, 11] (fun v i wr => ∃ (j : Nat), i = .int .i64 j ∧ j ≤ L.length ∧ Frees w1 wr m A M L j v) (fun _ i _ => L.length - (intOf i).toNat)
  case atStart => exact ⟨0, rfl, Nat.zero_le _, by simpa using H2.out.map, Lies.nil _ _ _, (by intro k hk; cases hk), Fr.refl _ _⟩
  case round =>
    obtain ⟨j, rfl, hj, hF⟩ := hrel
    have d2 := (HF.out.cell c2 (by simp))
    have e2 := hF.fr.cell d2 (by simpa using HPM.out)
    have HFR := Lib.hid hF
    clear hF
    by_cases hlt : j < L.length
    · obtain ⟨e, he⟩ : ∃ e, L[j]? = some e := ⟨_, List.getElem?_eq_getElem hlt⟩
      have hel := List.mem_of_getElem? he
      obtain ⟨hrowe, hle⟩ := (HMEM.out e).1 hel
      obtain ⟨x, hx, hxe⟩ := hrowe
      have hwf : (Lit.int .i64 e).wf = true := by rw [← hxe]; exact HA.out.wf hx
      have hMs := (H.out.rows.has e).2 ⟨x, hx, hxe⟩
      obtain ⟨u, hu⟩ := Option.isSome_iff_exists.1 hMs
      obtain ⟨lg, lo, lc', hv, hlg, _, hcells⟩ := HL.out.here (by omega)
      cases hv
      obtain ⟨k0, _⟩ := hcells j (by omega)
      rw [List.getElem?_map, he] at k0
      have hlgm : ¬ lg = m := by have := HNEW.out lg rfl; omega
      have k1 := HFR.out.fr.cell k0 (by simpa using hlgm)
      try simp only [Option.map_some] at k1
      have hnin : ¬ e ∈ L.take j := by
        intro hm
        obtain ⟨i, hi⟩ := List.getElem?_of_mem hm
        rw [List.getElem?_take] at hi
        split at hi
        · rename_i hij
          have hnd := HSORT.out
          rw [List.pairwise_iff_getElem] at hnd
          have h3 := (List.getElem?_eq_some_iff.1 hi)
          have h4 := (List.getElem?_eq_some_iff.1 he)
          obtain ⟨i1, i2⟩ := h3
          obtain ⟨j1, j2⟩ := h4
          have := hnd i j i1 j1 hij
          omega
        · cases hi
      have hlu : Lies wr 33 1 u (atE A.row e).length ((atE A.row e).map (Value.int .u64)) := (H2.out.rows.yes e u hu).2.keep HFR.out.fr (by intro k hk; simpa using (H2.out.far e u k hu hk).2.2)
      have htot : ((L.take j).flatMap (atE A.row)).length + (atE A.row e).length ≤ 100000 := by
        have h3 := flat_len A.row HA.out.sorted (L.take (j + 1)) (HSORT.out.sublist (List.take_sublist _ _))
        rw [List.take_add_one, he] at h3
        simp only [Option.toList_some, List.flatMap_append, List.flatMap_cons, List.flatMap_nil, List.append_nil, List.length_append] at h3
        omega
      have t1 : decide ((j : Int) < L.length) = true := by simpa using hlt
      have HE := Lib.hid he
      have HU := Lib.hid hu
      have HNI := Lib.hid hnin
      have HLU := Lib.hid hlu
      have HWF := Lib.hid hwf
      have HTOT := Lib.hid htot
      have hformv := HFR.out.own.form
      clear he hu hMs hnin hlu hcells k0 hx hxe hel htot hwf
      go_wp2_with (at_lookup; refine go_stop ?_)
      unfold Stop
      refine wpList_look_map rfl _ _ 50 rfl 3 39 int_key pool_map (zero_u64s _) m A.cnt _ rfl HFR.out.map e rfl HWF.out ?lk
      case lk =>
      intro ve hve
      rw [if_neg HNI.out, HU.out] at hve
      obtain rfl : ve = u := hve
      go_wp2_with (at_builtin; refine go_stop ?_)
      unfold Stop
      refine wpList_append_any rfl (.tmp 15) (.tmp 21) 39 33 (.int .u64 0) 1 8 rfl u64_slice u64_info rfl (by decide) _ _ _ rfl HFR.out.own _ _ _ rfl HLU.out (one_ints .u64 (fun (x : Int) => x) _) (by have := HTOT.out; unfold maxLen; omega) (by have := HTOT.out; omega) ?app
      case app =>
      intro v2 w2 ho2 hf2 hn2
      have hvm : m ∉ Option.toList (Value.ownBlock _) := fun hk => by have := HFR.out.new m (by simpa using hk); omega
      have hvp : p ∉ Option.toList (Value.ownBlock _) := fun hk => by have := HFR.out.new p (by simpa using hk); omega
      have e2' := hf2.cell e2 hvp
      have HM2 := Lib.hid (HFR.out.map.keep hf2 hvm)
      have HO2 := Lib.hid ho2
      have HF2 := Lib.hid hf2
      have HN2 := Lib.hid hn2
      clear ho2 hf2 hn2 hvm hvp
      go_wp2_with (at_delete; refine go_stop ?_)
      unfold Stop
      refine wpList_delete_map rfl _ _ 50 3 rfl 39 int_key pool_map m A.cnt _ rfl HM2.out e rfl HWF.out ?del
      case del =>
      intro w3 hm3 hf3
      have HS := Lib.hid (HFR.out.step (by omega) HE.out HO2.out HF2.out HN2.out hm3 hf3)
      clear hm3 hf3
      go_wp2
      go_roundw
      case rel => exact ⟨j + 1, by go_num, by omega, HS.out⟩
      case measure => simp [intOf]; omega
    · obtain rfl : j = L.length := by omega
      have HD := Lib.hid (HFR.out.done H.out HA.out HF.out HSORT.out HMEM.out)
      go_wp2
      go_ret
      exact HD.out
theorem epoch_free_nil (w : World) : Calls Try.prog 16 #[.pointer none] w fun e w' => e = .returned (.slice none 0 0) ∧ w = w' := by
  go_enter Try.func16, Try.ntmps16
  go_wp2
  go_ret
  exact ⟨rfl, rfl⟩
end Go.Proofs.Ytphniphlflijeaa
