/- PACKAGE epoch: contract of Retire -/
import Derived.Test.YtphniphlflijeaaEpoch
namespace Go.Proofs.Ytphniphlflijeaa
open Go.RowKit
set_option linter.unusedVariables false
set_option linter.unusedSimpArgs false

theorem u64_slice : Try.prog.underlying 39 = some (.slice 33) := Try.underlying39
theorem u64_info : (Try.prog.info? 33).map (fun i => (i.zero, i.size, i.bytes)) = some (some (.int .u64 0), 1, 8) := by kernel_rfl
theorem pool_map : Try.prog.underlying 50 = some (.map 3 39) := Try.underlying50
theorem int_key : Try.prog.underlying 3 = some (.int .i64) := Try.underlying3
theorem zero_u64s (w : World) : (zeroValue 39).run Try.prog w = .ok (.slice none 0 0) w := by kernel_rfl

def PA.retire (A : PA) (x : Int) : PA := { A with row := A.row ++ [(x, A.ep)], cnt := A.cnt + 1 }

theorem atE_snoc (row : List (Int × Int)) (x e z : Int) : atE (row ++ [(x, e)]) z = atE row z ++ (if z = e then [x] else []) := by
  unfold atE
  rw [List.filter_append, List.map_append]
  congr 1
  by_cases h : z = e
  · subst h; simp
  · rw [if_neg h, List.filter_cons_of_neg (by simpa using fun h' => h h'.symm)]; rfl

theorem int_wf {z : Int} (h0 : -1000000000 ≤ z) (h1 : z ≤ 1000000000) : (Lit.int .i64 z).wf = true := WalkArith.wf_i64 (by omega)

theorem epoch_retire_nil (w : World) (x : Int) : Calls Try.prog 18 #[.pointer none, .int .u64 x] w fun e w' => e = .returned (.tuple #[]) ∧ w = w' := by
  go_enter Try.func18, Try.ntmps18
  go_wp2
  refine bodyPost_ret (v := .tuple #[]) (by simp [results, Try.results18, go_sem, *]) rfl ?_
  exact ⟨rfl, rfl⟩

/-- behind the append and the store -/
theorem PoolAt.retired {w w0 w1 w2 : World} {p : Nat} {S : List Nat} {A : PA} {tb m : Nat} {M : Int → Option Value} (h : PoolAt w p S A tb m M) (x : Int) {v0 v1 : Value} {n : Nat} (hn : n = (atE A.row A.ep).length) (hv0 : v0 = (M A.ep).getD (.slice none 0 0)) (hf0 : Fr [] w w0)
    (hl : Lies w1 33 1 v1 (n + 1) ((atE A.row A.ep).map (Value.int .u64) ++ [.int .u64 x])) (hf1 : Fr v0.ownBlock.toList w0 w1) (hnew : ∀ k, v1.ownBlock = some k → v0.ownBlock = some k ∨ k = w0.heap.size)
    (hm : MapIs Try.prog 3 w2 m (A.cnt + 1) (fun z => if z = A.ep then some v1 else M z)) (hf2 : Fr [m] w1 w2) : PoolOut w p S (A.retire x) w2 := by
  subst hn
  have hown : ∀ k, v0.ownBlock = some k → M A.ep = some v0 := by
    intro k hk
    cases hM : M A.ep with
    | none => rw [hM] at hv0; subst hv0; cases hk
    | some u => rw [hM] at hv0; subst hv0; rfl
  have hlen : ((atE A.row A.ep).map (Value.int .u64) ++ [Value.int .u64 x]).length = (atE A.row A.ep).length + 1 := by simp
  have hf01 : Fr v0.ownBlock.toList w w1 := (hf0.mono (T := v0.ownBlock.toList) (by simp)).trans hf1 (fun k hk => Or.inl hk)
  have hf : Fr (m :: v0.ownBlock.toList) w w2 := (hf01.mono (fun k hk => Or.inl (by simp [hk]))).trans hf2 (by simp)
  have v0S : ∀ k, v0.ownBlock = some k → k ∈ S ∧ k ≠ p ∧ k ≠ tb ∧ k ≠ m := fun k hk => ⟨h.rows.inS _ _ k (hown k hk) hk, h.far _ _ k (hown k hk) hk⟩
  have v1lt : ∀ k, v1.ownBlock = some k → k ∈ S ∧ v0.ownBlock = some k ∨ w.heap.size ≤ k := by
    intro k hk
    rcases hnew k hk with h' | h'
    · exact Or.inl ⟨(v0S k h').1, h'⟩
    · have := hf0.size; right; omega
  have hSlt : ∀ k ∈ S, k < w.heap.size := fun k hk => by obtain ⟨o, h1, _⟩ := h.tag k hk; exact lt_of_block h1
  have hv1m : ∀ k, v1.ownBlock = some k → k ≠ m := by
    intro k hk
    rcases v1lt k hk with ⟨_, h'⟩ | h'
    · exact (v0S k h').2.2.2
    · have := hSlt m h.ms; omega
  have hl2 := hl.keep hf2 (by intro k hk; simpa using hv1m k hk)
  have hin : ∀ k, k ∈ S → v0.ownBlock ≠ some k → k ∈ S.filter (fun k => decide (v0.ownBlock ≠ some k)) ++ v1.ownBlock.toList := by
    intro k h1 h2; rw [List.mem_append, List.mem_filter]; exact Or.inl ⟨h1, by simpa using h2⟩
  refine ⟨S.filter (fun k => decide (v0.ownBlock ≠ some k)) ++ v1.ownBlock.toList, ⟨tb, m, (fun z => if z = A.ep then some v1 else M z), ?_⟩, hf.mono (fun k hk => ?_), fun k hk => ?_⟩
  · refine ⟨hf.keep h.blk ?_, h.thr.keep hf ?_, hm, ⟨?_, ?_, ?_, ?_⟩, hin _ h.ps (fun e => (v0S _ e).2.1 rfl), hin _ h.ts (fun e => (v0S _ e).2.2.1 rfl), hin _ h.ms (fun e => (v0S _ e).2.2.2 rfl), ?_⟩
    · simp only [List.mem_cons, Option.mem_toList, not_or]
      exact ⟨fun e => h.mp e.symm, fun e => (v0S _ e).2.1 rfl⟩
    · intro k hk; cases hk
      simp only [List.mem_cons, Option.mem_toList, not_or]
      exact ⟨fun e => h.mtb e.symm, fun e => (v0S _ e).2.2.1 rfl⟩
    · intro e he
      try dsimp only at he
      by_cases h0 : e = A.ep
      · rw [if_pos h0] at he; cases he
      · rw [if_neg h0] at he
        simp only [PA.retire, atE_snoc, if_neg h0, List.append_nil]
        exact h.rows.no e he
    · intro e v he
      try dsimp only at he
      by_cases h0 : e = A.ep
      · rw [if_pos h0] at he; cases he; subst h0
        simp only [PA.retire, atE_snoc, if_pos]
        refine ⟨by simp, ?_⟩
        simpa using hl2
      · rw [if_neg h0] at he
        simp only [PA.retire, atE_snoc, if_neg h0, List.append_nil]
        refine ⟨(h.rows.yes e v he).1, (h.rows.yes e v he).2.keep hf ?_⟩
        intro k hk
        simp only [List.mem_cons, Option.mem_toList, not_or]
        exact ⟨(h.far e v k he hk).2.2, fun e' => h0 (h.rows.apart _ _ _ _ k he (hown k e') hk e')⟩
    · have key : ∀ e v k, e ≠ A.ep → M e = some v → v.ownBlock = some k → v1.ownBlock = some k → False := by
        intro e v k he hv hk hk1
        rcases v1lt k hk1 with ⟨_, h'⟩ | h'
        · exact he (h.rows.apart _ _ _ _ k hv (hown k h') hk h')
        · have := hSlt k (h.rows.inS e v k hv hk); omega
      intro e e' v v' k he he' hk hk'
      try dsimp only at he he'
      by_cases h0 : e = A.ep <;> by_cases h1 : e' = A.ep
      · rw [h0, h1]
      · rw [if_pos h0] at he; rw [if_neg h1] at he'; cases he
        exact (key e' v' k h1 he' hk' hk).elim
      · rw [if_neg h0] at he; rw [if_pos h1] at he'; cases he'
        exact (key e v k h0 he hk hk').elim
      · rw [if_neg h0] at he; rw [if_neg h1] at he'
        exact h.rows.apart _ _ _ _ k he he' hk hk'
    · intro e v k he hk
      try dsimp only at he
      by_cases h0 : e = A.ep
      · rw [if_pos h0] at he; cases he; simp [hk]
      · rw [if_neg h0] at he; exact hin _ (h.rows.inS e v k he hk) (fun e' => h0 (h.rows.apart _ _ _ _ k he (hown k e') hk e'))
    · intro k hk
      by_cases hkv : v1.ownBlock = some k
      · obtain ⟨cur, hc⟩ := lies_tag hl2 hkv
        exact ⟨_, hc, Or.inr (Or.inr rfl)⟩
      · have hkS : k ∈ S ∧ v0.ownBlock ≠ some k := by
          rw [List.mem_append, List.mem_filter] at hk
          rcases hk with hk | hk
          · exact ⟨hk.1, by simpa using hk.2⟩
          · exact (hkv (by simpa using hk)).elim
        by_cases hkm : k = m
        · subst hkm
          obtain ⟨es, c, hc⟩ := hm.isMap
          exact ⟨_, hc, trivial⟩
        · obtain ⟨o, h1, h2⟩ := h.tag k hkS.1
          exact ⟨o, hf.keep h1 (by simp only [List.mem_cons, Option.mem_toList, not_or]; exact ⟨hkm, hkS.2⟩), h2⟩
  · simp only [List.mem_cons, Option.mem_toList] at hk
    rcases hk with rfl | hk
    · exact Or.inl h.ms
    · exact Or.inl (v0S k hk).1
  · simp only [List.mem_append, Option.mem_toList] at hk
    rcases hk with hk | hk
    · exact Or.inl (List.mem_filter.1 hk).1
    · rcases v1lt k hk with h' | h'
      · exact Or.inl h'.1
      · exact Or.inr h'

theorem epoch_retire (w : World) (p : Nat) (x : Int) {S A} (hp : Pool w p S A) (he0 : 0 ≤ A.ep) (he1 : A.ep ≤ 100000) (hrow : A.row.length ≤ 100000) (hcnt : A.cnt ≤ 100000) :
    Calls Try.prog 18 #[.pointer (some ⟨p, 0, none⟩), .int .u64 x] w fun e w' => e = .returned (.tuple #[]) ∧ PoolOut w p S (A.retire x) w' := by
  obtain ⟨tb, m, M, h⟩ := hp
  obtain ⟨c0, c1, c2, _⟩ := cells3 h.blk
  have H := Lib.hid h
  have hwf := int_wf (z := A.ep) (by omega) (by omega)
  obtain ⟨v0, hv0⟩ : ∃ v0, v0 = (M A.ep).getD (.slice none 0 0) := ⟨_, rfl⟩
  obtain ⟨n, hn⟩ : ∃ n, n = (atE A.row A.ep).length := ⟨_, rfl⟩
  have hnl : n ≤ 100000 := by
    rw [hn]; unfold atE; rw [List.length_map]; have := List.length_filter_le (fun x : Int × Int => decide (x.2 = A.ep)) A.row; omega
  have hl0 : Lies w 33 1 v0 n ((atE A.row A.ep).map (Value.int .u64)) := by
    cases hM : M A.ep with
    | none => rw [hM] at hv0; subst hv0; rw [hn, h.rows.no _ hM]; exact Lies.nil _ _ _
    | some u => rw [hM] at hv0; subst hv0; rw [hn]; exact (h.rows.yes _ _ hM).2
  have HL : Hid (∀ X, Fr [] w X → Lies X 33 1 v0 n ((atE A.row A.ep).map (Value.int .u64))) := Lib.hid (fun X hX => hl0.keep hX (by simp))
  have hlk : ∀ X, X.heap[m]? = w.heap[m]? → (Instr.lookup 50 (.map (some m)) (.int .i64 A.ep) false).run Try.prog X = .ok v0 X := fun X hX => by
    rw [hv0]; exact (h.map.same hX).look int_key pool_map (zero_u64s _) hwf
  have hmlt := h.map.lt
  have k1 := hlk w.drew rfl
  have k2 := hlk (w.alloc (.cells #[.int .u64 x] 33)).drew (Below.heap_alloc _ _ _ hmlt)
  have hmp := h.mp
  have hpm : ¬ p = m := fun e => hmp e.symm
  have hplt := lt_of_block h.blk
  have hv0p : p ∉ v0.ownBlock.toList := by
    simp only [Option.mem_toList]; intro hk
    cases hM : M A.ep with
    | none => rw [hM] at hv0; subst hv0; cases hk
    | some u => rw [hM] at hv0; subst hv0; exact (h.far _ _ _ hM hk).1 rfl
  have hv0m : m ∉ v0.ownBlock.toList := by
    simp only [Option.mem_toList]; intro hk
    cases hM : M A.ep with
    | none => rw [hM] at hv0; subst hv0; cases hk
    | some u => rw [hM] at hv0; subst hv0; exact (h.far _ _ _ hM hk).2.2 rfl
  have HC : Hid (∀ X T, Fr T w X → p ∉ T → X.cell? ⟨p, 0, none⟩ = some (.int .i64 A.ep) ∧ X.cell? ⟨p, 2, none⟩ = some (.map (some m))) := Lib.hid (fun X T hX hT => ⟨hX.cell c0 hT, hX.cell c2 hT⟩)
  have HN := Lib.hid hn
  have HV := Lib.hid hv0
  have HP := Lib.hid hv0p
  have HM := Lib.hid hv0m
  have HPM := Lib.hid hpm
  have HW := Lib.hid hwf
  clear h hn hv0 hl0 hlk hv0p hv0m hwf
  go_enter Try.func18, Try.ntmps18
  go_wp2_with fail
  go_region_held3 (fun w' => w'.cell? ⟨p, 0, none⟩ = some (.int .i64 A.ep) ∧ w'.cell? ⟨p, 2, none⟩ = some (.map (some m))) (first | go_keep | assumption)
    ((refine step_append_any (by rfl) (.tmp 22) (.tmp 24) 39 33 (.int .u64 0) 1 8 (by rfl) u64_slice u64_info rfl (by decide) v0 n ((atE A.row A.ep).map (Value.int .u64)) (by rfl) (HL.out _ (((Fr.refl [] w).alloc _).drew)) _ 1 [.int .u64 x] (by rfl) (Lies.drew (lies_one w _ (.int .u64 x) w.heap.size rfl)) (one_int _ _) (by unfold maxLen; omega) (by omega) ?_
      intro v1 w1 hl1 hf1 hn1
      have hf0 : Fr [] w (w.alloc (.cells #[.int .u64 x] 33)).drew := ((Fr.refl [] w).alloc _).drew
      have hf01 : Fr v0.ownBlock.toList w w1 := (hf0.mono (T := v0.ownBlock.toList) (by simp)).trans hf1 (fun k hk => Or.inl hk)
      obtain ⟨s1, q1, hv1, _⟩ := hl1.form
      subst hv1
      obtain ⟨w2, hrun, hm2, hf2⟩ := (H.out.map.keep hf01 HM.out).store (t := 50) (E := 39) int_key pool_map (by unfold maxLen; omega) HW.out s1 (n + 1) q1
      have hc1 := HC.out w1 _ hf01 HP.out
      have hc2 := HC.out w2 (m :: v0.ownBlock.toList) ((hf01.mono (fun k hk => Or.inl (by simp [hk]))).trans hf2 (by simp)) (by simp only [List.mem_cons, not_or]; exact ⟨HPM.out, HP.out⟩)
      have HO := Lib.hid (H.out.retired x HN.out HV.out hf0 hl1 hf1 hn1 hm2 hf2)
      clear hl1 hf1 hn1 hm2 hf2 hf0 hf01))
  all_goals go_wp2
  all_goals
    go_end0
    exact ⟨rfl, HO.out⟩
end Go.Proofs.Ytphniphlflijeaa
