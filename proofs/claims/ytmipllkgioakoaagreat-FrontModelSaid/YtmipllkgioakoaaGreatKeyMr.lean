/- PACKAGE key: cut, MayRange -/
import Derived.Test.YtmipllkgioakoaaGreatKeyA
import Derived.Deep.RegionHeld3
import Derived.Deep.DeepCutAuto
namespace Go.Proofs.YtmipllkgioakoaaGreat
open Go.RowKit
set_option linter.unusedVariables false
set_option linter.unusedSimpArgs false

theorem key_cut (s : ByteArray) (w : World) (hs : s.size ≤ maxLen) : Calls Tryz.prog 63 #[.string s] w fun e w' => e = .returned (.string (s.extract 0 8)) ∧ w = w' := by
  unfold maxLen at hs
  by_cases h : 8 < s.size
  · have t1 : (if (8 : Int) < (s.size : Int) then (8 : Int) else (s.size : Int)) = 8 := if_pos (by omega)
    go_enter Tryz.func63, Tryz.ntmps63
    go_wp2
    go_ret
    exact ⟨rfl, rfl⟩
  · have e : s.extract 0 8 = s := by
      apply bs_inj; rw [bs_take, List.take_of_length_le (by rw [bs_len]; omega)]
    rw [e]; clear e
    have t1 : (if (8 : Int) < (s.size : Int) then (8 : Int) else (s.size : Int)) = s.size := if_neg (by omega)
    go_enter Tryz.func63, Tryz.ntmps63
    go_wp2
    go_ret
    exact ⟨rfl, rfl⟩
theorem set2_block {w : World} {p : Nat} {c0 c1 : Value} {t : TypeId} (h : w.heap[p]? = some (.cells #[c0, c1] t (0, 0))) (u0 u1 : Value) : ((w.setCell ⟨p, 0, none⟩ u0).setCell ⟨p, 1, none⟩ u1).heap[p]? = some (.cells #[u0, u1] t (0, 0)) :=
  set_block (set_block h 0 u0) 1 u1
theorem set2_other {w : World} {p q : Nat} {o : Obj} (h : w.heap[p]? = some o) (hn : p ≠ q) (u0 u1 : Value) : ((w.setCell ⟨q, 0, none⟩ u0).setCell ⟨q, 1, none⟩ u1).heap[p]? = some o :=
  set_other (set_other h hn 0 u0) hn 1 u1
theorem blk2k (w : World) (a b : Obj) : ((w.alloc a).alloc b).heap[w.heap.size]? = some a ∧ ((w.alloc a).alloc b).heap[w.heap.size + 1]? = some b := by
  have h2 := new_block (w.alloc a) b
  have s1 : (w.alloc a).heap.size = w.heap.size + 1 := by simp
  rw [s1] at h2
  exact ⟨(Below.heap_alloc _ _ _ (by omega)).trans (new_block w a), h2⟩
/-- what MayRange asks, in the code's words -/
theorem mayr_cut (f t : ByteArray) : mayRangeB f.toList t.toList = (!(emptyB f.toList t.toList) && (decide (f.extract 0 8 = f) && (decide (t.extract 0 8 = t) || decide (t.extract 0 8 ++ ⟨#[0]⟩ = t)))) := by
  have cutS : ∀ s : ByteArray, decide (s.extract 0 8 = s) = decide (s.size ≤ 8) := by
    intro s
    rw [decide_eq_decide]
    constructor
    · intro h
      have h2 : (s.extract 0 8).size = s.size := by rw [h]
      rw [ByteArray.size_extract] at h2
      omega
    · intro h
      apply bs_inj; rw [bs_take, List.take_of_length_le (by rw [bs_len]; omega)]
  have z1 : (⟨#[0]⟩ : ByteArray).toList = [0] := by rw [ByteArray.toList_eq]
  have nxt : (decide (t.extract 0 8 = t) || decide (t.extract 0 8 ++ ⟨#[0]⟩ = t)) = (decide (t.size ≤ 8) || (decide (t.size = 9) && t.toList.getD 8 1 == 0)) := by
    rw [cutS]
    by_cases h8 : t.size ≤ 8
    · simp [h8]
    · by_cases h9 : t.size = 9
      · have hl := bs_last h9
        have hg := bs_get t 8 (by omega)
        have hG : t.toList.getD 8 1 = t[8]'(by omega) := by rw [List.getD_eq_getElem?_getD, hg]; rfl
        rw [hG]
        by_cases hz : t[8]'(by omega) = 0
        · have : t.extract 0 8 ++ ⟨#[0]⟩ = t := bs_inj (by rw [bs_app, z1, hl, hz])
          simp [h9, hz, this]
        · have : ¬ t.extract 0 8 ++ ⟨#[0]⟩ = t := by
            intro e
            have e2 : (t.extract 0 8 ++ ⟨#[0]⟩).toList = t.toList := by rw [e]
            rw [bs_app, z1, hl] at e2
            have e3 := List.append_cancel_left e2
            simp only [List.cons.injEq, and_true] at e3
            exact hz e3.symm
          simp [h9, hz, this]
      · have : ¬ t.extract 0 8 ++ ⟨#[0]⟩ = t := by
          intro e
          have e2 : (t.extract 0 8 ++ ⟨#[0]⟩).toList.length = t.toList.length := by rw [e]
          rw [bs_app, z1, bs_take, List.length_append, List.length_take, bs_len] at e2
          simp only [List.length_cons, List.length_nil] at e2
          omega
        simp [h8, h9, this]
  rw [mayRange_sizes, cutS, nxt, Bool.and_assoc]
set_option maxHeartbeats 2000000 in
theorem key_mayrange (f t : ByteArray) (w : World) (hf : f.size ≤ maxLen) (ht : t.size ≤ maxLen) : Calls Tryz.prog 44 #[.agg #[.string f, .string t]] w fun e w' => e = .returned (.bool (mayRangeB f.toList t.toList)) ∧ Fr [] w w' := by
  have HV := Lib.hid (mayr_cut f t)
  have HC : Hid (∀ s : ByteArray, s = f ∨ s = t → ∀ W, Calls Tryz.prog 63 #[.string s] W fun e w' => e = .returned (.string (s.extract 0 8)) ∧ W = w') := Lib.hid (fun s hs W => key_cut s W (by rcases hs with rfl | rfl; exact hf; exact ht))
  have HO : Hid (∀ W, Calls Tryz.prog 64 #[.string (t.extract 0 8)] W fun e w' => e = .returned (.agg #[.string (t.extract 0 8), .string (t.extract 0 8 ++ ⟨#[0]⟩)]) ∧ Fr [] W w') := Lib.hid (fun W => key_one _ W (by rw [ByteArray.size_extract]; omega))
  have HE : Hid (∀ W, Calls Tryz.prog 65 #[.agg #[.string f, .string t]] W fun e w' => e = .returned (.bool (emptyB f.toList t.toList)) ∧ Fr [] W w') := Lib.hid (fun W => key_empty f t W)
  obtain ⟨E, hE⟩ : ∃ E, E = emptyB f.toList t.toList := ⟨_, rfl⟩
  obtain ⟨V, hV⟩ : ∃ V, V = mayRangeB f.toList t.toList := ⟨_, rfl⟩
  rw [← hE] at HV HE
  rw [← hV] at HV ⊢
  obtain ⟨tn, htn⟩ : ∃ x, x = t.extract 0 8 ++ ⟨#[0]⟩ := ⟨_, rfl⟩
  rw [← htn] at HV HO
  obtain ⟨cf, hcf⟩ : ∃ x, x = f.extract 0 8 := ⟨_, rfl⟩
  obtain ⟨ct, hct⟩ : ∃ x, x = t.extract 0 8 := ⟨_, rfl⟩
  rw [← hcf] at HV
  rw [← hct] at HV HO
  replace hcf := Lib.hid hcf
  replace hct := Lib.hid hct
  clear hE hV htn hf ht
  have hfd : ∀ W : World, (Instr.field 31 (.agg #[.string ct, .string tn]) 1).run Tryz.prog W = .ok (.string tn) W := fun _ => by kernel_rfl
  go_enter Tryz.func44, Tryz.ntmps44
  go_upto_region 1 with fail
  go_cut [3] (fun v wc => v = .pointer (some ⟨w.heap.size + 1, 0, none⟩) ∧ wc.heap[w.heap.size]? = some (.cells #[.string f, .string t] 31 (0, 0)) ∧ wc.heap[w.heap.size + 1]? = some (.cells #[.string cf, .string ct] 31 (0, 0)) ∧ Fr [] w wc)
  case first =>
    go_region_held3 (fun w' => w'.cell? ⟨w.heap.size, 0, none⟩ = some (.string f) ∧ w'.cell? ⟨w.heap.size, 1, none⟩ = some (.string t)) (go_keep) (first | (go_at_call 63; refine (HC.out _ (by first | exact Or.inl rfl | exact Or.inr rfl) _).mono ?_; rintro e w1 ⟨rfl, rfl⟩; (first | rw [← hcf.out] | rw [← hct.out])))
    all_goals
      go_wp2_with fail
      go_meet
      obtain ⟨x1, x2⟩ := blk2k w (Obj.cells #[.string f, .string t] 31) (Obj.cells #[.string cf, .string ct] 31)
      exact ⟨rfl, x1, x2, (((Fr.refl _ _).alloc _).alloc _).drew⟩
  case rest =>
    obtain ⟨rfl, hb0, hb1, hfr⟩ := hcut
    have HB := Lib.hid hb0
    have HS := Lib.hid hb1
    have HF := Lib.hid hfr
    clear hb0 hb1 hfr
    obtain ⟨a0, a1, _⟩ := cells2 HS.out
    go_upto_region 2 with fail
    go_cut [4] (fun v wd => ∃ q, v = .pointer (some ⟨q, 0, none⟩) ∧ wd.heap[w.heap.size]? = some (.cells #[.string f, .string t] 31 (0, 0)) ∧ wd.heap[w.heap.size + 1]? = some (.cells #[.string cf, .string ct] 31 (0, 0)) ∧ wd.heap[q]? = some (.cells #[.string cf, .string tn] 31 (0, 0)) ∧ Fr [] w wd)
    case first =>
      obtain ⟨Z, hZ⟩ : ∃ Z, Z = Obj.cells #[.string ⟨#[]⟩, .string ⟨#[]⟩] 31 := ⟨_, rfl⟩
      have HBa := Lib.hid ((Below.heap_alloc wc Z _ (lt_of_block HB.out)).trans HB.out)
      have HSa := Lib.hid ((Below.heap_alloc wc Z _ (lt_of_block HS.out)).trans HS.out)
      have HNa := Lib.hid (new_block wc Z)
      have HFa := Lib.hid (HF.out.alloc Z)
      obtain ⟨z0, z1, _⟩ := cells2 HSa.out
      have ne1 : ¬ wc.heap.size = w.heap.size + 1 := by have := lt_of_block HS.out; omega
      have HBa0 := HB
      have HSa0 := HS
      subst hZ
      go_region_held3 (fun w' => w'.cell? ⟨w.heap.size + 1, 0, none⟩ = some (.string cf) ∧ w'.cell? ⟨w.heap.size + 1, 1, none⟩ = some (.string ct)) (go_keep) (first
        | (go_at_call 64; refine (HO.out _).mono ?_; rintro e w1 ⟨rfl, h1⟩; replace HB := Lib.hid (h1.keep HB.out (by simp)); replace HS := Lib.hid (h1.keep HS.out (by simp)); have hz : Fr [] w w1 := (by first | exact HF.out.trans h1 (by simp) | exact HF.out.drew.trans h1 (by simp)); replace HF := Lib.hid hz; clear hz h1; obtain ⟨a0, a1, _⟩ := cells2 HS.out)
        | (go_at_call 64; refine (HO.out _).mono ?_; rintro e w1 ⟨rfl, h1⟩; replace HB := Lib.hid (h1.keep HBa.out (by simp)); replace HS := Lib.hid (h1.keep HSa.out (by simp)); have HN := Lib.hid (h1.keep HNa.out (by simp)); have hz : Fr [] w w1 := (by first | exact HFa.out.trans h1 (by simp) | exact HFa.out.drew.trans h1 (by simp)); replace HF := Lib.hid hz; clear hz h1; obtain ⟨a0, a1, _⟩ := cells2 HS.out; obtain ⟨n0, n1, nf⟩ := cells2 HN.out; have nf0 := nf 0; have nf1 := nf 1; clear nf))
      all_goals
        go_wp2_with fail
        go_meet
      · exact ⟨_, rfl, (Below.heap_alloc _ _ _ (lt_of_block HB.out)).trans HB.out, (Below.heap_alloc _ _ _ (lt_of_block HS.out)).trans HS.out, new_block _ _, HF.out.alloc _⟩
      · have g0 := lt_of_block HBa0.out
        have g1 := lt_of_block HSa0.out
        exact ⟨_, rfl, set2_other HB.out (by omega) _ _, set2_other HS.out (by omega) _ _, set2_block HN.out _ _, HF.out.set2 (by omega) _ _⟩
    case rest =>
      obtain ⟨q, rfl, hb0, hb1, hb2, hfr⟩ := hcut
      have HB := Lib.hid hb0
      have HF := Lib.hid hfr
      have HS := Lib.hid hb1
      have HT := Lib.hid hb2
      clear hb0 hb1 hb2 hfr a0 a1
      obtain ⟨a0, a1, _⟩ := cells2 HB.out
      have HV2 := HV.out
      by_cases e1 : cf = f
      all_goals by_cases e2 : ct = t
      all_goals by_cases e3 : tn = t
      all_goals try have n1 : ¬ f.toList = cf.toList := fun h => e1 (bs_inj h).symm
      all_goals try have n2 : ¬ t.toList = ct.toList := fun h => e2 (bs_inj h).symm
      all_goals try have n3 : ¬ t.toList = tn.toList := fun h => e3 (bs_inj h).symm
      all_goals cases E
      all_goals
        simp [e1, e2, e3] at HV2
        go_wp2_with (go_at_call 65; refine (HE.out _).mono ?_; rintro e w1 ⟨rfl, h1⟩; have HB2 := h1.keep HB.out (by simp); have HS2 := h1.keep HS.out (by simp); have HT2 := h1.keep HT.out (by simp); obtain ⟨b0, b1, _⟩ := cells2 HB2; obtain ⟨c0, c1, _⟩ := cells2 HS2; obtain ⟨d0, d1, _⟩ := cells2 HT2; replace HF := Lib.hid (HF.out.trans h1 (by simp)); clear HB2 HS2 HT2 h1)
        go_ret
        exact ⟨ret_b HV2.symm, HF.out⟩
end Go.Proofs.YtmipllkgioakoaaGreat
