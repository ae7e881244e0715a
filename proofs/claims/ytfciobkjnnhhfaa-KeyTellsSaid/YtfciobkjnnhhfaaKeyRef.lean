/- THE DOCUMENT's ANSWERS FOR key: contracts -/
import Derived.Test.YtfciobkjnnhhfaaBytes
import Derived.BigQuiet
import Derived.Laws.IdiomStrings
namespace Go.Proofs.Ytfciobkjnnhhfaa
open Go.RowKit
set_option linter.unusedVariables false
set_option linter.unusedSimpArgs false

theorem ret_b {a b : Bool} (h : a = b) : Ending.returned (.bool a) = .returned (.bool b) := by rw [h]

theorem rmay_any (k : ByteArray) (w : World) (hk : k.size ≤ maxLen) : Calls Try.prog 11 #[.string k] w fun e w' => e = .returned (.bool (mayB k.toList)) ∧ w = w' := by
  unfold maxLen at hk
  have HV := Lib.hid (bs_len k)
  by_cases h1 : 1 ≤ k.size
  · have t1 : decide (1 ≤ (k.size : Int)) = true := by simp; omega
    go_enter Try.func11, Try.ntmps11
    go_wp2
    go_ret
    refine ⟨ret_b ?_, rfl⟩
    unfold mayB
    rw [HV.out]
    simp [h1] <;> omega
  · have t1 : decide (1 ≤ (k.size : Int)) = false := by simp; omega
    go_enter Try.func11, Try.ntmps11
    go_wp2
    go_ret
    refine ⟨ret_b ?_, rfl⟩
    unfold mayB
    rw [HV.out]
    simp <;> omega
theorem rempty_any (f t : ByteArray) (w : World) : Calls Try.prog 17 #[.agg #[.string f, .string t]] w fun e w' => e = .returned (.bool (emptyB f.toList t.toList)) ∧ Fr [] w w' := by
  have c1 := @run_leq Try.prog
  by_cases h0 : t.toList = []
  · go_enter Try.func17, Try.ntmps17
    go_wp2
    go_ret
    exact ⟨ret_b (by simp [emptyB, h0]), (Fr.refl _ _).alloc _⟩
  · go_enter Try.func17, Try.ntmps17
    go_wp2
    go_ret
    exact ⟨ret_b (by simp [emptyB, ls, h0]), (Fr.refl _ _).alloc _⟩
theorem rin_any (f t k : ByteArray) (w : World) : Calls Try.prog 15 #[.agg #[.string f, .string t], .string k] w fun e w' => e = .returned (.bool (inB f.toList t.toList k.toList)) ∧ Fr [] w w' := by
  have c1 := @run_lss Try.prog
  have c2 := @run_geq Try.prog
  by_cases h1 : Op.bytesLess k.toList f.toList = true
  · go_enter Try.func15, Try.ntmps15
    go_wp2
    go_ret
    exact ⟨ret_b (by simp [inB, ls, h1]), (Fr.refl _ _).alloc _⟩
  · have h1 : Op.bytesLess k.toList f.toList = false := by simpa using h1
    by_cases h0 : t.toList = []
    · go_enter Try.func15, Try.ntmps15
      go_wp2
      go_ret
      exact ⟨ret_b (by simp [inB, ls, h0, h1]), (Fr.refl _ _).alloc _⟩
    · go_enter Try.func15, Try.ntmps15
      go_wp2
      go_ret
      exact ⟨ret_b (by simp [inB, ls, h0, h1]), (Fr.refl _ _).alloc _⟩
theorem rone_any (k : ByteArray) (w : World) (hk : k.size ≤ 140737488355328) : Calls Try.prog 21 #[.string k] w fun e w' => e = .returned (.agg #[.string k, .string (k ++ ⟨#[0]⟩)]) ∧ Fr [] w w' := by
  go_enter Try.func21, Try.ntmps21
  go_wp2
  refine bodyPost_ret (v := .agg #[.string k, .string (k ++ ⟨#[0]⟩)]) (by simp [results, Try.results21, go_sem]) rfl ⟨rfl, (Fr.refl _ _).alloc _⟩
theorem byte_zero (b : UInt8) : (((b.toNat : Nat) : Int) == 0) = (b == 0) := by
  rw [Bool.eq_iff_iff]
  simp only [beq_iff_eq]
  constructor
  · intro h; apply UInt8.toNat_inj.1; have : (0 : UInt8).toNat = 0 := rfl; omega
  · rintro rfl; rfl
theorem mayRange_sizes (f t : ByteArray) : mayRangeB f.toList t.toList = (!(emptyB f.toList t.toList) && decide (f.size ≤ 8) && (decide (t.size ≤ 8) || (decide (t.size = 9) && t.toList.getD 8 1 == 0))) := by
  unfold mayRangeB
  rw [bs_len, bs_len]
set_option maxHeartbeats 1000000 in
theorem rmayrange_any (f t : ByteArray) (w : World) (hf : f.size ≤ maxLen) (ht : t.size ≤ maxLen) : Calls Try.prog 13 #[.agg #[.string f, .string t]] w fun e w' => e = .returned (.bool (mayRangeB f.toList t.toList)) ∧ Fr [] w w' := by
  unfold maxLen at hf ht
  have HV := Lib.hid (mayRange_sizes f t)
  have HE : Hid (∀ W, Calls Try.prog 17 #[.agg #[.string f, .string t]] W fun e w' => e = .returned (.bool (emptyB f.toList t.toList)) ∧ Fr [] W w') := Lib.hid (fun W => rempty_any f t W)
  obtain ⟨E, hE⟩ : ∃ E, E = emptyB f.toList t.toList := ⟨_, rfl⟩
  rw [← hE] at HV HE
  clear hE
  by_cases h9 : t.size = 9
  · have t9 : ((t.size : Int) == 9) = true := by simp; omega
    have hg := bs_get t 8 (by omega)
    have HG : Hid (t.toList.getD 8 1 = t[8]'(by omega)) := Lib.hid (by rw [List.getD_eq_getElem?_getD, hg]; rfl)
    have HZ := Lib.hid (byte_zero (t[8]'(by omega)))
    clear hg
    by_cases h8 : f.size ≤ 8
    all_goals first
      | have t8 : decide ((f.size : Int) ≤ 8) = true := by simp; omega
      | have t8 : decide ((f.size : Int) ≤ 8) = false := by simp; omega
    all_goals cases E
    all_goals
      go_enter Try.func13, Try.ntmps13
      go_wp2_with (go_at_call 17; refine (HE.out _).mono ?_; rintro e w1 ⟨rfl, h1⟩; obtain ⟨a0, a1, _⟩ := cells2 (h1.keep (new_block w _) (by simp)); have HF := Lib.hid h1; clear h1)
      go_ret
      refine ⟨ret_b ?_, ((Fr.refl [] w).alloc _).trans HF.out (by simp)⟩
      rw [HV.out, HG.out]
      first | (rw [HZ.out]; simp [h9, h8]; done) | simp [h9, h8, HZ.out] | (simp [h9, h8] <;> omega)
  · have t9 : ((t.size : Int) == 9) = false := by simp; omega
    by_cases h8 : f.size ≤ 8
    all_goals first
      | have t8 : decide ((f.size : Int) ≤ 8) = true := by simp; omega
      | have t8 : decide ((f.size : Int) ≤ 8) = false := by simp; omega
    all_goals by_cases h7 : t.size ≤ 8
    all_goals first
      | have t7 : decide ((t.size : Int) ≤ 8) = true := by simp; omega
      | have t7 : decide ((t.size : Int) ≤ 8) = false := by simp; omega
    all_goals cases E
    all_goals
      go_enter Try.func13, Try.ntmps13
      go_wp2_with (go_at_call 17; refine (HE.out _).mono ?_; rintro e w1 ⟨rfl, h1⟩; obtain ⟨a0, a1, _⟩ := cells2 (h1.keep (new_block w _) (by simp)); have HF := Lib.hid h1; clear h1)
      go_ret
      refine ⟨ret_b ?_, ((Fr.refl [] w).alloc _).trans HF.out (by simp)⟩
      rw [HV.out]
      simp [h9, h8, h7] <;> omega
set_option maxHeartbeats 1000000 in
theorem rprefix_any (p : ByteArray) (w : World) (hp : p.size ≤ 140737488355328) : Calls Try.prog 23 #[.string p] w fun e w' => ∃ t : ByteArray, e = .returned (.agg #[.string p, .string t]) ∧ t.toList = prefB p.toList ∧ Fr [] w w' := by
  go_enter Try.func23, Try.ntmps23
  go_wp2_with fail
  go_loopw [3] (fun v wr => ∃ u : ByteArray, v = .string u ∧ prefB u.toList = prefB p.toList ∧ u.size ≤ p.size ∧ Fr [] w wr ∧ wr.heap[w.heap.size]? = some (.cells #[.string ⟨#[]⟩, .string ⟨#[]⟩] 23 (0, 0))) (fun v _ => match v with | .string u => u.size | _ => 0)
  case atStart => exact ⟨p, rfl, rfl, Nat.le_refl _, (Fr.refl _ _).alloc _, new_block _ _⟩
  case round =>
    obtain ⟨u, rfl, hu, hle, hf, hb⟩ := hrel
    have HU := Lib.hid hu
    have HF := Lib.hid hf
    have HB := Lib.hid hb
    obtain ⟨b0, b1, bf⟩ := cells2 hb
    have bf0 := bf 0
    have bf1 := bf 1
    clear hu hf hb bf
    by_cases h0 : u.size = 0
    · have hnil := (bs_nil u).2 h0
      have HN := Lib.hid hnil
      have t1 : decide (0 < (u.size : Int)) = false := by simp [h0]
      clear hnil
      go_wp2
      refine bodyPost_ret (v := .agg #[.string p, .string u]) (by simp [results, Try.results23, go_sem, *]) rfl ⟨u, rfl, ?_, HF.out.set2 (Nat.le_refl _) _ _⟩
      rw [← HU.out, HN.out, prefB_nil]
    · obtain ⟨n, hn⟩ : ∃ n, u.size = n + 1 := ⟨u.size - 1, by omega⟩
      have HL := Lib.hid (bs_last hn)
      have t1 : decide (0 < (u.size : Int)) = true := by simp; omega
      have hw1 : IntKind.i64.wrap ((u.size : Int) - 1) = (n : Int) := by rw [IntWalk.i64_in _ ⟨by omega, by omega⟩]; omega
      by_cases hx : u[n]'(by omega) = 255
      · have HX := Lib.hid hx
        go_wp2_with fail
        go_roundw
        case rel =>
          refine ⟨u.extract 0 n, rfl, ?_, by rw [ByteArray.size_extract]; omega, HF.out, HB.out⟩
          rw [← HU.out, HL.out, HX.out, prefB_255]
        case measure => simp; omega
      · have hx2 : ((((u[n]'(by omega)).toNat : Nat) : Int) == 255) = false := by
          rw [beq_eq_false_iff_ne]; intro e; apply hx; apply UInt8.toNat_inj.1; have : (255 : UInt8).toNat = 255 := rfl; omega
        have HX := Lib.hid hx
        have hb1 : (u[n]'(by omega)) ≠ 255 := hx
        have hs1 := u8_succ hb1
        clear hx hb1
        have hlt : (u[n]'(by omega)).toNat + 1 < 256 := by have := ((u[n]'(by omega)) + 1).toNat_lt; omega
        have hbk : w.heap.size < wr.heap.size := lt_of_block HB.out
        have cv : (convert 36 9 (.slice (some ⟨wr.heap.size, 0, none⟩) 1 1)).run Try.prog ((wr.alloc (Obj.cells #[Value.int IntKind.u8 (((u[n]'(by omega)).toNat : Int) + 1)] 5)).drew) = .ok (.string ⟨#[(u[n]'(by omega)) + 1]⟩) ((wr.alloc (Obj.cells #[Value.int IntKind.u8 (((u[n]'(by omega)).toNat : Int) + 1)] 5)).drew) := by
          refine run_convert_bytes_back _ 36 9 5 ⟨wr.heap.size, 0, none⟩ 1 [(u[n]'(by omega)) + 1] rfl rfl rfl ?_
          intro j hj
          have : j = 0 := by simpa using hj
          subst this
          have e : (((u[n]'(by omega)) + 1).toNat : Int) = ((u[n]'(by omega)).toNat : Int) + 1 := by omega
          simp only [List.getElem_cons_zero, e]
          exact (cells1 (w := (wr.alloc _).drew) (new_block wr _)).1
        go_wp2_with fail
        go_region
        have hne : ¬ w.heap.size = wr.heap.size := by omega
        obtain ⟨d0, d1, df⟩ := cells2 (w := (wr.alloc (Obj.cells #[Value.int IntKind.u8 (((u[n]'(by omega)).toNat : Int) + 1)] 5)).drew) ((Below.heap_alloc _ _ _ hbk).trans HB.out)
        have df0 := df 0
        have df1 := df 1
        clear df
        go_wp2
        refine bodyPost_ret (v := .agg #[.string p, .string (u.extract 0 n ++ ⟨#[(u[n]'(by omega)) + 1]⟩)]) (by simp [results, Try.results23, go_sem, *]) rfl ⟨_, rfl, ?_, ((HF.out.set2 (Nat.le_refl _) _ _).alloc _).drew⟩
        rw [bs_app, ← HU.out, HL.out, prefB_last _ HX.out, ByteArray.toList_eq ⟨#[_]⟩]
theorem blk4 (w : World) (a b c d : Obj) : ((((w.alloc a).alloc b).alloc c).alloc d).heap[w.heap.size + 1 + 1]? = some c ∧ ((((w.alloc a).alloc b).alloc c).alloc d).heap[w.heap.size + 1 + 1 + 1]? = some d := by
  have h1 := new_block ((w.alloc a).alloc b) c
  have h2 := new_block (((w.alloc a).alloc b).alloc c) d
  have s1 : ((w.alloc a).alloc b).heap.size = w.heap.size + 1 + 1 := by simp
  have s2 : (((w.alloc a).alloc b).alloc c).heap.size = w.heap.size + 1 + 1 + 1 := by simp
  rw [s1] at h1
  rw [s2] at h2
  exact ⟨(Below.heap_alloc _ _ _ (by omega)).trans h1, h2⟩
/-- what Meet tells -/
def MeetOut (f t g u : ByteArray) (e : Ending) : Prop :=
  e = .returned (.tuple (if emptyB (mF f g).toList (mT t u).toList then #[.agg #[.string ⟨#[]⟩, .string ⟨#[]⟩], .bool false] else #[.agg #[.string (mF f g), .string (mT t u)], .bool true]))
set_option maxHeartbeats 4000000 in
theorem rmeet_any (f t g u : ByteArray) (w : World) : Calls Try.prog 19 #[.agg #[.string f, .string t], .agg #[.string g, .string u]] w fun e w' => MeetOut f t g u e ∧ Fr [] w w' := by
  have c1 := @run_lss Try.prog
  have c2 := @run_gtr' Try.prog
  have HE : Hid (∀ F T W, Calls Try.prog 17 #[.agg #[.string F, .string T]] W fun e w' => e = .returned (.bool (emptyB F.toList T.toList)) ∧ Fr [] W w') := Lib.hid (fun F T W => rempty_any F T W)
  have HO : Hid (∀ e, e = .returned (.tuple (if emptyB (mF f g).toList (mT t u).toList then #[.agg #[.string ⟨#[]⟩, .string ⟨#[]⟩], .bool false] else #[.agg #[.string (mF f g), .string (mT t u)], .bool true])) → MeetOut f t g u e) := Lib.hid (fun e h => h)
  obtain ⟨F, hF⟩ : ∃ F, F = mF f g := ⟨_, rfl⟩
  obtain ⟨T, hT⟩ : ∃ T, T = mT t u := ⟨_, rfl⟩
  rw [← hF, ← hT] at HO
  obtain ⟨E, hE⟩ : ∃ E, E = emptyB F.toList T.toList := ⟨_, rfl⟩
  rw [← hE] at HO
  have HEE := Lib.hid hE
  clear hE
  have hF1 : (Op.bytesLess f.toList g.toList = true → F = g) ∧ (Op.bytesLess f.toList g.toList = false → F = f) := by
    constructor <;> intro h <;> rw [hF, mF, ls, h] <;> rfl
  have hT0 : t.toList.isEmpty = true → T = u := by intro h; rw [hT, mT, List.isEmpty_iff.1 h]; rfl
  have hT1 : t.toList.isEmpty = false → u.toList.isEmpty = true → T = t := by
    intro h k; have h : (t.toList == []) = false := by simpa using h
    rw [hT, mT, List.isEmpty_iff.1 k, h]; rfl
  have hT2 : t.toList.isEmpty = false → u.toList.isEmpty = false → Op.bytesLess u.toList t.toList = true → T = u := by
    intro h k l; have h : (t.toList == []) = false := by simpa using h
    have k : (u.toList == []) = false := by simpa using k
    rw [hT, mT, ls, l, h, k]; rfl
  have hT3 : t.toList.isEmpty = false → u.toList.isEmpty = false → Op.bytesLess u.toList t.toList = false → T = t := by
    intro h k l; have h : (t.toList == []) = false := by simpa using h
    have k : (u.toList == []) = false := by simpa using k
    rw [hT, mT, ls, l, h, k]; rfl
  clear hF hT
  cases h1 : Op.bytesLess f.toList g.toList
  all_goals first
    | have eF := hF1.2 h1
    | have eF := hF1.1 h1
  all_goals clear hF1
  all_goals cases h2 : t.toList.isEmpty
  all_goals first
    | have eT := hT0 h2
    | (cases h3 : u.toList.isEmpty
       all_goals first
         | have eT := hT1 h2 h3
         | (cases h4 : Op.bytesLess u.toList t.toList
            all_goals first
              | have eT := hT3 h2 h3 h4
              | have eT := hT2 h2 h3 h4))
  all_goals
    clear hT0 hT1 hT2 hT3
    rw [eF, eT] at HO HEE
    clear eF eT F T
    go_enter Try.func19, Try.ntmps19
    cases E
  all_goals
    go_wp2_with (go_at_call 17; refine (HE.out _ _ _).mono ?_; rintro e w1 ⟨rfl, hf⟩; rw [← HEE.out]; obtain ⟨x1, x2⟩ := blk4 w _ _ _ _; obtain ⟨a0, a1, af⟩ := cells2 (hf.keep x1 (by simp)); obtain ⟨b0, b1, bf⟩ := cells2 (hf.keep x2 (by simp)); have af0 := af 0; have af1 := af 1; have HF := Lib.hid ((((((Fr.refl [] w).alloc _).alloc _).alloc _).alloc _).trans hf (by simp)); clear hf af bf x1 x2)
  all_goals first
    | refine bodyPost_ret (v := .tuple #[.agg #[.string ⟨#[]⟩, .string ⟨#[]⟩], .bool false]) (by simp [results, Try.results19, go_sem, *]) rfl ⟨HO.out _ rfl, HF.out.set2 (by omega) _ _⟩
    | refine bodyPost_ret (v := .tuple #[.agg #[.string f, .string t], .bool true]) (by simp [results, Try.results19, go_sem, *]) rfl ⟨HO.out _ rfl, HF.out.set2 (by omega) _ _⟩
    | refine bodyPost_ret (v := .tuple #[.agg #[.string f, .string u], .bool true]) (by simp [results, Try.results19, go_sem, *]) rfl ⟨HO.out _ rfl, HF.out.set2 (by omega) _ _⟩
    | refine bodyPost_ret (v := .tuple #[.agg #[.string g, .string t], .bool true]) (by simp [results, Try.results19, go_sem, *]) rfl ⟨HO.out _ rfl, HF.out.set2 (by omega) _ _⟩
    | refine bodyPost_ret (v := .tuple #[.agg #[.string g, .string u], .bool true]) (by simp [results, Try.results19, go_sem, *]) rfl ⟨HO.out _ rfl, HF.out.set2 (by omega) _ _⟩
theorem rprefix_ran (p : ByteArray) (w : World) (hp : p.size ≤ 140737488355328) : Calls Try.prog 23 #[.string p] w fun e w' => e = .returned (.agg #[.string p, .string (prefS p)]) ∧ Fr [] w w' :=
  (rprefix_any p w hp).mono fun e w' ⟨t, he, ht, hf⟩ => by rw [prefS_of ht] at he; exact ⟨he, hf⟩
theorem rmeet_ran (f t g u : ByteArray) (w : World) : Calls Try.prog 19 #[.agg #[.string f, .string t], .agg #[.string g, .string u]] w fun e w' => e = .returned (.tuple #[.agg #[.string (meetR f t g u).1, .string (meetR f t g u).2.1], .bool (meetR f t g u).2.2]) ∧ Fr [] w w' :=
  (rmeet_any f t g u w).mono fun e w' ⟨he, hf⟩ => by
    refine ⟨?_, hf⟩
    unfold MeetOut at he
    rw [he, meetR]
    split <;> rfl
end Go.Proofs.Ytfciobkjnnhhfaa
