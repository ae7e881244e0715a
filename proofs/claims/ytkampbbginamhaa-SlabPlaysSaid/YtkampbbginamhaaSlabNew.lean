/- CONTRACT OF slab's New -/
import Derived.Test.YtkampbbginamhaaSlabAlloc
namespace Go.Proofs.Ytkampbbginamhaa
open Go.RowKit
set_option linter.unusedVariables false
set_option linter.unusedSimpArgs false

def SS.new (m : MS) (words most : Nat) : SS := ⟨m.c.length, words, List.replicate most (0, false), List.range most, m.c ++ List.replicate (words * most) 0⟩
def slabFits (m : MS) (words most : Int) : Bool := decide (1 ≤ words ∧ 1 ≤ most ∧ words * most ≤ 65536 - (m.c.length : Int))
def MadeSlab (w : World) (pm : Nat) (v : Value) (m : MS) (words most : Int) (e : Ending) (w' : World) : Prop :=
  (slabFits m words most = true ∧ ∃ p mv rv fv, e = .returned (.pointer (some ⟨p, 0, none⟩)) ∧ SlabAt w' p pm mv rv fv m.n (SS.new m words.toNat most.toNat) ∧ Fr (MemAt.foot pm v) w w' ∧
    (∀ k ∈ SlabAt.foot p pm mv rv fv, k ∈ MemAt.foot pm v ∨ w.heap.size ≤ k)) ∨
  (slabFits m words most = false ∧ e = .returned (.pointer none) ∧ ∃ v', MemAt w' pm v' m ∧ Fr (MemAt.foot pm v) w w' ∧ ∀ k, v'.ownBlock = some k → v.ownBlock = some k ∨ w.heap.size ≤ k)

theorem slab_new_nil (w : World) (words most : Int) : Calls Try.prog 23 #[.pointer none, .int .i64 words, .int .i64 most] w fun e w' => e = .returned (.pointer none) ∧ w = w' := by
  go_enter Try.func23, Try.ntmps23
  go_wp2
  go_ret
  exact ⟨rfl, rfl⟩

theorem rec_slice : Try.prog.underlying 75 = some (.slice 85) := Try.underlying75
theorem rec_info : (Try.prog.info? 85).map (fun i => (i.zero, i.size, i.bytes)) = some (some (.agg #[.int .i64 0, .bool false]), 2, 16) := by kernel_rfl

theorem slab_new_no (w : World) (pm : Nat) (words most : Int) {v m} (h : MemAt w pm v m) (hl : m.c.length ≤ 65536) (hno : ¬ (1 ≤ words ∧ 1 ≤ most ∧ words ≤ 65536 / most)) :
    Calls Try.prog 23 #[.pointer (some ⟨pm, 0, none⟩), .int .i64 words, .int .i64 most] w (MadeSlab w pm v m words most) := by
  have hf : slabFits m words most = false := by
    unfold slabFits
    rw [decide_eq_false_iff_not]
    rintro ⟨h1, h2, h3⟩
    refine hno ⟨h1, h2, ?_⟩
    rw [Int.le_ediv_iff_mul_le (by omega)]
    omega
  have HE : Hid (∀ e, e = Ending.returned (.pointer none) → MadeSlab w pm v m words most e w) := Lib.hid (fun e he => Or.inr ⟨hf, he, v, h, Fr.refl _ _, fun k hk => Or.inl hk⟩)
  clear hf h
  by_cases h1 : words < 1
  · have t1 : decide (words < 1) = true := by simpa using h1
    go_enter Try.func23, Try.ntmps23
    go_wp2
    go_ret
    exact HE.out _ rfl
  · by_cases h2 : most < 1
    · have t1 : decide (words < 1) = false := by simpa using h1
      have t2 : decide (most < 1) = true := by simpa using h2
      go_enter Try.func23, Try.ntmps23
      go_wp2
      go_ret
      exact HE.out _ rfl
    · have t1 : decide (words < 1) = false := by simpa using h1
      have t2 : decide (most < 1) = false := by simpa using h2
      have h3 : 65536 / most < words := by omega
      have t3 : decide (65536 / most < words) = true := by simpa using h3
      have hm0 : 0 < most := by omega
      clear hno
      go_enter Try.func23, Try.ntmps23
      go_wp2
      go_ret
      exact HE.out _ rfl

theorem MemAt.grown_same {w w' : World} {p : Nat} {v : Value} {m : MS} {n : Int} (h : Grew w p v (m.grow n) w') (hno : m.growOk n = false) : ∃ v', MemAt w' p v' m ∧ Fr (MemAt.foot p v) w w' ∧ ∀ k, v'.ownBlock = some k → v.ownBlock = some k ∨ w.heap.size ≤ k := by
  rw [MS.grow, hno] at h
  exact h

theorem opt_nodup (o : Option Nat) : o.toList.Nodup := by cases o <;> simp

theorem slab_new_yes (w : World) (pm : Nat) (W M : Nat) {v m} (h : MemAt w pm v m) (hl : m.c.length ≤ 65536) (h1 : 1 ≤ W) (h2 : 1 ≤ M) (h3 : W * M ≤ 65536) :
    Calls Try.prog 23 #[.pointer (some ⟨pm, 0, none⟩), .int .i64 W, .int .i64 M] w (MadeSlab w pm v m W M) := by
  have hW : W ≤ 65536 := by have := Nat.mul_le_mul_left W h2; omega
  have hM : M ≤ 65536 := by have := Nat.mul_le_mul_right M h1; omega
  have t1 : decide ((W : Int) < 1) = false := by simp; omega
  have t2 : decide ((M : Int) < 1) = false := by simp; omega
  have t3 : decide (65536 / (M : Int) < W) = false := by
    rw [decide_eq_false_iff_not, Int.not_lt, Int.le_ediv_iff_mul_le (by omega)]; omega
  have hx : IntKind.i64.wrap ((W : Int) * M) = W * M := IntWalk.i64_in _ ⟨by omega, by omega⟩
  have hm1 : (0 : Int) < M := by omega
  have H := Lib.hid h
  have hw0 : Fr [] w (w.alloc (.cells #[.pointer (some ⟨pm, 0, none⟩), .int .i64 0, .int .i64 W, .slice none 0 0, .slice none 0 0] 77)) := (Fr.refl [] w).alloc _
  have HG := Lib.hid (grow_any _ pm ((W : Int) * M) (h.keep hw0 (by simp) (by simp)) hl)
  have hpm := lt_of_block h.blk
  have H3 := Lib.hid h3
  have hvlt := h.lt
  have HVLT := Lib.hid hvlt
  have HSEP := Lib.hid h.sep
  have hpm2 : ¬ pm = w.heap.size := by omega
  clear h hw0 h3 hvlt
  by_cases hok : m.growOk ((W : Int) * M) = true
  · have HOK := Lib.hid hok
    have hok' := of_decide_eq_true hok
    clear hok
    go_enter Try.func23, Try.ntmps23
    go_wp2_with (first | (go_at_call 37; refine HG.out.mono ?_; rintro e w1 ⟨rfl, hg⟩; rw [MS.growV, MS.growE, HOK.out, if_pos rfl, if_pos rfl]; refine go_stop ?_))
    obtain ⟨mv, hm, hf, hnew⟩ := hg
    rw [MS.grow, HOK.out, if_pos rfl] at hm
    have hb := hf.keep (new_block w _) (by simp [MemAt.foot]; exact ⟨fun e => hpm2 e.symm, fun e => by have := HVLT.out _ e; omega⟩)
    have b0 := cell_block hb 0
    have b1 := cell_block hb 1
    have b3 := cell_block hb 3
    have e1 := free_block hb 1
    have e3 := free_block hb 3
    simp at b0 b1 b3
    have HB := Lib.hid hb
    have HM := Lib.hid hm
    have HF := Lib.hid hf
    have HNEW := Lib.hid hnew
    have hlt1 : w.heap.size < w1.heap.size := lt_of_block hb
    clear hb hm hf hnew hok'
    unfold Stop
    go_wp2_with (at_make; refine wpList_make_any rfl (.tmp 49) (.tmp 49) 75 85 (.agg #[.int .i64 0, .bool false]) 2 16 rfl rec_slice rec_info rfl (by decide) M rfl rfl (by omega) (by unfold maxLen; omega) ?mk)
    case mk =>
    intro w2 hr hf2
    have hb2 := hf2.keep (set_block HB.out 1 (.int .i64 m.c.length)) (by simp)
    have d3 := cell_block hb2 3
    have f3 := free_block hb2 3
    simp at d3
    have hcn : (m.c ++ List.replicate ((W : Int) * M).toNat 0) = (SS.new m W M).c := by
      simp only [SS.new]; rw [show ((W : Int) * M).toNat = W * M from by rw [← Int.natCast_mul, Int.toNat_natCast]]
    have hF2 : Fr (MemAt.foot pm v) w w2 := by
      refine ((((Fr.refl _ w).alloc _).trans HF.out (fun k hk => Or.inl hk)).setCell (p := ⟨w.heap.size, 1, none⟩) (Or.inr (Nat.le_refl _)) _).trans hf2 (by simp)
    have hmv : ∀ k, mv.ownBlock = some k → k < w1.heap.size ∧ k ≠ w.heap.size := by
      intro k hk
      refine ⟨HM.out.lt k hk, fun e => ?_⟩
      rcases HNEW.out k hk with h | h
      · have := HVLT.out k h; omega
      · first | omega | (simp at h; omega)
    have hstart : SlabAt (w2.setCell ⟨w.heap.size, 3, none⟩ (.slice (some ⟨w1.heap.size, 0, none⟩) M M)) w.heap.size pm mv (.slice (some ⟨w1.heap.size, 0, none⟩) M M) (.slice none 0 0) m.n { SS.new m W M with row := List.range 0 } := by
      have hm := HM.out
      rw [hcn] at hm
      have hpm1 := lt_of_block hm.blk
      refine ⟨?_, ?_, ?_, Lies.nil _ _ _, ?_⟩
      · have := set_block hb2 3 (.slice (some ⟨w1.heap.size, 0, none⟩) M M)
        simpa [SS.new] using this
      · have k1 := hm.keep ((Fr.refl [w.heap.size] w1).setCell (p := ⟨w.heap.size, 1, none⟩) (Or.inl (by simp)) (.int .i64 m.c.length)) (by simpa using hpm2) (by intro k hk; simpa using (hmv k hk).2)
        have k2 := k1.keep hf2 (by simp) (by simp)
        exact k2.keep ((Fr.refl [w.heap.size] w2).setCell (p := ⟨w.heap.size, 3, none⟩) (Or.inl (by simp)) _) (by simpa using hpm2) (by intro k hk; simpa using (hmv k hk).2)
      · have k1 := ownsRow_setCell_other hr (a := ⟨w.heap.size, 3, none⟩) (by simp [Value.ownBlock]; omega) (.slice (some ⟨w1.heap.size, 0, none⟩) M M)
        simp only [SS.new, List.length_replicate, recCells_zero]
        exact k1
      · have hne := hm.sep
        simp only [List.nodup_cons, List.mem_cons, List.mem_append, Option.mem_toList, not_or, List.nodup_append, Value.ownBlock]
        refine ⟨⟨fun e => hpm2 e.symm, fun e => (hmv _ e).2 rfl, by simp <;> omega, by simp⟩, ⟨hne, by simp <;> omega, by simp⟩, ?_, by simp, ?_⟩
        · exact opt_nodup _
        · intro a ha b hb
          have := (hmv a ha).1
          first | omega | (simp at hb; omega)
    have hF3 : Fr (MemAt.foot pm v) w (w2.setCell ⟨w.heap.size, 3, none⟩ (.slice (some ⟨w1.heap.size, 0, none⟩) M M)) := hF2.setCell (Or.inr (Nat.le_refl _)) _
    have hnewf : ∀ fv : Value, (∀ k, fv.ownBlock = some k → w.heap.size ≤ k) → ∀ k ∈ SlabAt.foot w.heap.size pm mv (.slice (some ⟨w1.heap.size, 0, none⟩) M M) fv, k ∈ MemAt.foot pm v ∨ w.heap.size ≤ k := by
      intro fv hfv k hk
      simp only [SlabAt.foot, List.mem_cons, List.mem_append, Option.mem_toList, Value.ownBlock] at hk
      rcases hk with rfl | rfl | hk | hk | hk
      · exact Or.inr (Nat.le_refl _)
      · exact Or.inl (by simp [MemAt.foot])
      · rcases HNEW.out k hk with h | h
        · exact Or.inl (by simp [MemAt.foot, h])
        · exact Or.inr (by first | omega | (simp at h; omega))
      · simp at hk; exact Or.inr (by omega)
      · exact Or.inr (hfv k hk)
    have HS := Lib.hid hstart
    have HF3 := Lib.hid hF3
    have HNF := Lib.hid hnewf
    clear hr hf2 hb2 hcn hF2 hmv hstart hF3 hnewf
    go_wp2_with fail
    go_loopw [54] (fun i wr => ∃ (j : Nat) (fv : Value), i = .int .i64 j ∧ j ≤ M ∧ SlabAt wr w.heap.size pm mv (.slice (some ⟨w1.heap.size, 0, none⟩) M M) fv m.n { SS.new m W M with row := List.range j } ∧
       Fr (MemAt.foot pm v) w wr ∧ ∀ k, fv.ownBlock = some k → w.heap.size ≤ k) (fun i _ => M - (intOf i).toNat)
    case atStart => exact ⟨0, _, rfl, Nat.zero_le _, HS.out, HF3.out, by simp [Value.ownBlock]⟩
    case round =>
      obtain ⟨j, fv, rfl, hj, hs, hf, hfv⟩ := hrel
      by_cases hlt : j < M
      · have c4 := cell_block hs.blk 4
        simp at c4
        have HSR := Lib.hid hs
        have HFR := Lib.hid hf
        have HFV := Lib.hid hfv
        have hfree := hs.free
        simp only [List.length_range] at hfree
        have HFREE := Lib.hid hfree
        have HNE := Lib.hid hs.ne
        have hplt := lt_of_block hs.blk
        clear hs hf hfv hfree
        go_wp2_with (at_builtin; refine wpList_append_any rfl (.tmp 61) (.tmp 63) 29 3 (.int .i64 0) 1 8 rfl int_slice int_info rfl (by decide) fv j ((List.range j).map fun (q : Nat) => Value.int .i64 q) rfl ?own _ 1 [.int .i64 j] rfl ?src (one_int _ _) (by unfold maxLen; omega) (by omega) ?app)
        case own => exact HFREE.out.alloc _
        case src => exact lies_one _ _ _ _ (by simp)
        case app =>
        intro fv' w3 hown hfr hat
        have hfr' : Fr fv.ownBlock.toList wr w3 := ((Fr.refl _ wr).alloc _).trans hfr (by intro k hk; exact Or.inl hk)
        have hat' : ∀ k, fv'.ownBlock = some k → fv.ownBlock = some k ∨ wr.heap.size ≤ k := fun k hk => (hat k hk).elim Or.inl (fun h => Or.inr (by first | omega | (simp at h; omega)))
        have hne := HNE.out
        have hb := hfr'.keep HSR.out.blk (by simpa using hne.2.2.2.1)
        have c4' := cell_block hb 4
        have f4' := free_block hb 4
        simp at c4'
        have hfp : fv'.ownBlock ≠ some w.heap.size := fun e => (hat' _ e).elim hne.2.2.2.1 (fun h => by omega)
        have hnext : SlabAt (w3.setCell ⟨w.heap.size, 4, none⟩ fv') w.heap.size pm mv (.slice (some ⟨w1.heap.size, 0, none⟩) M M) fv' m.n { SS.new m W M with row := List.range (j + 1) } := by
          have h := HSR.out
          refine ⟨by simpa using set_block hb 4 fv', ?_, ?_, ?_, h.sep' (Nat.le_refl _) hat'⟩
          · exact (h.mem.keep hfr' (by simpa using hne.2.2.2.2.2.1) (by intro k hk; simp; intro e; exact hne.2.2.2.2.2.2.2 k e hk)).keep ((Fr.refl [w.heap.size] w3).setCell (p := ⟨w.heap.size, 4, none⟩) (Or.inl (by simp)) _) (by simpa using hne.1.symm) (by intro k hk; simp; intro e; subst e; exact hne.2.1 hk)
          · exact ownsRow_setCell_other (ownsRow_fr hfr' h.recs (by intro k hk; simpa using (hne.2.2.2.2.2.2.1 k hk).2)) (a := ⟨w.heap.size, 4, none⟩) hne.2.2.1 fv'
          · have := hown.other ⟨w.heap.size, 4, none⟩ hfp fv'
            simpa [List.range_succ] using this
        have HN := Lib.hid hnext
        have HFR' := Lib.hid hfr'
        have HAT := Lib.hid hat'
        obtain ⟨fs, fc, rfl, _⟩ := hown.form
        clear hown hfr hat hfr' hat' hne hb hfp hnext c4
        go_wp2
        go_roundw
        case rel =>
          refine ⟨j + 1, _, by go_num, by omega, HN.out, ?_, ?_⟩
          · refine ((HFR.out.trans HFR'.out ?_).setCell (Or.inr (Nat.le_refl _)) _)
            intro k hk; simp at hk; exact Or.inr (HFV.out k hk)
          · intro k hk
            have := HFR.out.size
            exact (HAT.out k hk).elim (HFV.out k) (fun h => by omega)
        case measure => simp [intOf]; omega
      · obtain rfl : j = M := by omega
        have hfit : slabFits m W j = true := by
          unfold slabFits
          have := of_decide_eq_true HOK.out
          exact decide_eq_true ⟨by omega, by omega, by omega⟩
        have HE : Hid (∀ e, e = Ending.returned (.pointer (some ⟨w.heap.size, 0, none⟩)) → MadeSlab w pm v m W j e wr) := Lib.hid (fun e he => Or.inl ⟨hfit, w.heap.size, mv, _, fv, he, by rw [Int.toNat_natCast, Int.toNat_natCast]; exact hs, hf, HNF.out fv hfv⟩)
        clear hs hf hfv hfit
        go_wp2
        go_ret
        exact HE.out _ rfl
  · have hok : m.growOk ((W : Int) * M) = false := by simpa using hok
    have HOK := Lib.hid hok
    have hfit : slabFits m W M = false := by
      unfold slabFits
      have := of_decide_eq_false hok
      rw [decide_eq_false_iff_not]
      rintro ⟨_, _, h⟩
      exact this ⟨Int.mul_nonneg (by omega) (by omega), h⟩
    have HFIT := Lib.hid hfit
    clear hok hfit
    go_enter Try.func23, Try.ntmps23
    go_wp2_with (first | (go_at_call 37; refine HG.out.mono ?_; rintro e w1 ⟨rfl, hg⟩; rw [MS.growV, MS.growE, HOK.out, if_neg (by simp), if_neg (by simp)]; have HGR := Lib.hid hg; clear hg))
    go_ret
    obtain ⟨v', k1, k2, k3⟩ := MemAt.grown_same HGR.out HOK.out
    exact Or.inr ⟨HFIT.out, rfl, v', k1, ((Fr.refl _ w).alloc _).trans k2 (fun k hk => Or.inl hk), fun k hk => (k3 k hk).elim Or.inl (fun h => Or.inr (by first | omega | (simp at h; omega)))⟩
end Go.Proofs.Ytkampbbginamhaa
