/- CONTRACT OF impostlaw02.begun -/
import Derived.Test.YtkampbbginamhaaSlabDoAny
namespace Go.Proofs.Ytkampbbginamhaa
open Go.RowKit
set_option linter.unusedVariables false
set_option linter.unusedSimpArgs false

def BegunYes (w : World) (s0 : SS) (e : Ending) (w' : World) : Prop :=
  ∃ V FT, e = .returned (.tuple #[V, .bool true]) ∧ SBoth w' V FT 0 0 s0 [] ∧ Fr [] w w' ∧ ∀ k ∈ FT, w.heap.size ≤ k
def BegunNo (w : World) (e : Ending) (w' : World) : Prop :=
  ∃ pm, e = .returned (.tuple #[.agg #[.pointer none, .pointer (some ⟨pm, 0, none⟩), .slice none 0 0, .int .i64 0, .int .i64 0, .int .i64 0, .slice none 0 0, .slice none 0 0, .slice none 0 0, .slice none 0 0], .bool true]) ∧ Fr [] w w'

theorem MadeSlab.yes {w pm v m words most e w'} (h : MadeSlab w pm v m words most e w') (hf : slabFits m words most = true) : ∃ p mv rv fv, e = .returned (.pointer (some ⟨p, 0, none⟩)) ∧ SlabAt w' p pm mv rv fv m.n (SS.new m words.toNat most.toNat) ∧ Fr (MemAt.foot pm v) w w' ∧
    (∀ k ∈ SlabAt.foot p pm mv rv fv, k ∈ MemAt.foot pm v ∨ w.heap.size ≤ k) := by
  rcases h with ⟨_, h⟩ | ⟨hno, _⟩
  · exact h
  · rw [hf] at hno; cases hno
theorem MadeSlab.no {w pm v m words most e w'} (h : MadeSlab w pm v m words most e w') (hf : slabFits m words most = false) : e = .returned (.pointer none) ∧ ∃ v', MemAt w' pm v' m ∧ Fr (MemAt.foot pm v) w w' ∧ ∀ k, v'.ownBlock = some k → v.ownBlock = some k ∨ w.heap.size ≤ k := by
  rcases h with ⟨hno, _⟩ | ⟨_, h⟩
  · rw [hf] at hno; cases hno
  · exact h
set_option maxRecDepth 100000 in
set_option maxHeartbeats 2000000 in
theorem begun_yes (w : World) (W M : Nat) (s0 : SS) (hs0 : SS.new ⟨[0, 0, 0], 0⟩ W M = s0) (h1 : 1 ≤ W) (h2 : 1 ≤ M) (hl : 3 + W * M ≤ 65536) :
    Calls Try.prog 10 #[.int .i64 W, .int .i64 M] w (BegunYes w s0) := by
  have HS0 := Lib.hid hs0
  clear hs0
  have hW : W ≤ 65536 := by have := Nat.mul_le_mul_left W h2; omega
  have hM : M ≤ 65536 := by have := Nat.mul_le_mul_right M h1; omega
  have hfit : slabFits ⟨List.replicate (3 : Int).toNat 0, 0⟩ W M = true := by
    unfold slabFits
    have e : ((W : Int) * M) = ((W * M : Nat) : Int) := by simp
    exact decide_eq_true ⟨by omega, by omega, by simp only [List.length_replicate]; rw [e]; simp; omega⟩
  have HFIT := Lib.hid hfit
  clear hfit
  go_enter Try.func10, Try.ntmps10
  go_wp2_with (first | (go_at_call 24; refine (new_any _ 3).mono ?_; intro e w1 hn; unfold MadeMem at hn; rw [if_pos (by omega)] at hn; obtain ⟨pm, v, rfl, hm, hf, hp, hv⟩ := hn; refine go_stop ?_))
  have hB := hf.keep (new_block w _) (by simp)
  have hsz1 : w.heap.size < w1.heap.size := lt_of_block hB
  have hp' : w.heap.size < pm := by first | omega | (simp at hp; omega)
  have hv' : ∀ j, v.ownBlock = some j → w.heap.size < j := by intro j hj; have := hv j hj; first | omega | (simp at this; omega)
  have HNS := Lib.hid (slab_new_yes w1 pm W M hm (by simp) h1 h2 (by omega))
  have HB1 := Lib.hid hB
  have HF1 := Lib.hid (((Fr.refl [] w).alloc _).trans hf (by simp))
  have HP := Lib.hid hp'
  have HV := Lib.hid hv'
  clear hm hf hp hv hB hp' hv'
  unfold Stop
  go_wp2_with (first | (go_at_call 23; refine HNS.out.mono ?_; intro e w2 hn; obtain ⟨p, mv, rv, fv, rfl, hs, hf2, hnew⟩ := hn.yes HFIT.out; refine go_stop ?_))
  have hmf : ∀ k ∈ MemAt.foot pm v, w.heap.size < k := by
    intro k hk
    simp only [MemAt.foot, List.mem_cons, Option.mem_toList] at hk
    rcases hk with rfl | h
    · exact HP.out
    · exact HV.out k h
  have hfoot : ∀ k ∈ SlabAt.foot p pm mv rv fv, w.heap.size < k := by
    intro k hk
    rcases hnew k hk with h | h
    · exact hmf k h
    · omega
  have hB2 := hf2.keep HB1.out (fun hm => by have := hmf _ hm; omega)
  have hF2 : Fr [] w w2 := HF1.out.trans hf2 (fun x hx => by have := hmf x hx; exact Or.inr (by omega))
  obtain ⟨b0, b1, b2, b3, b4, b5, b6, b7, b8, b9, fb⟩ := cells10 hB2
  have hsz2 : w.heap.size < w2.heap.size := lt_of_block hB2
  have HS2 := Lib.hid hs
  have HB2 := Lib.hid hB2
  have HF2 := Lib.hid hF2
  have HFT := Lib.hid hfoot
  clear hs hf2 hnew hfoot hB2 hF2 hmf
  unfold Stop
  go_wp2_with (at_make; refine wpList_make_any rfl (.const (.int .i64 3)) (.const (.int .i64 3)) 26 38 (.int .u64 0) 1 8 rfl u64_slice u64_info rfl (by decide) 3 rfl rfl (by omega) (by unfold maxLen; omega) ?mk)
  case mk =>
  intro w3 hr hf3
  have hr3 : Ref w3 (.slice (some ⟨w2.heap.size, 0, none⟩) 3 3) [0, 0, 0] := by
    unfold Ref; simpa using hr
  have HRN := Lib.hid (rnew_yes w3 W M 0 hr3 h1 h2 hW hM (by simp; omega) (by omega) (by omega))
  unfold MadeRef at HRN
  rw [HS0.out] at HRN
  have HF3 := Lib.hid (HF2.out.trans hf3 (by simp))
  have HB3 := Lib.hid (hf3.keep HB2.out (by simp))
  have HS3 := Lib.hid (HS2.out.keep hf3 (by simp))
  clear hr hf3 hr3 b0 b1 b2 b3 b4 b5 b6 b7 b8 b9 fb
  go_wp2_with (go_at_call 27; refine HRN.out.mono ?_; rintro e w4 ⟨X, rfl, hX, hf4, hb4⟩; refine go_stop ?_)
  obtain ⟨mx, gx, tx, fx, k, rfl, hrf⟩ := hX
  have hB4 := hf4.keep HB3.out (by simp)
  have hs4 := HS3.out.keep hf4 (by simp)
  have hF4 : Fr [] w w4 := HF3.out.trans hf4 (by simp)
  obtain ⟨⟨ma, mc, rfl⟩, ⟨ga, gc, rfl⟩, ⟨ta, tc, rfl⟩, ⟨fa, fc, rfl⟩⟩ := hrf.forms
  obtain ⟨b0, b1, b2, b3, b4, b5, b6, b7, b8, b9, fb⟩ := cells10 hB4
  have hsz3 : w.heap.size < w3.heap.size := lt_of_block HB3.out
  have hsz4 : w.heap.size < w4.heap.size := lt_of_block hB4
  have HRF := Lib.hid hrf
  have HS4 := Lib.hid hs4
  have HF4 := Lib.hid hF4
  have HBX := Lib.hid hb4
  clear hrf hf4 hb4 hB4 hs4 hF4
  unfold Stop refAgg
  have hsn : SS.new ⟨List.replicate (3 : Int).toNat 0, 0⟩ (W : Int).toNat (M : Int).toNat = SS.new ⟨[0, 0, 0], 0⟩ W M := by
    rw [Int.toNat_natCast, Int.toNat_natCast]; rfl
  rw [hsn, HS0.out] at HS4
  clear hsn
  go_wp2
  refine bodyPost_ret (v := .tuple #[.agg #[.pointer (some ⟨p, 0, none⟩), .pointer (some ⟨pm, 0, none⟩), .slice ma s0.c.length mc, .int .i64 k, .int .i64 s0.first, .int .i64 s0.words, .slice ga s0.recs.length gc, .slice ta s0.recs.length tc, .slice fa s0.row.length fc, .slice none 0 0], .bool true]) (by simp [results, Try.results10, go_sem, *]) rfl ?_
  have hfin : ∀ W', Fr [w.heap.size] w4 W' → (∃ V FT, Ending.returned (.tuple #[.agg #[.pointer (some ⟨p, 0, none⟩), .pointer (some ⟨pm, 0, none⟩), .slice ma s0.c.length mc, .int .i64 k, .int .i64 s0.first, .int .i64 s0.words, .slice ga s0.recs.length gc, .slice ta s0.recs.length tc, .slice fa s0.row.length fc, .slice none 0 0], .bool true]) = .returned (.tuple #[V, .bool true]) ∧ SBoth W' V FT 0 0 s0 [] ∧ Fr [] w W' ∧ ∀ k ∈ FT, w.heap.size ≤ k) := by
    intro W' hW'
    have hft := HFT.out
    refine ⟨_, SlabAt.foot p pm mv rv fv, rfl, ⟨p, pm, mv, rv, fv, 0, _, _, _, _, k, _, rfl, rfl, HS4.out.keep hW' (fun j hj hm => by have := hft j hj; simp at hm; omega), Nat.le_refl _, HRF.out.keep hW' (fun j hj hm => by have := HBX.out j hj; simp at hm; omega), Lies.nil _ _ _, ?_⟩, HF4.out.trans hW' (by intro x hx; simp at hx; exact Or.inr (by omega)), fun j hj => by have := hft j hj; omega⟩
    rintro b (hb | hb)
    · intro hm
      have h1 := HBX.out b hb
      have h2 := HS3.out.lt b hm
      omega
    · simp [Value.ownBlock] at hb
  apply hfin
  repeat (first | (with_reducible exact Fr.refl _ _) | (with_reducible refine Fr.alloc ?_ _) | (with_reducible refine Fr.drew ?_) | (with_reducible refine Fr.setCell ?_ (Or.inl (by simp)) _))

set_option maxRecDepth 100000 in
set_option maxHeartbeats 2000000 in
theorem begun_no (w : World) (words most : Int) (hno : words < 1 ∨ most < 1) :
    Calls Try.prog 10 #[.int .i64 words, .int .i64 most] w (BegunNo w) := by
  have HNO := Lib.hid hno
  have hfit : slabFits ⟨List.replicate (3 : Int).toNat 0, 0⟩ words most = false := by
    unfold slabFits
    rw [decide_eq_false_iff_not]
    rintro ⟨h1, h2, _⟩
    omega
  have HFIT := Lib.hid hfit
  clear hfit hno
  go_enter Try.func10, Try.ntmps10
  go_wp2_with (first | (go_at_call 24; refine (new_any _ 3).mono ?_; intro e w1 hn; unfold MadeMem at hn; rw [if_pos (by omega)] at hn; obtain ⟨pm, v, rfl, hm, hf, hp, hv⟩ := hn; refine go_stop ?_))
  have hB := hf.keep (new_block w _) (by simp)
  have hsz1 : w.heap.size < w1.heap.size := lt_of_block hB
  have hp' : w.heap.size < pm := by first | omega | (simp at hp; omega)
  have hv' : ∀ j, v.ownBlock = some j → w.heap.size < j := by intro j hj; have := hv j hj; first | omega | (simp at this; omega)
  have HNS := Lib.hid (slab_new_no w1 pm words most hm (by simp) (fun h => by have := HNO.out; omega))
  have HB1 := Lib.hid hB
  have HF1 := Lib.hid (((Fr.refl [] w).alloc _).trans hf (by simp))
  have HP := Lib.hid hp'
  have HV := Lib.hid hv'
  clear hm hf hp hv hB hp' hv'
  unfold Stop
  go_wp2_with (first | (go_at_call 23; refine HNS.out.mono ?_; intro e w2 hn; obtain ⟨rfl, v', hm2, hf2, hnew⟩ := hn.no HFIT.out; refine go_stop ?_))
  have hmf : ∀ k ∈ MemAt.foot pm v, w.heap.size < k := by
    intro k hk
    simp only [MemAt.foot, List.mem_cons, Option.mem_toList] at hk
    rcases hk with rfl | h
    · exact HP.out
    · exact HV.out k h
  have hB2 := hf2.keep HB1.out (fun hm => by have := hmf _ hm; omega)
  have hF2 : Fr [] w w2 := HF1.out.trans hf2 (fun x hx => by have := hmf x hx; exact Or.inr (by omega))
  obtain ⟨b0, b1, b2, b3, b4, b5, b6, b7, b8, b9, fb⟩ := cells10 hB2
  have hsz2 : w.heap.size < w2.heap.size := lt_of_block hB2
  have HB2 := Lib.hid hB2
  have HF2 := Lib.hid hF2
  clear hm2 hf2 hnew hB2 hF2 hmf
  unfold Stop
  go_wp2_with (at_make; refine wpList_make_any rfl (.const (.int .i64 3)) (.const (.int .i64 3)) 26 38 (.int .u64 0) 1 8 rfl u64_slice u64_info rfl (by decide) 3 rfl rfl (by omega) (by unfold maxLen; omega) ?mk)
  case mk =>
  intro w3 hr hf3
  have hr3 : Ref w3 (.slice (some ⟨w2.heap.size, 0, none⟩) 3 3) [0, 0, 0] := by
    unfold Ref; simpa using hr
  have HRN := Lib.hid (rnew_no w3 words most 0 hr3 HNO.out)
  have HF3 := Lib.hid (HF2.out.trans hf3 (by simp))
  have HB3 := Lib.hid (hf3.keep HB2.out (by simp))
  clear hr hf3 hr3 b0 b1 b2 b3 b4 b5 b6 b7 b8 b9 fb
  unfold zeroSlab at HRN
  go_wp2_with (go_at_call 27; refine HRN.out.mono ?_; rintro e w4 ⟨rfl, hf4⟩; refine go_stop ?_)
  have hB4 := hf4.keep HB3.out (by simp)
  have hF4 : Fr [] w w4 := HF3.out.trans hf4 (by simp)
  obtain ⟨b0, b1, b2, b3, b4, b5, b6, b7, b8, b9, fb⟩ := cells10 hB4
  have hsz4 : w.heap.size < w4.heap.size := lt_of_block hB4
  have HF4 := Lib.hid hF4
  clear hf4 hB4 hF4
  unfold Stop
  go_wp2
  refine bodyPost_ret (v := .tuple #[.agg #[.pointer none, .pointer (some ⟨pm, 0, none⟩), .slice none 0 0, .int .i64 0, .int .i64 0, .int .i64 0, .slice none 0 0, .slice none 0 0, .slice none 0 0, .slice none 0 0], .bool true]) (by simp [results, Try.results10, go_sem, *]) rfl ?_
  refine ⟨pm, rfl, ?_⟩
  have hfin : ∀ W', Fr [w.heap.size] w4 W' → Fr [] w W' := fun W' h => HF4.out.trans h (by intro x hx; simp at hx; exact Or.inr (by omega))
  apply hfin
  repeat (first | (with_reducible exact Fr.refl _ _) | (with_reducible refine Fr.alloc ?_ _) | (with_reducible refine Fr.drew ?_) | (with_reducible refine Fr.setCell ?_ (Or.inl (by simp)) _))
end Go.Proofs.Ytkampbbginamhaa
