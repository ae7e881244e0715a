/- PACKAGE model: its contracts, but for Serve's -/
import Derived.Test.YtmipllkgioakoaaGreatMdAt
import Derived.Test.YtmipllkgioakoaaGreatHist
import Derived.Test.YtmipllkgioakoaaGreatTxn
namespace Go.Proofs.YtmipllkgioakoaaGreat
open Go.RowKit
set_option linter.unusedVariables false
set_option linter.unusedSimpArgs false

/-- a Model at block p, whose map is at block h, of the blocks S0 -/
structure MdAtB (w : World) (p h : Nat) (S0 : List Nat) (M : MA) : Prop where
  blk : w.heap[p]? = some (.cells #[.pointer (some ⟨h, 0, none⟩), .int .i64 M.seq] 67 (0, 0))
  pn : p ∉ S0
  hs : Hs w h S0 M.H
def Md (w : World) (p : Nat) (S : List Nat) (M : MA) : Prop := ∃ h S0, S = p :: S0 ∧ MdAtB w p h S0 M
theorem MdAtB.keep {w w' : World} {p h : Nat} {S0 T : List Nat} {M : MA} (m : MdAtB w p h S0 M) (hf : Fr T w w') (hp : p ∉ T) (hd : ∀ k ∈ S0, k ∉ T) : MdAtB w' p h S0 M := ⟨hf.keep m.blk hp, m.pn, m.hs.keep hf hd⟩
theorem Md.lt {w : World} {p : Nat} {S : List Nat} {M : MA} (h : Md w p S M) : ∀ k ∈ S, k < w.heap.size := by
  obtain ⟨g, S0, rfl, m⟩ := h
  intro k hk
  rcases List.mem_cons.1 hk with rfl | hk
  · exact lt_of_block m.blk
  · exact m.hs.lt k hk
theorem Md.keep {w w' : World} {p : Nat} {S T : List Nat} {M : MA} (h : Md w p S M) (hf : Fr T w w') (hd : ∀ k ∈ S, k ∉ T) : Md w' p S M := by
  obtain ⟨g, S0, rfl, m⟩ := h
  exact ⟨g, S0, rfl, m.keep hf (hd p (by simp)) (fun k hk => hd k (List.mem_cons_of_mem _ hk))⟩
theorem sdrew {S : List Nat} {a b : World} (h : Fr S a.drew b) : Fr S a b := (((Fr.refl [] a).drew).mono (by simp)).trans h (fun k hk => Or.inl hk)
theorem gdrew {S S' : List Nat} {a : World} (h : Grow S S' a.drew) : Grow S S' a := h
/-- a revision that is asked, 0 being the last one -/
def atR (H : HA) (rev : Int) : Int := if rev = 0 then H.rows.length else rev
/-- what a bounded may do -/
def bdE (H : HA) (ops : List Od) : Int := if ops = [] then 0 else if 1000 ≤ H.rows.length then 9 else if H.hor + 16 < H.rows.length + 1 then 3 else 0
section small
variable {w : World} {g : Nat} {S0 : List Nat} {H : HA}
theorem bnd_last (h : Hs w g S0 H) : Calls Tryz.prog 41 #[.agg #[.pointer (some ⟨g, 0, none⟩)]] w fun e w' => e = .returned (.int .i64 H.rows.length) ∧ Fr [] w w' := by
  have HR : Hid (∀ X, Fr [] w X → Hs X g S0 H) := Lib.hid (fun X hX => h.keep hX (by simp))
  clear h
  go_enter Tryz.func41, Tryz.ntmps41
  go_wp2_with (go_at_call 14; refine (hist_rev (HR.out _ ((Fr.refl _ _).alloc _))).mono ?_; rintro e wn ⟨rfl, rfl⟩; refine go_stop ?_)
  unfold Stop
  go_wp2
  go_ret
  exact ⟨rfl, (Fr.refl _ _).alloc _⟩
theorem bnd_hor (h : Hs w g S0 H) : Calls Tryz.prog 42 #[.agg #[.pointer (some ⟨g, 0, none⟩)]] w fun e w' => e = .returned (.int .i64 H.hor) ∧ Fr [] w w' := by
  have HR : Hid (∀ X, Fr [] w X → Hs X g S0 H) := Lib.hid (fun X hX => h.keep hX (by simp))
  clear h
  go_enter Tryz.func42, Tryz.ntmps42
  go_wp2_with (go_at_call 58; refine (hist_hor (HR.out _ ((Fr.refl _ _).alloc _))).mono ?_; rintro e wn ⟨rfl, rfl⟩; refine go_stop ?_)
  unfold Stop
  go_wp2
  go_ret
  exact ⟨rfl, (Fr.refl _ _).alloc _⟩
theorem bnd_compact {n : Nat} (rev : Int) (h : Hs w g S0 H) (hk : HOk H n) (hn : n ≤ 1000) : Calls Tryz.prog 46 #[.agg #[.pointer (some ⟨g, 0, none⟩)], .int .i64 rev] w fun e w' =>
    ∃ S', e = .returned (.int .i64 (H.comE rev)) ∧ Hs w' g S' (H.com rev) ∧ Fr S0 w w' ∧ Grow S0 S' w := by
  have HR : Hid (∀ X, Fr [] w X → Hs X g S0 H) := Lib.hid (fun X hX => h.keep hX (by simp))
  clear h
  go_enter Tryz.func46, Tryz.ntmps46
  go_wp2_with (go_at_call 19; refine (hist_compact rev (HR.out _ ((Fr.refl _ _).alloc _)) hk hn).mono ?_; rintro e w1 ⟨S', rfl, h1, h2, h3⟩; refine go_stop ?_)
  unfold Stop
  have H1 := Lib.hid h1
  have H2 := Lib.hid h2
  have H3 := Lib.hid h3
  clear h1 h2 h3
  go_wp2
  go_ret
  have hal : Fr [] w (w.alloc (.cells #[.pointer (some ⟨g, 0, none⟩)] 65)) := (Fr.refl [] w).alloc _
  exact ⟨S', rfl, H1.out, (hal.mono (by simp)).trans H2.out (fun k hk => Or.inl hk), fun k hk => (H3.out k hk).imp id (fun hl => Nat.le_trans hal.size hl)⟩
set_option maxHeartbeats 2000000 in
theorem bnd_read {n : Nat} (rev : Int) (f t : ByteArray) (h : Hs w g S0 H) (hk : HOk H n) (hn : n ≤ 1000) : Calls Tryz.prog 45 #[.agg #[.pointer (some ⟨g, 0, none⟩)], .int .i64 rev, .agg #[.string f, .string t]] w fun e w' =>
    ∃ v, e = .returned (.tuple #[v, .int .i64 (H.atE (atR H rev))]) ∧ LFar S0 Kv.cells 3 w' v (H.atL (atR H rev) f t) ∧ (∀ k, v.ownBlock = some k → w.heap.size ≤ k) ∧ Fr [] w w' := by
  have HR : Hid (∀ X, Fr [] w X → Hs X g S0 H) := Lib.hid (fun X hX => h.keep hX (by simp))
  have HA : Hid (∀ X, Fr [] w X → ∀ r : Int, Calls Tryz.prog 11 #[.pointer (some ⟨g, 0, none⟩), .int .i64 r, .agg #[.string f, .string t]] X fun e w' => ∃ v, e = .returned (.tuple #[v, .int .i64 (H.atE r)]) ∧ LFar S0 Kv.cells 3 w' v (H.atL r f t) ∧ (∀ k, v.ownBlock = some k → w.heap.size ≤ k) ∧ Fr [] w w') := Lib.hid fun X hX r => by
    refine (hist_at r f t (HR.out X hX) hk hn).mono ?_
    rintro e w' ⟨v, rfl, h1, h2, h3⟩
    exact ⟨v, rfl, h1, fun k hk => Nat.le_trans hX.size (h2 k hk), hX.trans h3 (by simp)⟩
  clear h hk
  obtain ⟨wb, hwb⟩ : ∃ wb, wb = (w.alloc (.cells #[.pointer (some ⟨g, 0, none⟩)] 65)).alloc (.cells #[.string f, .string t] 31) := ⟨_, rfl⟩
  have HWB := Lib.hid hwb
  have HF : Hid (Fr [] w wb) := Lib.hid (by rw [hwb]; exact ((Fr.refl [] w).alloc _).alloc _)
  have HB : Hid (wb.heap[w.heap.size]? = some (.cells #[.pointer (some ⟨g, 0, none⟩)] 65 (0, 0))) := Lib.hid (by rw [hwb]; exact ((Fr.refl [] (w.alloc _)).alloc _).keep (new_block w _) (by simp))
  have HC : Hid (wb.heap[w.heap.size + 1]? = some (.cells #[.string f, .string t] 31 (0, 0))) := Lib.hid (by
    rw [hwb]
    have h1 := new_block (w.alloc (.cells #[.pointer (some ⟨g, 0, none⟩)] 65)) (.cells #[.string f, .string t] 31)
    simp only [World.size_alloc] at h1
    exact h1)
  clear hwb
  by_cases h0 : rev = 0
  · have HAT : Hid (atR H rev = (H.rows.length : Int)) := Lib.hid (by unfold atR; rw [if_pos h0])
    have t1 : (rev == 0) = true := by simpa using h0
    clear h0
    go_enter Tryz.func45, Tryz.ntmps45
    go_wp2_with (go_at_call 41; rw [← HWB.out]; refine (bnd_last (HR.out _ HF.out)).mono ?_; rintro e w1 ⟨rfl, h1⟩; refine go_stop ?_)
    unfold Stop
    have F1 := Lib.hid (HF.out.trans h1 (by simp))
    obtain ⟨c0, _⟩ := cells1 (h1.keep HB.out (by simp))
    obtain ⟨d0, d1, _⟩ := cells2 (h1.keep HC.out (by simp))
    clear h1
    go_wp2_with (go_at_call 11; refine (HA.out _ F1.out _).mono ?_; rintro e w2 ⟨v, rfl, h1, h2, h3⟩; have H1 := Lib.hid h1; have H2 := Lib.hid h2; have H3 := Lib.hid h3; clear h1 h2 h3)
    refine bodyPost_ret (v := .tuple #[v, .int .i64 (H.atE (H.rows.length : Int))]) (by simp [results, Tryz.results45, go_sem]) rfl ?_
    rw [HAT.out]
    exact ⟨v, rfl, H1.out, H2.out, H3.out⟩
  · have HAT : Hid (atR H rev = rev) := Lib.hid (by unfold atR; rw [if_neg h0])
    have t1 : (rev == 0) = false := by simpa using h0
    clear h0
    go_enter Tryz.func45, Tryz.ntmps45
    go_wp2_with (go_at_call 11; rw [← HWB.out]; refine (HA.out _ HF.out _).mono ?_; rintro e w2 ⟨v, rfl, h1, h2, h3⟩; have H1 := Lib.hid h1; have H2 := Lib.hid h2; have H3 := Lib.hid h3; clear h1 h2 h3)
    refine bodyPost_ret (v := .tuple #[v, .int .i64 (H.atE rev)]) (by simp [results, Tryz.results45, go_sem]) rfl ?_
    rw [HAT.out]
    exact ⟨v, rfl, H1.out, H2.out, H3.out⟩
theorem bnd_now {n : Nat} (h : Hs w g S0 H) (hk : HOk H n) (hn : n ≤ 1000) : Calls Tryz.prog 48 #[.agg #[.pointer (some ⟨g, 0, none⟩)]] w fun e w' =>
    ∃ s c, e = .returned (.slice s (mapN H.rows H.rows.length).length c) ∧ KvIn w' (.slice s (mapN H.rows H.rows.length).length c) (mapN H.rows H.rows.length) ∧ Fr [] w w' := by
  have HAT : Hid (H.atE (atR H 0) = 0 ∧ H.atL (atR H 0) ⟨#[]⟩ ⟨#[]⟩ = mapN H.rows H.rows.length) := Lib.hid (by
    unfold atR; rw [if_pos rfl]; exact at_ok (H := H) (n := H.rows.length) hk.hor (Nat.le_refl _))
  have HA : Hid (∀ X, Fr [] w X → Calls Tryz.prog 45 #[.agg #[.pointer (some ⟨g, 0, none⟩)], .int .i64 0, .agg #[.string ⟨#[]⟩, .string ⟨#[]⟩]] X fun e w' => ∃ s c, e = .returned (.tuple #[.slice s (mapN H.rows H.rows.length).length c, .int .i64 0]) ∧ KvIn w' (.slice s (mapN H.rows H.rows.length).length c) (mapN H.rows H.rows.length) ∧ Fr [] w w') := Lib.hid fun X hX => by
    refine (bnd_read 0 ⟨#[]⟩ ⟨#[]⟩ (h.keep hX (by simp)) hk hn).mono ?_
    rintro e w' ⟨v, rfl, h1, h2, h3⟩
    rw [HAT.out.1]
    rw [HAT.out.2] at h1
    obtain ⟨s, c, rfl, _⟩ := h1.form
    exact ⟨s, c, rfl, h1.lin, hX.trans h3 (by simp)⟩
  clear h hk
  go_enter Tryz.func48, Tryz.ntmps48
  go_wp2_with (go_at_call 45; refine (HA.out _ (by first | exact (Fr.refl _ _).alloc _ | exact ((Fr.refl _ _).alloc _).drew)).mono ?_; rintro e w2 ⟨s, c, rfl, h1, h3⟩; have H1 := Lib.hid h1; have H3 := Lib.hid h3; clear h1 h3)
  go_ret
  exact ⟨s, c, rfl, H1.out, H3.out⟩
/-- what change leaves -/
def bdN (H : HA) (ops : List Od) : HA := if bdE H ops = 0 then H.app ops else H
theorem bdE_cases (H : HA) (ops : List Od) : (ops = [] ∧ bdE H ops = 0) ∨ (ops ≠ [] ∧ 1000 ≤ H.rows.length ∧ bdE H ops = 9) ∨ (ops ≠ [] ∧ H.rows.length < 1000 ∧ H.hor + 16 < H.rows.length + 1 ∧ bdE H ops = 3) ∨ (ops ≠ [] ∧ H.rows.length < 1000 ∧ H.rows.length + 1 ≤ H.hor + 16 ∧ bdE H ops = 0) := by
  unfold bdE
  by_cases h1 : ops = []
  · exact Or.inl ⟨h1, by rw [if_pos h1]⟩
  · by_cases h2 : 1000 ≤ H.rows.length
    · exact Or.inr (Or.inl ⟨h1, h2, by rw [if_neg h1, if_pos h2]⟩)
    · by_cases h3 : H.hor + 16 < H.rows.length + 1
      · exact Or.inr (Or.inr (Or.inl ⟨h1, by omega, h3, by rw [if_neg h1, if_neg h2, if_pos h3]⟩))
      · exact Or.inr (Or.inr (Or.inr ⟨h1, by omega, by omega, by rw [if_neg h1, if_neg h2, if_neg h3]⟩))
set_option maxHeartbeats 4000000 in
theorem bnd_change {n : Nat} (ov : Value) (ops : List Od) (h : Hs w g S0 H) (hk : HOk H n) (hn : n ≤ 1000) (ho : LFar S0 Od.cells 3 w ov ops) (bo : ops.length ≤ 20) : Calls Tryz.prog 49 #[.agg #[.pointer (some ⟨g, 0, none⟩)], ov] w fun e w' =>
    ∃ S', e = .returned (.int .i64 (bdE H ops)) ∧ Hs w' g S' (bdN H ops) ∧ Fr S0 w w' ∧ Grow S0 S' w := by
  obtain ⟨s1, c1, rfl, la1, ma1⟩ := ho.form
  have hrl : H.rows.length ≤ 1000 := by have := hk.rev; omega
  have hhl : H.hor ≤ H.rows.length := hk.hor
  have HOK := Lib.hid hk
  obtain ⟨wb, hwb⟩ : ∃ wb, wb = w.alloc (.cells #[.pointer (some ⟨g, 0, none⟩)] 65) := ⟨_, rfl⟩
  have HWB := Lib.hid hwb
  have HF : Hid (Fr [] w wb) := Lib.hid (by rw [hwb]; exact (Fr.refl [] w).alloc _)
  have HB : Hid (wb.heap[w.heap.size]? = some (.cells #[.pointer (some ⟨g, 0, none⟩)] 65 (0, 0))) := Lib.hid (by rw [hwb]; exact new_block w _)
  have HR : Hid (∀ X, Fr [] w X → Hs X g S0 H) := Lib.hid (fun X hX => h.keep hX (by simp))
  have HO : Hid (∀ X, Fr [] w X → LFar S0 Od.cells 3 X (.slice s1 ops.length c1) ops) := Lib.hid (fun X hX => ho.keep0 hX)
  have HN : Hid ((bdE H ops = 0 → bdN H ops = H.app ops) ∧ (bdE H ops ≠ 0 → bdN H ops = H)) := Lib.hid ⟨fun h => by unfold bdN; rw [if_pos h], fun h => by unfold bdN; rw [if_neg h]⟩
  unfold maxLen at ma1
  clear hwb h hk ho
  rcases bdE_cases H ops with ⟨hp, hc⟩ | ⟨hp, hr, hc⟩ | ⟨hp, hr, hg, hc⟩ | ⟨hp, hr, hg, hc⟩
  · have HH : Hid (∀ X, Fr [] w X → Hs X g S0 (H.app ops)) := Lib.hid (fun X hX => by rw [hp, app_nil]; exact HR.out X hX)
    have HC := Lib.hid hc
    have t0 : (ops.length : Int) = 0 := by rw [hp]; rfl
    clear hp hc
    go_enter Tryz.func49, Tryz.ntmps49
    go_wp2_with fail
    go_ret
    have hal : Fr [] w (w.alloc (.cells #[.pointer (some ⟨g, 0, none⟩)] 65)) := (Fr.refl [] w).alloc _
    exact ⟨S0, by rw [HC.out]; rfl, by rw [HN.out.1 HC.out]; exact HH.out _ hal, hal.mono (by simp), Grow.refl _ _⟩
  all_goals
    have hpos : 0 < ops.length := List.length_pos_iff.2 hp
    have HOL := Lib.hid hp
    have HC := Lib.hid hc
    clear hp hc
    have t1 : ((ops.length : Int) == 0) = false := beq_eq_false_iff_ne.2 (by omega)
    go_enter Tryz.func49, Tryz.ntmps49
  · have t2 : ((H.rows.length : Int) == 1000) = true := by simp; omega
    go_wp2_with (go_at_call 41; rw [← HWB.out]; refine (bnd_last (HR.out _ HF.out)).mono ?_; rintro e w1 ⟨rfl, h1⟩; have F1 := Lib.hid (HF.out.trans h1 (by simp)); clear h1)
    go_ret
    exact ⟨S0, by rw [HC.out]; rfl, by rw [HN.out.2 (by rw [HC.out]; decide)]; exact HR.out _ F1.out, F1.out.mono (by simp), Grow.refl _ _⟩
  all_goals
    have t2 : ((H.rows.length : Int) == 1000) = false := by simp; omega
    have sm1 : IntKind.i64.wrap ((H.rows.length : Int) + 1) = (H.rows.length : Int) + 1 := IntWalk.i64_in _ (by omega)
    have sm2 : IntKind.i64.wrap ((H.rows.length : Int) + 1 - (H.hor : Int)) = (H.rows.length : Int) + 1 - (H.hor : Int) := IntWalk.i64_in _ (by omega)
    go_wp2_with (go_at_call 41; rw [← HWB.out]; refine (bnd_last (HR.out _ HF.out)).mono ?_; rintro e w1 ⟨rfl, h1⟩; refine go_stop ?_)
    unfold Stop
    have F1 := Lib.hid (HF.out.trans h1 (by simp))
    have HB1 := Lib.hid (h1.keep HB.out (by simp))
    obtain ⟨c0, _⟩ := cells1 HB1.out
    clear h1
    go_upto_region 5 with fail
    go_region_held3 (fun w' => w'.cell? ⟨w.heap.size, 0, none⟩ = some (.pointer (some ⟨g, 0, none⟩))) (first | go_keep | assumption) (first
      | (go_at_call 41; refine (bnd_last (HR.out _ (by first | exact F1.out | exact F1.out.drew))).mono ?_; rintro e w5 ⟨rfl, h1⟩; have F5 := Lib.hid (F1.out.trans (drew_trans h1) (by simp)); have HB5 := Lib.hid ((drew_trans h1).keep HB1.out (by simp)); have e0 := h1.cell c0 (by simp); clear h1 c0)
      | (go_at_call 42; refine (bnd_hor (HR.out _ (by first | exact F5.out | exact F5.out.drew))).mono ?_; rintro e w6 ⟨rfl, h1⟩; have F6 := Lib.hid (F5.out.trans h1 (by simp)); have HB6 := Lib.hid (h1.keep HB5.out (by simp)); have g0 := h1.cell e0 (by simp); clear h1 e0))
  · have t3 : decide ((16 : Int) < (H.rows.length : Int) + 1 - (H.hor : Int)) = true := by simp; omega
    go_wp2_with fail
    go_ret
    exact ⟨S0, by rw [HC.out]; rfl, by rw [HN.out.2 (by rw [HC.out]; decide)]; exact HR.out _ F6.out, F6.out.mono (by simp), Grow.refl _ _⟩
  · have t3 : decide ((16 : Int) < (H.rows.length : Int) + 1 - (H.hor : Int)) = false := by simp; omega
    go_wp2_with (go_at_call 17; refine (hist_apply (n := n) _ ops (HR.out _ F6.out) HOK.out hn (HO.out _ F6.out) (by omega)).mono ?_; rintro e w7 ⟨v7, S1, rfl, h1, h2, h3, h4, h5⟩; have H1 := Lib.hid h1; have H4 := Lib.hid h4; have H5 := Lib.hid h5; clear h1 h2 h3 h4 h5)
    go_ret
    exact ⟨S1, by rw [HC.out]; rfl, by rw [HN.out.1 HC.out]; exact H1.out, (F6.out.mono (by simp)).trans H4.out (fun k hk => Or.inl hk), fun k hk => (H5.out k hk).imp id (fun hl => Nat.le_trans F6.out.size hl)⟩
end small
theorem mdl_new (w : World) : Calls Tryz.prog 5 #[] w fun e w' => ∃ p S, e = .returned (.pointer (some ⟨p, 0, none⟩)) ∧ Md w' p S MA.zero ∧ Fr [] w w' ∧ ∀ k ∈ S, w.heap.size ≤ k := by
  go_enter Tryz.func5, Tryz.ntmps5
  go_wp2_with (go_at_call 6; refine (hist_new _).mono ?_; rintro e w1 ⟨h, S0, rfl, h1, h2, h3⟩; refine go_stop ?_)
  unfold Stop
  have H1 := Lib.hid h1
  have H2 := Lib.hid h2
  have H3 := Lib.hid h3
  clear h1 h2 h3
  go_wp2
  go_ret
  have hal : Fr [] w1 (w1.alloc (.cells #[.pointer (some ⟨h, 0, none⟩), .int .i64 0] 67)) := (Fr.refl [] w1).alloc _
  refine ⟨w1.heap.size, _ :: S0, rfl, ⟨h, S0, rfl, new_block w1 _, fun hm => by have := H1.out.lt _ hm; omega, H1.out.keep hal (by simp)⟩, H2.out.trans hal (by simp), fun k hk => ?_⟩
  rcases List.mem_cons.1 hk with rfl | hk
  · exact H2.out.size
  · exact H3.out k hk
theorem mdl_head_nil (w : World) : Calls Tryz.prog 21 #[.pointer none] w fun e w' => e = .returned (.agg #[.int .i64 0, .int .i64 0, .int .i64 0]) ∧ Fr [] w w' := by
  go_enter Tryz.func21, Tryz.ntmps21
  go_wp2
  refine bodyPost_ret (v := .agg #[.int .i64 0, .int .i64 0, .int .i64 0]) (by simp [results, Tryz.results21, go_sem]) rfl ?_
  exact ⟨rfl, (Fr.refl _ _).alloc _⟩
theorem mdl_serve_nil (qc : Array Value) (w : World) : Calls Tryz.prog 9 #[.pointer none, .agg qc] w fun e w' => e = .returned (.agg #[.int .i64 0, .int .i64 0, .int .i64 0, .int .i64 1, .bool false, .slice none 0 0]) ∧ Fr [] w w' := by
  go_enter Tryz.func9, Tryz.ntmps9
  go_wp2
  refine bodyPost_ret (v := .agg #[.int .i64 0, .int .i64 0, .int .i64 0, .int .i64 1, .bool false, .slice none 0 0]) (by simp [results, Tryz.results9, go_sem]) rfl ?_
  exact ⟨rfl, ((Fr.refl _ _).alloc _).alloc _⟩
set_option maxHeartbeats 2000000 in
theorem mdl_head {w : World} {p : Nat} {S : List Nat} {M : MA} (h : Md w p S M) : Calls Tryz.prog 21 #[.pointer (some ⟨p, 0, none⟩)] w fun e w' => e = .returned (.agg #[.int .i64 M.seq, .int .i64 M.H.rows.length, .int .i64 M.H.hor]) ∧ Fr [] w w' := by
  obtain ⟨g, S0, rfl, m⟩ := h
  obtain ⟨wb, hwb⟩ : ∃ wb, wb = w.alloc (.cells #[.int .i64 0, .int .i64 0, .int .i64 0] 29) := ⟨_, rfl⟩
  have HWB := Lib.hid hwb
  have HF : Hid (Fr [] w wb) := Lib.hid (by rw [hwb]; exact (Fr.refl [] w).alloc _)
  have HB : Hid (wb.heap[w.heap.size]? = some (.cells #[.int .i64 0, .int .i64 0, .int .i64 0] 29 (0, 0))) := Lib.hid (by rw [hwb]; exact new_block w _)
  have HM := Lib.hid (m.keep HF.out (by simp) (by simp))
  have n1 : ¬ w.heap.size = p := fun e => by have := lt_of_block m.blk; omega
  have n2 : ¬ p = w.heap.size := fun e => n1 e.symm
  obtain ⟨c0, c1, _⟩ := cells2 HM.out.blk
  clear hwb m
  go_enter Tryz.func21, Tryz.ntmps21
  go_upto_region 1 with fail
  rw [← HWB.out]
  have HR : Hid (∀ X, Fr [] wb X → Hs X g S0 M.H) := Lib.hid (fun X hX => HM.out.hs.keep hX (by simp))
  go_upto_region 3 with fail
  go_region_held3 (fun w' => w'.cell? ⟨p, 0, none⟩ = some (.pointer (some ⟨g, 0, none⟩)) ∧ w'.cell? ⟨p, 1, none⟩ = some (.int .i64 M.seq)) (first | go_keep | (exact ⟨by assumption, by assumption⟩)) (first
    | (go_at_call 41; refine (bnd_last (HR.out _ (by first | exact (Fr.refl _ _).drew | exact Fr.refl _ _))).mono ?_; rintro e w5 ⟨rfl, h1⟩; have F5 := Lib.hid (drew_trans h1); have e0 := h1.cell c0 (by simp); have e1 := h1.cell c1 (by simp); clear h1 c0 c1)
    | (go_at_call 42; refine (bnd_hor (HR.out _ (by first | exact F5.out.drew | exact F5.out))).mono ?_; rintro e w6 ⟨rfl, h1⟩; have F6 := Lib.hid (F5.out.trans h1 (by simp)); have g0 := h1.cell e0 (by simp); have g1 := h1.cell e1 (by simp); have HB6 := Lib.hid (h1.keep (F5.out.keep HB.out (by simp)) (by simp)); obtain ⟨b0, b1, b2, bz⟩ := cells3 HB6.out; clear h1 e0 e1))
  go_wp2_with fail
  refine bodyPost_ret (v := .agg #[.int .i64 M.seq, .int .i64 M.H.rows.length, .int .i64 M.H.hor]) (by simp [results, Tryz.results21, go_sem, *]) rfl ?_
  exact ⟨rfl, Fr.set3 (HF.out.trans F6.out (by simp)) (Nat.le_refl _) _ _ _⟩
end Go.Proofs.YtmipllkgioakoaaGreat
