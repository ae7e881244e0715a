/- PACKAGE subidx: add: contract -/
import Derived.Test.YtcieokfjkfpajaaSiBal
import Derived.Test.YtcieokfjkfpajaaSiTow
namespace Go.Proofs.Ytcieokfjkfpajaa
open Go.RowKit
set_option linter.unusedVariables false
set_option linter.unusedSimpArgs false

theorem addT_perm (nb : Nat) (n : Sb) : ∀ t : Tr, (addT nb n t).lst.Perm ((nb, n) :: t.lst)
  | .nil => by unfold addT; rw [balT_lst]; exact List.Perm.refl _
  | .node b s l r => by
    unfold addT
    split
    · rw [balT_lst]
      exact (addT_perm nb n l).append_right _
    · rw [balT_lst]
      refine ((addT_perm nb n r).cons (b, s)).append_left _ |>.trans ?_
      refine ((List.Perm.swap (nb, n) (b, s) r.lst).append_left l.lst).trans ?_
      exact List.perm_middle
theorem addT_mem {nb : Nat} {n : Sb} {t : Tr} (k : Nat) : k ∈ (addT nb n t).blks ↔ k = nb ∨ k ∈ t.blks := by
  unfold Tr.blks
  rw [((addT_perm nb n t).map (·.1)).mem_iff]
  simp
theorem addT_nodup {nb : Nat} {n : Sb} {t : Tr} (h : t.blks.Nodup) (hn : nb ∉ t.blks) : (addT nb n t).blks.Nodup := by
  unfold Tr.blks at *
  rw [((addT_perm nb n t).map (·.1)).nodup_iff]
  exact List.nodup_cons.2 ⟨hn, h⟩
theorem addT_len (nb : Nat) (n : Sb) (t : Tr) : (addT nb n t).lst.length = t.lst.length + 1 := by rw [(addT_perm nb n t).length_eq]; rfl
set_option maxHeartbeats 4000000 in
theorem si_add (nb : Nat) (n : Sb) (t : Tr) : ∀ (w : World), TrAt w t → Hole w nb n none none → nb ∉ t.blks → t.blks.Nodup → t.lst.length + 1 < 1000000 →
    Calls Try.prog 28 #[.pointer t.ptr, .pointer (some ⟨nb, 0, none⟩)] w fun e w' => e = .returned (.pointer (addT nb n t).ptr) ∧ TrAt w' (addT nb n t) ∧ Fr (nb :: t.blks) w w' := by
  induction t with
  | nil =>
    intro w ht hh hn hd hs
    have C := Lib.hid (si_balance nb n .nil .nil w hh trivial trivial (by rw [Tr.blks_node]; simp [Tr.blks, Tr.lst]) (by simp [Tr.lst]))
    show Calls Try.prog 28 #[.pointer none, .pointer (some ⟨nb, 0, none⟩)] w _
    have e1 : addT nb n .nil = balT nb n .nil .nil := rfl
    rw [e1]
    obtain ⟨P, hP⟩ : ∃ P, P = (balT nb n .nil .nil).ptr := ⟨_, rfl⟩
    rw [← hP] at C ⊢
    clear hP e1 hh ht hn hd hs
    go_enter Try.func28, Try.ntmps28
    go_wp2_with (go_at_call 34; refine C.out.mono ?_; rintro e w1 ⟨rfl, ht, hf⟩; have HT := Lib.hid ht; have HF := Lib.hid hf; clear ht hf)
    go_ret
    exact ⟨rfl, HT.out, HF.out⟩
  | node b s l r ihl ihr =>
    intro w ht hh hn hd hs
    obtain ⟨n1, n2, n3, n4, n5⟩ := nd_node hd
    rw [Tr.blks_node] at hn
    have hnl : nb ∉ l.blks := fun h => hn (by simp [h])
    have hnr : nb ∉ r.blks := fun h => hn (by simp [h])
    have hnb : ¬ nb = b := fun h => hn (by simp [h])
    have hbn : ¬ b = nb := fun h => hnb h.symm
    simp only [Tr.lst, List.length_append, List.length_cons] at hs
    have HW := Lib.hid ht
    have HH := Lib.hid hh
    obtain ⟨nh, nhu, hnod⟩ := hh
    have hbod := ht.1
    have HTO := Lib.hid fun (W : World) (hW : Fr [] w W) => si_toward n s b _ _ _ _ W (NodB.keep hbod hW (by simp))
    have TAL := Lib.hid fun (W : World) (hW : Fr [] w W) => ihl W (ht.2.1.keep0 hW) (Hole.keep HH.out hW (by simp)) hnl n1 (by omega)
    have TAR := Lib.hid fun (W : World) (hW : Fr [] w W) => ihr W (ht.2.2.keep0 hW) (Hole.keep HH.out hW (by simp)) hnr n2 (by omega)
    clear ihl ihr
    obtain ⟨x0, x1, x2, x3, _⟩ := nod_cells hnod
    obtain ⟨y0, y1, y2, y3, y4, y5, y6, y7, y8, yf⟩ := nod_cells hbod
    clear hnod hbod yf y0 y1 y2 y3 y6 y7 y8
    have HBOD := Lib.hid HW.out.1
    have N3 := Lib.hid n3
    have N4 := Lib.hid n4
    have N5 := Lib.hid n5
    have HS := Lib.hid hs
    have ND := Lib.hid hd
    have N1 := Lib.hid n1
    have N2 := Lib.hid n2
    have HNL := Lib.hid hnl
    have HNR := Lib.hid hnr
    have HL := Lib.hid ht.2.1
    have HR := Lib.hid ht.2.2
    clear n1 n2 n3 n4 n5 hd hs hn ht hnl hnr HW
    show Calls Try.prog 28 #[.pointer (some ⟨b, 0, none⟩), .pointer (some ⟨nb, 0, none⟩)] w _
    by_cases hlt : lsS n s = true
    · have e1 : addT nb n (.node b s l r) = balT b s (addT nb n l) r := by rw [addT, if_pos hlt]
      rw [if_pos hlt] at HTO
      have E1 := Lib.hid e1
      rw [e1]
      clear e1 hlt
      obtain ⟨tp, htp⟩ : ∃ tp, tp = (addT nb n l).ptr := ⟨_, rfl⟩
      have CB : Hid (∀ W, Hole W b s tp r.ptr → TrAt W (addT nb n l) → TrAt W r → _) := Lib.hid fun W h1 h2 h3 => si_balance b s (addT nb n l) r W (by rw [← htp]; exact h1) h2 h3 (by
        exact nd_make (addT_nodup N1.out HNL.out) N2.out (fun h => (((addT_mem b).1 h).elim hbn N3.out)) N4.out (fun k hk => ((addT_mem k).1 hk).elim (fun e => by rw [e]; exact HNR.out) (N5.out k))) (by
        have := HS.out
        simp only [Tr.lst, List.length_append, List.length_cons, addT_len]
        omega)
      rw [← htp] at TAL
      have HTP := Lib.hid htp
      obtain ⟨P, hP⟩ : ∃ P, P = (balT b s (addT nb n l) r).ptr := ⟨_, rfl⟩
      rw [← hP] at CB ⊢
      clear hP htp TAR
      generalize hpl : l.ptr = pl at *
      generalize hpr : r.ptr = pr at *
      clear hpl hpr
      obtain ⟨ni, nr, nf, nt⟩ := n
      unfold Sb.val at HTO
      dsimp only at *
      go_enter Try.func28, Try.ntmps28
      go_wp2_with (go_at_call 35; refine (HTO.out _ (Fr.refl [] w)).mono ?_; rintro e w1 ⟨rfl, hf1⟩; refine go_stop ?_)
      have HF1 := Lib.hid hf1
      have z4 := hf1.cell y4 (by simp)
      clear x0 x1 x2 x3 y4 y5 hf1
      unfold Stop
      go_upto_region 4 with fail
      go_region_with ((go_at_call 28; refine (TAL.out _ (HF1.out.trans (Fr.refl [] w1).drew (by simp))).mono ?_; rintro e w2 ⟨rfl, ht2, hf2⟩; have HF2 := Lib.hid (((HF1.out.trans (Fr.refl [] w1).drew (by simp)).mono (by simp)).trans hf2 (fun x hx => Or.inl hx)); have HT2 := Lib.hid ht2; have hb2 := NodB.keep HBOD.out HF2.out (by simp only [List.mem_cons, not_or]; exact ⟨hbn, N3.out⟩); obtain ⟨_, _, _, _, k4, k5, _, _, _, kf⟩ := nod_cells hb2; have kf4 := kf 4; have hlt2 := hb2.lt; have HB2 := Lib.hid hb2; clear hb2 ht2 hf2 kf))
      have hb3 : Hole (w2.setCell ⟨b, 4, none⟩ (.pointer tp)) b s tp pr := ⟨_, _, nod_set4 HB2.out tp⟩
      have ht3 : TrAt (w2.setCell ⟨b, 4, none⟩ (.pointer tp)) (addT nb ⟨ni, nr, nf, nt⟩ l) := TrAt.keep (fr_set1 (Fr.refl [b] w2) (by simp) _ _) HT2.out (by intro k hk; simp only [List.mem_cons, List.not_mem_nil, or_false]; rintro rfl; exact ((addT_mem _).1 hk).elim hbn N3.out)
      have ho3 : TrAt (w2.setCell ⟨b, 4, none⟩ (.pointer tp)) r := TrAt.keep (fr_set1 (Fr.refl [b] w2) (by simp) _ _) (TrAt.keep HF2.out HR.out (by intro k hk; simp only [List.mem_cons, not_or]; exact ⟨fun e => HNR.out (e ▸ hk), fun h => N5.out k h hk⟩)) (by intro k hk; simp only [List.mem_cons, List.not_mem_nil, or_false]; rintro rfl; exact N4.out hk)
      have hf3 : Fr (nb :: (Tr.node b s l r).blks) w (w2.setCell ⟨b, 4, none⟩ (.pointer tp)) := fr_set1 (HF2.out.mono (by intro k hk; left; rw [Tr.blks_node]; simp only [List.mem_cons, List.mem_append] at hk ⊢; rcases hk with h | h <;> simp [h])) (by rw [Tr.blks_node]; simp) _ _
      have C := Lib.hid (CB.out _ hb3 ht3 ho3)
      have HF3 := Lib.hid hf3
      clear hb3 ht3 ho3 hf3 k4 k5 kf4 hlt2 z4
      generalize w2.setCell ⟨b, 4, none⟩ (.pointer tp) = w3 at *
      go_wp2_with (go_at_call 34; refine C.out.mono ?_; rintro e w4 ⟨rfl, ht4, hf4⟩; have HT4 := Lib.hid ht4; have HF4 := Lib.hid hf4; clear ht4 hf4)
      go_ret
      refine ⟨rfl, HT4.out, HF3.out.trans HF4.out ?_⟩
      intro k hk
      left
      rw [Tr.blks_node] at hk ⊢
      simp only [List.mem_cons, List.mem_append, addT_mem] at hk ⊢
      rcases hk with (h | h) | h | h <;> simp [h]
    · have e1 : addT nb n (.node b s l r) = balT b s l (addT nb n r) := by rw [addT, if_neg hlt]
      rw [if_neg hlt] at HTO
      have E1 := Lib.hid e1
      rw [e1]
      clear e1 hlt
      obtain ⟨tp, htp⟩ : ∃ tp, tp = (addT nb n r).ptr := ⟨_, rfl⟩
      have CB : Hid (∀ W, Hole W b s l.ptr tp → TrAt W (addT nb n r) → TrAt W l → _) := Lib.hid fun W h1 h2 h3 => si_balance b s l (addT nb n r) W (by rw [← htp]; exact h1) h3 h2 (by
        exact nd_make N1.out (addT_nodup N2.out HNR.out) N3.out (fun h => (((addT_mem b).1 h).elim hbn N4.out)) (fun k hk hk2 => ((addT_mem k).1 hk2).elim (fun e => HNL.out (by rw [← e]; exact hk)) (N5.out k hk))) (by
        have := HS.out
        simp only [Tr.lst, List.length_append, List.length_cons, addT_len]
        omega)
      rw [← htp] at TAR
      have HTP := Lib.hid htp
      obtain ⟨P, hP⟩ : ∃ P, P = (balT b s l (addT nb n r)).ptr := ⟨_, rfl⟩
      rw [← hP] at CB ⊢
      clear hP htp TAL
      generalize hpl : l.ptr = pl at *
      generalize hpr : r.ptr = pr at *
      clear hpl hpr
      obtain ⟨ni, nr, nf, nt⟩ := n
      unfold Sb.val at HTO
      dsimp only at *
      go_enter Try.func28, Try.ntmps28
      go_wp2_with (go_at_call 35; refine (HTO.out _ (Fr.refl [] w)).mono ?_; rintro e w1 ⟨rfl, hf1⟩; refine go_stop ?_)
      have HF1 := Lib.hid hf1
      have z5 := hf1.cell y5 (by simp)
      clear x0 x1 x2 x3 y4 y5 hf1
      unfold Stop
      go_upto_region 4 with fail
      go_region_with ((go_at_call 28; refine (TAR.out _ (HF1.out.trans (Fr.refl [] w1).drew (by simp))).mono ?_; rintro e w2 ⟨rfl, ht2, hf2⟩; have HF2 := Lib.hid (((HF1.out.trans (Fr.refl [] w1).drew (by simp)).mono (by simp)).trans hf2 (fun x hx => Or.inl hx)); have HT2 := Lib.hid ht2; have hb2 := NodB.keep HBOD.out HF2.out (by simp only [List.mem_cons, not_or]; exact ⟨hbn, N4.out⟩); obtain ⟨_, _, _, _, k4, k5, _, _, _, kf⟩ := nod_cells hb2; have kf4 := kf 5; have hlt2 := hb2.lt; have HB2 := Lib.hid hb2; clear hb2 ht2 hf2 kf))
      have hb3 : Hole (w2.setCell ⟨b, 5, none⟩ (.pointer tp)) b s pl tp := ⟨_, _, nod_set5 HB2.out tp⟩
      have ht3 : TrAt (w2.setCell ⟨b, 5, none⟩ (.pointer tp)) (addT nb ⟨ni, nr, nf, nt⟩ r) := TrAt.keep (fr_set1 (Fr.refl [b] w2) (by simp) _ _) HT2.out (by intro k hk; simp only [List.mem_cons, List.not_mem_nil, or_false]; rintro rfl; exact ((addT_mem _).1 hk).elim hbn N4.out)
      have ho3 : TrAt (w2.setCell ⟨b, 5, none⟩ (.pointer tp)) l := TrAt.keep (fr_set1 (Fr.refl [b] w2) (by simp) _ _) (TrAt.keep HF2.out HL.out (by intro k hk; simp only [List.mem_cons, not_or]; exact ⟨fun e => HNL.out (e ▸ hk), N5.out k hk⟩)) (by intro k hk; simp only [List.mem_cons, List.not_mem_nil, or_false]; rintro rfl; exact N3.out hk)
      have hf3 : Fr (nb :: (Tr.node b s l r).blks) w (w2.setCell ⟨b, 5, none⟩ (.pointer tp)) := fr_set1 (HF2.out.mono (by intro k hk; left; rw [Tr.blks_node]; simp only [List.mem_cons, List.mem_append] at hk ⊢; rcases hk with h | h <;> simp [h])) (by rw [Tr.blks_node]; simp) _ _
      have C := Lib.hid (CB.out _ hb3 ht3 ho3)
      have HF3 := Lib.hid hf3
      clear hb3 ht3 ho3 hf3 k4 k5 kf4 hlt2 z5
      generalize w2.setCell ⟨b, 5, none⟩ (.pointer tp) = w3 at *
      go_wp2_with (go_at_call 34; refine C.out.mono ?_; rintro e w4 ⟨rfl, ht4, hf4⟩; have HT4 := Lib.hid ht4; have HF4 := Lib.hid hf4; clear ht4 hf4)
      go_ret
      refine ⟨rfl, HT4.out, HF3.out.trans HF4.out ?_⟩
      intro k hk
      left
      rw [Tr.blks_node] at hk ⊢
      simp only [List.mem_cons, List.mem_append, addT_mem] at hk ⊢
      rcases hk with h | h | h | h <;> simp [h]
end Go.Proofs.Ytcieokfjkfpajaa
