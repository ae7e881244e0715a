/- PACKAGE subidx: drop: contract -/
import Derived.Test.YtcieokfjkfpajaaSiFir
import Derived.LaidEqlPtr
namespace Go.Proofs.Ytcieokfjkfpajaa
open Go.RowKit
set_option linter.unusedVariables false
set_option linter.unusedSimpArgs false

theorem TrAt.mem {w : World} {nb : Nat} {n : Sb} : ∀ {t : Tr}, TrAt w t → (nb, n) ∈ t.lst → ∃ pl pr, Hole w nb n pl pr
  | .nil, _, h => by simp [Tr.lst] at h
  | .node b s l r, ht, h => by
    rcases List.mem_append.1 h with h | h
    · exact TrAt.mem ht.2.1 h
    · rcases List.mem_cons.1 h with h | h
      · cases h; exact ⟨_, _, ht.hole⟩
      · exact TrAt.mem ht.2.2 h
theorem dro_mem {nb : Nat} {n : Sb} {t : Tr} (hs : SrtP t.lst) (hd : t.blks.Nodup) (hm : (nb, n) ∈ t.lst) {k : Nat} (hk : k ∈ (droT nb n t).blks) : k ∈ t.blks := by
  unfold Tr.blks at hk ⊢
  rw [droT_lst nb n t hs hd hm] at hk
  obtain ⟨x, hx, rfl⟩ := List.mem_map.1 hk
  exact List.mem_map_of_mem (List.mem_filter.1 hx).1
theorem dro_nodup {nb : Nat} {n : Sb} {t : Tr} (hs : SrtP t.lst) (hd : t.blks.Nodup) (hm : (nb, n) ∈ t.lst) : (droT nb n t).blks.Nodup := by
  unfold Tr.blks at hd ⊢
  rw [droT_lst nb n t hs (by unfold Tr.blks; exact hd) hm]
  exact List.Nodup.sublist (List.filter_sublist.map _) hd
theorem dro_len {nb : Nat} {n : Sb} {t : Tr} (hs : SrtP t.lst) (hd : t.blks.Nodup) (hm : (nb, n) ∈ t.lst) : (droT nb n t).lst.length ≤ t.lst.length := by
  rw [droT_lst nb n t hs hd hm]; exact List.length_filter_le _ _
theorem mem_left {b nb : Nat} {n s : Sb} {l r : Tr} (hs : SrtP (Tr.node b s l r).lst) (hm : (nb, n) ∈ (Tr.node b s l r).lst) (hb : b ≠ nb) (hl : lsS n s = true) : (nb, n) ∈ l.lst := by
  obtain ⟨h1, h2, h3, h4⟩ := SrtP.parts hs
  rcases List.mem_append.1 hm with hm | hm
  · exact hm
  · rcases List.mem_cons.1 hm with hm | hm
    · cases hm; exact absurd rfl hb
    · have := h4 _ hm; rw [lsS_asymm this] at hl; cases hl
theorem mem_right {b nb : Nat} {n s : Sb} {l r : Tr} (hs : SrtP (Tr.node b s l r).lst) (hm : (nb, n) ∈ (Tr.node b s l r).lst) (hb : b ≠ nb) (hl : ¬ lsS n s = true) : (nb, n) ∈ r.lst := by
  obtain ⟨h1, h2, h3, h4⟩ := SrtP.parts hs
  rcases List.mem_append.1 hm with hm | hm
  · exact absurd (h3 _ hm) hl
  · rcases List.mem_cons.1 hm with hm | hm
    · cases hm; exact absurd rfl hb
    · exact hm
theorem node_info : ∃ j, Try.prog.info? 65 = some j ∧ j.size ≠ 0 := by
  have h : (Try.prog.info? 65).map (fun i => i.size) = some 9 := by kernel_rfl
  cases hj : Try.prog.info? 65 with
  | none => rw [hj] at h; cases h
  | some j => rw [hj] at h; simp at h; exact ⟨j, rfl, by omega⟩
theorem node_same (b : Nat) (W : World) : (binOp .eql 54 (.pointer (some ⟨b, 0, none⟩)) (.pointer (some ⟨b, 0, none⟩))).run Try.prog W = .ok (.bool true) W := by
  obtain ⟨j, hj, _⟩ := node_info
  exact run_eql_ptr_same W _ Try.underlying54 hj
theorem node_other {b c : Nat} {s n : Sb} {pl pr ql qr : Option Addr} {W : World} (hb : Hole W b s pl pr) (hc : Hole W c n ql qr) (hne : b ≠ c) : (binOp .eql 54 (.pointer (some ⟨b, 0, none⟩)) (.pointer (some ⟨c, 0, none⟩))).run Try.prog W = .ok (.bool false) W := by
  obtain ⟨j, hj, hz⟩ := node_info
  obtain ⟨_, _, hb⟩ := hb
  obtain ⟨_, _, hc⟩ := hc
  exact run_eql_ptr_other W Try.underlying54 hj hz (fun e => hne (by injection e)) hb hc
set_option maxHeartbeats 4000000 in
theorem si_drop (nb : Nat) (n : Sb) (t : Tr) : ∀ (w : World), TrAt w t → (nb, n) ∈ t.lst → SrtP t.lst → t.blks.Nodup → t.lst.length < 1000000 →
    Calls Try.prog 29 #[.pointer t.ptr, .pointer (some ⟨nb, 0, none⟩)] w fun e w' => e = .returned (.pointer (droT nb n t).ptr) ∧ TrAt w' (droT nb n t) ∧ Fr t.blks w w' := by
  induction t with
  | nil => intro w _ h; simp [Tr.lst] at h
  | node b s l r ihl ihr =>
    intro w ht hm hsr hd hs
    obtain ⟨n1, n2, n3, n4, n5⟩ := nd_node hd
    have hbod := ht.1
    obtain ⟨y0, y1, y2, y3, y4, y5, y6, y7, y8, yf⟩ := nod_cells hbod
    clear yf y0 y1 y2 y3 y6 y7 y8
    have HBOD := Lib.hid hbod
    have HL := Lib.hid ht.2.1
    have HR := Lib.hid ht.2.2
    have hs0 := hs
    simp only [Tr.lst, List.length_append, List.length_cons] at hs
    show Calls Try.prog 29 #[.pointer (some ⟨b, 0, none⟩), .pointer (some ⟨nb, 0, none⟩)] w _
    by_cases hb : b = nb
    · subst hb
      have e1 : droT b n (.node b s l r) = joiT l r := by rw [droT, if_pos rfl]
      rw [e1]
      have C := Lib.hid (si_join l r w ht.2.1 ht.2.2 n1 n2 n5 (by omega))
      obtain ⟨P, hP⟩ : ∃ P, P = (joiT l r).ptr := ⟨_, rfl⟩
      rw [← hP] at C ⊢
      generalize l.ptr = pl at *
      generalize r.ptr = pr at *
      have q0 := fun W => node_same b W
      clear ihl ihr e1 hP hm hsr hd hs hs0 ht n1 n2 n3 n4 n5 hbod
      go_enter Try.func29, Try.ntmps29
      go_wp2_with (go_at_call 36; refine C.out.mono ?_; rintro e w1 ⟨rfl, ht, hf⟩; have HT := Lib.hid ht; have HF := Lib.hid hf; clear ht hf)
      go_ret
      exact ⟨rfl, HT.out, HF.out.mono (by intro k hk; left; rw [Tr.blks_node]; simp only [List.mem_cons, List.mem_append] at hk ⊢; rcases hk with h | h <;> simp [h])⟩
    · have hb2 : ¬ nb = b := fun e => hb e.symm
      obtain ⟨mpl, mpr, mh, mhu, hnod⟩ := TrAt.mem ht hm
      obtain ⟨x0, x1, x2, x3, _⟩ := nod_cells hnod
      have q0 := node_other ht.hole ⟨_, _, hnod⟩ hb
      have HTO := Lib.hid fun (W : World) (hW : Fr [] w W) => si_toward n s b _ _ _ _ W (NodB.keep hbod hW (by simp))
      obtain ⟨p1, p2, p3, p4⟩ := SrtP.parts hsr
      have N1 := Lib.hid n1
      have N2 := Lib.hid n2
      have N3 := Lib.hid n3
      have N4 := Lib.hid n4
      have N5 := Lib.hid n5
      have HS := Lib.hid hs
      clear hnod hbod
      by_cases hlt : lsS n s = true
      · have hmt := mem_left hsr hm hb hlt
        have e1 : droT nb n (.node b s l r) = balT b s (droT nb n l) r := by rw [droT, if_neg hb, if_pos hlt]
        rw [if_pos hlt] at HTO
        have E1 := Lib.hid e1
        rw [e1]
        clear e1 hlt
        have TAL := Lib.hid fun (W : World) (hW : Fr [] w W) => ihl W (ht.2.1.keep0 hW) hmt p1 n1 (by omega)
        have DM := Lib.hid fun k (hk : k ∈ (droT nb n l).blks) => dro_mem p1 n1 hmt hk
        obtain ⟨tp, htp⟩ : ∃ tp, tp = (droT nb n l).ptr := ⟨_, rfl⟩
        have hdl := dro_len p1 n1 hmt
        have CB : Hid (∀ W, Hole W b s tp r.ptr → TrAt W (droT nb n l) → TrAt W r → _) := Lib.hid fun W h1 h2 h3 => si_balance b s (droT nb n l) r W (by rw [← htp]; exact h1) h2 h3 (by
          exact nd_make (dro_nodup p1 n1 hmt) n2 (fun h => n3 (DM.out _ h)) n4 (fun k hk => n5 k (DM.out _ hk))) (by
          simp only [Tr.lst, List.length_append, List.length_cons]
          omega)
        rw [← htp] at TAL
        have HTP := Lib.hid htp
        obtain ⟨P, hP⟩ : ∃ P, P = (balT b s (droT nb n l) r).ptr := ⟨_, rfl⟩
        rw [← hP] at CB ⊢
        clear hP htp ihl ihr ht hm hsr hd hs hs0 n1 n2 n3 n4 n5 p1 p2 p3 p4 hmt hdl
        generalize hpl : l.ptr = pl at *
        generalize hpr : r.ptr = pr at *
        clear hpl hpr
        obtain ⟨ni, nr, nf, nt⟩ := n
        unfold Sb.val at HTO
        dsimp only at *
        go_enter Try.func29, Try.ntmps29
        go_wp2_with (go_at_call 35; refine (HTO.out _ (Fr.refl [] w)).mono ?_; rintro e w1 ⟨rfl, hf1⟩; refine go_stop ?_)
        have HF1 := Lib.hid hf1
        have z4 := hf1.cell y4 (by simp)
        clear x0 x1 x2 x3 y4 y5 hf1
        unfold Stop
        go_upto_region 4 with fail
        go_region_with ((go_at_call 29; refine (TAL.out _ (HF1.out.trans (Fr.refl [] w1).drew (by simp))).mono ?_; rintro e w2 ⟨rfl, ht2, hf2⟩; have HF2 := Lib.hid (((HF1.out.trans (Fr.refl [] w1).drew (by simp)).mono (by simp)).trans hf2 (fun x hx => Or.inl hx)); have HT2 := Lib.hid ht2; have hb2 := NodB.keep HBOD.out HF2.out N3.out; obtain ⟨_, _, _, _, k4, k5, _, _, _, kf⟩ := nod_cells hb2; have kf4 := kf 4; have hlt2 := hb2.lt; have HB2 := Lib.hid hb2; clear hb2 ht2 hf2 kf))
        have hb3 : Hole (w2.setCell ⟨b, 4, none⟩ (.pointer tp)) b s tp pr := ⟨_, _, nod_set4 HB2.out tp⟩
        have ht3 : TrAt (w2.setCell ⟨b, 4, none⟩ (.pointer tp)) (droT nb ⟨ni, nr, nf, nt⟩ l) := TrAt.keep (fr_set1 (Fr.refl [b] w2) (by simp) _ _) HT2.out (by intro k hk; simp only [List.mem_cons, List.not_mem_nil, or_false]; rintro rfl; exact N3.out (DM.out _ hk))
        have ho3 : TrAt (w2.setCell ⟨b, 4, none⟩ (.pointer tp)) r := TrAt.keep (fr_set1 (Fr.refl [b] w2) (by simp) _ _) (TrAt.keep HF2.out HR.out (by intro k hk; exact fun h => N5.out k h hk)) (by intro k hk; simp only [List.mem_cons, List.not_mem_nil, or_false]; rintro rfl; exact N4.out hk)
        have hf3 : Fr (Tr.node b s l r).blks w (w2.setCell ⟨b, 4, none⟩ (.pointer tp)) := fr_set1 (HF2.out.mono (by intro k hk; left; rw [Tr.blks_node]; simp only [List.mem_cons, List.mem_append]; simp [hk])) (by rw [Tr.blks_node]; simp) _ _
        have C := Lib.hid (CB.out _ hb3 ht3 ho3)
        have HF3 := Lib.hid hf3
        clear hb3 ht3 ho3 hf3 k4 k5 kf4 hlt2 z4
        generalize w2.setCell ⟨b, 4, none⟩ (.pointer tp) = w3 at *
        go_wp2_with (go_at_call 34; refine C.out.mono ?_; rintro e w4 ⟨rfl, ht4, hf4⟩; have HT4 := Lib.hid ht4; have HF4 := Lib.hid hf4; clear ht4 hf4)
        go_ret
        refine ⟨rfl, HT4.out, HF3.out.trans HF4.out ?_⟩
        intro k hk
        left
        rw [Tr.blks_node] at hk ⊢
        simp only [List.mem_cons, List.mem_append] at hk ⊢
        rcases hk with h | h | h
        · left; exact DM.out _ h
        · right; left; exact h
        · right; right; exact h
      · have hmt := mem_right hsr hm hb hlt
        have e1 : droT nb n (.node b s l r) = balT b s l (droT nb n r) := by rw [droT, if_neg hb, if_neg hlt]
        rw [if_neg hlt] at HTO
        have E1 := Lib.hid e1
        rw [e1]
        clear e1 hlt
        have TAL := Lib.hid fun (W : World) (hW : Fr [] w W) => ihr W (ht.2.2.keep0 hW) hmt p2 n2 (by omega)
        have DM := Lib.hid fun k (hk : k ∈ (droT nb n r).blks) => dro_mem p2 n2 hmt hk
        obtain ⟨tp, htp⟩ : ∃ tp, tp = (droT nb n r).ptr := ⟨_, rfl⟩
        have hdl := dro_len p2 n2 hmt
        have CB : Hid (∀ W, Hole W b s l.ptr tp → TrAt W (droT nb n r) → TrAt W l → _) := Lib.hid fun W h1 h2 h3 => si_balance b s l (droT nb n r) W (by rw [← htp]; exact h1) h3 h2 (by
          exact nd_make n1 (dro_nodup p2 n2 hmt) n3 (fun h => n4 (DM.out _ h)) (fun k hk hk2 => n5 k hk (DM.out _ hk2))) (by
          simp only [Tr.lst, List.length_append, List.length_cons]
          omega)
        rw [← htp] at TAL
        have HTP := Lib.hid htp
        obtain ⟨P, hP⟩ : ∃ P, P = (balT b s l (droT nb n r)).ptr := ⟨_, rfl⟩
        rw [← hP] at CB ⊢
        clear hP htp ihl ihr ht hm hsr hd hs hs0 n1 n2 n3 n4 n5 p1 p2 p3 p4 hmt hdl
        generalize hpl : l.ptr = pl at *
        generalize hpr : r.ptr = pr at *
        clear hpl hpr
        obtain ⟨ni, nr, nf, nt⟩ := n
        unfold Sb.val at HTO
        dsimp only at *
        go_enter Try.func29, Try.ntmps29
        go_wp2_with (go_at_call 35; refine (HTO.out _ (Fr.refl [] w)).mono ?_; rintro e w1 ⟨rfl, hf1⟩; refine go_stop ?_)
        have HF1 := Lib.hid hf1
        have z5 := hf1.cell y5 (by simp)
        clear x0 x1 x2 x3 y4 y5 hf1
        unfold Stop
        go_upto_region 4 with fail
        go_region_with ((go_at_call 29; refine (TAL.out _ (HF1.out.trans (Fr.refl [] w1).drew (by simp))).mono ?_; rintro e w2 ⟨rfl, ht2, hf2⟩; have HF2 := Lib.hid (((HF1.out.trans (Fr.refl [] w1).drew (by simp)).mono (by simp)).trans hf2 (fun x hx => Or.inl hx)); have HT2 := Lib.hid ht2; have hb2 := NodB.keep HBOD.out HF2.out N4.out; obtain ⟨_, _, _, _, k4, k5, _, _, _, kf⟩ := nod_cells hb2; have kf4 := kf 5; have hlt2 := hb2.lt; have HB2 := Lib.hid hb2; clear hb2 ht2 hf2 kf))
        have hb3 : Hole (w2.setCell ⟨b, 5, none⟩ (.pointer tp)) b s pl tp := ⟨_, _, nod_set5 HB2.out tp⟩
        have ht3 : TrAt (w2.setCell ⟨b, 5, none⟩ (.pointer tp)) (droT nb ⟨ni, nr, nf, nt⟩ r) := TrAt.keep (fr_set1 (Fr.refl [b] w2) (by simp) _ _) HT2.out (by intro k hk; simp only [List.mem_cons, List.not_mem_nil, or_false]; rintro rfl; exact N4.out (DM.out _ hk))
        have ho3 : TrAt (w2.setCell ⟨b, 5, none⟩ (.pointer tp)) l := TrAt.keep (fr_set1 (Fr.refl [b] w2) (by simp) _ _) (TrAt.keep HF2.out HL.out (by intro k hk; exact N5.out k hk)) (by intro k hk; simp only [List.mem_cons, List.not_mem_nil, or_false]; rintro rfl; exact N3.out hk)
        have hf3 : Fr (Tr.node b s l r).blks w (w2.setCell ⟨b, 5, none⟩ (.pointer tp)) := fr_set1 (HF2.out.mono (by intro k hk; left; rw [Tr.blks_node]; simp only [List.mem_cons, List.mem_append]; simp [hk])) (by rw [Tr.blks_node]; simp) _ _
        have C := Lib.hid (CB.out _ hb3 ht3 ho3)
        have HF3 := Lib.hid hf3
        clear hb3 ht3 ho3 hf3 k4 k5 kf4 hlt2 z5
        generalize w2.setCell ⟨b, 5, none⟩ (.pointer tp) = w3 at *
        go_wp2_with (go_at_call 34; refine C.out.mono ?_; rintro e w4 ⟨rfl, ht4, hf4⟩; have HT4 := Lib.hid ht4; have HF4 := Lib.hid hf4; clear ht4 hf4)
        go_ret
        refine ⟨rfl, HT4.out, HF3.out.trans HF4.out ?_⟩
        intro k hk
        left
        rw [Tr.blks_node] at hk ⊢
        simp only [List.mem_cons, List.mem_append] at hk ⊢
        rcases hk with h | h | h
        · left; exact h
        · right; left; exact h
        · right; right; exact DM.out _ h
end Go.Proofs.Ytcieokfjkfpajaa
