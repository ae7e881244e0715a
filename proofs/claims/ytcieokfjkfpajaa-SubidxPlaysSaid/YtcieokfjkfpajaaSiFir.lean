/- PACKAGE subidx: first, join: contracts -/
import Derived.Test.YtcieokfjkfpajaaSiBal
import Derived.Test.YtcieokfjkfpajaaSiTow
namespace Go.Proofs.Ytcieokfjkfpajaa
open Go.RowKit
set_option linter.unusedVariables false
set_option linter.unusedSimpArgs false

theorem fir_cons {l : Tr} (h : l.isNil = false) {fb : Nat} {fs : Sb} {fr : Tr} (hF : firT l = (fb, fs, fr)) : l.blks = fb :: fr.blks ∧ l.lst.length = fr.lst.length + 1 := by
  have := firT_lst h
  rw [hF] at this
  unfold Tr.blks
  rw [this]
  exact ⟨rfl, rfl⟩
set_option maxHeartbeats 4000000 in
theorem si_first (t : Tr) : ∀ (w : World), t.isNil = false → TrAt w t → t.blks.Nodup → t.lst.length < 1000000 →
    Calls Try.prog 52 #[.pointer t.ptr] w fun e w' => e = .returned (.tuple #[.pointer (some ⟨(firT t).1, 0, none⟩), .pointer (firT t).2.2.ptr]) ∧ (∃ pl pr, Hole w' (firT t).1 (firT t).2.1 pl pr) ∧ TrAt w' (firT t).2.2 ∧ Fr t.blks w w' := by
  induction t with
  | nil => intro w h; simp [Tr.isNil] at h
  | node b s l r ihl ihr =>
    intro w _ ht hd hs
    clear ihr
    obtain ⟨n1, n2, n3, n4, n5⟩ := nd_node hd
    have hbod := ht.1
    obtain ⟨_, _, _, _, y4, y5, _, _, _, _⟩ := nod_cells hbod
    have HBOD := Lib.hid hbod
    have HL := Lib.hid ht.2.1
    have HR := Lib.hid ht.2.2
    have HW := Lib.hid ht
    simp only [Tr.lst, List.length_append, List.length_cons] at hs
    have HS := Lib.hid hs
    show Calls Try.prog 52 #[.pointer (some ⟨b, 0, none⟩)] w _
    cases hl : l.isNil with
    | true =>
      have e1 : firT (.node b s l r) = (b, s, r) := by rw [firT, if_pos hl]
      rw [e1]
      have hlp : l.ptr = none := by rw [Tr.nil_of hl]; rfl
      rw [hlp] at y4
      generalize hpr : r.ptr = pr at *
      dsimp only
      clear ihl e1 hl hlp n1 n2 n3 n4 n5 hs hd ht hbod hpr
      have Y5 := fun n : After [] w => n.cell y5 (by simp)
      go_enter Try.func52, Try.ntmps52
      go_upto_region 2 with fail
      refine wp_region_after [] (by kernel_rfl) (by kernel_rfl) ?_
      repeat (go_big_quiet_step (fail))
      refine wpQuiet_nil ?_
      rintro _ ⟨nq, rfl⟩
      go_wp2_with fail
      refine bodyPost_ret (v := .tuple #[.pointer (some ⟨b, 0, none⟩), .pointer pr]) (by simp [results, Try.results52, go_sem]) rfl ⟨rfl, ⟨_, _, HW.out.hole.keep nq.fr (by simp)⟩, HR.out.keep0 nq.fr, nq.fr.mono (by simp)⟩
    | false =>
      obtain ⟨⟨fb, fs, fr⟩, hF⟩ : ∃ F, F = firT l := ⟨_, rfl⟩
      have e1 : firT (.node b s l r) = (fb, fs, balT b s fr r) := by rw [firT, if_neg (by rw [hl]; simp), ← hF]
      rw [e1]
      obtain ⟨g1, g2⟩ := fir_cons hl hF.symm
      have IH := Lib.hid fun (W : World) (hW : Fr [] w W) => ihl W hl (ht.2.1.keep0 hW) n1 (by omega)
      rw [← hF] at IH
      rw [g1] at n1 n3 n5
      have nfr := (List.nodup_cons.1 n1).2
      have nff := (List.nodup_cons.1 n1).1
      have nbf : ¬ fb = b := fun e => n3 (by rw [e]; simp)
      have nbr : b ∉ fr.blks := fun h => n3 (List.mem_cons_of_mem _ h)
      have nfo : fb ∉ r.blks := n5 fb List.mem_cons_self
      have nro : ∀ k ∈ fr.blks, k ∉ r.blks := fun k h => n5 k (List.mem_cons_of_mem _ h)
      have CB := Lib.hid fun (W : World) h1 h2 h3 => si_balance b s fr r W h1 h2 h3 (nd_make nfr n2 nbr n4 nro) (by simp only [Tr.lst, List.length_append, List.length_cons]; omega)
      have NF := Lib.hid nff
      have NBR := Lib.hid nbr
      have NFO := Lib.hid nfo
      have N3 := Lib.hid n3
      have N4 := Lib.hid n4
      have N5 := Lib.hid n5
      have G1 := Lib.hid g1
      obtain ⟨P, hP⟩ : ∃ P, P = (balT b s fr r).ptr := ⟨_, rfl⟩
      dsimp only at IH ⊢
      rw [← hP] at CB ⊢
      have hlp : ∃ a, l.ptr = some a := by
        obtain ⟨x, y, p, q, rfl⟩ := Tr.node_of hl
        exact ⟨_, rfl⟩
      obtain ⟨la, hla⟩ := hlp
      rw [hla] at IH y4
      rw [g1] at IH
      have HLA := Lib.hid hla
      clear ihl e1 hl n1 n2 n3 n4 n5 hs hd ht hbod hF g1 g2 nff nbr nfo nro nfr hP hla
      generalize hrp : fr.ptr = rp at *
      generalize hpr : r.ptr = pr at *
      clear hrp hpr
      go_enter Try.func52, Try.ntmps52
      go_upto_region 3 with fail
      go_region_with ((go_at_call 52; refine (IH.out _ (Fr.refl [] w).drew).mono ?_; rintro e w2 ⟨rfl, ⟨q1, q2, hh2⟩, ht2, hf2⟩; have HF2 := Lib.hid (((Fr.refl [] w).drew.mono (by simp)).trans hf2 (fun x hx => Or.inl hx)); have HT2 := Lib.hid ht2; have HH2 := Lib.hid hh2; have hb2 := NodB.keep HBOD.out HF2.out N3.out; obtain ⟨_, _, _, _, k4, k5, _, _, _, kf⟩ := nod_cells hb2; have kf4 := kf 4; have hlt2 := hb2.lt; have HB2 := Lib.hid hb2; clear hb2 ht2 hf2 kf hh2))
      all_goals
        have hb3 : Hole (w2.setCell ⟨b, 4, none⟩ (.pointer rp)) b s rp pr := ⟨_, _, nod_set4 HB2.out rp⟩
        have ht3 : TrAt (w2.setCell ⟨b, 4, none⟩ (.pointer rp)) fr := TrAt.keep (fr_set1 (Fr.refl [b] w2) (by simp) _ _) HT2.out (by intro k hk; simp only [List.mem_cons, List.not_mem_nil, or_false]; rintro rfl; exact NBR.out hk)
        have ho3 : TrAt (w2.setCell ⟨b, 4, none⟩ (.pointer rp)) r := TrAt.keep (fr_set1 (Fr.refl [b] w2) (by simp) _ _) (TrAt.keep HF2.out HR.out (by intro k hk h; exact N5.out k h hk)) (by intro k hk; simp only [List.mem_cons, List.not_mem_nil, or_false]; rintro rfl; exact N4.out hk)
        have hh3 : Hole (w2.setCell ⟨b, 4, none⟩ (.pointer rp)) fb fs q1 q2 := HH2.out.keep (fr_set1 (Fr.refl [b] w2) (by simp) _ _) (by simpa using nbf)
        have hf3 : Fr (Tr.node b s l r).blks w (w2.setCell ⟨b, 4, none⟩ (.pointer rp)) := fr_set1 (HF2.out.mono (by intro k hk; left; rw [Tr.blks_node, G1.out]; simp only [List.mem_cons, List.mem_append] at hk ⊢; rcases hk with h | h <;> simp [h])) (by rw [Tr.blks_node]; simp) _ _
        have C := Lib.hid (CB.out _ hb3 ht3 ho3)
        have HF3 := Lib.hid hf3
        have HH3 := Lib.hid hh3
        clear hb3 ht3 ho3 hf3 k4 k5 kf4 hlt2 y4 y5 hh3
        generalize w2.setCell ⟨b, 4, none⟩ (.pointer rp) = w3 at *
        go_wp2_with (go_at_call 34; refine C.out.mono ?_; rintro e w4 ⟨rfl, ht4, hf4⟩; have HT4 := Lib.hid ht4; have HF4 := Lib.hid hf4; clear ht4 hf4)
        refine bodyPost_ret (v := .tuple #[.pointer (some ⟨fb, 0, none⟩), .pointer P]) (by simp [results, Try.results52, go_sem]) rfl ⟨rfl, ⟨q1, q2, HH3.out.keep HF4.out ?_⟩, HT4.out, HF3.out.trans HF4.out ?_⟩
        · rw [Tr.blks_node]; simp only [List.mem_append, List.mem_cons, not_or]; exact ⟨NF.out, nbf, NFO.out⟩
        · intro k hk
          left
          rw [Tr.blks_node] at hk ⊢
          rw [G1.out]
          simp only [List.mem_cons, List.mem_append] at hk ⊢
          rcases hk with h | h | h <;> simp [h]
theorem joi_blks (l r : Tr) : (joiT l r).blks = l.blks ++ r.blks := by unfold Tr.blks; rw [joiT_lst, List.map_append]
theorem nod_set45 {w : World} {b : Nat} {s : Sb} {pl pr : Option Addr} (hb : Hole w b s pl pr) (p q : Option Addr) : Hole ((w.setCell ⟨b, 4, none⟩ (.pointer p)).setCell ⟨b, 5, none⟩ (.pointer q)) b s p q := by
  obtain ⟨h, hu, hb⟩ := hb
  exact ⟨h, hu, nod_set5 (nod_set4 hb p) q⟩
set_option maxHeartbeats 4000000 in
theorem si_join (l r : Tr) (w : World) (hl : TrAt w l) (hr : TrAt w r) (dl : l.blks.Nodup) (dr : r.blks.Nodup) (dd : ∀ k ∈ l.blks, k ∉ r.blks) (hs : l.lst.length + r.lst.length < 1000000) :
    Calls Try.prog 36 #[.agg #[.pointer l.ptr, .pointer r.ptr]] w fun e w' => e = .returned (.pointer (joiT l r).ptr) ∧ TrAt w' (joiT l r) ∧ Fr (l.blks ++ r.blks) w w' := by
  cases hn : r.isNil with
  | true =>
    have e1 : joiT l r = l := by unfold joiT; rw [if_pos hn]
    have hrp : r.ptr = none := by rw [Tr.nil_of hn]; rfl
    rw [e1, hrp]
    have HL := Lib.hid hl
    generalize l.ptr = pl at *
    clear e1 hrp hn hl hr dl dr dd hs
    go_enter Try.func36, Try.ntmps36
    go_wp2_with fail
    go_ret
    exact ⟨rfl, HL.out.keep0 ((Fr.refl [] w).alloc _), ((Fr.refl _ w).alloc _)⟩
  | false =>
    obtain ⟨⟨fb, fs, fr⟩, hF⟩ : ∃ F, F = firT r := ⟨_, rfl⟩
    have e1 : joiT l r = balT fb fs l fr := by unfold joiT; rw [if_neg (by rw [hn]; simp), ← hF]
    rw [e1]
    obtain ⟨g1, g2⟩ := fir_cons hn hF.symm
    have IH := Lib.hid fun (W : World) (hW : Fr [] w W) => si_first r W hn (hr.keep0 hW) dr (by omega)
    rw [← hF] at IH
    have dr2 := dr
    rw [g1] at dr2
    have dfr := (List.nodup_cons.1 dr2).2
    have dff := (List.nodup_cons.1 dr2).1
    have dlf : fb ∉ l.blks := fun h => dd fb h (by rw [g1]; simp)
    have dlr : ∀ k ∈ l.blks, k ∉ fr.blks := fun k h h2 => dd k h (by rw [g1]; simp [h2])
    have CB := Lib.hid fun (W : World) h1 h2 h3 => si_balance fb fs l fr W h1 h2 h3 (nd_make dl dfr dlf dff dlr) (by simp only [Tr.lst, List.length_append, List.length_cons]; omega)
    obtain ⟨P, hP⟩ : ∃ P, P = (balT fb fs l fr).ptr := ⟨_, rfl⟩
    dsimp only at IH ⊢
    rw [← hP] at CB ⊢
    have hrp : ∃ a, r.ptr = some a := by
      obtain ⟨x, y, p, q, rfl⟩ := Tr.node_of hn
      exact ⟨_, rfl⟩
    obtain ⟨ra, hra⟩ := hrp
    rw [hra] at IH ⊢
    have HL := Lib.hid hl
    have DD := Lib.hid dd
    have DFF := Lib.hid dff
    have DLF := Lib.hid dlf
    have G1 := Lib.hid g1
    have RLT := Lib.hid hr.lt
    clear e1 hn hr dl dr dd hs hF g1 g2 dr2 dfr dff dlf dlr hl hP hra
    generalize hlp : l.ptr = lp at *
    generalize hrp : fr.ptr = rp at *
    clear hlp hrp
    go_enter Try.func36, Try.ntmps36
    go_wp2_with (go_at_call 52; refine (IH.out _ ((Fr.refl [] w).alloc _)).mono ?_; rintro e w2 ⟨rfl, ⟨q1, q2, hh2⟩, ht2, hf2⟩; refine go_stop ?_)
    have hbx : w2.heap[w.heap.size]? = some (.cells #[.pointer lp, .pointer (some ra)] 63 (0, 0)) := hf2.keep (new_block w _) (fun h => by have := RLT.out _ h; omega)
    obtain ⟨x0, x1, _⟩ := cells2 hbx
    have HF2 := Lib.hid (((Fr.refl [] w).alloc (Obj.cells #[.pointer lp, .pointer (some ra)] 63)).mono (T := r.blks) (by simp) |>.trans hf2 (fun x hx => Or.inl hx))
    have HT2 := Lib.hid ht2
    have HH2 := Lib.hid hh2
    obtain ⟨fh, fhu, hnod⟩ := hh2
    obtain ⟨_, _, _, _, k4, k5, _, _, _, kf⟩ := nod_cells hnod
    have kf4 := kf 4
    have kf5 := kf 5
    have flt := hnod.lt
    have hne1 : ¬ fb = w.heap.size := fun e => by have := RLT.out fb (by rw [G1.out]; simp); omega
    have hne2 : ¬ w.heap.size = fb := fun e => hne1 e.symm
    clear hbx ht2 hf2 hnod kf
    unfold Stop
    go_wp2_with (go_at_call 34; refine go_stop ?_)
    have hb3 := nod_set45 HH2.out lp rp
    have hf3 : Fr [fb] w2 ((w2.setCell ⟨fb, 4, none⟩ (.pointer lp)).setCell ⟨fb, 5, none⟩ (.pointer rp)) := fr_set1 (fr_set1 (Fr.refl _ _) (by simp) _ _) (by simp) _ _
    have C := Lib.hid (CB.out _ hb3 (TrAt.keep hf3 (TrAt.keep HF2.out HL.out DD.out) (by intro k hk; simp only [List.mem_cons, List.not_mem_nil, or_false]; rintro rfl; exact DLF.out hk)) (TrAt.keep hf3 HT2.out (by intro k hk; simp only [List.mem_cons, List.not_mem_nil, or_false]; rintro rfl; exact DFF.out hk)))
    have HF3 := Lib.hid (HF2.out.trans hf3 (by intro k hk; left; simp at hk; subst hk; rw [G1.out]; simp))
    clear hb3 hf3 k4 k5 kf4 kf5 flt x0 x1
    unfold Stop
    generalize (w2.setCell ⟨fb, 4, none⟩ (.pointer lp)).setCell ⟨fb, 5, none⟩ (.pointer rp) = w3 at *
    refine C.out.mono ?_
    rintro e w4 ⟨rfl, ht4, hf4⟩
    have HT4 := Lib.hid ht4
    have HF4 := Lib.hid hf4
    clear ht4 hf4
    go_wp2_with fail
    go_ret
    refine ⟨rfl, HT4.out, (HF3.out.mono (by intro k hk; left; simp [hk])).trans HF4.out ?_⟩
    intro k hk
    left
    rw [Tr.blks_node] at hk
    rw [G1.out]
    simp only [List.mem_cons, List.mem_append] at hk ⊢
    rcases hk with h | h | h <;> simp [h]
end Go.Proofs.Ytcieokfjkfpajaa
