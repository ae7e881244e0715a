/- PACKAGE subidx: Add and Del of an Index: contracts -/
import Derived.Test.YtcieokfjkfpajaaSiIdx
namespace Go.Proofs.Ytcieokfjkfpajaa
open Go.RowKit Go.Maps
set_option linter.unusedVariables false
set_option linter.unusedSimpArgs false

def hasId (L : List Sb) (id : Int) : Bool := L.any fun s => s.id == id
theorem hasId_iff {L : List Sb} {id : Int} : hasId L id = true ↔ ∃ s ∈ L, s.id = id := by unfold hasId; simp
theorem hasId_not {L : List Sb} {id : Int} (h : hasId L id = false) : ∀ s ∈ L, s.id ≠ id := fun s hs e => by
  rw [hasId_iff.2 ⟨s, hs, e⟩] at h; cases h
def addE (L : List Sb) (s : Sb) : Int := if emptyB s.f.toList s.t.toList = true then 1 else if hasId L s.id = true then 8 else 0
def addL (L : List Sb) (s : Sb) : List Sb := if emptyB s.f.toList s.t.toList = true then L else if hasId L s.id = true then L else insL s L
def delE (L : List Sb) (id : Int) : Int := if hasId L id = true then 0 else 4
def delL (L : List Sb) (id : Int) : List Sb := L.filter fun s => !(s.id == id)

theorem IxW.miss {w : World} {p mb n : Nat} {t : Tr} {M : Int → Option Value} (h : IxW w p t mb n M) {id : Int} (hi : hasId t.subs id = false) : M id = none :=
  h.rest id fun x hx => hasId_not hi x.2 (List.mem_map_of_mem hx)
theorem IxW.hit {w : World} {p mb n : Nat} {t : Tr} {M : Int → Option Value} (h : IxW w p t mb n M) {id : Int} (hi : hasId t.subs id = true) : ∃ b s, (b, s) ∈ t.lst ∧ s.id = id ∧ M id = some (.pointer (some ⟨b, 0, none⟩)) := by
  obtain ⟨s, hs, e⟩ := hasId_iff.1 hi
  obtain ⟨⟨b, s'⟩, hx, rfl⟩ := List.mem_map.1 hs
  exact ⟨b, s', hx, e, by rw [← e]; exact h.tell _ hx⟩
theorem addT_srt {nb : Nat} {s : Sb} {t : Tr} (hs : SrtP t.lst) (hi : hasId t.subs s.id = false) : SrtP (addT nb s t).lst := by
  rw [addT_lst nb s t hs]
  have : SrtL ((insP (nb, s) t.lst).map (·.2)) := by
    rw [insP_map]
    refine insL_srt ?_ fun y hy e => hasId_not hi y hy e
    unfold SrtL
    rw [List.pairwise_map]
    exact hs
  unfold SrtL at this
  rw [List.pairwise_map] at this
  exact this
theorem addT_subs {nb : Nat} {s : Sb} {t : Tr} (hs : SrtP t.lst) : (addT nb s t).subs = insL s t.subs := by
  unfold Tr.subs
  rw [addT_lst nb s t hs, insP_map]
theorem IxW.add {w w' : World} {p mb n nb : Nat} {t : Tr} {M : Int → Option Value} {s : Sb} (h : IxW w p t mb n M) (hi : hasId t.subs s.id = false) (hw : wf64 s.id)
    (hb : w'.heap[p]? = some (.cells #[.pointer (addT nb s t).ptr, .map (some mb)] 56 (0, 0))) (ht : TrAt w' (addT nb s t))
    (hm : MapG Try.prog 3 intD isPt w' mb (n + 1) (fun z => if z = s.id then some (.pointer (some ⟨nb, 0, none⟩)) else M z)) (n1 : nb ∉ t.blks) (n2 : nb ≠ p) (n3 : nb ≠ mb) :
    IxW w' p (addT nb s t) mb (n + 1) (fun z => if z = s.id then some (.pointer (some ⟨nb, 0, none⟩)) else M z) := by
  have hmem : ∀ x, x ∈ (addT nb s t).lst ↔ x = (nb, s) ∨ x ∈ t.lst := fun x => by rw [(addT_perm nb s t).mem_iff]; simp
  refine ⟨hb, ht, hm, ?_, ?_, h.pm, ?_, ?_, addT_nodup h.nd n1, addT_srt h.srt hi, ?_, ?_, by rw [addT_len]; have := h.len; omega⟩
  · intro x hx
    rcases (hmem x).1 hx with rfl | hx
    · try dsimp only
      rw [if_pos rfl]
    · try dsimp only
      rw [if_neg (hasId_not hi x.2 (List.mem_map_of_mem hx))]
      exact h.tell x hx
  · intro z hz
    try dsimp only
    rw [if_neg (fun e => hz (nb, s) ((hmem _).2 (Or.inl rfl)) e.symm)]
    exact h.rest z fun x hx => hz x ((hmem _).2 (Or.inr hx))
  · rw [addT_mem]; rintro (e | e); exact n2 e.symm; exact h.pt e
  · rw [addT_mem]; rintro (e | e); exact n3 e.symm; exact h.mt e
  · rw [addT_subs h.srt, ((insL_perm s t.subs).map (·.id)).nodup_iff]
    refine List.nodup_cons.2 ⟨fun hm => ?_, h.ids⟩
    obtain ⟨y, hy, e⟩ := List.mem_map.1 hm
    exact hasId_not hi y hy e
  · intro x hx
    rcases (hmem x).1 hx with rfl | hx
    · exact hw
    · exact h.wf x hx
theorem inj_of_nodup_map {α β : Type} {f : α → β} : ∀ {l : List α}, (l.map f).Nodup → ∀ {x y : α}, x ∈ l → y ∈ l → f x = f y → x = y
  | [], _, x, _, hx, _, _ => by cases hx
  | a :: r, h, x, y, hx, hy, e => by
    rw [List.map_cons] at h
    obtain ⟨h1, h2⟩ := List.nodup_cons.1 h
    rcases List.mem_cons.1 hx with hx2 | hx2
    · rcases List.mem_cons.1 hy with hy2 | hy2
      · rw [hx2, hy2]
      · subst hx2; exact absurd (by rw [e]; exact List.mem_map_of_mem hy2) h1
    · rcases List.mem_cons.1 hy with hy2 | hy2
      · subst hy2; exact absurd (by rw [← e]; exact List.mem_map_of_mem hx2) h1
      · exact inj_of_nodup_map h2 hx2 hy2 e
theorem id_inj {t : Tr} (hi : (t.subs.map (·.id)).Nodup) {x y : Nat × Sb} (hx : x ∈ t.lst) (hy : y ∈ t.lst) (e : x.2.id = y.2.id) : x = y := by
  have h2 : (t.lst.map (fun z => z.2.id)).Nodup := by unfold Tr.subs at hi; rw [List.map_map] at hi; exact hi
  exact inj_of_nodup_map h2 hx hy e
theorem droT_subs {nb : Nat} {s : Sb} {t : Tr} (hs : SrtP t.lst) (hd : t.blks.Nodup) (hi : (t.subs.map (·.id)).Nodup) (hm : (nb, s) ∈ t.lst) : (droT nb s t).subs = delL t.subs s.id := by
  unfold Tr.subs delL
  rw [droT_lst nb s t hs hd hm, List.filter_map]
  congr 1
  refine List.filter_congr fun x hx => ?_
  have h2 : (x.1 == nb) = (x.2.id == s.id) := by
    by_cases e : x.1 = nb
    · have : x = (nb, s) := inj_of_nodup_map (f := fun z : Nat × Sb => z.1) hd hx hm e
      subst this; simp
    · have e2 : x.2.id ≠ s.id := fun e3 => e (by rw [id_inj hi hx hm e3])
      rw [beq_eq_false_iff_ne.2 e, beq_eq_false_iff_ne.2 e2]
  dsimp only [Function.comp]
  rw [h2]
theorem IxW.del {w w' : World} {p mb n nb : Nat} {t : Tr} {M : Int → Option Value} {s : Sb} (h : IxW w p t mb n M) (hm : (nb, s) ∈ t.lst)
    (hb : w'.heap[p]? = some (.cells #[.pointer (droT nb s t).ptr, .map (some mb)] 56 (0, 0))) (ht : TrAt w' (droT nb s t))
    (hmp : MapG Try.prog 3 intD isPt w' mb n (fun z => if z = s.id then none else M z)) :
    IxW w' p (droT nb s t) mb n (fun z => if z = s.id then none else M z) := by
  have hl := droT_lst nb s t h.srt h.nd hm
  have hsub : ∀ x, x ∈ (droT nb s t).lst → x ∈ t.lst ∧ x.1 ≠ nb := fun x hx => by
    rw [hl] at hx
    obtain ⟨h1, h2⟩ := List.mem_filter.1 hx
    exact ⟨h1, by simpa using h2⟩
  refine ⟨hb, ht, hmp, ?_, ?_, h.pm, fun hk => h.pt (dro_mem h.srt h.nd hm hk), fun hk => h.mt (dro_mem h.srt h.nd hm hk), dro_nodup h.srt h.nd hm, ?_, ?_, fun x hx => h.wf x (hsub x hx).1, Nat.le_trans (dro_len h.srt h.nd hm) h.len⟩
  · intro x hx
    obtain ⟨h1, h2⟩ := hsub x hx
    try dsimp only
    rw [if_neg (fun e => h2 (by rw [id_inj h.ids h1 hm e]))]
    exact h.tell x h1
  · intro z hz
    try dsimp only
    split
    · rfl
    · rename_i hne
      refine h.rest z fun x hx e => ?_
      refine hz x ?_ e
      rw [hl]
      refine List.mem_filter.2 ⟨hx, ?_⟩
      have : x.1 ≠ nb := fun e2 => hne (by
        have : x = (nb, s) := inj_of_nodup_map (f := fun z : Nat × Sb => z.1) h.nd hx hm e2
        rw [← e, this])
      simpa using this
  · rw [hl]; exact List.Pairwise.filter _ h.srt
  · rw [droT_subs h.srt h.nd h.ids hm]
    exact List.Nodup.sublist (List.filter_sublist.map _) h.ids

theorem addE_empty {L : List Sb} {s : Sb} (h : emptyB s.f.toList s.t.toList = true) : addE L s = 1 ∧ addL L s = L := by unfold addE addL; rw [if_pos h, if_pos h]; exact ⟨rfl, rfl⟩
theorem addE_busy {L : List Sb} {s : Sb} (h : emptyB s.f.toList s.t.toList = false) (h2 : hasId L s.id = true) : addE L s = 8 ∧ addL L s = L := by simp [addE, addL, h, h2]
theorem addE_ok {L : List Sb} {s : Sb} (h : emptyB s.f.toList s.t.toList = false) (h2 : hasId L s.id = false) : addE L s = 0 ∧ addL L s = insL s L := by simp [addE, addL, h, h2]
/-- what Add or Del leaves -/
def IxOut (w : World) (p : Nat) (S : List Nat) (n : Nat) (L : List Sb) (w' : World) : Prop := ∃ S', Ix w' p S' n L ∧ Fr S w w' ∧ Grow S S' w ∧ ∀ k ∈ S, k ∈ S'
set_option maxHeartbeats 2000000 in
theorem ix_add {w : World} {p : Nat} {S : List Nat} {n : Nat} {L : List Sb} (h : Ix w p S n L) (hn : n < 1000) (s : Sb) (hw : wf64 s.id) :
    Calls Try.prog 19 #[.pointer (some ⟨p, 0, none⟩), s.val] w fun e w' => e = .returned (.int .i64 (addE L s)) ∧ IxOut w p S (n + 1) (addL L s) w' := by
  have HX := Lib.hid h
  have HWF := Lib.hid hw
  have HE := Lib.hid fun W => key_empty s.f s.t W
  obtain ⟨t, mb, M, h, hL, hpS, hmS, htS, hSl⟩ := h
  have HSL := Lib.hid hSl
  have HI := Lib.hid h
  have HL := Lib.hid hL
  have HPS := Lib.hid hpS
  have HMS := Lib.hid hmS
  have HTS := Lib.hid htS
  have hbox : ∀ w1, Fr [] (w.alloc (Obj.cells #[.int .i64 s.id, .int .i64 s.rev, .string s.f, .string s.t] 41)) w1 → w1.heap[w.heap.size]? = some (.cells #[.int .i64 s.id, .int .i64 s.rev, .string s.f, .string s.t] 41 (0, 0)) := fun w1 h1 => h1.keep (new_block w _) (by simp)
  have HBX := Lib.hid hbox
  have hplt := lt_of_block h.blk
  have hmlt := h.mp.lt
  clear h hL hpS hmS htS hbox hw hSl
  cases he : emptyB s.f.toList s.t.toList with
  | true =>
    rw [he] at HE
    rw [(addE_empty he).1, (addE_empty he).2]
    obtain ⟨si, sr, sf, st⟩ := s
    unfold Sb.val
    dsimp only at *
    clear he
    go_enter Try.func19, Try.ntmps19
    go_wp2_with (go_at_call 27; refine (HE.out _).mono ?_; rintro e w1 ⟨rfl, hf1⟩; have HF1 := Lib.hid (((Fr.refl [] w).alloc _).trans hf1 (by simp)); clear hf1)
    go_ret
    exact ⟨rfl, S, (HX.out.keep0 HF1.out).mono (by omega), HF1.out.mono (by simp), Grow.refl _ _, fun k hk => hk⟩
  | false =>
    rw [he] at HE
    cases hh : hasId L s.id with
    | true =>
      rw [(addE_busy he hh).1, (addE_busy he hh).2]
      have hlook : ∃ b, M s.id = some (.pointer (some ⟨b, 0, none⟩)) := by
        rw [HL.out] at hh
        obtain ⟨b, _, _, _, hM⟩ := HI.out.hit hh
        exact ⟨b, hM⟩
      obtain ⟨b, hM⟩ := hlook
      have LK : Hid (∀ X, Fr [] w X → (Instr.lookup 53 (.map (some mb)) (.int .i64 s.id) false).run Try.prog X = .ok (.pointer (some ⟨b, 0, none⟩)) X) := Lib.hid fun X hX => by
        have := (HI.out.mp.keep hX (by simp)).look SKI nodes_map (zero_node _) rfl (e := s.id) HWF.out
        rw [hM] at this
        exact this
      clear hM hh he
      obtain ⟨si, sr, sf, st⟩ := s
      unfold Sb.val
      dsimp only at *
      go_enter Try.func19, Try.ntmps19
      go_wp2_with (go_at_call 27; refine (HE.out _).mono ?_; rintro e w1 ⟨rfl, hf1⟩; refine go_stop ?_)
      obtain ⟨x0, x1, x2, x3, _⟩ := cells4 (HBX.out w1 hf1)
      have HF1 := Lib.hid (((Fr.refl [] w).alloc _).trans hf1 (by simp))
      obtain ⟨c0, c1, _⟩ := cells2 (HF1.out.keep HI.out.blk (by simp))
      have X0 := fun n : After [] w1 => n.cell x0 (by simp)
      have C1 := fun n : After [] w1 => n.cell c1 (by simp)
      have K1 := fun n : After [] w1 => LK.out n.now (HF1.out.trans n.fr (by simp))
      clear hf1
      unfold Stop
      go_upto_region 3 with fail
      refine wp_region_after [] (by kernel_rfl) (by kernel_rfl) ?_
      repeat (go_big_quiet_step (fail))
      refine wpQuiet_nil ?_
      rintro _ ⟨nq, rfl⟩
      go_wp2_with fail
      go_ret
      exact ⟨rfl, S, (HX.out.keep0 (HF1.out.trans nq.fr (by simp))).mono (by omega), (HF1.out.trans nq.fr (by simp)).mono (by simp), Grow.refl _ _, fun k hk => hk⟩
    | false =>
      rw [(addE_ok he hh).1, (addE_ok he hh).2]
      have HH := Lib.hid hh
      have hM : M s.id = none := by rw [HL.out] at hh; exact HI.out.miss hh
      have LK : Hid (∀ X, Fr [] w X → (Instr.lookup 53 (.map (some mb)) (.int .i64 s.id) false).run Try.prog X = .ok (.pointer none) X) := Lib.hid fun X hX => by
        have := (HI.out.mp.keep hX (by simp)).look SKI nodes_map (zero_node _) rfl (e := s.id) HWF.out
        rw [hM] at this
        exact this
      clear hM hh he
      obtain ⟨si, sr, sf, st⟩ := s
      unfold Sb.val
      dsimp only at *
      go_enter Try.func19, Try.ntmps19
      go_wp2_with (go_at_call 27; refine (HE.out _).mono ?_; rintro e w1 ⟨rfl, hf1⟩; refine go_stop ?_)
      have hbx1 := HBX.out w1 hf1
      obtain ⟨x0, x1, x2, x3, _⟩ := cells4 hbx1
      have HF1 := Lib.hid (((Fr.refl [] w).alloc _).trans hf1 (by simp))
      obtain ⟨c0, c1, _⟩ := cells2 (HF1.out.keep HI.out.blk (by simp))
      have HB1 := Lib.hid hbx1
      have X0 := fun n : After [] w1 => n.cell x0 (by simp)
      have C1 := fun n : After [] w1 => n.cell c1 (by simp)
      have K1 := fun n : After [] w1 => LK.out n.now (HF1.out.trans n.fr (by simp))
      clear hf1 hbx1
      unfold Stop
      go_upto_region 3 with fail
      refine wp_region_after [] (by kernel_rfl) (by kernel_rfl) ?_
      repeat (go_big_quiet_step (fail))
      refine wpQuiet_nil ?_
      rintro _ ⟨nq, rfl⟩
      have HB2 := Lib.hid (nq.fr.keep HB1.out (by simp))
      have HF2 := Lib.hid (HF1.out.trans nq.fr (by simp))
      clear X0 C1 K1 x0 x1 x2 x3 c0 c1
      generalize nq.now = w2 at *
      obtain ⟨x0, x1, x2, x3, _⟩ := cells4 HB2.out
      have hplt2 : p < w2.heap.size := by have := HF2.out.size; omega
      have hmlt2 : mb < w2.heap.size := by have := HF2.out.size; omega
      have hblt : w.heap.size < w2.heap.size := lt_of_block HB2.out
      obtain ⟨w3, hw3⟩ : ∃ w3, w3 = w2.alloc (Obj.cells (nodV ⟨si, sr, sf, st⟩ none none 0 (⟨#[]⟩, ⟨#[]⟩)) 65) := ⟨_, rfl⟩
      have HF3 : Hid (Fr [] w w3) := Lib.hid (by rw [hw3]; exact HF2.out.alloc _)
      have HN3 : Hid (NodB w3 w2.heap.size ⟨si, sr, sf, st⟩ none none 0 (⟨#[]⟩, ⟨#[]⟩)) := Lib.hid (by rw [hw3]; exact new_block _ _)
      obtain ⟨w4, hst, hm4, hf4⟩ := ((HI.out.mp.keep HF3.out (by simp)).keep (Fr.refl [] w3).drew (by simp)).store SKI nodes_map (by unfold maxLen; omega) (e := si) HWF.out (x := .pointer (some ⟨w2.heap.size, 0, none⟩)) rfl
      simp only [intD] at hst
      have hw9 : w2.alloc (Obj.cells #[.int .i64 si, .int .i64 sr, .string sf, .string st, .pointer none, .pointer none, .int .i64 0, .string ⟨#[]⟩, .string ⟨#[]⟩] 65) = w3 := hw3.symm
      have HW9 := Lib.hid hw9
      have HM4 := Lib.hid hm4
      have HF4 := Lib.hid ((Fr.refl [mb] w3).drew.trans hf4 (fun k hk => Or.inl hk))
      have hs3 : w3.heap.size = w2.heap.size + 1 := by rw [hw3]; simp
      have nb1 : w2.heap.size ≠ mb := by omega
      have nb2 : ¬ w2.heap.size = p := by omega
      have nb3 : ¬ p = w2.heap.size := by omega
      have nbw : ¬ w2.heap.size = w.heap.size := by omega
      have nbw2 : ¬ w.heap.size = w2.heap.size := by omega
      have nb4 : w2.heap.size ∉ t.blks := fun hk => by have := HI.out.tr.lt _ hk; have := HF2.out.size; omega
      have pmb : ¬ p = mb := HI.out.pm
      have wmb : ¬ w.heap.size = mb := by omega
      have HNB4 := Lib.hid nb4
      have HBL4 := Lib.hid (HF4.out.keep (HF3.out.keep HI.out.blk (by simp)) (by simpa using pmb))
      have CA := Lib.hid (si_add w2.heap.size ⟨si, sr, sf, st⟩ t w4 (TrAt.keep HF4.out (HI.out.tr.keep0 HF3.out) (fun k hk => by simp; rintro rfl; exact HI.out.mt hk)) ⟨_, _, HN3.out.keep HF4.out (by simpa using nb1)⟩ nb4 HI.out.nd (by have := HI.out.len; omega))
      have HW3 := Lib.hid hw3
      clear hw3 hm4 hf4 hs3 nb4 hw9
      obtain ⟨c0, c1, _⟩ := cells2 HBL4.out
      obtain ⟨b0, b1, b2, b3, _⟩ := cells4 (HF4.out.keep ((HW3.out ▸ (Fr.refl [] w2).alloc _ : Fr [] w2 w3).keep HB2.out (by simp)) (by simpa using wmb))
      have HG4 : Hid (Fr S w w4) := Lib.hid ((HF3.out.mono (by simp)).trans HF4.out (fun k hk => by simp at hk; subst hk; exact Or.inl HMS.out))
      obtain ⟨tp, htp⟩ : ∃ tp, tp = (addT w2.heap.size ⟨si, sr, sf, st⟩ t).ptr := ⟨_, rfl⟩
      rw [← htp] at CA
      have HTP := Lib.hid htp
      clear htp
      have p3 : Hid (Fr [] w2 w3) := Lib.hid (by rw [HW3.out]; exact (Fr.refl [] w2).alloc _)
      obtain ⟨d0, d1, _⟩ := cells2 (HF3.out.keep HI.out.blk (by simp))
      obtain ⟨e0, e1, e2, e3, _⟩ := cells4 (p3.out.keep HB2.out (by simp))
      generalize hpt : t.ptr = pt at *
      clear hpt
      go_upto_region 6 with fail
      rw [HW9.out]
      clear x0 x1 x2 x3
      go_region_held_law (fun w' => w'.cell? ⟨p, 1, none⟩ = some (.map (some mb)) ∧ w'.cell? ⟨w.heap.size, 0, none⟩ = some (.int .i64 si)) (first | go_keep | assumption) (fail)
      go_wp2_with (go_at_call 28; refine CA.out.mono ?_; rintro e w5 ⟨rfl, ht5, hf5⟩; refine go_stop ?_)
      have hbl5 := hf5.keep HBL4.out (by simp only [List.mem_cons, not_or]; exact ⟨nb3, HI.out.pt⟩)
      have HBL5 := Lib.hid hbl5
      have HT5 := Lib.hid ht5
      have HF5 := Lib.hid hf5
      obtain ⟨k0, k1, kf⟩ := cells2 hbl5
      have kf0 := kf 0
      have plt5 := lt_of_block hbl5
      clear hbl5 ht5 hf5 kf c0 c1 b0 b1 b2 b3 d0 d1 e0 e1 e2 e3
      unfold Stop
      go_wp2_with fail
      go_ret
      have hf6 : Fr [p] w5 (w5.setCell ⟨p, 0, none⟩ (.pointer tp)) := fr_set1 (Fr.refl _ _) (by simp) _ _
      have hm5 := (HM4.out.keep HF5.out (by simp only [List.mem_cons, not_or]; exact ⟨fun e => nb1 e.symm, HI.out.mt⟩)).keep hf6 (by simp; exact fun e => pmb e.symm)
      have hi := HI.out.add (w' := w5.setCell ⟨p, 0, none⟩ (.pointer tp)) (nb := w2.heap.size) (s := ⟨si, sr, sf, st⟩) (by rw [← HL.out]; exact HH.out) HWF.out (by rw [← HTP.out]; exact set_block HBL5.out 0 _) (TrAt.keep hf6 HT5.out (by intro k hk; simp only [List.mem_cons, List.not_mem_nil, or_false]; rintro rfl; rcases (addT_mem _).1 hk with e | e; exact nb3 e; exact HI.out.pt e)) hm5 HNB4.out nb2 nb1
      refine ⟨rfl, w2.heap.size :: S, ⟨_, mb, _, hi, by rw [addT_subs HI.out.srt, HL.out], by simp [HPS.out], by simp [HMS.out], ?_, ?_⟩, ?_, ?_, fun k hk => by simp [hk]⟩
      · intro k hk
        rcases (addT_mem k).1 hk with e | e
        · simp [e]
        · simp [HTS.out k e]
      · intro k hk
        rcases List.mem_cons.1 hk with e | e
        · rw [e]; exact hi.tr.lt _ ((addT_mem _).2 (Or.inl rfl))
        · have h1 := HSL.out k e
          have h2 := HG4.out.size
          have h3 := HF5.out.size
          have h4 := hf6.size
          omega
      · refine (HG4.out.trans HF5.out ?_).trans hf6 ?_
        · intro k hk
          rcases List.mem_cons.1 hk with e | e
          · right; rw [e]; exact HF2.out.size
          · exact Or.inl (HTS.out k e)
        · intro k hk; simp at hk; subst hk; exact Or.inl HPS.out
      · intro k hk
        rcases List.mem_cons.1 hk with e | e
        · right; rw [e]; exact HF2.out.size
        · exact Or.inl e

theorem delE_no {L : List Sb} {id : Int} (h : hasId L id = false) : delE L id = 4 ∧ delL L id = L := by
  refine ⟨by simp [delE, h], ?_⟩
  unfold delL
  exact List.filter_eq_self.2 fun x hx => by simpa using hasId_not h x hx
set_option maxHeartbeats 2000000 in
theorem ix_del {w : World} {p : Nat} {S : List Nat} {n : Nat} {L : List Sb} (h : Ix w p S n L) (hn : n ≤ 1000) (id : Int) (hw : wf64 id) :
    Calls Try.prog 21 #[.pointer (some ⟨p, 0, none⟩), .int .i64 id] w fun e w' => e = .returned (.int .i64 (delE L id)) ∧ IxOut w p S n (delL L id) w' := by
  have HX := Lib.hid h
  have HWF := Lib.hid hw
  obtain ⟨t, mb, M, h, hL, hpS, hmS, htS, hSl⟩ := h
  have HSL := Lib.hid hSl
  have HI := Lib.hid h
  have HL := Lib.hid hL
  have HPS := Lib.hid hpS
  have HMS := Lib.hid hmS
  have HTS := Lib.hid htS
  have hplt := lt_of_block h.blk
  have hmlt := h.mp.lt
  obtain ⟨c0, c1, _⟩ := cells2 h.blk
  clear h hL hpS hmS htS hw hSl
  cases hh : hasId L id with
  | false =>
    rw [(delE_no hh).1, (delE_no hh).2]
    have hM : M id = none := by rw [HL.out] at hh; exact HI.out.miss hh
    have lk : (Instr.lookup 53 (.map (some mb)) (.int .i64 id) false).run Try.prog w = .ok (.pointer none) w := by
      have := HI.out.mp.look SKI nodes_map (zero_node _) rfl (e := id) HWF.out
      rw [hM] at this
      exact this
    clear hM hh
    go_enter Try.func21, Try.ntmps21
    go_wp2_with fail
    go_ret
    exact ⟨rfl, S, HX.out, Fr.refl _ _, Grow.refl _ _, fun k hk => hk⟩
  | true =>
    have he : delE L id = 0 := by simp [delE, hh]
    rw [he]
    have hh2 := hh
    rw [HL.out] at hh2
    obtain ⟨b, s, hm, hid, hM⟩ := HI.out.hit hh2
    have lk : (Instr.lookup 53 (.map (some mb)) (.int .i64 id) false).run Try.prog w = .ok (.pointer (some ⟨b, 0, none⟩)) w := by
      have := HI.out.mp.look SKI nodes_map (zero_node _) rfl (e := id) HWF.out
      rw [hM] at this
      exact this
    have HM := Lib.hid hm
    have HID := Lib.hid hid
    have pmb : ¬ p = mb := HI.out.pm
    have mbp : ¬ mb = p := fun e => pmb e.symm
    obtain ⟨tp, htp⟩ : ∃ tp, tp = (droT b s t).ptr := ⟨_, rfl⟩
    have CD : Hid (∀ W, Fr [mb] w W → Calls Try.prog 29 #[.pointer t.ptr, .pointer (some ⟨b, 0, none⟩)] W fun e w' => e = .returned (.pointer tp) ∧ TrAt w' (droT b s t) ∧ Fr t.blks W w') := Lib.hid fun W hW => by
      rw [htp]
      exact si_drop b s t W (TrAt.keep hW HI.out.tr (fun k hk => by simp; rintro rfl; exact HI.out.mt hk)) HM.out HI.out.srt HI.out.nd (by have := HI.out.len; omega)
    have HTP := Lib.hid htp
    have HMP := Lib.hid HI.out.mp
    have HBL := Lib.hid HI.out.blk
    generalize t.ptr = pt at *
    clear hm hid hM htp hh hh2 he
    go_enter Try.func21, Try.ntmps21
    go_wp2_with (at_delete; refine go_stop ?_)
    unfold Stop
    refine wpList_delete_G rfl _ _ 53 rfl intD SKI isPt 54 nodes_map mb n M rfl HMP.out id rfl HWF.out ?dl
    case dl =>
      intro w5 hm5 hf5
      have HM5 := Lib.hid hm5
      have HF5 := Lib.hid hf5
      have HBL5 := Lib.hid (hf5.keep HBL.out (by simpa using pmb))
      obtain ⟨d0, d1, _⟩ := cells2 HBL5.out
      clear hm5 hf5 c0 c1 lk
      go_wp2_with (go_at_call 29; refine (CD.out _ HF5.out).mono ?_; rintro e w6 ⟨rfl, ht6, hf6⟩; refine go_stop ?_)
      have HBL6 := Lib.hid (hf6.keep HBL5.out HI.out.pt)
      have HT6 := Lib.hid ht6
      have HF6 := Lib.hid hf6
      obtain ⟨k0, k1, kf⟩ := cells2 HBL6.out
      have kf0 := kf 0
      have plt5 := lt_of_block HBL6.out
      clear ht6 hf6 kf d0 d1
      unfold Stop
      go_wp2_with fail
      go_ret
      have hf7 : Fr [p] w6 (w6.setCell ⟨p, 0, none⟩ (.pointer tp)) := fr_set1 (Fr.refl _ _) (by simp) _ _
      have hi := HI.out.del (w' := w6.setCell ⟨p, 0, none⟩ (.pointer tp)) HM.out (by rw [← HTP.out]; exact set_block HBL6.out 0 _) (TrAt.keep hf7 HT6.out (by intro k hk; simp only [List.mem_cons, List.not_mem_nil, or_false]; rintro rfl; exact HI.out.pt (dro_mem HI.out.srt HI.out.nd HM.out hk))) (by rw [HID.out]; exact (HM5.out.keep HF6.out HI.out.mt).keep hf7 (by simp; exact mbp))
      refine ⟨rfl, S, ⟨_, mb, _, hi, by rw [droT_subs HI.out.srt HI.out.nd HI.out.ids HM.out, HL.out, HID.out], HPS.out, HMS.out, fun k hk => HTS.out k (dro_mem HI.out.srt HI.out.nd HM.out hk), fun k hk => by have h1 := HSL.out k hk; have h2 := HF5.out.size; have h3 := HF6.out.size; have h4 := hf7.size; omega⟩, ?_, Grow.refl _ _, fun k hk => hk⟩
      refine ((HF5.out.mono (fun k hk => by simp at hk; subst hk; exact Or.inl HMS.out)).trans HF6.out (fun k hk => Or.inl (HTS.out k hk))).trans hf7 ?_
      intro k hk; simp at hk; subst hk; exact Or.inl HPS.out
end Go.Proofs.Ytcieokfjkfpajaa
