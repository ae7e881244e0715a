/- THE DOCUMENT's WATCHES (impostref11): less, Add, Del: contracts -/
import Derived.Test.YtcieokfjkfpajaaSiPut
import Derived.Test.YtcieokfjkfpajaaKeyRef
namespace Go.Proofs.Ytcieokfjkfpajaa
open Go.RowKit
set_option linter.unusedVariables false
set_option linter.unusedSimpArgs false

theorem rsub_slice : Try.prog.underlying 26 = some (.slice 32) := Try.underlying26
theorem rsub_info : (Try.prog.info? 32).map (fun i => (i.zero, i.size, i.bytes)) = some (some (.agg #[.int .i64 0, .int .i64 0, .string ⟨#[]⟩, .string ⟨#[]⟩]), 4, 48) := by kernel_rfl
structure SbC (w : World) (g off : Nat) (x : Sb) : Prop where
  c0 : w.cell? ⟨g, off, none⟩ = some (.int .i64 x.id)
  c1 : w.cell? ⟨g, off + 1, none⟩ = some (.int .i64 x.rev)
  c2 : w.cell? ⟨g, off + 2, none⟩ = some (.string x.f)
  c3 : w.cell? ⟨g, off + 3, none⟩ = some (.string x.t)
theorem SbC.keep {w w' : World} {g off : Nat} {x : Sb} {S : List Nat} (h : SbC w g off x) (hf : Fr S w w') (hg : g ∉ S) : SbC w' g off x :=
  ⟨hf.cell h.c0 hg, hf.cell h.c1 hg, hf.cell h.c2 hg, hf.cell h.c3 hg⟩
def SbIn (w : World) (v : Value) (l : List Sb) : Prop := LIn Sb.cells 4 w v l
theorem SbIn.here {w : World} {v : Value} {l : List Sb} (h : SbIn w v l) (hn : 0 < l.length) : ∃ g off c, v = .slice (some ⟨g, off, none⟩) l.length c ∧ g < w.heap.size ∧ l.length ≤ c ∧ ∀ i x, l[i]? = some x → SbC w g (off + i * 4) x := by
  obtain ⟨g, off, c, hv, h1, h2, h3⟩ := LIn.here h hn
  refine ⟨g, off, c, hv, h1, h2, fun i x hx => ?_⟩
  have q := h3 i x hx
  have e0 := q 0 (by decide)
  have e1 := q 1 (by decide)
  have e2 := q 2 (by decide)
  have e3 := q 3 (by decide)
  rw [← Nat.add_assoc] at e0 e1 e2 e3
  exact ⟨e0, e1, e2, e3⟩
set_option maxHeartbeats 1000000 in
theorem rsi_less (a b : Sb) (w : World) : Calls Try.prog 30 #[a.val, b.val] w fun e w' => e = .returned (.bool (lsS a b)) ∧ Fr [] w w' := by
  have c1 := @run_lss Try.prog
  obtain ⟨R, hR⟩ : ∃ R, R = lsS a b := ⟨_, rfl⟩
  rw [← hR]
  unfold lsS ls at hR
  obtain ⟨ai, ar, af, at'⟩ := a
  obtain ⟨bi, br, bf, bt⟩ := b
  unfold Sb.val
  dsimp only at *
  cases h1 : (af.toList == bf.toList) with
  | false =>
    have HR := Lib.hid hR
    have H1 := Lib.hid h1
    clear hR
    go_enter Try.func30, Try.ntmps30
    go_wp2_with fail
    go_ret
    exact ⟨by rw [HR.out, H1.out]; simp, ((Fr.refl _ _).alloc _).alloc _⟩
  | true =>
    have e1 : af.toList = bf.toList := by simpa using h1
    have HR : Hid (R = decide (ai < bi)) := Lib.hid (by
      rw [hR, h1]
      have : Op.bytesLess af.toList bf.toList = false := by rw [e1]; exact ls_irrefl _
      rw [this]; simp)
    clear hR e1
    go_enter Try.func30, Try.ntmps30
    go_wp2_with fail
    go_ret
    exact ⟨by rw [HR.out]; rfl, ((Fr.refl _ _).alloc _).alloc _⟩

/-! Add, plainly, an element at a time -/
def outJ (s : Sb) (P : List Sb) : List Sb := if P.any (lsS s) = true then insL s P else P
theorem insL_more {s : Sb} : ∀ {P : List Sb}, P.any (lsS s) = true → ∀ r, insL s (P ++ r) = insL s P ++ r
  | [], h, r => by simp at h
  | y :: P, h, r => by
    simp only [List.cons_append, insL]
    cases hy : lsS s y with
    | true => simp
    | false =>
      have h2 : P.any (lsS s) = true := by simpa [hy] using h
      rw [insL_more h2 r]; simp
theorem insL_end {s : Sb} : ∀ {P : List Sb}, P.any (lsS s) = false → insL s P = P ++ [s]
  | [], _ => rfl
  | y :: P, h => by
    simp only [List.any_cons, Bool.or_eq_false_iff] at h
    rw [insL, if_neg (by rw [h.1]; simp), insL_end h.2]; rfl
theorem insL_here {s y : Sb} : ∀ {P : List Sb}, P.any (lsS s) = false → lsS s y = true → insL s (P ++ [y]) = P ++ [s, y]
  | [], _, h => by simp [insL, h]
  | z :: P, h, hy => by
    simp only [List.any_cons, Bool.or_eq_false_iff] at h
    rw [List.cons_append, insL, if_neg (by rw [h.1]; simp), insL_here h.2 hy]; rfl
theorem outJ_done {s y : Sb} {P : List Sb} (h : P.any (lsS s) = true) : outJ s (P ++ [y]) = outJ s P ++ [y] := by
  unfold outJ; rw [if_pos (by rw [List.any_append, h]; rfl), if_pos h, insL_more h]
theorem outJ_now {s y : Sb} {P : List Sb} (h : P.any (lsS s) = false) (hy : lsS s y = true) : outJ s (P ++ [y]) = outJ s P ++ [s] ++ [y] := by
  unfold outJ; rw [if_pos (by rw [List.any_append]; simp [hy]), if_neg (by rw [h]; simp), insL_here h hy]; simp
theorem outJ_not {s y : Sb} {P : List Sb} (h : P.any (lsS s) = false) (hy : lsS s y = false) : outJ s (P ++ [y]) = outJ s P ++ [y] := by
  unfold outJ; rw [if_neg (by rw [List.any_append]; simp [hy, h]), if_neg (by rw [h]; simp)]
theorem insL_len (s : Sb) (P : List Sb) : (insL s P).length = P.length + 1 := (insL_perm s P).length_eq
theorem outJ_len (s : Sb) (P : List Sb) : (outJ s P).length ≤ P.length + 1 := by
  unfold outJ
  split
  · rw [insL_len]; exact Nat.le_refl _
  · omega
theorem take_snoc {α : Type} {l : List α} {j : Nat} {x : α} (hx : l[j]? = some x) : l.take (j + 1) = l.take j ++ [x] := by
  rw [List.take_add_one, hx]; rfl
set_option maxHeartbeats 2000000 in
theorem rsi_add (lv : Value) (L : List Sb) (s : Sb) (S : List Nat) (w : World) (hl : LFar S Sb.cells 4 w lv L) (hS : ∀ k ∈ S, k < w.heap.size) (hn : L.length ≤ 1000) :
    Calls Try.prog 22 #[lv, s.val] w fun e w' => ∃ v', e = .returned (.tuple #[v', .int .i64 (addE L s)]) ∧ LFar S Sb.cells 4 w' v' (addL L s) ∧ Fr [] w w' := by
  obtain ⟨s1, c1, rfl, la, ma⟩ := hl.form
  unfold maxLen at ma
  have HE := Lib.hid fun W => rempty_any s.f s.t W
  have HL := Lib.hid hl
  have HS := Lib.hid hS
  have HLS := Lib.hid fun a b W => rsi_less a b W
  have hbx : ∀ w1, Fr [] (w.alloc (Obj.cells #[.int .i64 s.id, .int .i64 s.rev, .string s.f, .string s.t] 32)) w1 → w1.heap[w.heap.size]? = some (.cells #[.int .i64 s.id, .int .i64 s.rev, .string s.f, .string s.t] 32 (0, 0)) := fun w1 h1 => h1.keep (new_block w _) (by simp)
  have HBX := Lib.hid hbx
  clear hl hS hbx
  cases he : emptyB s.f.toList s.t.toList with
  | true =>
    rw [he] at HE
    rw [(addE_empty he).1, (addE_empty he).2]
    obtain ⟨si, sr, sf, st⟩ := s
    unfold Sb.val
    dsimp only at *
    clear he
    go_enter Try.func22, Try.ntmps22
    go_wp2_with (go_at_call 20; refine (HE.out _).mono ?_; rintro e w1 ⟨rfl, hf1⟩; have HF1 := Lib.hid (((Fr.refl [] w).alloc _).trans hf1 (by simp)); clear hf1)
    refine bodyPost_ret (v := .tuple #[.slice s1 L.length c1, .int .i64 1]) (by simp [results, Try.results22, go_sem]) rfl ?_
    exact ⟨_, rfl, HL.out.keep0 HF1.out, HF1.out⟩
  | false =>
    rw [he] at HE
    obtain ⟨R, hR⟩ : ∃ R, R = addE L s := ⟨_, rfl⟩
    obtain ⟨RL, hRL⟩ : ∃ RL, RL = addL L s := ⟨_, rfl⟩
    rw [← hR, ← hRL]
    have HBUSY : Hid (hasId L s.id = true → R = 8 ∧ RL = L) := Lib.hid fun h => by rw [hR, hRL]; exact addE_busy he h
    have HOK : Hid (hasId L s.id = false → R = 0 ∧ RL = insL s L) := Lib.hid fun h => by rw [hR, hRL]; exact addE_ok he h
    clear hR hRL he
    obtain ⟨si, sr, sf, st⟩ := s
    unfold Sb.val
    dsimp only at *
    go_enter Try.func22, Try.ntmps22
    go_wp2_with (go_at_call 20; refine (HE.out _).mono ?_; rintro e w1 ⟨rfl, hf1⟩; refine go_stop ?_)
    have HB1 := Lib.hid (HBX.out w1 hf1)
    have HF1 := Lib.hid (((Fr.refl [] w).alloc _).trans hf1 (by simp))
    have HL1 := Lib.hid (HL.out.keep0 HF1.out)
    clear hf1 HE HBX
    unfold Stop
    go_upto_region 6 with fail
    go_loopw [6, 7, 8] (fun ov dv iv wr => ∃ (j : Nat) (o : List Sb), iv = .int .i64 j ∧ j ≤ L.length ∧ dv = .bool ((L.take j).any (lsS ⟨si, sr, sf, st⟩)) ∧ OutAt Sb.cells 32 4 w1 wr ov o ∧ o = outJ ⟨si, sr, sf, st⟩ (L.take j) ∧ (∀ x ∈ L.take j, x.id ≠ si) ∧ Fr [] w1 wr) (fun _ _ i _ => L.length - (intOf i).toNat)
    case atStart => exact ⟨0, [], rfl, Nat.zero_le _, rfl, OutAt.nil _ _, by simp [outJ], by simp, Fr.refl _ _⟩
    case round =>
      obtain ⟨j, o, rfl, hj, rfl, ho, hoe, hni, hf⟩ := hrel
      have hol : o.length ≤ j + 1 := by rw [hoe]; exact Nat.le_trans (outJ_len _ _) (by rw [List.length_take]; omega)
      have HO := Lib.hid ho
      have HOE := Lib.hid hoe
      have HNI := Lib.hid hni
      have HF := Lib.hid hf
      clear ho hoe hni hf
      by_cases h : j < L.length
      · obtain ⟨x, hx⟩ : ∃ x, L[j]? = some x := ⟨_, List.getElem?_eq_getElem h⟩
        obtain ⟨g, off, d1, e1, hg, l1, k1⟩ := SbIn.here HL1.out.lin (by omega)
        have HG := Lib.hid hg
        clear hg
        simp only [Value.slice.injEq] at e1
        obtain ⟨rfl, _, rfl⟩ := e1
        have HP := Lib.hid ((k1 j x hx).keep HF.out (by simp))
        obtain ⟨b0, b1, b2, b3, _⟩ := cells4 (HF.out.keep HB1.out (by simp))
        have HTK := Lib.hid (take_snoc hx)
        have t1 : decide (j < L.length) = true := by simpa using h
        have B0 := fun n : After [] wr => n.cell b0 (by simp)
        have A0 := fun n : After [] wr => n.cell HP.out.c0 (by simp)
        have HXM : Hid (x ∈ L) := Lib.hid (List.mem_of_getElem? hx)
        clear hx k1 b0 b1 b2 b3
        go_upto_region 8 with fail
        refine wp_region_after [] (by kernel_rfl) (by kernel_rfl) ?_
        repeat (go_big_quiet_step (fail))
        refine wpQuiet_nil ?_
        rintro _ ⟨nq, rfl⟩
        have HN := Lib.hid (HF.out.trans nq.fr (by simp))
        have HON := Lib.hid (HO.out.keep nq.fr)
        have HPN := Lib.hid (HP.out.keep nq.fr (by simp))
        clear A0 B0
        generalize nq.now = w2 at *
        by_cases hid : x.id = si
        · have t2 : (x.id == si) = true := by simpa using hid
          have hb := HBUSY.out (hasId_iff.2 ⟨x, HXM.out, hid⟩)
          obtain ⟨rfl, rfl⟩ := hb
          clear hid
          go_wp2_with fail
          refine bodyPost_ret (v := .tuple #[.slice (some ⟨g, off, none⟩) RL.length c1, .int .i64 8]) (by simp [results, Try.results22, go_sem]) rfl ?_
          exact ⟨_, rfl, HL1.out.keep0 HN.out, HF1.out.trans HN.out (by simp)⟩
        · have t2 : (x.id == si) = false := by simpa using hid
          have HID := Lib.hid hid
          clear hid
          obtain ⟨y0, y1, y2, y3, _⟩ := cells4 (HN.out.keep HB1.out (by simp))
          obtain ⟨D, hD⟩ : ∃ D, D = (L.take j).any (lsS ⟨si, sr, sf, st⟩) := ⟨_, rfl⟩
          rw [← hD]
          have HD := Lib.hid hD.symm
          clear hD
          have B0 := fun n : After [] w2 => n.cell y0 (by simp)
          have B1 := fun n : After [] w2 => n.cell y1 (by simp)
          have B2 := fun n : After [] w2 => n.cell y2 (by simp)
          have B3 := fun n : After [] w2 => n.cell y3 (by simp)
          have A0 := fun n : After [] w2 => n.cell HPN.out.c0 (by simp)
          have A1 := fun n : After [] w2 => n.cell HPN.out.c1 (by simp)
          have A2 := fun n : After [] w2 => n.cell HPN.out.c2 (by simp)
          have A3 := fun n : After [] w2 => n.cell HPN.out.c3 (by simp)
          have HLX : Hid (∀ W, Calls Try.prog 30 #[.agg #[.int .i64 si, .int .i64 sr, .string sf, .string st], .agg #[.int .i64 x.id, .int .i64 x.rev, .string x.f, .string x.t]] W fun e w' => e = .returned (.bool (lsS ⟨si, sr, sf, st⟩ x)) ∧ Fr [] W w') := Lib.hid fun W => HLS.out ⟨si, sr, sf, st⟩ x W
          clear y0 y1 y2 y3
          cases D with
          | true =>
            go_upto_region 10 with fail
            refine wp_region_after [] (by kernel_rfl) (by kernel_rfl) ?_
            repeat (go_big_quiet_step (fail))
            refine wpQuiet_nil ?_
            rintro _ ⟨nr, rfl⟩
            have HN3 := Lib.hid (HN.out.trans nr.fr (by simp))
            have HO3 := Lib.hid (HON.out.keep nr.fr)
            have HP3 := Lib.hid (HPN.out.keep nr.fr (by simp))
            clear A0 A1 A2 A3 B0 B1 B2 B3
            generalize nr.now = w3 at *
            obtain ⟨q0, q1, q2, q3⟩ := HP3.out
            go_wp2_with (at_builtin; refine wpList_append_any rfl (.tmp 42) (.tmp 47) 26 32 (.agg #[.int .i64 0, .int .i64 0, .string ⟨#[]⟩, .string ⟨#[]⟩]) 4 48 rfl rsub_slice rsub_info rfl (by decide) _ (o).length (allC Sb.cells (o)) rfl (HO3.out.lies.keep0 ((Fr.refl [] _).alloc _)) _ 1 x.cells rfl (lies_row w3 32 x.cells rfl _ rfl) x.cone (by unfold maxLen; omega) (by omega) ?app1)
            case app1 =>
            intro v9 w9 h1 h2 h3
            have ha := (HO3.out.keep ((Fr.refl [] w3).alloc (.cells x.cells.toArray 32)))
            have HA := Lib.hid (OutAt.app ha (by have := HN3.out.size; simp at this ⊢; omega) (xs := [x]) (by rw [allC_one]; exact h1) rfl h3)
            have HG := Lib.hid (OutAt.fr ha (HN3.out.alloc _) h2)
            clear h1 h2 h3 ha q0 q1 q2 q3
            go_wp2_with fail
            go_roundw
            case rel =>
              refine ⟨j + 1, _, by go_num, by omega, ?_, HA.out, ?_, ?_, HG.out⟩
              · rw [HTK.out, List.any_append, HD.out]; simp [HD.out]
              · rw [HTK.out, outJ_done HD.out, ← HOE.out]
              · intro y hy
                rw [HTK.out] at hy
                rcases List.mem_append.1 hy with hy | hy
                · exact HNI.out y hy
                · rw [List.mem_singleton.1 hy]; exact HID.out
            case measure => simp [intOf]; omega
          | false =>
            cases hlx : lsS ⟨si, sr, sf, st⟩ x
            all_goals
              rw [hlx] at HLX
              have HLXE := Lib.hid hlx
              clear hlx
              go_upto_region 10 with fail
              refine wp_region_after [] (by kernel_rfl) (by kernel_rfl) ?_
              repeat (go_big_quiet_step ((go_at_call 30; exact After.quiet (HLX.out _))))
              refine wpQuiet_nil ?_
              rintro _ ⟨nr, rfl⟩
              have HN3 := Lib.hid (HN.out.trans nr.fr (by simp))
              have HO3 := Lib.hid (HON.out.keep nr.fr)
              have HP3 := Lib.hid (HPN.out.keep nr.fr (by simp))
              clear A0 A1 A2 A3 B0 B1 B2 B3
              generalize nr.now = w3 at *
            ·
              obtain ⟨q0, q1, q2, q3⟩ := HP3.out
              go_wp2_with (at_builtin; refine wpList_append_any rfl (.tmp 42) (.tmp 47) 26 32 (.agg #[.int .i64 0, .int .i64 0, .string ⟨#[]⟩, .string ⟨#[]⟩]) 4 48 rfl rsub_slice rsub_info rfl (by decide) _ (o).length (allC Sb.cells (o)) rfl (HO3.out.lies.keep0 ((Fr.refl [] _).alloc _)) _ 1 x.cells rfl (lies_row w3 32 x.cells rfl _ rfl) x.cone (by unfold maxLen; omega) (by omega) ?app2)
              case app2 =>
              intro v9 w9 h1 h2 h3
              have ha := (HO3.out.keep ((Fr.refl [] w3).alloc (.cells x.cells.toArray 32)))
              have HA := Lib.hid (OutAt.app ha (by have := HN3.out.size; simp at this ⊢; omega) (xs := [x]) (by rw [allC_one]; exact h1) rfl h3)
              have HG := Lib.hid (OutAt.fr ha (HN3.out.alloc _) h2)
              clear h1 h2 h3 ha q0 q1 q2 q3
              go_wp2_with fail
              go_roundw
              case rel =>
                refine ⟨j + 1, _, by go_num, by omega, ?_, HA.out, ?_, ?_, HG.out⟩
                · rw [HTK.out, List.any_append, HD.out]; simp [HLXE.out]
                · rw [HTK.out, outJ_not HD.out HLXE.out, ← HOE.out]
                · intro y hy
                  rw [HTK.out] at hy
                  rcases List.mem_append.1 hy with hy | hy
                  · exact HNI.out y hy
                  · rw [List.mem_singleton.1 hy]; exact HID.out
              case measure => simp [intOf]; omega
            · obtain ⟨y0, y1, y2, y3, _⟩ := cells4 (HN3.out.keep HB1.out (by simp))
              go_wp2_with (at_builtin; refine wpList_append_any rfl (.tmp 38) (.tmp 40) 26 32 (.agg #[.int .i64 0, .int .i64 0, .string ⟨#[]⟩, .string ⟨#[]⟩]) 4 48 rfl rsub_slice rsub_info rfl (by decide) _ (o).length (allC Sb.cells (o)) rfl (HO3.out.lies.keep0 ((Fr.refl [] _).alloc _)) _ 1 (Sb.mk si sr sf st).cells rfl (lies_row w3 32 (Sb.mk si sr sf st).cells rfl _ rfl) (Sb.mk si sr sf st).cone (by unfold maxLen; omega) (by omega) ?app3)
              case app3 =>
              intro v8 w8 h1 h2 h3
              have ha := (HO3.out.keep ((Fr.refl [] w3).alloc (.cells (Sb.cells ⟨si, sr, sf, st⟩).toArray 32)))
              have HO4 := Lib.hid (OutAt.app ha (by have := HN3.out.size; simp at this ⊢; omega) (xs := [⟨si, sr, sf, st⟩]) (by rw [allC_one]; exact h1) rfl h3)
              have HN4 := Lib.hid (OutAt.fr ha (HN3.out.alloc _) h2)
              obtain ⟨o4, ho4⟩ : ∃ o4, o4 = o ++ [(⟨si, sr, sf, st⟩ : Sb)] := ⟨_, rfl⟩
              have hl4 : o4.length ≤ 1003 := by rw [ho4, List.length_append, List.length_singleton]; omega
              rw [← ho4] at HO4
              have HO4E := Lib.hid ho4
              clear ho4
              have HP4 : Hid (SbC w8 g (off + j * 4) x) := Lib.hid (HP3.out.keep (((Fr.refl [] w3).alloc (Obj.cells (Sb.cells ⟨si, sr, sf, st⟩).toArray 32)).mono (T := u6.ownBlock.toList) (by simp) |>.trans h2 (fun k hk => Or.inl hk)) (fun hk => by have := HO3.out.new g (Option.mem_toList.1 hk); have := HG.out; omega))
              clear h1 h2 h3 ha y0 y1 y2 y3
              obtain ⟨q0, q1, q2, q3⟩ := HP4.out
              go_wp2_with (at_builtin; refine wpList_append_any rfl (.tmp 42) (.tmp 47) 26 32 (.agg #[.int .i64 0, .int .i64 0, .string ⟨#[]⟩, .string ⟨#[]⟩]) 4 48 rfl rsub_slice rsub_info rfl (by decide) _ o4.length (allC Sb.cells o4) rfl (HO4.out.lies.keep0 ((Fr.refl [] _).alloc _)) _ 1 x.cells rfl (lies_row w8 32 x.cells rfl _ rfl) x.cone (by unfold maxLen; omega) (by omega) ?app4)
              case app4 =>
              intro v9 w9 h1 h2 h3
              have ha := (HO4.out.keep ((Fr.refl [] w8).alloc (.cells x.cells.toArray 32)))
              have HA := Lib.hid (OutAt.app ha (by have := HN4.out.size; simp at this ⊢; omega) (xs := [x]) (by rw [allC_one]; exact h1) rfl h3)
              have HG := Lib.hid (OutAt.fr ha (HN4.out.alloc _) h2)
              clear h1 h2 h3 ha q0 q1 q2 q3
              go_wp2_with fail
              go_roundw
              case rel =>
                refine ⟨j + 1, _, by go_num, by omega, ?_, HA.out, ?_, ?_, HG.out⟩
                · rw [HTK.out, List.any_append, HD.out]; simp [HLXE.out]
                · rw [HTK.out, outJ_now HD.out HLXE.out, ← HOE.out, ← HO4E.out]
                · intro y hy
                  rw [HTK.out] at hy
                  rcases List.mem_append.1 hy with hy | hy
                  · exact HNI.out y hy
                  · rw [List.mem_singleton.1 hy]; exact HID.out
              case measure => simp [intOf]; omega
      · have t1 : decide (j < L.length) = false := by simpa using h
        have hjL : L.take j = L := List.take_of_length_le (by omega)
        rw [hjL] at HOE HNI ⊢
        have hno : hasId L si = false := by
          cases hh : hasId L si with
          | false => rfl
          | true => obtain ⟨y, hy, e⟩ := hasId_iff.1 hh; exact absurd e (HNI.out y hy)
        obtain ⟨rfl, rfl⟩ := HOK.out hno
        obtain ⟨D, hD⟩ : ∃ D, D = L.any (lsS ⟨si, sr, sf, st⟩) := ⟨_, rfl⟩
        rw [← hD]
        have HD := Lib.hid hD.symm
        have hol2 : o.length ≤ 1001 := by have := outJ_len ⟨si, sr, sf, st⟩ L; rw [← HOE.out] at this; omega
        have hS1 := HS.out
        have HSS : Hid (∀ k ∈ S, k < w1.heap.size) := Lib.hid fun k hk => by have := HF1.out.size; have := HS.out k hk; omega
        clear hD hno hjL h hol hS1
        cases D with
        | true =>
          obtain ⟨s6, c6, rfl, _⟩ := HO.out.lies.form
          go_wp2_with fail
          refine bodyPost_ret (v := .tuple #[.slice s6 o.length c6, .int .i64 0]) (by simp [results, Try.results22, go_sem]) rfl ?_
          refine ⟨_, rfl, ?_, HF1.out.trans HF.out (by simp)⟩
          have := OutAt.far HO.out Sb.clen HSS.out
          rw [HOE.out] at this ⊢
          unfold outJ at this ⊢
          rw [if_pos HD.out] at this ⊢
          exact this
        | false =>
          obtain ⟨y0, y1, y2, y3, _⟩ := cells4 (HF.out.keep HB1.out (by simp))
          go_wp2_with (at_builtin; refine wpList_append_any rfl (.tmp 51) (.tmp 53) 26 32 (.agg #[.int .i64 0, .int .i64 0, .string ⟨#[]⟩, .string ⟨#[]⟩]) 4 48 rfl rsub_slice rsub_info rfl (by decide) _ o.length (allC Sb.cells o) rfl (HO.out.lies.keep0 ((Fr.refl [] _).alloc _)) _ 1 (Sb.mk si sr sf st).cells rfl (lies_row wr 32 (Sb.mk si sr sf st).cells rfl _ rfl) (Sb.mk si sr sf st).cone (by unfold maxLen; omega) (by omega) ?app5)
          case app5 =>
          intro v8 w8 h1 h2 h3
          have ha := (HO.out.keep ((Fr.refl [] wr).alloc (.cells (Sb.cells ⟨si, sr, sf, st⟩).toArray 32)))
          have HO4 := Lib.hid (OutAt.app ha (by have := HF.out.size; simp at this ⊢; omega) (xs := [⟨si, sr, sf, st⟩]) (by rw [allC_one]; exact h1) rfl h3)
          have HN4 := Lib.hid (OutAt.fr ha (HF.out.alloc _) h2)
          obtain ⟨s8, c8, hv8, _⟩ := HO4.out.lies.form
          generalize (o ++ [(⟨si, sr, sf, st⟩ : Sb)]).length = m8 at hv8
          subst hv8
          clear h1 h2 h3 ha y0 y1 y2 y3
          go_wp2_with fail
          refine bodyPost_ret (v := .tuple #[.slice s8 m8 c8, .int .i64 0]) (by simp [results, Try.results22, go_sem]) rfl ?_
          refine ⟨_, rfl, ?_, HF1.out.trans HN4.out (by simp)⟩
          have := OutAt.far HO4.out Sb.clen HSS.out
          have e2 : o ++ [(⟨si, sr, sf, st⟩ : Sb)] = insL ⟨si, sr, sf, st⟩ L := by rw [insL_end HD.out, HOE.out]; unfold outJ; rw [if_neg (by rw [HD.out]; simp)]
          rw [e2] at this
          exact this
end Go.Proofs.Ytcieokfjkfpajaa
