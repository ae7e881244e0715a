/- PACKAGE subidx: gather, stab: contracts -/
import Derived.Test.YtcieokfjkfpajaaSiDro
namespace Go.Proofs.Ytcieokfjkfpajaa
open Go.RowKit
set_option linter.unusedVariables false
set_option linter.unusedSimpArgs false

theorem sub_slice : Try.prog.underlying 35 = some (.slice 41) := Try.underlying35
theorem sub_info : (Try.prog.info? 41).map (fun i => (i.zero, i.size, i.bytes)) = some (some (.agg #[.int .i64 0, .int .i64 0, .string ⟨#[]⟩, .string ⟨#[]⟩]), 4, 48) := by kernel_rfl
theorem sints_slice : Try.prog.underlying 38 = some (.slice 3) := Try.underlying38
theorem sint_info : (Try.prog.info? 3).map (fun i => (i.zero, i.size, i.bytes)) = some (some (.int .i64 0), 1, 8) := by kernel_rfl
/-- numbers as cells -/
def inC (x : Int) : List Value := [.int .i64 x]
theorem inC.len (x : Int) : (inC x).length = 1 := rfl
theorem inC.one (x : Int) : ∀ y ∈ inC x, y.oneCell' = true := by intro y hy; simp [inC] at hy; subst hy; rfl
set_option maxHeartbeats 600000 in
theorem si_gather (t : Tr) : ∀ (w0 wr : World) (v : Value) (o : List Sb), TrAt w0 t → Fr [] w0 wr → OutAt Sb.cells 41 4 w0 wr v o → o.length + t.lst.length ≤ 100000 →
    Calls Try.prog 24 #[v, .pointer t.ptr] wr fun e w' => ∃ v', e = .returned v' ∧ OutAt Sb.cells 41 4 w0 w' v' (o ++ t.subs) ∧ Fr [] w0 w' := by
  induction t with
  | nil =>
    intro w0 wr v o _ hf ho _
    obtain ⟨s, c, rfl, _⟩ := ho.lies.form
    have HO := Lib.hid ho
    have HF := Lib.hid hf
    generalize hn : o.length = n at *
    clear ho hf
    show Calls Try.prog 24 #[.slice s n c, .pointer none] wr _
    go_enter Try.func24, Try.ntmps24
    go_wp2_with fail
    go_ret
    exact ⟨_, rfl, by rw [show o ++ Tr.nil.subs = o from List.append_nil o]; exact HO.out, HF.out⟩
  | node b s l r ihl ihr =>
    intro w0 wr v o ht hf ho hs
    obtain ⟨vs, vc, rfl, _⟩ := ho.lies.form
    simp only [Tr.lst, List.length_append, List.length_cons] at hs
    have hll : l.subs.length = l.lst.length := by unfold Tr.subs; simp
    have hl0 := hf.cell (nod_cells ht.1).2.2.2.2.1 (by simp)
    have CL := Lib.hid (ihl w0 wr _ o ht.2.1 hf ho (by omega))
    have CR := Lib.hid fun w2 v2 h1 h2 => ihr w0 w2 v2 (o ++ l.subs ++ [s]) ht.2.2 h1 h2 (by simp only [List.length_append, List.length_cons, List.length_nil]; omega)
    have HN := Lib.hid ht.1
    have HSZ : Hid ((o ++ l.subs).length ≤ 100000) := Lib.hid (by rw [List.length_append]; omega)
    have e1 : o ++ (Tr.node b s l r).subs = o ++ l.subs ++ [s] ++ r.subs := by rw [Tr.subs_node]; simp
    rw [e1]
    obtain ⟨OL, hOL⟩ : ∃ OL, OL = o ++ l.subs := ⟨_, rfl⟩
    rw [← hOL] at CL CR HSZ ⊢
    generalize l.ptr = pl at *
    generalize r.ptr = pr at *
    generalize o.length = ol at *
    clear ihl ihr ht hf ho e1 hOL hll hs
    show Calls Try.prog 24 #[.slice vs ol vc, .pointer (some ⟨b, 0, none⟩)] wr _
    go_enter Try.func24, Try.ntmps24
    go_wp2_with (go_at_call 24; refine CL.out.mono ?_; rintro e w1 ⟨v1, rfl, ho1, hf1⟩; refine go_stop ?_)
    obtain ⟨s1, c1, rfl, _⟩ := ho1.lies.form
    have HO1 := Lib.hid ho1
    have HF1 := Lib.hid hf1
    obtain ⟨x0, x1, x2, x3, x4, x5, _⟩ := nod_cells (HN.out.keep hf1 (by simp))
    have hsz := HSZ.out
    clear ho1 hf1 hl0
    unfold Stop
    go_wp2_with (at_builtin; refine wpList_append_any rfl (.tmp 15) (.tmp 20) 35 41 (.agg #[.int .i64 0, .int .i64 0, .string ⟨#[]⟩, .string ⟨#[]⟩]) 4 48 rfl sub_slice sub_info rfl (by decide) _ OL.length (allC Sb.cells OL) rfl (HO1.out.lies.keep0 ((Fr.refl [] _).alloc _)) _ 1 s.cells rfl (lies_row w1 41 s.cells rfl _ rfl) s.cone (by unfold maxLen; omega) (by omega) ?app)
    case app =>
      intro v2 w2 h1 h2 h3
      have HF2 : Hid (Fr [] w0 w2) := Lib.hid ((HF1.out.trans ((Fr.refl [] w1).alloc _) (by simp)).trans h2 (fun k hk => Or.inr (HO1.out.new k (Option.mem_toList.1 hk))))
      have HO2 : Hid (OutAt Sb.cells 41 4 w0 w2 v2 (OL ++ [s])) := Lib.hid (OutAt.app HO1.out (by have := HF1.out.size; omega : w0.heap.size ≤ w1.heap.size + 1) (xs := [s]) (by rw [allC_one]; exact h1) rfl h3)
      obtain ⟨s2, c2, hv2, _⟩ := HO2.out.lies.form
      generalize (OL ++ [s]).length = m2 at *
      subst hv2
      have y5 := HF2.out.cell (nod_cells HN.out).2.2.2.2.2.1 (by simp)
      clear h1 h2 h3 x0 x1 x2 x3 x4 x5
      go_wp2_with (go_at_call 24; refine (CR.out _ _ HF2.out HO2.out).mono ?_; rintro e w3 ⟨v3, rfl, ho3, hf3⟩; have HO3 := Lib.hid ho3; have HF3 := Lib.hid hf3; clear ho3 hf3)
      go_ret
      exact ⟨_, rfl, HO3.out, HF3.out⟩

theorem Tr.stab_in {k : Bs} {rev : Int} {b : Nat} {s : Sb} {l r : Tr} (h : inB (Tr.node b s l r).hull.1.toList (Tr.node b s l r).hull.2.toList k = true) : (Tr.node b s l r).stab k rev = l.stab k rev ++ (if s.want k rev = true then [s.id] else []) ++ r.stab k rev := by rw [Tr.stab, if_pos h]
theorem Tr.stab_out {k : Bs} {rev : Int} {b : Nat} {s : Sb} {l r : Tr} (h : inB (Tr.node b s l r).hull.1.toList (Tr.node b s l r).hull.2.toList k = false) : (Tr.node b s l r).stab k rev = [] := by rw [Tr.stab, if_neg (by rw [h]; simp)]
theorem Tr.stab_len (k : Bs) (rev : Int) (t : Tr) : (t.stab k rev).length ≤ t.lst.length := by
  rw [Tr.stab_eq, List.length_map]
  refine Nat.le_trans (List.length_filter_le _ _) ?_
  unfold Tr.subs; simp
set_option maxHeartbeats 1000000 in
theorem si_stab (k : ByteArray) (rev : Int) (t : Tr) : ∀ (w0 wr : World) (v : Value) (o : List Int), TrAt w0 t → Fr [] w0 wr → OutAt inC 3 1 w0 wr v o → o.length + t.lst.length ≤ 100000 →
    Calls Try.prog 25 #[v, .pointer t.ptr, .string k, .int .i64 rev] wr fun e w' => ∃ v', e = .returned v' ∧ OutAt inC 3 1 w0 w' v' (o ++ t.stab k.toList rev) ∧ Fr [] w0 w' := by
  induction t with
  | nil =>
    intro w0 wr v o _ hf ho _
    obtain ⟨s, c, rfl, _⟩ := ho.lies.form
    have HO := Lib.hid ho
    have HF := Lib.hid hf
    generalize hn : o.length = n at *
    clear ho hf
    show Calls Try.prog 25 #[.slice s n c, .pointer none, .string k, .int .i64 rev] wr _
    go_enter Try.func25, Try.ntmps25
    go_wp2_with fail
    go_ret
    exact ⟨_, rfl, by rw [show o ++ Tr.nil.stab k.toList rev = o from List.append_nil o]; exact HO.out, HF.out⟩
  | node b s l r ihl ihr =>
    intro w0 wr v o ht hf ho hs
    obtain ⟨vs, vc, rfl, _⟩ := ho.lies.form
    simp only [Tr.lst, List.length_append, List.length_cons] at hs
    have hll := Tr.stab_len k.toList rev l
    obtain ⟨x0, x1, x2, x3, x4, x5, x6, x7, x8, _⟩ := nod_cells (ht.1.keep hf (by simp))
    have HI := Lib.hid fun W => key_in (Tr.node b s l r).hull.1 (Tr.node b s l r).hull.2 k W
    have HJ := Lib.hid fun W => key_in s.f s.t k W
    have HN := Lib.hid ht.1
    cases hin : inB (Tr.node b s l r).hull.1.toList (Tr.node b s l r).hull.2.toList k.toList with
    | false =>
      rw [hin] at HI
      rw [Tr.stab_out hin, List.append_nil]
      generalize (Tr.node b s l r).hull = HU at *
      have HO := Lib.hid ho
      have HF := Lib.hid hf
      generalize l.ptr = pl at *
      generalize r.ptr = pr at *
      generalize o.length = ol at *
      clear ihl ihr ht hf ho hll hs hin
      show Calls Try.prog 25 #[.slice vs ol vc, .pointer (some ⟨b, 0, none⟩), .string k, .int .i64 rev] wr _
      go_enter Try.func25, Try.ntmps25
      go_wp2_with (go_at_call 31; refine (HI.out _).mono ?_; rintro e w1 ⟨rfl, hf1⟩; have HF1 := Lib.hid hf1; clear hf1)
      go_ret
      exact ⟨_, rfl, HO.out.keep HF1.out, HF.out.trans HF1.out (by simp)⟩
    | true =>
      rw [hin] at HI
      rw [Tr.stab_in hin]
      have CL := Lib.hid fun w2 v2 h1 h2 => ihl w0 w2 v2 o ht.2.1 h1 h2 (by omega)
      have CR := Lib.hid fun w2 v2 o2 h1 h2 (h3 : o2.length ≤ o.length + l.lst.length + 1) => ihr w0 w2 v2 o2 ht.2.2 h1 h2 (by omega)
      have HO := Lib.hid ho
      have HF := Lib.hid hf
      have HSZ : Hid ((o ++ l.stab k.toList rev).length ≤ o.length + l.lst.length ∧ o.length + l.lst.length ≤ 100000) := Lib.hid ⟨by rw [List.length_append]; omega, by omega⟩
      obtain ⟨OL, hOL⟩ : ∃ OL, OL = o ++ l.stab k.toList rev := ⟨_, rfl⟩
      have e1 : o ++ (l.stab k.toList rev ++ (if s.want k.toList rev = true then [s.id] else []) ++ r.stab k.toList rev) = OL ++ (if s.want k.toList rev = true then [s.id] else []) ++ r.stab k.toList rev := by rw [hOL]; simp
      rw [e1]
      rw [← hOL] at CL HSZ
      generalize (Tr.node b s l r).hull = HU at *
      generalize l.ptr = pl at *
      generalize r.ptr = pr at *
      generalize hol : o.length = ol at *
      clear ihl ihr ht hf ho hll hs hin e1 hOL hol
      obtain ⟨si, sr, sf, st⟩ := s
      have hw : ∀ B : Bool, inB sf.toList st.toList k.toList = B → Sb.want k.toList rev ⟨si, sr, sf, st⟩ = (decide (sr < rev) && B) := fun B h => by unfold Sb.want; rw [h]
      dsimp only at *
      generalize inB sf.toList st.toList k.toList = J at *
      have hw := hw J rfl
      rw [hw]
      clear hw
      show Calls Try.prog 25 #[.slice vs ol vc, .pointer (some ⟨b, 0, none⟩), .string k, .int .i64 rev] wr _
      go_enter Try.func25, Try.ntmps25
      go_wp2_with (go_at_call 31; refine (HI.out _).mono ?_; rintro e w1 ⟨rfl, hf1⟩; refine go_stop ?_)
      have HF1 := Lib.hid (HF.out.trans hf1 (by simp))
      have HO1 := Lib.hid (HO.out.keep hf1)
      have y4 := hf1.cell x4 (by simp)
      clear hf1 x0 x1 x2 x3 x4 x5 x6 x7 x8
      unfold Stop
      go_wp2_with (go_at_call 25; refine (CL.out _ _ HF1.out HO1.out).mono ?_; rintro e w2 ⟨v2, rfl, ho2, hf2⟩; refine go_stop ?_)
      obtain ⟨s2, c2, hv2, _⟩ := ho2.lies.form
      have HO2 := Lib.hid ho2
      have HF2 := Lib.hid hf2
      obtain ⟨x0, x1, x2, x3, x4, x5, _⟩ := nod_cells (HN.out.keep hf2 (by simp))
      have hsz := HSZ.out
      generalize hol2 : OL.length = ol2 at hv2 hsz
      have HOL2 := Lib.hid hol2
      subst hv2
      clear ho2 hf2 y4 hol2
      dsimp only at *
      unfold Stop
      have key : ∀ (w4 : World) (v4 : Value) (o4 : List Int), Fr [] w0 w4 → OutAt inC 3 1 w0 w4 v4 o4 → o4.length ≤ ol + l.lst.length + 1 → Calls Try.prog 25 #[v4, .pointer pr, .string k, .int .i64 rev] w4 fun e w' => ∃ v', e = .returned v' ∧ OutAt inC 3 1 w0 w' v' (o4 ++ r.stab k.toList rev) ∧ Fr [] w0 w' := fun w4 v4 o4 h1 h2 h3 => CR.out w4 v4 o4 h1 h2 h3
      have HK := Lib.hid key
      clear key
      cases ht1 : decide (sr < rev) with
      | false =>
        go_wp2_with (go_at_call 25; refine (HK.out _ _ OL HF2.out HO2.out (by have := HSZ.out; omega)).mono ?_; rintro e w3 ⟨v3, rfl, ho3, hf3⟩; have HO3 := Lib.hid ho3; have HF3 := Lib.hid hf3; clear ho3 hf3)
        all_goals go_ret
        all_goals exact ⟨_, rfl, by simpa using HO3.out, HF3.out⟩
      | true =>
        go_wp2_with (go_at_call 31; refine (HJ.out _).mono ?_; rintro e w3 ⟨rfl, hf3⟩; refine go_stop ?_)
        have HF3 := Lib.hid (HF2.out.trans hf3 (by simp))
        have HO3 := Lib.hid (HO2.out.keep hf3)
        have z0 := hf3.cell x0 (by simp)
        have z5 := hf3.cell x5 (by simp)
        clear hf3 x0 x1 x2 x3 x4 x5
        unfold Stop
        cases J with
        | false =>
          go_wp2_with (go_at_call 25; refine (HK.out _ _ OL HF3.out HO3.out (by have := HSZ.out; omega)).mono ?_; rintro e w4 ⟨v4, rfl, ho4, hf4⟩; have HO4 := Lib.hid ho4; have HF4 := Lib.hid hf4; clear ho4 hf4)
          all_goals go_ret
          all_goals exact ⟨_, rfl, by simpa using HO4.out, HF4.out⟩
        | true =>
          go_wp2_with (at_builtin; refine wpList_append_any rfl (.tmp 46) (.tmp 52) 38 3 (.int .i64 0) 1 8 rfl sints_slice sint_info rfl (by decide) _ ol2 (allC inC OL) rfl (by have q := HO3.out.lies.keep0 ((Fr.refl [] w3).alloc (.cells #[.int .i64 si] 3)); unfold LAt at q; rw [HOL2.out] at q; exact q) _ 1 (inC si) rfl (lies_row w3 3 (inC si) rfl _ rfl) (inC.one si) (by unfold maxLen; omega) (by omega) ?app)
          case app =>
            intro v4 w4 h1 h2 h3
            have HF4 : Hid (Fr [] w0 w4) := Lib.hid ((HF3.out.trans ((Fr.refl [] w3).alloc _) (by simp)).trans h2 (fun k hk => Or.inr (HO3.out.new k (Option.mem_toList.1 hk))))
            have HO4 : Hid (OutAt inC 3 1 w0 w4 v4 (OL ++ [si])) := Lib.hid (OutAt.app HO3.out (by have := HF3.out.size; omega : w0.heap.size ≤ w3.heap.size + 1) (xs := [si]) (by rw [allC_one, HOL2.out]; exact h1) rfl h3)
            have hl4 : (OL ++ [si]).length = ol2 + 1 := by rw [List.length_append, HOL2.out]; rfl
            obtain ⟨s4, c4, hv4, _⟩ := HO4.out.lies.form
            have HL4 := Lib.hid hl4
            generalize (OL ++ [si]).length = m4 at hv4 hl4
            subst hv4
            have y5 := HF4.out.cell (nod_cells HN.out).2.2.2.2.2.1 (by simp)
            clear h1 h2 h3 hl4 z0
            go_wp2_with (go_at_call 25; refine (HK.out _ _ (OL ++ [si]) HF4.out HO4.out (by have := HSZ.out; have := HOL2.out; rw [HL4.out]; omega)).mono ?_; rintro e w5 ⟨v5, rfl, ho5, hf5⟩; have HO5 := Lib.hid ho5; have HF5 := Lib.hid hf5; clear ho5 hf5)
            all_goals go_ret
            all_goals exact ⟨_, rfl, by simpa using HO5.out, HF5.out⟩
end Go.Proofs.Ytcieokfjkfpajaa
