/- THE DOCUMENT's Cut (impostref05): its contract, the walk -/
import Derived.Test.YtadlccdmbnimaaaEvCut
namespace Go.Proofs.Ytadlccdmbnimaaa
open Go.RowKit
set_option linter.unusedVariables false
set_option linter.unusedSimpArgs false

set_option maxHeartbeats 4000000 in
theorem rcut_any (lv : Value) (l : List Ev) (w : World) (hl : EvIn w lv l) (hm : l.length ≤ many) : Calls Try.prog 12 #[lv] w fun e w' => ∃ v, e = .returned v ∧ RowsAt w' v (cutE l) ∧ Fr [] w w' := by
  unfold many at hm
  have HL := Lib.hid hl
  obtain ⟨s1, c1, rfl, la, ma⟩ := hl.form
  unfold maxLen at ma
  clear hl
  go_enter Try.func12, Try.ntmps12
  go_wp2_with fail
  go_loopw [3, 4] (fun v i wr => ∃ (j : Nat) (vs : List Value), i = .int .i64 j ∧ j ≤ l.length ∧ OwnRows w wr v vs (cutE (l.take j)) ∧ Fr [] w wr) (fun _ i _ => l.length - (intOf i).toNat)
  case atStart => exact ⟨0, [], rfl, Nat.zero_le _, OwnRows.nil _ _, Fr.refl _ _⟩
  case round =>
    obtain ⟨j, vs, rfl, hj, ho, hf⟩ := hrel
    have HO := Lib.hid ho
    have HF := Lib.hid hf
    clear ho hf
    by_cases h : j < l.length
    · obtain ⟨x, hx⟩ : ∃ x, l[j]? = some x := ⟨_, List.getElem?_eq_getElem h⟩
      have HX := Lib.hid hx
      have HSTEP := Lib.hid (cutE_step hx)
      have HCL : Hid ((cutE (l.take j)).length ≤ j) := Lib.hid (by have := cut_len (l.take j); rw [List.length_take] at this; omega)
      obtain ⟨g, off, d1, e1, _, l1, k1⟩ := EvIn.here (LIn.keep0 HL.out HF.out) (by omega)
      cases e1
      have HP := Lib.hid (k1 j x hx)
      have t1 : decide (j < l.length) = true := by simpa using h
      obtain ⟨p0, p1, p2, p3⟩ := HP.out
      have HN : Hid (newRow l j x = newRow l j x) := Lib.hid rfl
      by_cases hz : j = 0
      focus
        (have t2 : ((j : Int) == 0) = true := by simp; omega
         have HNEW : Hid (newRow l j x = true) := Lib.hid (by subst hz; unfold newRow; cases l[0 - 1]? <;> simp)
         clear hx k1 hz
         go_wp2_with fail
         go_quiet (fail)
         clear t2)
      rotate_left
      focus
        (have t2 : ((j : Int) == 0) = false := by simp; omega
         obtain ⟨y, hy⟩ : ∃ y, l[j - 1]? = some y := ⟨_, List.getElem?_eq_getElem (by omega)⟩
         obtain ⟨i, hi⟩ : ∃ i, i = j - 1 := ⟨_, rfl⟩
         rw [← hi] at hy
         obtain ⟨q0, q1, q2, q3⟩ := k1 i y hy
         have w1 : IntKind.i64.wrap ((j : Int) - 1) = (i : Int) := by rw [IntWalk.i64_in _ ⟨by omega, by omega⟩]; omega
         have w2 : (j : Int) - 1 = (i : Int) := by omega
         have b2 : (i : Int) < (l.length : Int) := by omega
         have HNX : Hid (newRow l j x = !decide (x.rev = y.rev)) := Lib.hid (by unfold newRow; rw [← hi, hy]; simp [hz])
         have w3 : IntKind.i64.wrap (i : Int) = (i : Int) := IntWalk.i64_in _ ⟨by omega, by omega⟩
         clear hx k1 hy hi hz
         by_cases he : x.rev = y.rev
         focus
           (have HNEW : Hid (newRow l j x = false) := Lib.hid (by rw [HNX.out]; simp [he])
            have he2 : (x.rev == y.rev) = true := by simpa using he
            go_wp2_with fail
            go_quiet (fail)
            clear he he2)
         rotate_left
         focus
           (have HNEW : Hid (newRow l j x = true) := Lib.hid (by rw [HNX.out]; simp [he])
            have he2 : (x.rev == y.rev) = false := by simpa using he
            have he3 : (x.rev != y.rev) = true := by simpa using he
            go_wp2_with fail
            go_quiet (fail)
            clear he he2 he3)
         all_goals clear w1 w2 w3 b2 t2 q0 q1 q2 q3 HNX)
      all_goals
        obtain ⟨wz, hwz⟩ : ∃ wz, wz = wr.drewN nq := ⟨_, rfl⟩
        have HOz := Lib.hid (HO.out.keep ((Fr.refl [] wr).drewN nq))
        have HFz := Lib.hid (HF.out.drewN nq)
        have HPz := Lib.hid (HP.out.keep ((Fr.refl [] wr).drewN nq) (by simp))
        rw [← hwz] at HOz HFz HPz ⊢
        clear hwz p0 p1 p2 p3
        obtain ⟨init, r, hin, hcut⟩ := HSTEP.out
        rw [HNEW.out] at hin
        have HIN := Lib.hid hin
        have HCUT := Lib.hid hcut
        clear hin hcut
      iterate 1
       focus
        (have hin := HIN.out
         rw [if_pos rfl] at hin
         have HRL := Lib.hid (cutE_rlen (Or.inl hin))
         go_wp2_with (at_builtin; refine go_stop ?_)
         unfold Stop
         refine wpList_append_any rfl (.tmp 28) (.tmp 29) 27 22 (.slice none 0 0) 1 24 rfl rows_slice rows_info rfl (by decide) u3 (cutE (l.take j)).length vs rfl (HOz.out.lies.keep ((Fr.refl [] wz).alloc _) (by simp)) _ 1 [.slice none 0 0] rfl (lies_one wz 22 (.slice none 0 0) _ rfl) (by intro y hy; simp at hy; subst hy; rfl) (by have := HCL.out; unfold maxLen; omega) (by have := HCL.out; omega) ?_
         intro v1 W h1 h2 h3
         have ha := HOz.out.keep ((Fr.refl [] wz).alloc (.cells #[.slice none 0 0] 22))
         have hr := OwnRows.more ha (B := wz.heap.size + 1) (by simp) (by have := HFz.out.size; omega) h1 h2 (by simpa using h3)
         rw [hin] at hr
         have HR := Lib.hid hr
         have HG : Hid (Fr [] w W) := Lib.hid ((HFz.out.alloc _).trans h2 (fun k hk => Or.inr (HOz.out.new k (by simpa using hk))))
         obtain ⟨vs9, hvs9⟩ : ∃ vs9, vs9 = vs ++ [.slice none 0 0] := ⟨_, rfl⟩
         rw [← hvs9] at HR
         clear hvs9
         clear h1 h2 h3 ha hr hin)
       rotate_left
       focus
        (have hin := HIN.out
         rw [if_neg (by simp)] at hin
         have HRL := Lib.hid (cutE_rlen (Or.inr hin))
         have hr := HOz.out
         rw [hin] at hr
         have HR := Lib.hid hr
         obtain ⟨W, hW⟩ : ∃ W, W = wz := ⟨_, rfl⟩
         obtain ⟨v1, hv1⟩ : ∃ v1, v1 = u3 := ⟨_, rfl⟩
         obtain ⟨vs9, hvs9⟩ : ∃ vs9, vs9 = vs := ⟨_, rfl⟩
         have HG : Hid (Fr [] w W) := Lib.hid (by rw [hW]; exact HFz.out)
         rw [← hW, ← hv1, ← hvs9] at HR
         rw [← hW]
         subst hv1
         clear hin hr hW hvs9)
       rotate_left
       focus
        (have hin := HIN.out
         rw [if_pos rfl] at hin
         have HRL := Lib.hid (cutE_rlen (Or.inl hin))
         go_wp2_with (at_builtin; refine go_stop ?_)
         unfold Stop
         refine wpList_append_any rfl (.tmp 28) (.tmp 29) 27 22 (.slice none 0 0) 1 24 rfl rows_slice rows_info rfl (by decide) u3 (cutE (l.take j)).length vs rfl (HOz.out.lies.keep ((Fr.refl [] wz).alloc _) (by simp)) _ 1 [.slice none 0 0] rfl (lies_one wz 22 (.slice none 0 0) _ rfl) (by intro y hy; simp at hy; subst hy; rfl) (by have := HCL.out; unfold maxLen; omega) (by have := HCL.out; omega) ?_
         intro v1 W h1 h2 h3
         have ha := HOz.out.keep ((Fr.refl [] wz).alloc (.cells #[.slice none 0 0] 22))
         have hr := OwnRows.more ha (B := wz.heap.size + 1) (by simp) (by have := HFz.out.size; omega) h1 h2 (by simpa using h3)
         rw [hin] at hr
         have HR := Lib.hid hr
         have HG : Hid (Fr [] w W) := Lib.hid ((HFz.out.alloc _).trans h2 (fun k hk => Or.inr (HOz.out.new k (by simpa using hk))))
         obtain ⟨vs9, hvs9⟩ : ∃ vs9, vs9 = vs ++ [.slice none 0 0] := ⟨_, rfl⟩
         rw [← hvs9] at HR
         clear hvs9
         clear h1 h2 h3 ha hr hin)
       rotate_left
      all_goals
        have hL := HR.out.lies
        have hlen := HR.out.len
        obtain ⟨nn, hnn⟩ : ∃ nn, nn = (init ++ [r]).length := ⟨_, rfl⟩
        obtain ⟨q, hq⟩ : ∃ q, q = init.length := ⟨_, rfl⟩
        have hnq : nn = q + 1 := by rw [hnn, hq]; simp
        rw [← hnn] at hL hlen
        obtain ⟨g3, o3, c3, hv3, hg3, hc3, k3⟩ := hL.here (by omega)
        obtain ⟨u, hu⟩ : ∃ u, vs9[q]? = some u := ⟨_, List.getElem?_eq_getElem (by omega)⟩
        obtain ⟨b3, f3⟩ := k3 q (by omega)
        rw [hu] at b3
        have hru : (init ++ [r])[q]? = some r := by rw [hq]; simp
        have HU := Lib.hid (HR.out.row q u r hu hru)
        obtain ⟨s5, c5, rfl, l5, m5⟩ := HU.out.form
        obtain ⟨g6, o6, d6, e6, _, l6, k6⟩ := EvIn.here (LIn.keep0 HL.out HG.out) (by omega)
        cases e6
        have HPW := Lib.hid (k6 j x HX.out)
        obtain ⟨p0, p1, p2, p3⟩ := HPW.out
        have HUU := Lib.hid hu
        have HRU := Lib.hid hru
        have hlen2 := HRL.out
        have HR5 : Hid (r.length ≤ j ∧ nn ≤ j + 1 ∧ j ≤ 1000000000) := Lib.hid ⟨hlen2.1, by omega, by omega⟩
        have w1 : IntKind.i64.wrap ((nn : Int) - 1) = (q : Int) := by rw [IntWalk.i64_in _ ⟨by omega, by omega⟩]; omega
        have w2 : (nn : Int) - 1 = (q : Int) := by omega
        have w3 : wrap64 (q : Int) = (q : Int) := IntWalk.wrap64_in _ ⟨by omega, by omega⟩
        have b2 : (q : Int) < (nn : Int) := by omega
        have b4 : q < nn := by omega
        have HNQ := Lib.hid (And.intro hnn (And.intro hq hnq))
        have hgl : g < w.heap.size := LIn.lt HL.out (by omega)
        have hgW : w.heap.size ≤ W.heap.size := HG.out.size
        have hng : ¬ W.heap.size = g := by omega
        have hng2 : ¬ W.heap.size = g3 := by omega
        have hng3 : ¬ g3 = W.heap.size := by omega
        have hng4 : ¬ g = W.heap.size := by omega
        have n0 : ∀ k o, ((W.drewN k).alloc o).cell? ⟨g3, o3 + q, none⟩ = some (.slice s5 r.length c5) := fun k o => (((Fr.refl [] W).drewN k).alloc o).cell b3 (by simp)
        have n1 : ∀ k o, ((W.drewN k).alloc o).cell? ⟨g, off + j * 4, none⟩ = some (.int .i64 x.rev) := fun k o => (((Fr.refl [] W).drewN k).alloc o).cell p0 (by simp)
        have n2 : ∀ k o, ((W.drewN k).alloc o).cell? ⟨g, off + j * 4 + 1, none⟩ = some (.string x.key) := fun k o => (((Fr.refl [] W).drewN k).alloc o).cell p1 (by simp)
        have n3 : ∀ k o, ((W.drewN k).alloc o).cell? ⟨g, off + j * 4 + 2, none⟩ = some (.string x.val) := fun k o => (((Fr.refl [] W).drewN k).alloc o).cell p2 (by simp)
        have n4 : ∀ k o, ((W.drewN k).alloc o).cell? ⟨g, off + j * 4 + 3, none⟩ = some (.bool x.del) := fun k o => (((Fr.refl [] W).drewN k).alloc o).cell p3 (by simp)
        subst hv3
        obtain ⟨cur, hcur⟩ := hL.blk
        have HCUR := Lib.hid hcur
        have hu3 : g3 ∉ (Value.slice s5 r.length c5).ownBlock.toList := fun hm => (HR.out.far q _ g3 hu (by simpa using hm)).2 rfl
        have hu4 : g ∉ (Value.slice s5 r.length c5).ownBlock.toList := fun hm => by have := (HR.out.far q _ g hu (by simpa using hm)).1; omega
        have hg9 : w.heap.size ≤ g3 := HR.out.new g3 rfl
        have HU3 := Lib.hid (And.intro hu3 (And.intro hu4 hg9))
        clear hL hlen k3 hu hru k6 hnn hq hnq hlen2 hcur hu3 hu4 HO HF HP HOz HFz HPz HSTEP HIN HNEW HRL HCL HN HPW HX hgW hgl hg9 f3
        go_wp2_with fail
        go_region_law
          ((refine step_append_any (by rfl) (.tmp 39) (.tmp 44) 22 40 (.agg #[.int .i64 0, .string ⟨#[]⟩, .string ⟨#[]⟩, .bool false]) 4 48 (by rfl) ev_slice ev_info rfl (by decide) (.slice s5 r.length c5) r.length (allC Ev.cells r) (by rfl) (LAt.keep0 HU.out (by first | exact ((Fr.refl [] W).drewN _).alloc _ | exact (((Fr.refl [] W).alloc _).drewN _) | exact (((Fr.refl [] W).alloc _).drew))) _ 1 x.cells (by rfl) ((lies_row W 40 x.cells rfl _ rfl).keep (by first | exact (Fr.refl [] _).drewN _ | exact (Fr.refl [] _).drew) (by simp)) x.cone (by have := HR5.out; unfold maxLen; omega) (by have := HR5.out; omega) ?_
            intro v2 w2 ho2 hf2 hn2
            obtain ⟨s7, c7, hv7, _⟩ := ho2.form
            subst hv7
            have f1 : Fr (Value.slice s5 r.length c5).ownBlock.toList W w2 := Fr.trans (Fr.mono (S := []) (T := (Value.slice s5 r.length c5).ownBlock.toList) (by first | exact ((Fr.refl [] W).drewN _).alloc _ | exact (((Fr.refl [] W).alloc _).drewN _) | exact (((Fr.refl [] W).alloc _).drew)) (by simp)) hf2 (fun k hk => Or.inl hk)
            have f2 := f1.cell b3 HU3.out.1
            have f6 := free_block (f1.keep HCUR.out HU3.out.1) (o3 + q)
            have HEV : Hid (EvAt w2 (.slice s7 (r.length + 1) c7) (r ++ [x])) := Lib.hid (by unfold EvAt LAt; rw [allC_app, allC_one, List.length_append]; exact ho2)
            have HF2 := Lib.hid f1
            have HN2 : Hid (∀ k, (Value.slice s7 (r.length + 1) c7).ownBlock = some k → (Value.slice s5 r.length c5).ownBlock = some k ∨ k = W.heap.size + 1) := Lib.hid (by simpa using hn2)
            clear ho2 hf2 hn2 f1))
        all_goals go_wp2
        all_goals go_roundw
        all_goals first
          | (show _ < _; simp [intOf]; omega)
          | (have hp := cut_put HR.out HNQ.out HUU.out HRU.out HEV.out HF2.out HN2.out HG.out HCUT.out; exact ⟨j + 1, _, by go_num, h, hp.1, hp.2⟩)
    · have t1 : decide (j < l.length) = false := by simpa using h
      go_wp2
      go_ret
      refine ⟨_, rfl, ?_, HF.out⟩
      have := HO.out
      rw [List.take_of_length_le (by omega)] at this
      exact this.rows
end Go.Proofs.Ytadlccdmbnimaaa
