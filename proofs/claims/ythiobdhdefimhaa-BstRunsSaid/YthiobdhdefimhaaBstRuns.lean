/- Whatever is inserted, deleted and found, one behind the other, 60 calls at most: each answer and all keys are those of a plain list of entries, for every list of calls. No condition. -/
import Derived.Test.YthiobdhdefimhaaBsRan
namespace Go.Proofs.Ythiobdhdefimhaa.lawBstRuns
open Go.ChangeShapes Go.WideShapes Go.ChangeAt Go.RowKit Go.Deep Go.ChangeMaps
set_option linter.unusedVariables false
set_option linter.unusedSimpArgs false

set_option maxRecDepth 20000 in
set_option maxHeartbeats 4000000 in
theorem walk (lv : Value) (l : List De) (w : World) (hl : DeIn w lv l) :
    Calls Try.prog 3 #[lv] w fun e w' => e = .returned (.bool true) ∧ Below w.heap.size w w' := by
  obtain ⟨s1, c1, rfl, la, ma⟩ := LIn.form hl
  unfold maxLen at ma
  have HL := Lib.hid hl
  clear hl
  have HBG : Hid (∀ (W : World) (tb mb : Nat) (x : Hold) (n : Nat) (K : List (Nat × Obj)), Hid (Mine w W tb mb x n K) → n ≤ 60 → ∀ (kind : Int) (k : ByteArray) (v : Int), Calls Try.prog 10 #[pt tb, .agg #[.int .i64 kind, .string k, .int .u64 v]] W fun e w' => ∃ p, e = .returned (pt p) ∧ Hid (RunsM w w' tb mb p (doX x kind k v).1 (n + 1) (doX x kind k v).2 K)) := Lib.hid fun W tb mb x n K h hn kind k v => (mine_begun h.out (by omega) kind k v).mono fun e w' ⟨p, h1, h2⟩ => ⟨p, h1, h2⟩
  go_enter Try.func3, Try.ntmps3
  go_wp2_with (go_at_call 6; refine (bs_awake _).mono ?_; rintro e w1 ⟨rfl, hf⟩; refine go_stop ?_)
  unfold Stop
  have HF1 := Lib.hid hf
  clear hf
  go_wp2_with (go_at_call 8; refine (mem0 _).mono ?_; rintro e u1 ⟨mb, rfl, HM⟩; refine go_stop ?_)
  unfold Stop
  have HT := Lib.hid (tree0 HF1.out HM.out)
  go_wp2_with (go_at_call 7; refine HT.out.mono ?_; rintro e u2 ⟨tb, rfl, M2⟩; refine go_stop ?_)
  unfold Stop
  clear HM HT
  go_wp2_with fail
  go_loopw [5, 6] (fun xv i wr => ∃ (j : Nat) (x : Hold) (es : List Ent) (K : List (Nat × Obj)), i = .int .i64 j ∧ j ≤ l.length ∧ j ≤ 60 ∧ Mine w wr tb mb x j K ∧ RowK Ent.cells 2 K xv es ∧ EntH es x ∧ es.length ≤ j) (fun _ i _ => l.length - (intOf i).toNat)
  case atStart => exact ⟨0, _, [], [], rfl, Nat.zero_le _, by omega, M2.out, RowK.nil _ _ _, EntH.nil, Nat.le_refl _⟩
  case round =>
    obtain ⟨j, x, es, K, rfl, hj, hj6, hm, hr, he, hes⟩ := hrel
    have HM := Lib.hid hm
    have HR := Lib.hid hr
    have HE := Lib.hid he
    have HES := Lib.hid hes
    clear hm hr he hes
    by_cases h : j < l.length
    · have t0 : decide ((j : Int) < (l.length : Int)) = true := decide_eq_true (by omega)
      by_cases h2 : j < 60
      · have t1 : decide ((j : Int) < (60 : Int)) = true := decide_eq_true (by omega)
        obtain ⟨d, hd⟩ : ∃ d, l[j]? = some d := ⟨_, List.getElem?_eq_getElem h⟩
        obtain ⟨g, off, d1, e1, l0, l1, k1⟩ := DeIn.here (LIn.keep0 HL.out HM.out.fr) (by omega)
        simp only [Value.slice.injEq] at e1
        obtain ⟨rfl, _, rfl⟩ := e1
        have HD := Lib.hid hd
        have HLJ : Hid (∀ W, Fr [] w W → W.cell? ⟨g, off + j * 3, none⟩ = some (.int .i64 d.kind) ∧ W.cell? ⟨g, off + j * 3 + 1, none⟩ = some (.string d.key) ∧ W.cell? ⟨g, off + j * 3 + 2, none⟩ = some (.int .u64 d.val)) := Lib.hid fun W hW => by
          obtain ⟨g', off', d1', e1', _, _, k1'⟩ := DeIn.here (LIn.keep0 HL.out hW) (by omega)
          simp only [Value.slice.injEq, Option.some.injEq, Addr.mk.injEq, and_true, true_and] at e1'
          obtain ⟨⟨rfl, rfl⟩, rfl⟩ := e1'
          exact k1' j d HD.out
        obtain ⟨p0, p1, p2⟩ := k1 j d hd
        obtain ⟨kind, hkind⟩ : ∃ kind, kind = d.kind := ⟨_, rfl⟩
        obtain ⟨key, hkey⟩ : ∃ key, key = d.key := ⟨_, rfl⟩
        obtain ⟨val, hval⟩ : ∃ val, val = d.val := ⟨_, rfl⟩
        rw [← hkind, ← hkey, ← hval] at HLJ
        rw [← hkind] at p0
        rw [← hkey] at p1
        rw [← hval] at p2
        obtain ⟨g1, g2, g3, g4, g5, g6⟩ := HE.out.step kind key val
        obtain ⟨X, hX⟩ : ∃ X, X = (doX x kind key val).1 := ⟨_, rfl⟩
        obtain ⟨r, hr⟩ : ∃ r, r = (doX x kind key val).2 := ⟨_, rfl⟩
        obtain ⟨E, hE⟩ : ∃ E, E = (doE es kind key val).1 := ⟨_, rfl⟩
        have HCB := Lib.hid (HBG.out wr tb mb x j K HM hj6 kind key val)
        rw [← hX, ← hr] at HCB
        have HDO : Hid (∀ W lv, EntIn W lv es → Calls Try.prog 11 #[lv, .agg #[.int .i64 kind, .string key, .bool false, .int .i64 0, .int .i64 0], .int .u64 val] W fun e w' => ∃ rv, e = .returned (.tuple #[rv, .bool r.ok, .int .u64 r.val]) ∧ EntIn w' rv E ∧ Fr [] W w' ∧ (rv = lv ∨ ∀ k, rv.ownBlock = some k → W.heap.size ≤ k)) := Lib.hid fun W lv hlv => by
          have h := rr_do lv es kind key val W hlv (by have := HES.out; omega)
          unfold DoPostE at h
          rw [g2, g3, ← hr, ← hE] at h
          exact h
        rw [← hX, ← hE] at g1
        rw [← hr] at g4 g5
        rw [← hE] at g6
        obtain ⟨ok, rk, rv, re⟩ := r
        dsimp only at g4 g5 HDO
        replace g4 := g4.symm
        subst g4
        replace g5 := g5.symm
        subst g5
        have HG := Lib.hid g1
        have HG6 := Lib.hid g6
        clear k1 hd hkind hkey hval g1 g2 g3 g6 hX hr hE HE HBG
        go_wp2_with (go_at_call 10; refine HCB.out.mono ?_; rintro e u3 ⟨p, rfl, HR3⟩; refine go_stop ?_)
        unfold Stop
        clear HCB p0 p1 p2
        replace HR3 : Hid (∀ W', Fr [] u3 W' → Calls Try.prog 9 #[pt p] W' fun e w'' => e = .returned (.agg #[.bool ok, .string key, .int .u64 rv, .int .i64 0]) ∧ Hid (Mine w w'' tb mb X (j + 1) K)) := Lib.hid HR3.out
        go_wp2_with (go_at_call 9; refine (HR3.out _ (Fr.refl [] _)).mono ?_; rintro e u4 ⟨rfl, M4⟩; refine go_stop ?_)
        unfold Stop
        clear HR3
        have M5 := Lib.hid (M4.out.alloc #[.bool ok, .string key, .int .u64 rv, .int .i64 0] 32)
        clear M4
        go_upto_region 8 with fail
        obtain ⟨w5, hw5⟩ : ∃ x, x = u4.alloc (.cells #[.bool ok, .string key, .int .u64 rv, .int .i64 0] 32) := ⟨_, rfl⟩
        rw [← hw5] at M5
        rw [← hw5]
        clear hw5
        obtain ⟨a0, a1, a2, a3⟩ := cells_an (r := ⟨ok, key, rv, 0⟩) (M5.out.at (b := u4.heap.size) (o := .cells #[.bool ok, .string key, .int .u64 rv, .int .i64 0] 32 (0, 0)) (by simp))
        obtain ⟨pb, hpb⟩ : ∃ x, x = u4.heap.size := ⟨_, rfl⟩
        rw [← hpb] at M5 a0 a1 a2 a3
        rw [← hpb]
        clear hpb
        obtain ⟨p0, p1, p2⟩ := HLJ.out _ M5.out.fr
        have HRX : Hid (∀ W, Fr [] w5 W → EntIn W u5 es) := Lib.hid fun W hW => LIn.keep0 (M5.out.rowIn (HR.out.mono (fun q hq => List.mem_cons_of_mem _ hq))) hW
        go_region_held3 (fun W => W.cell? ⟨g, off + j * 3, none⟩ = some (.int .i64 kind) ∧ W.cell? ⟨g, off + j * 3 + 1, none⟩ = some (.string key) ∧ W.cell? ⟨g, off + j * 3 + 2, none⟩ = some (.int .u64 val)) (go_keep)
          (first
            | (go_at_call 12; refine (rr_call _ _ _ _).mono ?_; rintro e w6 ⟨rfl, hf⟩
               have HF6 : Hid (Fr [] w5 w6) := Lib.hid (fr_c (by first | exact (Fr.refl [] _).drew | exact Fr.refl [] _) hf)
               have q0 := HF6.out.cell p0 (by simp)
               have q1 := HF6.out.cell p1 (by simp)
               have q2 := HF6.out.cell p2 (by simp)
               clear hf)
            | (go_at_call 11; refine (HDO.out _ _ (HRX.out _ (fr_c HF6.out (by first | exact (Fr.refl [] _).drew | exact Fr.refl [] _)))).mono ?_; rintro e w7 ⟨rv7, rfl, hin, hf, hn⟩
               have HF7 : Hid (Fr [] w5 w7) := Lib.hid (fr_c (fr_c HF6.out (by first | exact (Fr.refl [] _).drew | exact Fr.refl [] _)) hf)
               have HE7 : Hid (EntIn w7 rv7 E ∧ (rv7 = u5 ∨ ∀ k, rv7.ownBlock = some k → w5.heap.size ≤ k)) := Lib.hid ⟨hin, hn.imp id (fun h k hk => Nat.le_trans (fr_c HF6.out (by first | exact (Fr.refl [] _).drew | exact Fr.refl [] _)).size (h k hk))⟩
               have q0 := HF7.out.cell p0 (by simp)
               have q1 := HF7.out.cell p1 (by simp)
               have q2 := HF7.out.cell p2 (by simp)
               clear hf hin hn))
        go_upto_region 9 with fail
        obtain ⟨K7, r7, m7⟩ := M5.out.didE (HR.out.mono (fun q hq => List.mem_cons_of_mem _ hq)) HF7.out HE7.out.1 HE7.out.2
        have M7 := Lib.hid m7
        have R7 := Lib.hid r7
        obtain ⟨KL, hKL⟩ : ∃ x, x = keysE E := ⟨_, rfl⟩
        have hKT : ∀ W, Fr [] w7 W → Calls Try.prog 14 #[pt tb] W fun e w' => ∃ s c, e = .returned (.slice s KL.length c) ∧ Hid ((∀ W', Fr [] w' W' → StIn W' (.slice s KL.length c) KL) ∧ Fr [] W w') := fun W hW => (mine_Keys (M7.out.keep0 hW) (by omega)).mono fun e w' ⟨s, lk, c, he, hr⟩ => by
          obtain ⟨h1, h2, h3, h4, _⟩ := hr.out
          have hlk := h2.entries HG.out
          rw [← hKL] at hlk
          subst hlk
          exact ⟨s, c, he, Lib.hid ⟨fun W' hW' => LIn.keep0 h1.stIn hW', h4⟩⟩
        have hKE : ∀ W, Fr [] w7 W → Calls Try.prog 15 #[rv7] W fun e w' => ∃ s c, e = .returned (.slice s KL.length c) ∧ Hid ((∀ W', Fr [] w' W' → StIn W' (.slice s KL.length c) KL) ∧ Fr [] W w') := fun W hW => (rr_keys rv7 E W (LIn.keep0 (M7.out.rowIn (R7.out.mono (fun q hq => List.mem_append_left _ hq))) hW) (by have := HES.out; have := HG6.out; omega)).mono fun e w' ⟨v, he, h1, h2⟩ => by
          rw [← hKL] at h1
          obtain ⟨s, c, hv, _, _⟩ := LIn.form h1
          subst hv
          exact ⟨s, c, he, Lib.hid ⟨fun W' hW' => LIn.keep0 h1 hW', h2⟩⟩
        have hSM : ∀ W av bv, StIn W av KL → StIn W bv KL → Calls Try.prog 13 #[av, bv] W fun e w' => e = .returned (.bool true) ∧ Fr [] W w' := fun W av bv ha hb => (rr_same av bv KL KL W ha hb).mono fun e w' ⟨he, hf⟩ => ⟨by rw [he]; simp, hf⟩
        have HKT := Lib.hid hKT
        have HKE := Lib.hid hKE
        have HSM := Lib.hid hSM
        clear hKT hKE hSM hKL r7 m7 p0 p2
        replace a0 := HF7.out.cell a0 (by simp)
        replace a1 := HF7.out.cell a1 (by simp)
        replace a2 := HF7.out.cell a2 (by simp)
        replace a3 := HF7.out.cell a3 (by simp)
        try clear p1
        obtain ⟨_, p1, _⟩ := HLJ.out _ M7.out.fr
        have e1 : (ok != ok) = false := by simp
        have e2 : (rv != rv) = false := by simp
        have e3 : (key.toList != key.toList) = false := by simp
        go_upto_region 10 with fail
        go_region_held3 (fun W => W.cell? ⟨pb, 0, none⟩ = some (.bool ok) ∧ W.cell? ⟨pb, 1, none⟩ = some (.string key) ∧ W.cell? ⟨pb, 2, none⟩ = some (.int .u64 rv) ∧ W.cell? ⟨pb, 3, none⟩ = some (.int .i64 0) ∧ W.cell? ⟨g, off + j * 3 + 1, none⟩ = some (.string key)) (go_keep)
          (first
            | (go_at_call 14; refine (HKT.out _ (by first | exact (Fr.refl [] _).drew | exact (Fr.refl [] _).drewN _ | exact Fr.refl [] _)).mono ?_; rintro e wa ⟨sa, ca, rfl, hka⟩
               have HFA : Hid (Fr [] w7 wa) := Lib.hid (fr_c (by first | exact (Fr.refl [] _).drew | exact (Fr.refl [] _).drewN _ | exact Fr.refl [] _) hka.out.2)
               have HSA := Lib.hid hka.out.1
               have a0x := HFA.out.cell a0 (by simp); have a1x := HFA.out.cell a1 (by simp); have a2x := HFA.out.cell a2 (by simp); have a3x := HFA.out.cell a3 (by simp); have p1x := HFA.out.cell p1 (by simp)
               clear hka)
            | (go_at_call 15; refine (HKE.out _ (by first | exact (Fr.refl [] _).drew | exact (Fr.refl [] _).drewN _ | exact HFA.out.drew | exact HFA.out.drewN _ | exact HFA.out | exact Fr.refl [] _)).mono ?_; rintro e wb ⟨sb, cb, rfl, hkb⟩
               have HFB : Hid (Fr [] w7 wb) := Lib.hid (fr_c (by first | exact (Fr.refl [] _).drew | exact (Fr.refl [] _).drewN _ | exact HFA.out.drew | exact HFA.out.drewN _ | exact HFA.out | exact Fr.refl [] _) hkb.out.2)
               have HSB := Lib.hid hkb.out.1
               have HSA2 := Lib.hid (HSA.out _ (fr_c (by first | exact (Fr.refl [] _).drew | exact (Fr.refl [] _).drewN _ | exact Fr.refl [] _) hkb.out.2))
               have a0y := HFB.out.cell a0 (by simp); have a1y := HFB.out.cell a1 (by simp); have a2y := HFB.out.cell a2 (by simp); have a3y := HFB.out.cell a3 (by simp); have p1y := HFB.out.cell p1 (by simp)
               clear hkb)
            | (go_at_call 13; refine (HSM.out _ _ _ (LIn.keep0 HSA2.out (by first | exact (Fr.refl [] _).drew | exact (Fr.refl [] _).drewN _ | exact Fr.refl [] _)) (HSB.out _ (by first | exact (Fr.refl [] _).drew | exact (Fr.refl [] _).drewN _ | exact Fr.refl [] _))).mono ?_; rintro e wc ⟨rfl, hkc⟩
               have HFC : Hid (Fr [] w7 wc) := Lib.hid (fr_c (by first | exact (Fr.refl [] _).drew | exact (Fr.refl [] _).drewN _ | exact HFB.out.drew | exact HFB.out.drewN _ | exact HFB.out | exact Fr.refl [] _) hkc)
               have a0z := HFC.out.cell a0 (by simp); have a1z := HFC.out.cell a1 (by simp); have a2z := HFC.out.cell a2 (by simp); have a3z := HFC.out.cell a3 (by simp); have p1z := HFC.out.cell p1 (by simp)
               clear hkc))
        go_wp2_with fail
        go_roundw
        case rel => exact ⟨j + 1, X, E, K7 ++ (pb, .cells #[.bool ok, .string key, .int .u64 rv, .int .i64 0] 32 (0, 0)) :: K, by go_num, by omega, by omega, M7.out.keep0 (by first | exact (Fr.refl [] _).drew | exact (Fr.refl [] _).drewN _ | exact HFC.out.drew | exact HFC.out.drewN _ | exact HFC.out | exact Fr.refl [] _), R7.out.mono (fun q hq => List.mem_append_left _ hq), HG.out, by have := HES.out; have := HG6.out; omega⟩
        case measure => simp [intOf]; omega
      · have t1 : decide ((j : Int) < (60 : Int)) = false := decide_eq_false (by omega)
        go_wp2_with fail
        go_ret
        exact ⟨rfl, HM.out.fr.below (Nat.le_refl _) (by simp)⟩
    · have t0 : decide ((j : Int) < (l.length : Int)) = false := decide_eq_false (by omega)
      go_wp2_with fail
      go_ret
      exact ⟨rfl, HM.out.fr.below (Nat.le_refl _) (by simp)⟩

set_option maxRecDepth 100000 in
theorem contract (H : Type) (enc : TypeId × Value → H) (W : World) (base : Nat) (args : Array Value) (ds gs : List (DataW H)) (before : List MemPlace)
    (hval0 : ∀ (j : Nat) t v, Try.f3.params[j]? = some t → args[j]? = some v → Value.okWide Try.prog W .any base t v)
    (hW : DataW.Whole enc Try.prog Try.f3.params.toList Rows.bstRunsSpec.vars false W args.toList ds gs before) :
    Calls Try.prog 3 args W fun e W' => ∃ v, e = .returned v ∧ Rows.bstRunsSpec.post enc Try.prog Try.f3 false true false false W args v W' := by
  have hval : ∀ (j : Nat) t v, Try.f3.params[j]? = some t → args[j]? = some v → Value.okWide Try.prog W .any base t v := hval0
  have hW' := hW
  obtain ⟨p, q, hA0, hV, rfl, hfz, hnd⟩ := hW
  have hA : DataW.TrodAll enc Try.prog W 0 (fun _ => true) true Try.f3.params.toList args.toList ds p := hA0
  rw [Try.params3] at hA hval
  obtain ⟨v0, vs0, d0, ds0, p0, q0, hargs, rfl, rfl, h0, r0⟩ := trodAll_cons hA
  obtain ⟨rfl, rfl, rfl⟩ := trodAll_nil r0
  obtain rfl : args = #[v0] := by cases args; simp_all
  obtain ⟨rfl, rfl⟩ := trodVars_none hV
  have k0 := h0
  have lt0 : ∀ x ∈ p0, x.block < W.heap.size := by obtain ⟨m, hm⟩ := k0; exact DataW.trod_lt m _ _ _ hm
  obtain ⟨l, hl⟩ := open_des (hval 0 22 v0 rfl rfl) h0
  clear hA0 hval0 hval
  refine (walk v0 l W hl).mono fun e W' ⟨he, bel⟩ => ?_
  subst he
  exact ⟨_, rfl, _, _, _, [], _, [], hW', trodAll_mk1 (shut_bool Try.underlying4 _), (trodAll_cons_mk (Below.trod laid_prog (by kernel_rfl) (of_decide_eq_true (by kernel_rfl)) k0 bel lt0) trodAll_mk0), rfl, bel.frame _, fun h => by cases h⟩

set_option maxRecDepth 100000 in
theorem lifted (os : Os) (started : os.Started) (H : Type) (enc : TypeId × Value → H) :
    ReturnsInHanded {} Try.checked os 3 .any (Rows.bstRunsSpec.pre6 enc Try.prog Try.f3 Rows.bstRunsRow.domain false) (Rows.bstRunsSpec.post enc Try.prog Try.f3 false true false false) := by
  refine returnsInHanded_of_change (C := Try.checked) own_prog started (by kernel_rfl) Try.func3
    (ChangeSpec.witness6 (enc := enc) (C := Try.checked) false ⟨#[], #[.slice none 0 0], []⟩ 8 (by kernel_rfl) (by kernel_rfl) (by kernel_rfl) (by kernel_rfl)) ?_
  intro W base args ds gs before hval hW _ _
  exact contract H enc W base args ds gs before hval hW

theorem proved : Rows.BstRunsSaid :=
  OpenClaim.holds_of_wide 3 Try.f3 rfl rfl rfl rfl rfl rfl rfl ⟨rfl, rfl, rfl, rfl, rfl⟩ rfl rfl rfl rfl rfl (by kernel_rfl) Try.func3 (by kernel_rfl)
    (of_decide_eq_true (by kernel_rfl)) (by unfold Func.isWrapper; first | (rw [if_pos (by decide +kernel)]; kernel_rfl) | (rw [if_neg (by decide +kernel)]; exact ⟨rfl, rfl⟩))
    (fun os started H enc _ => lifted os started H enc)

end Go.Proofs.Ythiobdhdefimhaa.lawBstRuns
