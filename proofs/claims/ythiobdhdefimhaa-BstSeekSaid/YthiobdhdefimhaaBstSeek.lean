/- With nobody deleting, Seek tells the least key that isn't below, of those that were there, or one that came meanwhile and is lower still: for every list of calls, every key, and every list of insertions. No condition. -/
import Derived.Test.YthiobdhdefimhaaBsRan
import Derived.Test.YthiobdhdefimhaaBsAlong
namespace Go.Proofs.Ythiobdhdefimhaa.lawBstSeek
open Go.ChangeShapes Go.WideShapes Go.ChangeAt Go.RowKit Go.Deep Go.ChangeMaps
set_option linter.unusedVariables false
set_option linter.unusedSimpArgs false

/-- the least that isn't below, of keys that rise -/
def lst (k : ByteArray) : List ByteArray → Option ByteArray
  | [] => none
  | a :: l => if ls a.toList k.toList = false then some a else lst k l
def lstK (o : Option ByteArray) : ByteArray := o.getD ⟨#[]⟩
theorem lst_none {k : ByteArray} : ∀ {l : List ByteArray}, lst k l = none → ∀ y ∈ l, ¬ ge y k
  | [], _, y, hy => by simp at hy
  | a :: l, h, y, hy => by
    unfold lst at h
    split at h
    · cases h
    · rename_i hn
      rcases List.mem_cons.1 hy with rfl | hy
      · exact hn
      · exact lst_none h y hy
theorem lst_some {k b : ByteArray} : ∀ {l : List ByteArray}, Rise l → lst k l = some b → b ∈ l ∧ ge b k ∧ ∀ y ∈ l, ge y k → ge y b
  | [], _, h => by cases h
  | a :: l, hr, h => by
    obtain ⟨h1, h2⟩ := List.pairwise_cons.1 hr
    unfold lst at h
    split at h
    · rename_i hg
      simp only [Option.some.injEq] at h
      subst h
      refine ⟨List.mem_cons_self .., hg, fun y hy _ => ?_⟩
      rcases List.mem_cons.1 hy with rfl | hy
      · exact ls_irrefl _
      · exact ls_asymm (h1 y hy)
    · rename_i hn
      obtain ⟨g1, g2, g3⟩ := lst_some h2 h
      refine ⟨List.mem_cons_of_mem _ g1, g2, fun y hy hy2 => ?_⟩
      rcases List.mem_cons.1 hy with rfl | hy
      · exact absurd hy2 hn
      · exact g3 y hy hy2
theorem lst_step {k x : ByteArray} {l : List ByteArray} {j : Nat} (h : l[j]? = some x) : lst k (l.drop j) = if ls x.toList k.toList = false then some x else lst k (l.drop (j + 1)) := by
  obtain ⟨h1, rfl⟩ := List.getElem?_eq_some_iff.1 h
  rw [List.drop_eq_getElem_cons h1]
  rfl
set_option maxRecDepth 20000 in
set_option maxHeartbeats 4000000 in
theorem walk (lv mv : Value) (l : List De) (k : ByteArray) (more : List De) (w : World) (hl : DeIn w lv l) (hm : DeIn w mv more) :
    Calls Try.prog 5 #[lv, .string k, mv] w fun e w' => e = .returned (.bool true) ∧ Below w.heap.size w w' := by
  obtain ⟨ms, mc, rfl, ma, mb⟩ := LIn.form hm
  unfold maxLen at mb
  have HL := Lib.hid hl
  have HMO := Lib.hid hm
  clear hl hm
  have HRN : Hid (∀ W, Fr [] w W → Calls Try.prog 16 #[lv] W fun e w' => ∃ tb mb, e = .returned (.tuple #[pt tb, pt mb]) ∧ Hid (Fr [] W w' ∧ ∃ x n, n ≤ 60 ∧ Mine w w' tb mb x n [])) := Lib.hid fun W hW => (bs_ran lv l W (LIn.keep0 HL.out hW)).mono fun e w' ⟨tb, mb, x, n, he, hn, hM⟩ => ⟨tb, mb, he, Lib.hid ⟨hM.fr, x, n, hn, hM.before hW⟩⟩
  go_enter Try.func5, Try.ntmps5
  go_wp2_with (go_at_call 6; refine (bs_awake _).mono ?_; rintro e w1 ⟨rfl, hf⟩; refine go_stop ?_)
  unfold Stop
  have HF1 := Lib.hid hf
  clear hf
  go_wp2_with (go_at_call 16; refine (HRN.out _ HF1.out).mono ?_; rintro e w2 ⟨tb, mb, rfl, HR2⟩; refine go_stop ?_)
  unfold Stop
  obtain ⟨_, x, n, hn, hM⟩ := HR2.out
  have M2 := Lib.hid hM
  have HN := Lib.hid hn
  clear hM hn HR2 HRN
  have HK : Hid (Calls Try.prog 14 #[pt tb] w2 fun e w' => ∃ s W c, e = .returned (.slice s W.length c) ∧ Hid (HasKeys x W ∧ StIn w' (.slice s W.length c) W ∧ ∃ K, RowK stC 1 K (.slice s W.length c) W ∧ Mine w w' tb mb x n K)) := Lib.hid ((mine_Keys M2.out (by have := HN.out; omega)).mono fun e w' ⟨s, W, c, he, hr⟩ => by
    obtain ⟨h1, h2, h3, h4, h5⟩ := hr.out
    obtain ⟨K, k1, k2⟩ := M2.out.row h4 h1.stIn h5
    exact ⟨s, W, c, he, Lib.hid ⟨h2, h1.stIn, K, k1, k2.sub (fun q hq => List.mem_append_left _ hq)⟩⟩)
  go_wp2_with (go_at_call 14; refine HK.out.mono ?_; rintro e w3 ⟨s3, L0, c3, rfl, HK3⟩; refine go_stop ?_)
  unfold Stop
  obtain ⟨k1, k2, K, k3, k4⟩ := HK3.out
  have HASK := Lib.hid k1
  have HROW := Lib.hid k3
  have M3 := Lib.hid k4
  obtain ⟨sx, cx, hform, hlc, hmc⟩ := LIn.form k2
  simp only [Value.slice.injEq] at hform
  obtain ⟨rfl, _, rfl⟩ := hform
  unfold maxLen at hmc
  clear k1 k2 k3 k4 HK HK3 M2
  have HSK : Hid (Calls Try.prog 17 #[pt tb, .string k] w3 fun e w' => ∃ p, e = .returned (pt p) ∧ Hid (∃ xb, Sk w w' tb mb p (fun y => x y ≠ none) k x n xb K)) := Lib.hid (sk_start M3.out (by have := HN.out; omega) k)
  go_wp2_with (go_at_call 17; refine HSK.out.mono ?_; rintro e w4 ⟨p, rfl, HS4⟩; refine go_stop ?_)
  unfold Stop
  obtain ⟨xb, hs4⟩ := HS4.out
  have S4 := Lib.hid hs4
  clear hs4 HS4 HSK M3
  go_wp2_with fail
  go_loopw [12] (fun i wr => ∃ (j : Nat) (x' : Hold), i = .int .i64 j ∧ j ≤ more.length ∧ j ≤ 60 ∧ Sk w wr tb mb p (fun y => x y ≠ none) k x' (n + 2 * j) xb K ∧ (j = 0 → x' = x)) (fun i _ => more.length - (intOf i).toNat)
  case atStart => exact ⟨0, x, rfl, Nat.zero_le _, by omega, S4.out, fun _ => rfl⟩
  case round =>
    obtain ⟨j, x', rfl, hj, hj6, hs, hx⟩ := hrel
    have SJ := Lib.hid hs
    have HX := Lib.hid hx
    clear hs hx
    have hn := HN.out
    obtain ⟨CB, hCB⟩ : ∃ b, b = decide (j < more.length ∧ j < 60) := ⟨_, rfl⟩
    have HCB := Lib.hid hCB
    clear hCB
    go_upto_region 6 with fail
    go_cut [36] (fun v wx => v = .bool CB ∧ wx = wr)
    case first =>
      by_cases g1 : j < more.length
      · have t0 : decide ((j : Int) < (more.length : Int)) = true := decide_eq_true (by omega)
        by_cases g2 : j < 60
        · have t1 : decide ((j : Int) < (60 : Int)) = true := decide_eq_true (by omega)
          go_wp2_with fail
          go_meet
          exact ⟨by rw [HCB.out, decide_eq_true ⟨g1, g2⟩], rfl⟩
        · have t1 : decide ((j : Int) < (60 : Int)) = false := decide_eq_false (by omega)
          go_wp2_with fail
          go_meet
          exact ⟨by rw [HCB.out, decide_eq_false (fun h => g2 h.2)], rfl⟩
      · have t0 : decide ((j : Int) < (more.length : Int)) = false := decide_eq_false (by omega)
        go_wp2_with fail
        go_meet
        exact ⟨by rw [HCB.out, decide_eq_false (fun h => g1 h.1)], rfl⟩
    case rest =>
    obtain ⟨rfl, rfl⟩ := hcut
    obtain ⟨wr, hwr⟩ : ∃ x, x = wc := ⟨_, rfl⟩
    subst hwr
    cases CB
    case true =>
      obtain ⟨h, h6⟩ := of_decide_eq_true HCB.out.symm
      obtain ⟨d, hd⟩ : ∃ d, more[j]? = some d := ⟨_, List.getElem?_eq_getElem h⟩
      obtain ⟨KEY, hKEY⟩ : ∃ x, x = d.key := ⟨_, rfl⟩
      obtain ⟨g, off, d1, e1, l0, l1, k1⟩ := DeIn.here (LIn.keep0 HMO.out SJ.out.fr) (by omega)
      simp only [Value.slice.injEq] at e1
      obtain ⟨rfl, _, rfl⟩ := e1
      have HD : Hid (∀ W, Fr [] w W → W.cell? ⟨g, off + j * 3 + 1, none⟩ = some (.string KEY)) := Lib.hid fun W hW => by
        obtain ⟨g', off', d1', e1', _, _, k1'⟩ := DeIn.here (LIn.keep0 HMO.out hW) (by omega)
        simp only [Value.slice.injEq, Option.some.injEq, Addr.mk.injEq, and_true, true_and] at e1'
        obtain ⟨⟨rfl, rfl⟩, rfl⟩ := e1'
        rw [hKEY]
        exact (k1' j d hd).2.1
      have HST := Lib.hid (sk_step SJ.out (by omega))
      clear k1 hd hKEY
      go_wp2_with (go_at_call 20; refine HST.out.mono ?_; rintro e w5 ⟨⟨b5, rfl⟩, S5⟩; refine go_stop ?_)
      unfold Stop
      have p1 := HD.out _ S5.out.fr
      have HIN := Lib.hid (sk_insert S5.out (by omega) KEY 5)
      clear HST SJ
      go_wp2_with (go_at_call 21; refine HIN.out.mono ?_; rintro e w6 ⟨q, rfl, HR6⟩; refine go_stop ?_)
      unfold Stop
      clear HIN S5 p1
      go_wp2_with (go_at_call 9; refine (HR6.out _ (Fr.refl [] _)).mono ?_; rintro e w7 ⟨ok7, ke7, va7, er7, rfl, HS7⟩; refine go_stop ?_)
      unfold Stop
      obtain ⟨x7, hs7⟩ := HS7.out
      have S7 := Lib.hid hs7
      clear hs7 HS7 HR6
      go_wp2_with fail
      go_roundw
      case rel => exact ⟨j + 1, x7, by go_num, by omega, by omega, (by have := S7.out; rw [show n + 2 * j + 1 + 1 = n + 2 * (j + 1) from by omega] at this; exact this), fun h => absurd h (by omega)⟩
      case measure => simp [intOf]; omega
    case false =>
      have HRU := Lib.hid (sk_run SJ.out (by omega))
      go_wp2_with (go_at_call 9; refine HRU.out.mono ?_; rintro e w5 ⟨ok, ke, va, er, rfl, HX5⟩; refine go_stop ?_)
      unfold Stop
      obtain ⟨hsx, hm5⟩ := HX5.out
      have HSX := Lib.hid hsx
      have M5 := Lib.hid (hm5.alloc #[.bool ok, .string ke, .int .u64 va, .int .i64 er] 32)
      clear hsx hm5 HX5 HRU SJ
      obtain ⟨w6, hw6⟩ : ∃ x, x = w5.alloc (.cells #[.bool ok, .string ke, .int .u64 va, .int .i64 er] 32) := ⟨_, rfl⟩
      obtain ⟨pb, hpb⟩ : ∃ x, x = w5.heap.size := ⟨_, rfl⟩
      rw [← hw6, ← hpb] at M5
      go_upto_region 13 with fail
      rw [← hw6, ← hpb]
      clear hw6 hpb
      have HW : Hid (∀ W, Fr [] w6 W → StIn W (.slice s3 L0.length c3) L0) := Lib.hid fun W hW => LIn.keep0 (M5.out.rowIn (HROW.out.mono (fun q hq => List.mem_cons_of_mem _ hq))) hW
      have HAB : Hid (∀ W, Fr [] w6 W → W.cell? ⟨pb, 0, none⟩ = some (.bool ok) ∧ W.cell? ⟨pb, 1, none⟩ = some (.string ke)) := Lib.hid fun W hW => by
        obtain ⟨a0, a1, _⟩ := cells_an (r := ⟨ok, ke, va, er⟩) (hW.keep (M5.out.at (b := pb) (o := .cells #[.bool ok, .string ke, .int .u64 va, .int .i64 er] 32 (0, 0)) (by simp)) (by simp))
        exact ⟨a0, a1⟩
      go_wp2_with fail
      go_loopw [14, 15, 16] (fun lv tv i wr => ∃ (j : Nat) (q : Int), i = .int .i64 q ∧ q = (j : Int) - 1 ∧ j ≤ L0.length ∧ lv = .string (lstK (lst k (L0.drop j))) ∧ tv = .bool (lst k (L0.drop j)).isSome ∧ Fr [] w6 wr) (fun _ _ i _ => (intOf i + 1).toNat)
      case atStart => exact ⟨L0.length, _, rfl, by go_num, Nat.le_refl _, by rw [List.drop_length]; rfl, by rw [List.drop_length]; rfl, Fr.refl _ _⟩
      case round =>
        obtain ⟨j2, q, rfl, hq, hj2, rfl, rfl, hf⟩ := hrel
        obtain ⟨LE, hLE⟩ : ∃ x, x = lstK (lst k (L0.drop j2)) := ⟨_, rfl⟩
        obtain ⟨TH, hTH⟩ : ∃ x, x = (lst k (L0.drop j2)).isSome := ⟨_, rfl⟩
        rw [← hLE, ← hTH]
        have HLE := Lib.hid hLE
        have HTH := Lib.hid hTH
        have HF := Lib.hid hf
        clear hf hLE hTH
        cases j2 with
        | zero =>
          have hq' : q = -1 := by omega
          subst hq'
          have hask := HASK.out
          obtain ⟨a0, a1⟩ := HAB.out _ HF.out
          cases ok with
          | false =>
            have hth : TH = false := by
              rw [HTH.out]
              show (lst k L0).isSome = false
              cases hls : lst k L0 with
              | none => rfl
              | some b =>
                obtain ⟨g1, g2, _⟩ := lst_some hask.1 hls
                exact absurd g2 ((HSX.out.no rfl).2 b ((hask.2 b).1 g1))
            subst hth
            clear hask hq
            go_wp2_with fail
            go_ret
            exact ⟨rfl, (fr_c M5.out.fr HF.out).below (Nat.le_refl _) (by simp)⟩
          | true =>
            obtain ⟨_, y1, y2, y3⟩ := HSX.out.yes rfl
            dsimp only at y1 y2 y3
            have hn := HN.out
            have HK2 : Hid (Calls Try.prog 14 #[pt tb] wr fun e w' => ∃ s c L1, e = .returned (.slice s (L1 : List ByteArray).length c) ∧ Hid (inS L1 ke = true ∧ StIn w' (.slice s L1.length c) L1 ∧ Fr [] wr w')) := Lib.hid ((mine_Keys (M5.out.keep0 HF.out) (by omega)).mono fun e w' ⟨s, L1, c, he, hr⟩ => by
              obtain ⟨h1, h2, h3, h4, h5⟩ := hr.out
              refine ⟨s, c, L1, he, Lib.hid ⟨?_, h1.stIn, h4⟩⟩
              obtain ⟨i, hi⟩ := List.getElem?_of_mem ((h2.2 ke).2 y2)
              exact inS_at hi)
            have c1 : ∀ t w, (binOp .geq t (.string ke) (.string k)).run Try.prog w = .ok (.bool true) w := fun t w => by
              rw [run_geq]
              have : Op.bytesLess ke.toList k.toList = false := y1
              rw [this]; rfl
            have HG : Hid (TH = true → LE ∈ L0 ∧ ge LE k ∧ ge LE ke ∧ ∀ y ∈ L0, ge y k → ge y LE) := Lib.hid (fun h => by
              rw [HTH.out] at h
              have hLE := HLE.out
              change (lst k L0).isSome = true at h
              change LE = lstK (lst k L0) at hLE
              cases hls : lst k L0 with
              | none => rw [hls] at h; cases h
              | some b =>
                rw [hls] at hLE
                have hb : LE = b := hLE
                obtain ⟨g1, g2, g3⟩ := lst_some hask.1 hls
                rw [hb]
                exact ⟨g1, g2, y3 b ((hask.2 b).1 g1) g2, g3⟩)
            have HE : Hid (more.length = 0 → TH = true ∧ ke = LE) := Lib.hid (fun h => by
              have hx' : x' = x := HX.out (by omega)
              rw [hx'] at y2
              have hin : ke ∈ L0 := (hask.2 ke).2 y2
              have hth : TH = true := by
                rw [HTH.out]
                show (lst k L0).isSome = true
                cases hls : lst k L0 with
                | none => exact absurd y1 (lst_none hls ke hin)
                | some b => rfl
              obtain ⟨g1, g2, g3, g4⟩ := HG.out hth
              exact ⟨hth, bs_inj (ls_total (g4 ke hin y1) g3)⟩)
            have c2 : TH = true → ∀ t w, (binOp .leq t (.string ke) (.string LE)).run Try.prog w = .ok (.bool true) w := fun h t w => by
              rw [run_leq]
              obtain ⟨_, _, g3, _⟩ := HG.out h
              have g4 : Op.bytesLess LE.toList ke.toList = false := g3
              cases hl : Op.bytesLess ke.toList LE.toList
              · have : ke = LE := bs_inj (ls_total hl g4)
                rw [this]; simp
              · rfl
            have C2 := Lib.hid c2
            clear y1 y2 y3 hask hq c2
            go_wp2_with (go_at_call 14; refine HK2.out.mono ?_; rintro e w8 ⟨s8, c8, L1, rfl, HK8⟩; refine go_stop ?_)
            unfold Stop
            obtain ⟨a0, a1⟩ := HAB.out _ (fr_c HF.out HK8.out.2.2)
            have HIN : Hid (Calls Try.prog 22 #[.slice s8 L1.length c8, .string ke] w8 fun e w' => e = .returned (.bool true) ∧ Fr [] w8 w') := Lib.hid (by
              have := rr_in (.slice s8 L1.length c8) L1 ke w8 HK8.out.2.1
              rw [HK8.out.1] at this; exact this)
            by_cases hm : more.length = 0
            · obtain ⟨hth, hke⟩ := HE.out hm
              subst hth
              have c2 := C2.out rfl
              subst hke
              have t2 : decide ((0 : Int) < (more.length : Int)) = false := decide_eq_false (by omega)
              have e1 : (ke.toList == ke.toList) = true := by simp
              go_wp2_with (go_at_call 22; refine HIN.out.mono ?_; rintro e w9 ⟨rfl, hf9⟩; refine go_stop ?_)
              unfold Stop
              have HF9 := Lib.hid hf9
              clear hf9
              obtain ⟨a0, a1⟩ := HAB.out _ (fr_c (fr_c HF.out HK8.out.2.2) HF9.out)
              go_wp2_with fail
              go_ret
              exact ⟨rfl, (fr_c M5.out.fr (fr_c (fr_c HF.out HK8.out.2.2) HF9.out)).below (Nat.le_refl _) (by simp)⟩
            · have t2 : decide ((0 : Int) < (more.length : Int)) = true := decide_eq_true (by omega)
              cases TH with
              | false =>
                go_wp2_with (go_at_call 22; refine HIN.out.mono ?_; rintro e w9 ⟨rfl, hf9⟩; refine go_stop ?_)
                unfold Stop
                have HF9 := Lib.hid hf9
                clear hf9
                go_wp2_with fail
                go_ret
                exact ⟨rfl, (fr_c M5.out.fr (fr_c (fr_c HF.out HK8.out.2.2) HF9.out)).below (Nat.le_refl _) (by simp)⟩
              | true =>
                have c2 := C2.out rfl
                go_wp2_with (go_at_call 22; refine HIN.out.mono ?_; rintro e w9 ⟨rfl, hf9⟩; refine go_stop ?_)
                unfold Stop
                have HF9 := Lib.hid hf9
                clear hf9
                go_wp2_with fail
                go_ret
                exact ⟨rfl, (fr_c M5.out.fr (fr_c (fr_c HF.out HK8.out.2.2) HF9.out)).below (Nat.le_refl _) (by simp)⟩
        | succ j2 =>
          have hq' : q = (j2 : Int) := by omega
          subst hq'
          have t0 : decide ((0 : Int) ≤ (j2 : Int)) = true := decide_eq_true (by omega)
          obtain ⟨y, hy⟩ : ∃ y, L0[j2]? = some y := ⟨_, List.getElem?_eq_getElem (by omega)⟩
          obtain ⟨g, off, d1, e1, _, l1, k1⟩ := StIn.here (HW.out _ HF.out) (by omega)
          simp only [Value.slice.injEq] at e1
          obtain ⟨rfl, _, rfl⟩ := e1
          have p0 := k1 j2 y hy
          have hst := lst_step (k := k) hy
          have HST := Lib.hid hst
          clear hst k1 hy hq
          have c2 := @run_geq Try.prog
          cases hg : Op.bytesLess y.toList k.toList with
          | false =>
            have HG := Lib.hid (show ls y.toList k.toList = false from hg)
            go_wp2_with fail
            go_roundw
            case rel => exact ⟨j2, _, rfl, rfl, by omega, by rw [HST.out, if_pos HG.out]; rfl, by rw [HST.out, if_pos HG.out]; rfl, HF.out⟩
            case measure => simp [intOf] <;> omega
          | true =>
            have HG : Hid (¬ ls y.toList k.toList = false) := Lib.hid (fun h => by
              have h' : Op.bytesLess y.toList k.toList = false := h
              rw [hg] at h'; cases h')
            go_wp2_with fail
            go_roundw
            case rel => exact ⟨j2, _, rfl, rfl, by omega, by rw [HLE.out, HST.out, if_neg HG.out], by rw [HTH.out, HST.out, if_neg HG.out], HF.out⟩
            case measure => simp [intOf] <;> omega

set_option maxRecDepth 100000 in
theorem contract (H : Type) (enc : TypeId × Value → H) (W : World) (base : Nat) (args : Array Value) (ds gs : List (DataW H)) (before : List MemPlace)
    (hval0 : ∀ (j : Nat) t v, Try.f5.params[j]? = some t → args[j]? = some v → Value.okWide Try.prog W .any base t v)
    (hW : DataW.Whole enc Try.prog Try.f5.params.toList Rows.bstSeekSpec.vars false W args.toList ds gs before) :
    Calls Try.prog 5 args W fun e W' => ∃ v, e = .returned v ∧ Rows.bstSeekSpec.post enc Try.prog Try.f5 false true false false W args v W' := by
  have hval : ∀ (j : Nat) t v, Try.f5.params[j]? = some t → args[j]? = some v → Value.okWide Try.prog W .any base t v := hval0
  have hW' := hW
  obtain ⟨p, q, hA0, hV, rfl, hfz, hnd⟩ := hW
  have hA : DataW.TrodAll enc Try.prog W 0 (fun _ => true) true Try.f5.params.toList args.toList ds p := hA0
  rw [Try.params5] at hA hval
  obtain ⟨v0, vs0, d0, ds0, p0, q0, hargs, rfl, rfl, h0, r0⟩ := trodAll_cons hA
  obtain ⟨v1, vs1, d1, ds1, p1, q1, rfl, rfl, rfl, h1, r1⟩ := trodAll_cons r0
  obtain ⟨v2, vs2, d2, ds2, p2, q2, rfl, rfl, rfl, h2, r2⟩ := trodAll_cons r1
  obtain ⟨rfl, rfl, rfl⟩ := trodAll_nil r2
  obtain rfl : args = #[v0, v1, v2] := by cases args; simp_all
  obtain ⟨rfl, rfl⟩ := trodVars_none hV
  have k0 := h0
  have lt0 : ∀ x ∈ p0, x.block < W.heap.size := by obtain ⟨m, hm⟩ := k0; exact DataW.trod_lt m _ _ _ hm
  have k1 := h1
  have lt1 : ∀ x ∈ p1, x.block < W.heap.size := by obtain ⟨m, hm⟩ := k1; exact DataW.trod_lt m _ _ _ hm
  have k2 := h2
  have lt2 : ∀ x ∈ p2, x.block < W.heap.size := by obtain ⟨m, hm⟩ := k2; exact DataW.trod_lt m _ _ _ hm
  obtain ⟨l, hl⟩ := open_des (hval 0 22 v0 rfl rfl) h0
  obtain ⟨k, rfl, _, _, wk⟩ := open_string Try.underlying9 (hval 1 9 v1 rfl rfl) h1
  obtain ⟨more, hmore⟩ := open_des (hval 2 22 v2 rfl rfl) h2
  clear hA0 hval0 hval
  refine (walk v0 v2 l k more W hl hmore).mono fun e W' ⟨he, bel⟩ => ?_
  subst he
  exact ⟨_, rfl, _, _, _, [], _, [], hW', trodAll_mk1 (shut_bool Try.underlying4 _), (trodAll_cons_mk (Below.trod laid_prog (by kernel_rfl) (of_decide_eq_true (by kernel_rfl)) k0 bel lt0) (trodAll_cons_mk (Below.trod laid_prog (by kernel_rfl) (of_decide_eq_true (by kernel_rfl)) k1 bel lt1) (trodAll_cons_mk (Below.trod laid_prog (by kernel_rfl) (of_decide_eq_true (by kernel_rfl)) k2 bel lt2) trodAll_mk0))), rfl, bel.frame _, fun h => by cases h⟩

set_option maxRecDepth 100000 in
theorem lifted (os : Os) (started : os.Started) (H : Type) (enc : TypeId × Value → H) :
    ReturnsInHanded {} Try.checked os 5 .any (Rows.bstSeekSpec.pre6 enc Try.prog Try.f5 Rows.bstSeekRow.domain false) (Rows.bstSeekSpec.post enc Try.prog Try.f5 false true false false) := by
  refine returnsInHanded_of_change (C := Try.checked) own_prog started (by kernel_rfl) Try.func5
    (ChangeSpec.witness6 (enc := enc) (C := Try.checked) false ⟨#[], #[.slice none 0 0, .string ⟨#[]⟩, .slice none 0 0], []⟩ 8 (by kernel_rfl) (by kernel_rfl) (by kernel_rfl) (by kernel_rfl)) ?_
  intro W base args ds gs before hval hW _ _
  exact contract H enc W base args ds gs before hval hW

theorem proved : Rows.BstSeekSaid :=
  OpenClaim.holds_of_wide 5 Try.f5 rfl rfl rfl rfl rfl rfl rfl ⟨rfl, rfl, rfl, rfl, rfl⟩ rfl rfl rfl rfl rfl (by kernel_rfl) Try.func5 (by kernel_rfl)
    (of_decide_eq_true (by kernel_rfl)) (by unfold Func.isWrapper; first | (rw [if_pos (by decide +kernel)]; kernel_rfl) | (rw [if_neg (by decide +kernel)]; exact ⟨rfl, rfl⟩))
    (fun os started H enc _ => lifted os started H enc)

end Go.Proofs.Ythiobdhdefimhaa.lawBstSeek
