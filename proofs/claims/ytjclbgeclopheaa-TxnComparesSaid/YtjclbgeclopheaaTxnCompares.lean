/- All compares hold just if each does; without any they do; a compare and its opposite of revisions never both: for every map, every list of compares and every key. No condition. -/
import Derived.Test.YtjclbgeclopheaaTxAwake
import Derived.Test.YtjclbgeclopheaaTxLaw
import Derived.Test.YtjclbgeclopheaaEvMap
import Derived.Test.YtjclbgeclopheaaHsRef
namespace Go.Proofs.Ytjclbgeclopheaa.lawTxnCompares
open Go.ChangeShapes Go.WideShapes Go.ChangeAt Go.RowKit Go.Deep Go.ChangeMaps
set_option linter.unusedVariables false
set_option linter.unusedSimpArgs false

theorem run_slice_cm (g off n c i : Nat) (hi : i < n) (hc : n ≤ c) (X : World) : (Instr.sliceAt 25 (.slice (some ⟨g, off, none⟩) n c) (some (.int .i64 i)) (some (.int .i64 ((i : Int) + 1))) none).run Try.prog X = .ok (.slice (some ⟨g, off + i * 4, none⟩) 1 (c - i)) X := by
  have hel : Try.prog.elem 25 = 61 := by kernel_rfl
  obtain ⟨inf, hi', hz0, hz1, hz2⟩ := info_parts cm_info
  rw [run_sliceAt_slice _ _ _ _ _ _ (by rw [hel]; exact cm_slice), run_slice_lh (ht := by rw [hel]; exact cm_slice) (h0 := by omega) (h1 := by omega) (h2 := by omega)]
  have e1 : ((i : Int) + 1).toNat = i + 1 := by omega
  have e2 : ¬ c = i := by omega
  have e3 : i + 1 - i = 1 := by omega
  simp only [hel, sizeOf, typeInfo, hi', hz1, sliced, Int.toNat_natCast, Sem.run_bind, Sem.run_pure, Result.andThen_ok, run_program, e1, e3]
  simp [Addr.add_lit, Result.andThen, e2]
theorem cm_one {w : World} {g off c i : Nat} {l : List Cm} {x : Cm} (h : CmIn w (.slice (some ⟨g, off, none⟩) l.length c) l) (hx : l[i]? = some x) : CmIn w (.slice (some ⟨g, off + i * 4, none⟩) 1 (c - i)) [x] := by
  have hi := (List.getElem?_eq_some_iff.1 hx).1
  obtain ⟨a, c', h1, h2, h3, h4⟩ := h
  cases h1
  obtain ⟨g', off', h5, h6, h7⟩ := h4 (by omega)
  cases h5
  refine ⟨_, c - i, rfl, by simp; omega, by omega, fun _ => ⟨g, _, rfl, h6, fun k y hy j hj => ?_⟩⟩
  cases k with
  | zero =>
    simp at hy; subst hy
    have := h7 i x hx j hj
    rw [← this]; congr 2; omega
  | succ k => simp at hy
def c20 (k : ByteArray) (wk : k.size ≤ maxLen) : Cm := ⟨2, k, ⟨#[]⟩, 0, wk, by decide⟩
def c2r (k : ByteArray) (wk : k.size ≤ maxLen) (r : Int) : Cm := ⟨2, k, ⟨#[]⟩, r, wk, by decide⟩
def c1v (k : ByteArray) (wk : k.size ≤ maxLen) (x : Kv) : Cm := ⟨1, k, x.val, 0, wk, x.wf.2⟩
theorem gone_eq (m : List Kv) (k : ByteArray) (wk : k.size ≤ maxLen) : holdsC m [c20 k wk] = !(getK k m).isSome := by
  rw [holds_one]; simp [oneC, c20]
theorem here_eq (m : List Kv) (k : ByteArray) (wk : k.size ≤ maxLen) (hs : (getK k m).isSome = true) (hr : (getZ k m).rev ≠ 0) : holdsC m [c2r k wk (getZ k m).rev, c1v k wk (getZ k m)] = true := by
  obtain ⟨x, hx⟩ := Option.isSome_iff_exists.1 hs
  unfold getZ at hr ⊢
  rw [hx] at hr ⊢
  simp only [Option.getD_some] at hr ⊢
  simp [holdsC, oneC, c2r, c1v, hx, hr]
set_option maxRecDepth 100000 in
set_option maxHeartbeats 4000000 in
theorem walk (mv lv : Value) (m : List Kv) (l : List Cm) (k : ByteArray) (w : World) (hm : KvIn w mv m) (hl : CmIn w lv l) (wk : k.size ≤ maxLen) :
    Calls Try.prog 6 #[mv, lv, .string k] w fun e w' => e = .returned (.bool true) ∧ Below w.heap.size w w' := by
  have HM := Lib.hid hm
  have HL := Lib.hid hl
  obtain ⟨s1, c1, rfl, la1, ma1⟩ := hm.form
  obtain ⟨s2, c2, rfl, la2, ma2⟩ := LIn.form hl
  unfold maxLen at ma1 ma2
  clear hm hl
  by_cases hl20 : l.length ≤ 20
  · have t1 : decide ((20 : Int) < (l.length : Int)) = false := by simp; omega
    by_cases hm60 : m.length ≤ 60
    · have t2 : decide ((60 : Int) < (m.length : Int)) = false := by simp; omega
      cases hmp : mapB m
      · have HMP := Lib.hid hmp
        clear hmp
        go_enter Try.func6, Try.ntmps6
        go_wp2_with (first
          | (go_at_call 8; refine (tx_awake _).mono ?_; rintro e w1 ⟨rfl, h1⟩; have HF := Lib.hid h1; clear h1)
          | (go_at_call 10; refine (rmap_any _ m _ (LIn.keep0 HM.out HF.out)).mono ?_; rintro e w2 ⟨rfl, h2⟩; rw [HMP.out]; have HF2 := Lib.hid (HF.out.trans h2 (by simp)); clear h2))
        go_ret
        exact ⟨rfl, HF2.out.below (Nat.le_refl _) (by simp)⟩
      · have HMP := Lib.hid hmp
        clear hmp
        go_enter Try.func6, Try.ntmps6
        go_wp2_with (first
          | (go_at_call 8; refine (tx_awake _).mono ?_; rintro e w1 ⟨rfl, h1⟩; have HF := Lib.hid h1; clear h1)
          | (go_at_call 10; refine (rmap_any _ m _ (LIn.keep0 HM.out HF.out)).mono ?_; rintro e w2 ⟨rfl, h2⟩; rw [HMP.out]; have HF2 := Lib.hid (HF.out.trans h2 (by simp)); clear h2))
        have HHO : Hid (∀ X u c, Fr [] w X → CmIn X u c → c.length ≤ many → Calls Try.prog 23 #[.slice s1 m.length c1, u] X fun e w' => e = .returned (.bool (holdsC m c)) ∧ Fr [] X w') := Lib.hid (fun X u c hX hu hc => txn_holds _ u m c X (LIn.keep0 HM.out hX) (mapB_srt.1 HMP.out) hu (by unfold many; omega) hc)
        go_loopw [8, 9] (fun b i wr => ∃ (j : Nat) (c : Bool), b = .bool c ∧ i = .int .i64 j ∧ j ≤ l.length ∧ Hid (c = holdsC m (l.take j)) ∧ Hid (Fr [] w wr)) (fun _ i _ => l.length - (intOf i).toNat)
        case atStart => exact ⟨0, true, rfl, rfl, Nat.zero_le _, Lib.hid (by simp [holdsC]), HF2⟩
        case round =>
          obtain ⟨j, c, rfl, rfl, hj, HC, HF3⟩ := hrel
          by_cases h : j < l.length
          · obtain ⟨x, hx⟩ : ∃ x, l[j]? = some x := ⟨_, List.getElem?_eq_getElem h⟩
            have t3 : decide ((j : Int) < (l.length : Int)) = true := by simp; omega
            have HST := Lib.hid (holds_take (m := m) hx)
            cases c
            · clear hx
              go_wp2_with fail
              go_roundw
              case rel => exact ⟨j + 1, false, rfl, by go_num, by omega, Lib.hid (by rw [HST.out, ← HC.out]; rfl), HF3⟩
              case measure => simp [intOf]; omega
            · obtain ⟨g, off, d1, e1, _, l1, k1⟩ := CmIn.here (LIn.keep0 HL.out HF3.out) (by omega)
              simp only [Value.slice.injEq] at e1
              obtain ⟨rfl, _, rfl⟩ := e1
              have hsl := fun X => run_slice_cm g off l.length c2 j h la2 X
              have HONE := Lib.hid (cm_one (LIn.keep0 HL.out HF3.out) hx)
              have hs1 : IntKind.i64.wrap ((j : Int) + 1) = (j : Int) + 1 := IntWalk.i64_in _ (by omega)
              clear hx k1
              go_wp2_with (go_at_call 23; refine (HHO.out _ _ [x] HF3.out HONE.out (by unfold many; simp)).mono ?_; rintro e w4 ⟨rfl, h4⟩; rw [holds_one]; have HF4 := Lib.hid (HF3.out.trans h4 (by simp)); clear h4)
              go_roundw
              case rel => exact ⟨j + 1, oneC m x, rfl, by go_num, by omega, Lib.hid (by rw [HST.out, ← HC.out]; rfl), HF4⟩
              case measure => simp [intOf]; omega
          · have t3 : decide ((j : Int) < (l.length : Int)) = false := by simp; omega
            obtain rfl : j = l.length := by omega
            have HCL : Hid (c = holdsC m l) := Lib.hid (by have := HC.out; rwa [List.take_length] at this)
            clear HC
            have HG := Lib.hid (fun X (hX : Fr [] w X) => rget_any _ m k X (LIn.keep0 HM.out hX) (by unfold many; omega))
            have HGE := Lib.hid (gone_eq m k wk)
            have HHE := Lib.hid (here_eq m k wk)
            obtain ⟨z, hz⟩ : ∃ z, z = getZ k m := ⟨_, rfl⟩
            obtain ⟨b, hb⟩ : ∃ b, b = (getK k m).isSome := ⟨_, rfl⟩
            rw [← hz, ← hb] at HG HHE
            rw [← hb] at HGE
            clear hz hb
            go_wp2_with (go_at_call 12; refine (HG.out _ HF3.out).mono ?_; rintro e w4 ⟨rfl, h4⟩; refine go_stop ?_)
            unfold Stop
            have HF4 := Lib.hid (HF3.out.trans h4 (by simp))
            clear h4
            have hal : Fr [] w4 (w4.alloc (.cells #[.string z.key, .string z.val, .int .i64 z.rev] 35)) := (Fr.refl [] w4).alloc _
            have HZ : Hid ((w4.alloc (.cells #[.string z.key, .string z.val, .int .i64 z.rev] 35)).heap[w4.heap.size]? = some (.cells #[.string z.key, .string z.val, .int .i64 z.rev] 35 (0, 0))) := Lib.hid (new_block _ _)
            have HF5 := Lib.hid (HF4.out.trans hal (by simp))
            have HLT := Lib.hid (lt_of_block HZ.out)
            have HSZ : Hid ((w4.alloc (.cells #[.string z.key, .string z.val, .int .i64 z.rev] 35)).heap.size = w4.heap.size + 1) := Lib.hid (by simp)
            clear hal HF4
            go_wp2_with fail
            generalize w4.alloc (.cells #[.string z.key, .string z.val, .int .i64 z.rev] 35) = w5 at *
            generalize w4.heap.size = bz at *
            have HLI : Hid (CmIn (w5.alloc (.cells #[.int .i64 2, .string k, .string ⟨#[]⟩, .int .i64 0] 61)) (.slice (some ⟨bz + 1, 0, none⟩) 1 1) [c20 k wk]) := Lib.hid (by rw [← HSZ.out]; exact cm_lit w5 [c20 k wk] 1 rfl (by decide) _ rfl)
            go_wp2_with (go_at_call 23; refine (HHO.out _ _ [c20 k wk] (HF5.out.alloc _) HLI.out (by unfold many; simp)).mono ?_; rintro e w6 ⟨rfl, h6⟩; rw [HGE.out]; refine go_stop ?_)
            unfold Stop
            have hf56 : Fr [] w5 w6 := ((Fr.refl [] w5).alloc _).trans h6 (by simp)
            have HF6 := Lib.hid (HF5.out.trans hf56 (by simp))
            have HZ6 := Lib.hid (hf56.keep HZ.out (by simp))
            obtain ⟨p0, p1, p2, _⟩ := cells3 HZ6.out
            clear h6 hf56 HLI
            go_wp2_with (go_at_call 23; refine go_stop ?_)
            unfold Stop
            refine (HHO.out _ _ [c2r k wk z.rev, c1v k wk z] (HF6.out.alloc _) (cm_lit w6 [c2r k wk z.rev, c1v k wk z] 2 rfl (by decide) _ rfl) (by unfold many; simp)).mono ?_
            rintro e w7 ⟨rfl, h7⟩
            obtain ⟨y, hy⟩ : ∃ y, y = holdsC m [c2r k wk z.rev, c1v k wk z] := ⟨_, rfl⟩
            rw [← hy] at HHE ⊢
            have hf67 : Fr [] w6 w7 := ((Fr.refl [] w6).alloc _).trans h7 (by simp)
            have HF7 := Lib.hid (HF6.out.trans hf67 (by simp))
            have HZ7 := Lib.hid (hf67.keep HZ6.out (by simp))
            clear h7 hf67 hy p0 p1 p2
            have hnil : Hid (holdsC m [] = true) := Lib.hid rfl
            have HLL := Lib.hid (LIn.keep0 HL.out HF7.out)
            have hrr : ((z.rev == 0) = true) ∨ ((z.rev == 0) = false ∧ (b = true → y = true)) := by
              by_cases hr : z.rev = 0
              · exact Or.inl (by simpa using hr)
              · exact Or.inr ⟨by simpa using hr, fun hb => HHE.out hb hr⟩
            clear HHE
            go_wp2_with (go_at_call 23; refine go_stop ?_)
            unfold Stop
            refine (HHO.out _ _ l HF7.out HLL.out (by unfold many; omega)).mono ?_
            rintro e w8 ⟨rfl, h8⟩
            rw [← HCL.out]
            have HF8 := Lib.hid (HF7.out.trans h8 (by simp))
            have HZ8 := Lib.hid (h8.keep HZ7.out (by simp))
            clear h8
            have hcc : (c == c) = true := by simp
            go_wp2_with (go_at_call 23; refine go_stop ?_)
            unfold Stop
            refine (HHO.out _ _ [] HF8.out (LIn.nil _) (by unfold many; simp)).mono ?_
            rintro e w9 ⟨rfl, h9⟩
            rw [hnil.out]
            have HF9 := Lib.hid (HF8.out.trans h9 (by simp))
            obtain ⟨r0, r1, r2, _⟩ := cells3 (h9.keep HZ8.out (by simp))
            clear h9
            rcases hrr with hr | ⟨hr, hby⟩
            · cases b
              · go_wp2
                go_ret
                exact ⟨rfl, HF9.out.below (Nat.le_refl _) (by simp)⟩
              · go_wp2
                go_ret
                exact ⟨rfl, HF9.out.below (Nat.le_refl _) (by simp)⟩
            · cases b
              · clear hby
                go_wp2
                go_ret
                exact ⟨rfl, HF9.out.below (Nat.le_refl _) (by simp)⟩
              · obtain rfl := hby rfl
                clear hby
                go_wp2
                go_ret
                exact ⟨rfl, HF9.out.below (Nat.le_refl _) (by simp)⟩
    · have t2 : decide ((60 : Int) < (m.length : Int)) = true := by simp; omega
      go_enter Try.func6, Try.ntmps6
      go_wp2_with (go_at_call 8; refine (tx_awake _).mono ?_; rintro e w1 ⟨rfl, h1⟩; have HF := Lib.hid h1; clear h1)
      go_ret
      exact ⟨rfl, HF.out.below (Nat.le_refl _) (by simp)⟩
  · have t1 : decide ((20 : Int) < (l.length : Int)) = true := by simp; omega
    go_enter Try.func6, Try.ntmps6
    go_wp2_with (go_at_call 8; refine (tx_awake _).mono ?_; rintro e w1 ⟨rfl, h1⟩; have HF := Lib.hid h1; clear h1)
    go_ret
    exact ⟨rfl, HF.out.below (Nat.le_refl _) (by simp)⟩

set_option maxRecDepth 100000 in
theorem contract (H : Type) (enc : TypeId × Value → H) (W : World) (base : Nat) (args : Array Value) (ds gs : List (DataW H)) (before : List MemPlace)
    (hval0 : ∀ (j : Nat) t v, Try.f6.params[j]? = some t → args[j]? = some v → Value.okWide Try.prog W .any base t v)
    (hW : DataW.Whole enc Try.prog Try.f6.params.toList Rows.txnComparesSpec.vars false W args.toList ds gs before) :
    Calls Try.prog 6 args W fun e W' => ∃ v, e = .returned v ∧ Rows.txnComparesSpec.post enc Try.prog Try.f6 false true false false W args v W' := by
  have hval : ∀ (j : Nat) t v, Try.f6.params[j]? = some t → args[j]? = some v → Value.okWide Try.prog W .any base t v := hval0
  have hW' := hW
  obtain ⟨p, q, hA0, hV, rfl, hfz, hnd⟩ := hW
  have hA : DataW.TrodAll enc Try.prog W 0 (fun _ => true) true Try.f6.params.toList args.toList ds p := hA0
  rw [Try.params6] at hA hval
  obtain ⟨v0, vs0, d0, ds0, p0, q0, hargs, rfl, rfl, h0, r0⟩ := trodAll_cons hA
  obtain ⟨v1, vs1, d1, ds1, p1, q1, rfl, rfl, rfl, h1, r1⟩ := trodAll_cons r0
  obtain ⟨v2, vs2, d2, ds2, p2, q2, rfl, rfl, rfl, h2, r2⟩ := trodAll_cons r1
  obtain ⟨rfl, rfl, rfl⟩ := trodAll_nil r2
  obtain rfl : args = #[v0, v1, v2] := by cases args; simp_all
  obtain ⟨rfl, rfl⟩ := trodVars_none hV
  have k0 := h0
  have lt0 : ∀ x ∈ p0, x.block < W.heap.size := by obtain ⟨m, hm⟩ := k0; exact DataW.trod_lt m _ _ _ hm
  have k1 := h1
  have lt1 : ∀ x ∈ p1, x.block < W.heap.size := by obtain ⟨m, hm⟩ := k1; exact DataW.trod_lt m _ _ _ hm
  have k2 := h2
  have lt2 : ∀ x ∈ p2, x.block < W.heap.size := by obtain ⟨m, hm⟩ := k2; exact DataW.trod_lt m _ _ _ hm
  obtain ⟨m, hm⟩ := open_kvs (hval 0 22 v0 rfl rfl) h0
  obtain ⟨l, hl⟩ := open_cms (hval 1 25 v1 rfl rfl) h1
  obtain ⟨k, rfl, rfl, _, wk⟩ := open_string Try.underlying9 (hval 2 9 v2 rfl rfl) h2
  clear hA0 hval0 hval
  refine (walk v0 v1 m l k W hm hl wk).mono fun e W' ⟨he, bel⟩ => ?_
  subst he
  exact ⟨_, rfl, _, _, _, [], _, [], hW', trodAll_mk1 (shut_bool Try.underlying4 _), (trodAll_cons_mk (Below.trod laid_prog (by kernel_rfl) (of_decide_eq_true (by kernel_rfl)) k0 bel lt0) (trodAll_cons_mk (Below.trod laid_prog (by kernel_rfl) (of_decide_eq_true (by kernel_rfl)) k1 bel lt1) (trodAll_cons_mk (Below.trod laid_prog (by kernel_rfl) (of_decide_eq_true (by kernel_rfl)) k2 bel lt2) trodAll_mk0))), rfl, bel.frame _, fun h => by cases h⟩

set_option maxRecDepth 100000 in
theorem lifted (os : Os) (started : os.Started) (H : Type) (enc : TypeId × Value → H) :
    ReturnsInHanded {} Try.checked os 6 .any (Rows.txnComparesSpec.pre6 enc Try.prog Try.f6 Rows.txnComparesRow.domain false) (Rows.txnComparesSpec.post enc Try.prog Try.f6 false true false false) := by
  refine returnsInHanded_of_change (C := Try.checked) own_prog started (by kernel_rfl) Try.func6
    (ChangeSpec.witness6 (enc := enc) (C := Try.checked) false ⟨#[], #[.slice none 0 0, .slice none 0 0, .string ⟨#[]⟩], []⟩ 8 (by kernel_rfl) (by kernel_rfl) (by kernel_rfl) (by kernel_rfl)) ?_
  intro W base args ds gs before hval hW _ _
  exact contract H enc W base args ds gs before hval hW

theorem proved : Rows.TxnComparesSaid :=
  OpenClaim.holds_of_wide 6 Try.f6 rfl rfl rfl rfl rfl rfl rfl ⟨rfl, rfl, rfl, rfl, rfl⟩ rfl rfl rfl rfl rfl (by kernel_rfl) Try.func6 (by kernel_rfl)
    (of_decide_eq_true (by kernel_rfl)) (by unfold Func.isWrapper; first | (rw [if_pos (by decide +kernel)]; kernel_rfl) | (rw [if_neg (by decide +kernel)]; exact ⟨rfl, rfl⟩))
    (fun os started H enc _ => lifted os started H enc)

end Go.Proofs.Ytjclbgeclopheaa.lawTxnCompares
