/- PACKAGE hist: At: contract -/
import Derived.Test.YtmipllkgioakoaaGreatHistOne
import Derived.Test.YtmipllkgioakoaaGreatEvLst
import Derived.Test.YtmipllkgioakoaaGreatKeyA
namespace Go.Proofs.YtmipllkgioakoaaGreat
open Go.RowKit Go.Maps
set_option linter.unusedVariables false
set_option linter.unusedSimpArgs false

/-- what is gathered of the keys that have come -/
def AtOk (rows : List (List Ev)) (hor n : Nat) (f t : ByteArray) (left : ByteArray → Bool) (o : List Ev) : Prop :=
  ∀ e : Ev, e ∈ o ↔ left e.key = false ∧ inR f t e.key = true ∧ atV (versN rows hor e.key) n = some e
section
variable {rows : List (List Ev)} {hor n : Nat} {f t : ByteArray} {left : ByteArray → Bool} {o : List Ev}
theorem AtOk.skip (h : AtOk rows hor n f t left o) {x : ByteArray} (hl : left x = true) (hn : ∀ e, e.key = x → inR f t e.key = true → atV (versN rows hor e.key) n = some e → False) : AtOk rows hor n f t (fun z => left z && !decide (z = x)) o := by
  intro e
  rw [h e]
  dsimp only
  by_cases hx : e.key = x
  · constructor
    · rintro ⟨h1, _, _⟩; rw [hx, hl] at h1; cases h1
    · rintro ⟨_, h2, h3⟩; exact (hn e hx h2 h3).elim
  · simp [hx]
theorem AtOk.more (h : AtOk rows hor n f t left o) {x : ByteArray} (hl : left x = true) (hi : inR f t x = true) {e0 : Ev} (h0 : atV (versN rows hor x) n = some e0) (hk : e0.key = x) : AtOk rows hor n f t (fun z => left z && !decide (z = x)) (o ++ [e0]) := by
  intro e
  rw [List.mem_append, List.mem_singleton, h e]
  dsimp only
  by_cases hx : e.key = x
  · constructor
    · rintro (⟨h1, _, _⟩ | rfl)
      · rw [hx, hl] at h1; cases h1
      · rw [hk]; exact ⟨by simp, hi, h0⟩
    · rintro ⟨_, _, h3⟩
      rw [hx, h0] at h3
      cases h3; exact Or.inr rfl
  · constructor
    · rintro (⟨h1, h2, h3⟩ | rfl)
      · exact ⟨by simp [h1], h2, h3⟩
      · exact absurd hk hx
    · rintro ⟨h1, h2, h3⟩
      simp [hx] at h1
      exact Or.inl ⟨h1, h2, h3⟩
end
theorem atL_none {H : HA} {rev : Int} (h : H.atE rev ≠ 0) (f t : ByteArray) : H.atL rev f t = [] := by unfold HA.atL; rw [if_neg h]

set_option maxRecDepth 100000 in
set_option maxHeartbeats 4000000 in
theorem hist_at {w : World} {p : Nat} {S : List Nat} {H : HA} {n : Nat} (rev : Int) (f t : ByteArray) (h : Hs w p S H) (hk : HOk H n) (hn : n ≤ 1000) : Calls Tryz.prog 11 #[.pointer (some ⟨p, 0, none⟩), .int .i64 rev, .agg #[.string f, .string t]] w fun e w' =>
    ∃ v, e = .returned (.tuple #[v, .int .i64 (H.atE rev)]) ∧ LFar S Kv.cells 3 w' v (H.atL rev f t) ∧ (∀ k, v.ownBlock = some k → w.heap.size ≤ k) ∧ Fr [] w w' := by
  have hfl : H.rows.flatten.length ≤ 100000 := by have := hk.flat; omega
  have hsl := Lib.hid h.lt
  obtain ⟨hwf, rm, km, n1, n2, R, M, b1, b2, h⟩ := h
  have hb22 : n2 ≤ 200000 := by
    have h1 := congrArg List.length (congrArg List.flatten (List.take_append_drop H.hor H.rows))
    rw [List.flatten_append, List.length_append] at h1
    omega
  obtain ⟨E, hE⟩ : ∃ E, E = withinE H.hor rev H.rows.length := ⟨_, rfl⟩
  have HE : Hid (H.atE rev = E) := Lib.hid hE.symm
  have HNONE := Lib.hid (atL_none (H := H) (rev := rev) · f t)
  have HOKE := Lib.hid (atE_zero (H := H) (rev := rev)).1
  have HL : Hid (∀ m : Nat, rev = m → H.atE rev = 0 → H.atL rev f t = restrictK f t (mapN H.rows m)) := Lib.hid (fun m h1 h2 => by
    unfold HA.atL; rw [if_pos h2, h1]; rfl)
  obtain ⟨rows, hor⟩ := H
  dsimp only at *
  obtain ⟨c0, c1, c2, c3, _⟩ := cells4 h.blk
  have HWI : Hid (∀ X : World, X.cell? ⟨p, 1, none⟩ = some (.int .i64 rows.length) → Calls Tryz.prog 25 #[.pointer (some ⟨p, 0, none⟩), .int .i64 hor, .int .i64 rev] X fun e w' => e = .returned (.int .i64 E) ∧ X = w') :=
    Lib.hid (fun X hX => by rw [hE]; exact span_within hor rev hX)
  have hp := lt_of_block h.blk
  have np : ¬ w.heap.size = p := by omega
  have HH := Lib.hid h
  have HW := Lib.hid hwf
  have HB2 := Lib.hid b2
  have hmm := @run_makeMap Tryz.prog
  clear h hwf hE b2
  go_enter Tryz.func11, Tryz.ntmps11
  go_wp2_with fail
  have HBX := Lib.hid (new_block w (.cells #[.string f, .string t] 31))
  have HF0 : Hid (Fr [] w (w.alloc (.cells #[.string f, .string t] 31))) := Lib.hid ((Fr.refl [] w).alloc _)
  generalize w.alloc (.cells #[.string f, .string t] 31) = w0 at *
  have k0 := HF0.out.cell c0 (by simp)
  have k1 := HF0.out.cell c1 (by simp)
  clear c0 c1 c2 c3
  have hw0 : w.heap.size < w0.heap.size := lt_of_block HBX.out
  by_cases hE : E = 0
  · subst hE
    obtain ⟨hr1, hr2⟩ := HOKE.out HE.out
    obtain ⟨m, rfl⟩ := Int.eq_ofNat_of_zero_le (show 0 ≤ rev by omega)
    have HLM := Lib.hid (HL.out m rfl HE.out)
    have HM1 : Hid (hor ≤ m) := Lib.hid (by omega)
    clear hr1 hr2
    have c3w := HF0.out.cell (cells4 HH.out.blk).2.2.2.1 (by simp)
    go_wp2_with fail
    go_region_held3 (fun w' => w'.cell? ⟨p, 0, none⟩ = some (.int .i64 hor) ∧ w'.cell? ⟨p, 1, none⟩ = some (.int .i64 rows.length)) (first | go_keep | assumption) (first
      | (go_at_call 26; refine (span_hor (r := hor) (by assumption)).mono ?_; rintro e w1 ⟨rfl, rfl⟩)
      | (go_at_call 25; refine (HWI.out _ (by assumption)).mono ?_; rintro e w1 ⟨rfl, rfl⟩))
    have HBD : Hid (w0.drew.heap[w.heap.size]? = some (.cells #[.string f, .string t] 31 (0, 0))) := Lib.hid HBX.out
    have HFD : Hid (Fr [] w w0.drew) := Lib.hid HF0.out.drew
    have c3d : w0.drew.cell? ⟨p, 3, none⟩ = some (.map (some km)) := c3w
    have hwd : w.heap.size < w0.drew.heap.size := hw0
    have HR4 := HOKE
    clear HOKE HNONE HL HWI k0 k1 c3w hw0 HBX HF0
    rename_i hheld
    clear hheld
    generalize w0.drew = wd at *
    go_wp2_with (at_range; refine wpList_range_G rfl _ 69 rfl strD KS isSl 75 keys_map km n2 M rfl (HH.out.kmap.keep HFD.out (by simp)) ?_; intro w5 cnt0 hrg0 hcnt0 hg0)
    have HR5 : Hid (wd.heap.size < w5.heap.size) := Lib.hid hrg0.ltR
    go_frame
    go_loopw [9] (fun v wr => ∃ (left : ByteArray → Bool) (cnt : Nat) (o : List Ev), RangeG Tryz.prog 9 strD isSl wr km wd.heap.size n2 M left cnt ∧ OutAt Ev.cells 63 4 w5 wr v o ∧ w5.heap.size ≤ wr.heap.size ∧ AtOk rows hor m f t left o ∧ o.length + cnt ≤ n2 ∧ Fr [] wd wr) (fun _ wr => wr.rangeLeft km wd.heap.size)
    case atStart =>
      refine ⟨_, _, [], hrg0, OutAt.nil _ _, Nat.le_refl _, fun e => ?_, by simpa using hcnt0, (Fr.refl [] wd).trans hg0 (by simp)⟩
      constructor
      · intro h; cases h
      · rintro ⟨h1, _, h3⟩
        cases hM : M e.key with
        | none => rw [HH.out.kno _ hM] at h3; cases h3
        | some v => dsimp only at h1; rw [hM] at h1; cases h1
    case round =>
      obtain ⟨left, cnt, o, hrg, hO, hsz5, hA, hlen, hfr⟩ := hrel
      have HRG := Lib.hid hrg
      have HO := Lib.hid hO
      have HA := Lib.hid hA
      have HF := Lib.hid hfr
      have HRL := Lib.hid hrg.ltR
      clear hrg hO hA hfr
      go_wp2_with (at_next; refine wpList_next_G (β := Option Addr × Nat × Nat) rfl _ rfl strD KS isSl (fun c => .slice c.1 c.2.1 c.2.2) (fun v hv => isSl_inv hv) km wd.heap.size n2 M left cnt rfl HRG.out ?_ ?_)
      · intro hl0
        have hfin : foldK [] o = restrictK f t (mapN rows m) := at_list HW.out HM1.out (fun e => (HA.out e).trans ⟨fun h => h.2, fun h => ⟨hl0 _ e.wf.1, h⟩⟩)
        have HFIN := Lib.hid hfin
        clear hl0 hfin
        go_wp2_with (go_at_call 29; refine (event_fold_new (.slice none 0 0) _ [] o _ (LIn.nil _) (LAt.read HO.out.lies Ev.clen) Srt.nil (by unfold many; simp) (by unfold many; omega)).mono ?_; rintro e w9 ⟨v9, rfl, ho9, hf9, hn9⟩)
        refine bodyPost_ret (v := .tuple #[v9, .int .i64 0]) (by simp [results, Tryz.results11, go_sem]) rfl ?_
        have hwf9 : Fr [] w wr := HFD.out.trans HF.out (by simp)
        refine ⟨v9, by rw [HE.out], ?_, fun k hk => (by have := hn9 k hk; have := hwf9.size; omega), hwf9.trans hf9 (by simp)⟩
        rw [HLM.out, ← HFIN.out]
        exact LFar.of_new ho9 hn9 (fun k hk => by have := hsl.out k hk; have := hwf9.size; omega)
      · intro x c1 c2 c3 w6 cnt6 hx hlx hMx hrg6 hlt6 hf6 hen
        simp only [strD] at hen hx ⊢
        have hf06 : Fr [] wd w6 := HF.out.trans hf6 (by simp)
        obtain ⟨b0, b1', _⟩ := cells2 (hf06.keep HBD.out (by simp))
        have HRG6 := Lib.hid hrg6
        have HF6 := Lib.hid hf06
        have HFS := Lib.hid hf6
        have HLX := Lib.hid hlx
        have HV : Hid (EvAt w (.slice c1 c2 c3) (versN rows hor x)) := Lib.hid (HH.out.kyes x _ hMx)
        have HVL : Hid ((versN rows hor x).length ≤ many) := Lib.hid (Nat.le_trans (vers_len _ _ _) (by unfold many; omega))
        have hO6 : OutAt Ev.cells 63 4 w5 w6 u9 o := ⟨HO.out.lies.keep hf6 (fun k hk hm => by
          obtain rfl := List.mem_singleton.1 hm
          have := HO.out.new _ hk; have := HR5.out; omega), HO.out.new⟩
        have HO6 := Lib.hid hO6
        have hs6 := hf6.size
        clear hrg6 hf6 hf06 hlx hMx hO6
        go_wp2_with (go_at_call 27; refine (key_in _ _ _ _).mono ?_; rintro e w7 ⟨rfl, hf7⟩; refine go_stop ?_)
        unfold Stop
        have HF7 := Lib.hid (HF6.out.trans hf7 (by simp))
        have HO7 := Lib.hid (HO6.out.keep hf7)
        have hn67 : wd.heap.size ∉ ([] : List Nat) := by simp
        have HRG7 := Lib.hid (HRG6.out.keep hf7 (by simp) (by simp))
        have hs7 := hf7.size
        clear b0 b1' hf7
        cases hI : inB f.toList t.toList x.toList
        · have HI : Hid (inR f t x = false) := Lib.hid hI
          clear hI
          go_wp2_with fail
          go_roundw
          case rel =>
            exact ⟨_, _, o, HRG7.out, HO7.out, by omega, HA.out.skip HLX.out (fun e he h1 h2 => by rw [he, HI.out] at h1; cases h1), by omega, HF7.out⟩
          case measure => rw [HRG.out.left_eq, HRG7.out.left_eq]; exact hlt6
        · have HI : Hid (inR f t x = true) := Lib.hid hI
          clear hI
          obtain ⟨y, hy⟩ : ∃ y : Ev, y = (atV (versN rows hor x) m).getD Ev.zero := ⟨_, rfl⟩
          obtain ⟨b, hb⟩ : ∃ b, b = (atV (versN rows hor x) m).isSome := ⟨_, rfl⟩
          have HC : Hid (Calls Tryz.prog 28 #[.slice c1 c2 c3, .int .i64 m] w7 fun e w' => e = .returned (.tuple #[.agg #[.int .i64 y.rev, .string y.key, .string y.val, .bool y.del], .bool b]) ∧ Fr [] w7 w') :=
            Lib.hid ((ver_at _ (versN rows hor x) m w7 (LIn.keep0 HV.out.read (HFD.out.trans HF7.out (by simp))) HVL.out).mono fun e w' hh => by rw [hy, hb]; exact hh)
          have HY := Lib.hid hy
          have HB := Lib.hid hb
          clear hy hb
          go_wp2_with (go_at_call 28; refine (HC.out).mono ?_; rintro e w8 ⟨rfl, hf8⟩; refine go_stop ?_)
          unfold Stop
          have HF8 := Lib.hid (HF7.out.trans hf8 (by simp))
          have HO8 := Lib.hid (HO7.out.keep hf8)
          have HRG8 := Lib.hid (HRG7.out.keep hf8 (by simp) (by simp))
          have hs8 := hf8.size
          clear hf8 HC
          have hr8 : ¬ w8.heap.size = wd.heap.size := by have := HRG8.out.ltR; omega
          cases b
          · go_wp2_with fail
            have hal := (Fr.refl [] w8).alloc (.cells #[.int .i64 y.rev, .string y.key, .string y.val, .bool y.del] 63)
            have HRG9 := HRG8.out.keep hal (by simp) (by simp)
            have hs9 := hal.size
            refine ⟨⟨_, _, o, HRG9, HO8.out.keep hal, by omega, HA.out.skip HLX.out (fun e he h1 h2 => ?_), by omega, HF8.out.trans hal (by simp)⟩, ?_⟩
            · have := HB.out
              rw [he] at h2
              rw [h2] at this; cases this
            · rw [HRG.out.left_eq, HRG9.left_eq]; exact hlt6
          · go_wp2_with (at_builtin; refine wpList_append_any rfl (.tmp 49) (.tmp 51) 50 63 (.agg #[.int .i64 0, .string ⟨#[]⟩, .string ⟨#[]⟩, .bool false]) 4 48 rfl ev_slice ev_info rfl (by decide) _ o.length (allC Ev.cells o) rfl (HO8.out.lies.keep0 (((Fr.refl [] w8).alloc (.cells #[.int .i64 y.rev, .string y.key, .string y.val, .bool y.del] 63)).alloc _)) _ 1 y.cells rfl (lies_row (w8.alloc (.cells #[.int .i64 y.rev, .string y.key, .string y.val, .bool y.del] 63)) 63 y.cells rfl _ (by simp)) y.cone (by unfold maxLen; omega) (by omega) ?app)
            case app =>
            intro v' w' h1 h2 h3
            have hal : Fr [] w8 ((w8.alloc (.cells #[.int .i64 y.rev, .string y.key, .string y.val, .bool y.del] 63)).alloc (.cells y.cells.toArray 63)) := ((Fr.refl [] w8).alloc (.cells #[.int .i64 y.rev, .string y.key, .string y.val, .bool y.del] 63)).alloc (.cells y.cells.toArray 63)
            have ha := HO8.out.keep hal
            have hnew : ∀ k ∈ u9.ownBlock.toList, w5.heap.size ≤ k := fun k hk => ha.new k (Option.mem_toList.1 hk)
            have HO9 := Lib.hid (OutAt.app ha (B := (w8.alloc (.cells #[.int .i64 y.rev, .string y.key, .string y.val, .bool y.del] 63)).heap.size + 1) (by simp; omega) (xs := [y]) (by rw [allC_one]; exact h1) rfl (fun k hk => by
              rcases h3 k hk with h4 | h4
              · exact Or.inl h4
              · exact Or.inr (by rw [h4]; simp)))
            have hf9 : Fr u9.ownBlock.toList w8 w' := (hal.mono (by simp)).trans h2 (fun k hk => Or.inl hk)
            have HRG9 := Lib.hid (HRG8.out.keep hf9 (fun hm => by have := hnew _ hm; have := HH.out.kmap.lt; have := HR5.out; omega) (fun hm => by have := hnew _ hm; have := HR5.out; omega))
            have HF9 := Lib.hid (HF8.out.trans hf9 (fun k hk => Or.inr (by have := hnew k hk; have := HR5.out; omega)))
            have hs9 := hf9.size
            have hat : atV (versN rows hor x) m = some y := by
              have h8 := HB.out
              rw [HY.out]
              cases ha : atV (versN rows hor x) m with
              | none => rw [ha] at h8; cases h8
              | some z => rfl
            have HAT := Lib.hid hat
            have HKY : Hid (y.key = x) := Lib.hid (vers_key _ (at_mem hat))
            clear h1 h2 h3 hal ha hnew hf9 hat
            go_wp2_with fail
            refine ⟨⟨_, _, o ++ [y], HRG9.out, HO9.out, by omega, HA.out.more HLX.out HI.out HAT.out HKY.out, by simp; omega, HF9.out⟩, ?_⟩
            rw [HRG.out.left_eq, HRG9.out.left_eq]; exact hlt6
  · have t1 : ¬ E = 0 := hE
    have t2 : (E == 0) = false := by simpa using hE
    have HN := Lib.hid (HNONE.out (by rw [HE.out]; exact hE))
    go_wp2_with fail
    go_region_held3 (fun w' => w'.cell? ⟨p, 0, none⟩ = some (.int .i64 hor) ∧ w'.cell? ⟨p, 1, none⟩ = some (.int .i64 rows.length)) (first | go_keep | assumption) (first
      | (go_at_call 26; refine (span_hor (r := hor) (by assumption)).mono ?_; rintro e w1 ⟨rfl, rfl⟩)
      | (go_at_call 25; refine (HWI.out _ (by assumption)).mono ?_; rintro e w1 ⟨rfl, rfl⟩))
    all_goals go_wp2
    all_goals refine bodyPost_ret (v := .tuple #[.slice none 0 0, .int .i64 E]) (by simp [results, Tryz.results11, go_sem]) rfl ?_
    all_goals
      refine ⟨.slice none 0 0, by rw [HE.out], ?_, by simp [Value.ownBlock], HF0.out.drew⟩
      rw [HN.out]; exact LFar.nil _ _
end Go.Proofs.YtmipllkgioakoaaGreat
