/- What is put is there, at the new revision, and all else as it was; what is deleted isn't: for every list of deeds, every op and every key. No condition. -/
import Derived.Test.YtpahencocbahgaaHistAwake
import Derived.Test.YtpahencocbahgaaHistLaw
namespace Go.Proofs.Ytpahencocbahgaa.lawHistPuts
open Go.ChangeShapes Go.WideShapes Go.ChangeAt Go.RowKit Go.Deep Go.ChangeMaps
set_option linter.unusedVariables false
set_option linter.unusedSimpArgs false

theorem now_eq (H : HA) (o : Od) : mapN (H.app [o]).rows (H.app [o]).rows.length = foldK (mapN H.rows H.rows.length) (H.told [o]) := mapN_new H.rows (rowOf H.rows [o])
theorem put_other (H : HA) (o : Od) {k : ByteArray} (hk : k ≠ o.key) : getK k (mapN (H.app [o]).rows (H.app [o]).rows.length) = getK k (mapN H.rows H.rows.length) := by
  refine getK_ext (srt_mapN _ _) (srt_mapN _ _) (fun x hx => ?_)
  rw [now_eq]
  unfold HA.told
  rw [rowOf_one]
  split
  · show x ∈ oneK _ _ ↔ _
    rw [mem_oneK]
    constructor
    · rintro (⟨h1, _⟩ | ⟨_, rfl⟩)
      · exact h1
      · exact absurd hx.symm hk
    · intro h1
      exact Or.inl ⟨h1, by rw [hx]; exact hk⟩
  · rfl
theorem put_del (H : HA) (o : Od) (hd : o.del = true) : getK o.key (mapN (H.app [o]).rows (H.app [o]).rows.length) = none := by
  rw [getK_none]
  intro x hx
  rw [now_eq] at hx
  unfold HA.told at hx
  rw [rowOf_one] at hx
  split at hx
  · have hx : x ∈ oneK (mapN H.rows H.rows.length) (o.ev (H.rows.length + 1)) := hx
    rw [mem_oneK] at hx
    rcases hx with ⟨_, h2⟩ | ⟨h2, _⟩
    · exact h2
    · have : o.del = false := h2
      rw [hd] at this; cases this
  · rename_i hc
    have hn : getK o.key (mapN H.rows H.rows.length) = none := by
      cases hg : getK o.key (mapN H.rows H.rows.length) with
      | none => rfl
      | some y => rw [hg] at hc; simp at hc
    exact getK_none.1 hn x hx
def putK (H : HA) (o : Od) : Kv := ⟨o.key, o.val, H.rows.length + 1, o.wf⟩
theorem put_put (H : HA) (o : Od) (hd : o.del = false) : getK o.key (mapN (H.app [o]).rows (H.app [o]).rows.length) = some (putK H o) := by
  rw [getK_srt (srt_mapN _ _)]
  refine ⟨?_, rfl⟩
  rw [now_eq]
  unfold HA.told
  rw [rowOf_one, hd]
  simp only [Bool.not_false, Bool.or_true, if_true]
  show _ ∈ oneK _ _
  rw [mem_oneK]
  refine Or.inr ⟨hd, ?_⟩
  unfold putK Od.ev Ev.kv
  simp [hd]
theorem told_len (H : HA) (o : Od) : (H.told [o]).length = if (getK o.key (mapN H.rows H.rows.length)).isSome || !o.del then 1 else 0 := by
  unfold HA.told; rw [rowOf_one]; split <;> rfl
theorem app_len (H : HA) (o : Od) : (H.app [o]).rows.length = H.rows.length + (H.told [o]).length := by
  unfold HA.told HA.app putR
  dsimp only
  rw [rowOf_one]
  split
  · simp
  · simp
set_option maxRecDepth 100000 in
set_option maxHeartbeats 4000000 in
theorem walk (lv : Value) (l : List Dd) (o : Od) (k : ByteArray) (w : World) (hl : DdIn w lv l) :
    Calls Try.prog 4 #[lv, .agg #[.string o.key, .string o.val, .bool o.del], .string k] w fun e w' => e = .returned (.bool true) ∧ Below w.heap.size w w' := by
  have HL := Lib.hid hl
  obtain ⟨s1, c1, rfl, _, _⟩ := hl.form
  clear hl
  obtain ⟨wb, hwb⟩ : ∃ wb, wb = w.alloc (Obj.cells #[.string o.key, .string o.val, .bool o.del] 45) := ⟨_, rfl⟩
  have HWB := Lib.hid hwb
  have HX : Hid (wb.heap[w.heap.size]? = some (.cells #[.string o.key, .string o.val, .bool o.del] 45 (0, 0))) := Lib.hid (by rw [hwb]; exact new_block w _)
  have HF0 : Hid (Fr [] w wb) := Lib.hid (by rw [hwb]; exact (Fr.refl [] w).alloc _)
  have HZ : Hid (wb.heap.size = w.heap.size + 1) := Lib.hid (by rw [hwb]; simp)
  clear hwb
  go_enter Try.func4, Try.ntmps4
  go_wp2_with fail
  rw [← HWB.out]
  go_wp2_with (first
    | (go_at_call 7; refine (hist_awake _).mono ?_; rintro e w1 ⟨rfl, h1⟩; have HF := Lib.hid h1; replace HL := Lib.hid (HL.out.keep0 (HF0.out.trans h1 (by simp))); clear h1)
    | (go_at_call 8; refine (hfew_any _ l _ HL.out).mono ?_; rintro e wn ⟨b, rfl, hb, rfl⟩; refine go_stop ?_))
  unfold Stop
  have HFW := Lib.hid (HF0.out.trans HF.out (by simp))
  cases b
  · clear hb
    go_wp2_with fail
    go_ret
    exact ⟨rfl, HFW.out.below (Nat.le_refl _) (by simp)⟩
  · obtain ⟨h30, h8⟩ := hb.1 rfl
    have H8 := Lib.hid h8
    clear hb h8
    go_wp2_with (go_at_call 9; refine (hran_any _ l _ HL.out h30 H8.out).mono ?_; rintro e w2 ⟨p, S, rfl, h1, h2, h3⟩; refine go_stop ?_)
    unfold Stop
    have hok := runH_ok l H8.out l.length (Nat.le_refl _)
    rw [List.take_length] at hok
    obtain ⟨H, hH⟩ : ∃ H, H = runH l := ⟨_, rfl⟩
    rw [← hH] at hok h1
    replace hok := hok.mono h30
    have OK := Lib.hid hok
    have hrl := hok.rev
    have AT := Lib.hid (at_ok (H := H) (n := H.rows.length) hok.hor (Nat.le_refl _))
    have hok2 : HOk (H.app [o]) 31 := hok.app (ops := [o]) (by simp)
    have OK2 := Lib.hid hok2
    have AT2 := Lib.hid (at_ok (H := H.app [o]) (n := (H.app [o]).rows.length) hok2.hor (Nat.le_refl _))
    have hml : (mapN H.rows H.rows.length).length ≤ many + many := by have := mapN_len' H.rows H.rows.length hok.flat; unfold many; omega
    have hnl : (mapN (H.app [o]).rows (H.app [o]).rows.length).length ≤ many + many := by have := mapN_len' (H.app [o]).rows (H.app [o]).rows.length hok2.flat; unfold many; omega
    have ML := Lib.hid hml
    have NL := Lib.hid hnl
    have HS := Lib.hid h1
    have HG : Hid (∀ k ∈ S, wb.heap.size ≤ k) := Lib.hid (fun k hk => Nat.le_trans HF.out.size (h3 k hk))
    have HF2 := Lib.hid (HF.out.trans h2 (by simp))
    have hal : ((H.app [o]).rows.length : Int) = (H.rows.length : Int) + ((H.told [o]).length : Int) := by rw [app_len]; push_cast; rfl
    have HAL := Lib.hid hal
    clear hal h1 h2 h3 hok hok2 hml hnl hH HF HFW HL
    go_wp2_with (first
      | (go_at_call 10; refine (hist_rev HS.out).mono ?_; rintro e wn ⟨rfl, rfl⟩)
      | (go_at_call 11; refine go_stop ?_))
    unfold Stop
    refine (hist_at (H := H) (n := 30) _ _ _ HS.out OK.out (by decide)).mono ?_
    rintro e w3 ⟨v3, rfl, h1, hnew, h3⟩
    rw [AT.out.2] at h1
    rw [AT.out.1]
    have WAS := Lib.hid h1
    obtain ⟨s3, c3, rfl, _, _⟩ := h1.form
    replace HS := Lib.hid (HS.out.keep h3 (by simp))
    replace HF2 := Lib.hid (HF2.out.trans h3 (by simp))
    obtain ⟨b0, b1, b2, _⟩ := cells3 (HF2.out.keep HX.out (by simp))
    clear h1 hnew h3
    go_wp2_with (go_at_call 15; refine (rget_any _ _ o.key _ WAS.out.lin ML.out).mono ?_; rintro e w4 ⟨rfl, h3⟩; refine go_stop ?_)
    unfold Stop
    replace WAS := Lib.hid (WAS.out.keep0 h3)
    replace HS := Lib.hid (HS.out.keep h3 (by simp))
    replace HF2 := Lib.hid (HF2.out.trans h3 (by simp))
    obtain ⟨b0, b1, b2, _⟩ := cells3 (HF2.out.keep HX.out (by simp))
    have hsz : w.heap.size < w4.heap.size := by have := HF2.out.size; have := HZ.out; omega
    have n1 : ¬ w.heap.size = w4.heap.size := by omega
    have n2 : ¬ w4.heap.size = w.heap.size := by omega
    clear h3
    obtain ⟨z4, hz4⟩ : ∃ z, z = getZ o.key (mapN H.rows H.rows.length) := ⟨_, rfl⟩
    rw [← hz4]
    clear hz4
    go_wp2_with (first
      | (go_at_call 10; refine (hist_rev (HS.out.keep (T := []) ((Fr.refl _ _).alloc _) (by simp))).mono ?_; rintro e wn ⟨rfl, rfl⟩)
      | (go_at_call 16; refine go_stop ?_))
    unfold Stop
    have hfz : Fr [] w4 (w4.alloc (.cells #[.string z4.key, .string z4.val, .int .i64 z4.rev] 47)) := (Fr.refl [] w4).alloc _
    have HLO : Hid (LFar S Od.cells 3 ((w4.alloc (.cells #[.string z4.key, .string z4.val, .int .i64 z4.rev] 47)).alloc (.cells #[.string o.key, .string o.val, .bool o.del] 45)) (.slice (some ⟨w4.heap.size + 1, 0, none⟩) 1 1) [o]) := Lib.hid (by
      have := od_lit (S := S) (w := w4.alloc (.cells #[.string z4.key, .string z4.val, .int .i64 z4.rev] 47)) [o] 1 rfl (by decide) (fun k hk => by have := HS.out.lt k hk; have := hfz.size; omega) #[.string o.key, .string o.val, .bool o.del] rfl
      simpa using this)
    have hfy := hfz.alloc (.cells #[.string o.key, .string o.val, .bool o.del] 45)
    refine (hist_apply (n := 30) _ [o] (HS.out.keep hfy (by simp)) OK.out (by decide) HLO.out (by simp)).mono ?_
    rintro e w5 ⟨v5, S2, rfl, h1, h2, hnew, h3, h4⟩
    have hfw := HF2.out.trans hfy (by simp)
    replace HS := Lib.hid h1
    obtain ⟨s5, c5, rfl, _, _⟩ := h2.form
    replace WAS := Lib.hid ((WAS.out.keep0 hfy).step h3 h4)
    replace HF2 := Lib.hid (hfw.trans h3 (fun k hk => Or.inr (HG.out k hk)))
    obtain ⟨b0, b1, b2, _⟩ := cells3 (HF2.out.keep HX.out (by simp))
    clear h1 h2 hnew h3 h4 hfw hfy hfz HLO n1 n2 hsz
    go_wp2_with (first
      | (go_at_call 10; refine (hist_rev HS.out).mono ?_; rintro e wn ⟨rfl, rfl⟩)
      | (go_at_call 11; refine go_stop ?_))
    unfold Stop
    refine (hist_at (H := H.app [o]) (n := 31) _ _ _ HS.out OK2.out (by decide)).mono ?_
    rintro e w6 ⟨v6, rfl, h1, hnew, h3⟩
    rw [AT2.out.2] at h1
    rw [AT2.out.1]
    have NOW := Lib.hid h1.lin
    obtain ⟨s6, c6, rfl, _, _⟩ := h1.form
    replace WAS := Lib.hid (WAS.out.keep0 h3)
    replace HS := Lib.hid (HS.out.keep h3 (by simp))
    replace HF2 := Lib.hid (HF2.out.trans h3 (by simp))
    obtain ⟨b0, b1, b2, _⟩ := cells3 (HF2.out.keep HX.out (by simp))
    clear h1 hnew h3
    go_wp2_with (go_at_call 15; refine (rget_any _ _ o.key _ NOW.out NL.out).mono ?_; rintro e w7 ⟨rfl, h3⟩; refine go_stop ?_)
    unfold Stop
    have hfk := h3
    clear h3
    replace WAS := Lib.hid (WAS.out.keep0 hfk)
    replace NOW := Lib.hid (LIn.keep0 NOW.out hfk)
    replace HS := Lib.hid (HS.out.keep hfk (by simp))
    replace HF2 := Lib.hid (HF2.out.trans hfk (by simp))
    obtain ⟨z7, hz7⟩ : ∃ z, z = getZ o.key (mapN (H.app [o]).rows (H.app [o]).rows.length) := ⟨_, rfl⟩
    obtain ⟨b7, hb7⟩ : ∃ b, b = (getK o.key (mapN (H.app [o]).rows (H.app [o]).rows.length)).isSome := ⟨_, rfl⟩
    rw [← hz7, ← hb7]
    have Zz7 := Lib.hid hz7
    have Zb7 := Lib.hid hb7
    clear hz7 hb7
    obtain ⟨b0, b1, b2, _⟩ := cells3 (HF2.out.keep HX.out (by simp))
    have hsz : w.heap.size < w7.heap.size := by have := HF2.out.size; have := HZ.out; omega
    have n1 : ¬ w.heap.size = w7.heap.size := by omega
    have n2 : ¬ w7.heap.size = w.heap.size := by omega
    clear hfk
    go_wp2_with (go_at_call 15; refine (rget_any _ _ k _ (LIn.keep0 WAS.out.lin ((Fr.refl [] w7).alloc (.cells #[.string z7.key, .string z7.val, .int .i64 z7.rev] 47))) ML.out).mono ?_; rintro e w8 ⟨rfl, h3⟩; refine go_stop ?_)
    unfold Stop
    have hfk : Fr [] w7 w8 := ((Fr.refl [] w7).alloc _).trans h3 (by simp)
    have H17 := Lib.hid (h3.keep (new_block w7 (.cells #[.string z7.key, .string z7.val, .int .i64 z7.rev] 47)) (by simp))
    clear h3 n1 n2
    replace WAS := Lib.hid (WAS.out.keep0 hfk)
    replace NOW := Lib.hid (LIn.keep0 NOW.out hfk)
    replace HS := Lib.hid (HS.out.keep hfk (by simp))
    replace HF2 := Lib.hid (HF2.out.trans hfk (by simp))
    obtain ⟨z8, hz8⟩ : ∃ z, z = getZ k (mapN H.rows H.rows.length) := ⟨_, rfl⟩
    obtain ⟨b8, hb8⟩ : ∃ b, b = (getK k (mapN H.rows H.rows.length)).isSome := ⟨_, rfl⟩
    rw [← hz8, ← hb8]
    have Zz8 := Lib.hid hz8
    have Zb8 := Lib.hid hb8
    clear hz8 hb8
    have hsz8 : w7.heap.size < w8.heap.size := lt_of_block H17.out
    go_wp2_with (go_at_call 15; refine (rget_any _ _ k _ (LIn.keep0 NOW.out ((Fr.refl [] w8).alloc (.cells #[.string z8.key, .string z8.val, .int .i64 z8.rev] 47))) NL.out).mono ?_; rintro e w9 ⟨rfl, h3⟩; refine go_stop ?_)
    unfold Stop
    clear hfk
    have hfk : Fr [] w8 w9 := ((Fr.refl [] w8).alloc _).trans h3 (by simp)
    have H19 := Lib.hid (h3.keep (new_block w8 (.cells #[.string z8.key, .string z8.val, .int .i64 z8.rev] 47)) (by simp))
    replace H17 := Lib.hid (hfk.keep H17.out (by simp))
    clear h3
    replace WAS := Lib.hid (WAS.out.keep0 hfk)
    replace NOW := Lib.hid (LIn.keep0 NOW.out hfk)
    replace HS := Lib.hid (HS.out.keep hfk (by simp))
    replace HF2 := Lib.hid (HF2.out.trans hfk (by simp))
    obtain ⟨z9, hz9⟩ : ∃ z, z = getZ k (mapN (H.app [o]).rows (H.app [o]).rows.length) := ⟨_, rfl⟩
    obtain ⟨b9, hb9⟩ : ∃ b, b = (getK k (mapN (H.app [o]).rows (H.app [o]).rows.length)).isSome := ⟨_, rfl⟩
    rw [← hz9, ← hb9]
    have Zz9 := Lib.hid hz9
    have Zb9 := Lib.hid hb9
    clear hz9 hb9
    have hsz9 : w8.heap.size < w9.heap.size := lt_of_block H19.out
    obtain ⟨b0, b1, b2, _⟩ := cells3 (HF2.out.keep HX.out (by simp))
    obtain ⟨x0, x1, x2, _⟩ := cells3 H17.out
    obtain ⟨y0, y1, y2, _⟩ := cells3 H19.out
    have n1 : ¬ w.heap.size = w9.heap.size := by omega
    have n2 : ¬ w9.heap.size = w.heap.size := by omega
    have n3 : ¬ w7.heap.size = w9.heap.size := by omega
    have n4 : ¬ w9.heap.size = w7.heap.size := by omega
    have n5 : ¬ w8.heap.size = w9.heap.size := by omega
    have n6 : ¬ w9.heap.size = w8.heap.size := by omega
    have n7 : w.heap.size < w9.heap.size := by omega
    have n8 : w7.heap.size < w9.heap.size := by omega
    clear hfk
    have q1 := fun W => run_neq_kv z8 z9 W
    have hwr : IntKind.i64.wrap ((H.rows.length : Int) + 1) = (H.rows.length : Int) + 1 := IntWalk.i64_in _ ⟨by omega, by omega⟩
    -- another key stays
    have hoth : k ≠ o.key → z9 = z8 ∧ b9 = b8 := fun hk => by
      rw [Zz9.out, Zz8.out, Zb9.out, Zb8.out]
      unfold getZ
      rw [put_other H o hk]; exact ⟨rfl, rfl⟩
    have OTH := Lib.hid hoth
    clear hoth
    clear HWB HX HG WAS NOW H17 H19 ML NL AT AT2 OK OK2
    by_cases hk : k = o.key
    · have t5 : (k.toList == o.key.toList) = true := by rw [hk]; simp
      clear hk OTH
      cases hd : o.del
      · rw [hd] at b2
        have tl : (H.told [o]).length = 1 := by rw [told_len, hd]; simp
        have al : ((H.app [o]).rows.length : Int) = (H.rows.length : Int) + 1 := by have := HAL.out; rw [tl] at this; exact this
        have hb7 : b7 = true := by rw [Zb7.out, put_put H o hd]; rfl
        have hz7 : z7 = putK H o := by rw [Zz7.out]; unfold getZ; rw [put_put H o hd]; rfl
        have q2 := fun W => run_eql_kv z7 (putK H o) W
        rw [kvB_eq.2 hz7] at q2
        dsimp only [putK] at q2
        clear hz7
        subst hb7
        have TL := tl
        go_wp2_with (go_at_call 10; refine (hist_rev (HS.out.keep (T := []) ((Fr.refl _ _).alloc _) (by simp))).mono ?_; rintro e wn ⟨rfl, rfl⟩)
        go_ret
        exact ⟨rfl, ((HF0.out.trans HF2.out (by simp)).alloc _).below (Nat.le_refl _) (by simp)⟩
      · rw [hd] at b2
        cases hg : (getK o.key (mapN H.rows H.rows.length)).isSome
        · have tl : (H.told [o]).length = 0 := by rw [told_len, hg, hd]; rfl
          have al : ((H.app [o]).rows.length : Int) = (H.rows.length : Int) := by have := HAL.out; rw [tl] at this; simpa using this
          have hb7 : b7 = false := by rw [Zb7.out, put_del H o hd]; rfl
          have ne1 : ((H.rows.length : Int) == (H.rows.length : Int) + 1) = false := by rw [beq_eq_false_iff_ne]; omega
          subst hb7
          have TL := tl
          go_wp2_with (go_at_call 10; refine (hist_rev (HS.out.keep (T := []) ((Fr.refl _ _).alloc _) (by simp))).mono ?_; rintro e wn ⟨rfl, rfl⟩)
          go_ret
          exact ⟨rfl, ((HF0.out.trans HF2.out (by simp)).alloc _).below (Nat.le_refl _) (by simp)⟩
        · have tl : (H.told [o]).length = 1 := by rw [told_len, hg]; rfl
          have al : ((H.app [o]).rows.length : Int) = (H.rows.length : Int) + 1 := by have := HAL.out; rw [tl] at this; exact this
          have hb7 : b7 = false := by rw [Zb7.out, put_del H o hd]; rfl
          subst hb7
          have TL := tl
          go_wp2_with (go_at_call 10; refine (hist_rev (HS.out.keep (T := []) ((Fr.refl _ _).alloc _) (by simp))).mono ?_; rintro e wn ⟨rfl, rfl⟩)
          go_ret
          exact ⟨rfl, ((HF0.out.trans HF2.out (by simp)).alloc _).below (Nat.le_refl _) (by simp)⟩
    · have t5 : (k.toList == o.key.toList) = false := by rw [beq_eq_false_iff_ne]; exact fun e => hk (bs_inj e)
      obtain ⟨g1, g2⟩ := OTH.out hk
      subst g1 g2
      rw [kvB_eq.2 rfl] at q1
      clear hk OTH
      cases hd : o.del
      · rw [hd] at b2
        have tl : (H.told [o]).length = 1 := by rw [told_len, hd]; simp
        have al : ((H.app [o]).rows.length : Int) = (H.rows.length : Int) + 1 := by have := HAL.out; rw [tl] at this; exact this
        have hb7 : b7 = true := by rw [Zb7.out, put_put H o hd]; rfl
        have hz7 : z7 = putK H o := by rw [Zz7.out]; unfold getZ; rw [put_put H o hd]; rfl
        have q2 := fun W => run_eql_kv z7 (putK H o) W
        rw [kvB_eq.2 hz7] at q2
        dsimp only [putK] at q2
        clear hz7
        subst hb7
        have TL := tl
        cases b9
        all_goals
          go_wp2_with (go_at_call 10; refine (hist_rev (HS.out.keep (T := []) ((Fr.refl _ _).alloc _) (by simp))).mono ?_; rintro e wn ⟨rfl, rfl⟩)
          go_ret
          exact ⟨rfl, ((HF0.out.trans HF2.out (by simp)).alloc _).below (Nat.le_refl _) (by simp)⟩
      · rw [hd] at b2
        cases hg : (getK o.key (mapN H.rows H.rows.length)).isSome
        · have tl : (H.told [o]).length = 0 := by rw [told_len, hg, hd]; rfl
          have al : ((H.app [o]).rows.length : Int) = (H.rows.length : Int) := by have := HAL.out; rw [tl] at this; simpa using this
          have hb7 : b7 = false := by rw [Zb7.out, put_del H o hd]; rfl
          have ne1 : ((H.rows.length : Int) == (H.rows.length : Int) + 1) = false := by rw [beq_eq_false_iff_ne]; omega
          subst hb7
          have TL := tl
          cases b9
          all_goals
            go_wp2_with (go_at_call 10; refine (hist_rev (HS.out.keep (T := []) ((Fr.refl _ _).alloc _) (by simp))).mono ?_; rintro e wn ⟨rfl, rfl⟩)
            go_ret
            exact ⟨rfl, ((HF0.out.trans HF2.out (by simp)).alloc _).below (Nat.le_refl _) (by simp)⟩
        · have tl : (H.told [o]).length = 1 := by rw [told_len, hg]; rfl
          have al : ((H.app [o]).rows.length : Int) = (H.rows.length : Int) + 1 := by have := HAL.out; rw [tl] at this; exact this
          have hb7 : b7 = false := by rw [Zb7.out, put_del H o hd]; rfl
          subst hb7
          have TL := tl
          cases b9
          all_goals
            go_wp2_with (go_at_call 10; refine (hist_rev (HS.out.keep (T := []) ((Fr.refl _ _).alloc _) (by simp))).mono ?_; rintro e wn ⟨rfl, rfl⟩)
            go_ret
            exact ⟨rfl, ((HF0.out.trans HF2.out (by simp)).alloc _).below (Nat.le_refl _) (by simp)⟩

set_option maxRecDepth 100000 in
theorem contract (H : Type) (enc : TypeId × Value → H) (W : World) (base : Nat) (args : Array Value) (ds gs : List (DataW H)) (before : List MemPlace)
    (hval0 : ∀ (j : Nat) t v, Try.f4.params[j]? = some t → args[j]? = some v → Value.okWide Try.prog W .any base t v)
    (hW : DataW.Whole enc Try.prog Try.f4.params.toList Rows.histPutsSpec.vars false W args.toList ds gs before) :
    Calls Try.prog 4 args W fun e W' => ∃ v, e = .returned v ∧ Rows.histPutsSpec.post enc Try.prog Try.f4 false true false false W args v W' := by
  have hval : ∀ (j : Nat) t v, Try.f4.params[j]? = some t → args[j]? = some v → Value.okWide Try.prog W .any base t v := hval0
  have hW' := hW
  obtain ⟨p, q, hA0, hV, rfl, hfz, hnd⟩ := hW
  have hA : DataW.TrodAll enc Try.prog W 0 (fun _ => true) true Try.f4.params.toList args.toList ds p := hA0
  rw [Try.params4] at hA hval
  obtain ⟨v0, vs0, d0, ds0, p0, q0, hargs, rfl, rfl, h0, r0⟩ := trodAll_cons hA
  obtain ⟨v1, vs1, d1, ds1, p1, q1, rfl, rfl, rfl, h1, r1⟩ := trodAll_cons r0
  obtain ⟨v2, vs2, d2, ds2, p2, q2, rfl, rfl, rfl, h2, r2⟩ := trodAll_cons r1
  obtain ⟨rfl, rfl, rfl⟩ := trodAll_nil r2
  obtain rfl : args = #[v0, v1, v2] := by cases args; simp_all
  obtain ⟨rfl, rfl⟩ := trodVars_none hV
  have k0 := h0
  have lt0 : ∀ x ∈ p0, x.block < W.heap.size := by obtain ⟨m, hm⟩ := k0; exact DataW.trod_lt m _ _ _ hm
  have k1 := h1
  have lt1 : ∀ x ∈ p1, x.block < W.heap.size := by obtain ⟨m, hm⟩ := k1; exact DataW.trod_lt m _ _ _ hm
  have k2 := h2
  have lt2 : ∀ x ∈ p2, x.block < W.heap.size := by obtain ⟨m, hm⟩ := k2; exact DataW.trod_lt m _ _ _ hm
  obtain ⟨l, hl⟩ := open_deeds (hval 0 22 v0 rfl rfl) h0
  obtain ⟨o, rfl⟩ := open_op (hval 1 45 v1 rfl rfl) h1
  obtain ⟨k, rfl, rfl, _, wk⟩ := open_string Try.underlying9 (hval 2 9 v2 rfl rfl) h2
  clear hA0 hval0 hval
  refine (walk v0 l o k W hl).mono fun e W' ⟨he, bel⟩ => ?_
  subst he
  exact ⟨_, rfl, _, _, _, [], _, [], hW', trodAll_mk1 (shut_bool Try.underlying4 _), (trodAll_cons_mk (Below.trod laid_prog (by kernel_rfl) (of_decide_eq_true (by kernel_rfl)) k0 bel lt0) (trodAll_cons_mk (Below.trod laid_prog (by kernel_rfl) (of_decide_eq_true (by kernel_rfl)) k1 bel lt1) (trodAll_cons_mk (Below.trod laid_prog (by kernel_rfl) (of_decide_eq_true (by kernel_rfl)) k2 bel lt2) trodAll_mk0))), rfl, bel.frame _, fun h => by cases h⟩

set_option maxRecDepth 100000 in
theorem lifted (os : Os) (started : os.Started) (H : Type) (enc : TypeId × Value → H) :
    ReturnsInHanded {} Try.checked os 4 .any (Rows.histPutsSpec.pre6 enc Try.prog Try.f4 Rows.histPutsRow.domain false) (Rows.histPutsSpec.post enc Try.prog Try.f4 false true false false) := by
  refine returnsInHanded_of_change (C := Try.checked) own_prog started (by kernel_rfl) Try.func4
    (ChangeSpec.witness6 (enc := enc) (C := Try.checked) false ⟨#[], #[.slice none 0 0, .agg #[.string ⟨#[]⟩, .string ⟨#[]⟩, .bool false], .string ⟨#[]⟩], []⟩ 8 (by kernel_rfl) (by kernel_rfl) (by kernel_rfl) (by kernel_rfl)) ?_
  intro W base args ds gs before hval hW _ _
  exact contract H enc W base args ds gs before hval hW

theorem proved : Rows.HistPutsSaid :=
  OpenClaim.holds_of_wide 4 Try.f4 rfl rfl rfl rfl rfl rfl rfl ⟨rfl, rfl, rfl, rfl, rfl⟩ rfl rfl rfl rfl rfl (by kernel_rfl) Try.func4 (by kernel_rfl)
    (of_decide_eq_true (by kernel_rfl)) (by unfold Func.isWrapper; first | (rw [if_pos (by decide +kernel)]; kernel_rfl) | (rw [if_neg (by decide +kernel)]; exact ⟨rfl, rfl⟩))
    (fun os started H enc _ => lifted os started H enc)

end Go.Proofs.Ytpahencocbahgaa.lawHistPuts
