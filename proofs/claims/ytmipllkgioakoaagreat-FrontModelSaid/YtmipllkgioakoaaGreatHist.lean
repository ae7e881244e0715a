/- PACKAGE hist: forget: contract
PACKAGE hist: Compact: contract
PACKAGE hist: Copy: contract
PACKAGE hist: its contracts, gathered -/
import Derived.Test.YtmipllkgioakoaaGreatHistOne
import Derived.Test.YtmipllkgioakoaaGreatEvLst
import Derived.Test.YtmipllkgioakoaaGreatHistApply
import Derived.Test.YtmipllkgioakoaaGreatHistRead
namespace Go.Proofs.YtmipllkgioakoaaGreat
open Go.RowKit Go.Maps
set_option linter.unusedVariables false
set_option linter.unusedSimpArgs false

theorem not_map {κ : Type} {P : Program} {k : TypeId} {K : KeyD κ} {ok : Value → Bool} {w : World} {b n : Nat} {M : κ → Option Value} {v : Value} {l : List Ev} (h : EvAt w v l) (hm : MapG P k K ok w b n M) : ∀ g, v.ownBlock = some g → g ≠ b := by
  rintro g hg rfl
  obtain ⟨cur, hc⟩ := at_tag h hg
  obtain ⟨es, c, hd⟩ := hm.isMap
  rw [hd] at hc; cases hc
/-- what forget leaves -/
def Forgot (w : World) (p : Nat) (S : List Nat) (rows : List (List Ev)) (hor : Nat) (V : ByteArray → List Ev) (rm km n1 n2 : Nat) (R : Int → Option Value) (k : ByteArray) (w' : World) : Prop :=
  ∃ S' n2' M', HsAt w' p S' rows hor (fun z => if z = k then fromV (V k) hor else V z) rm km n1 n2' R M' ∧ n2' ≤ n2 + 1 ∧ Fr S w w' ∧ Grow S S' w
set_option maxRecDepth 100000 in
set_option maxHeartbeats 4000000 in
theorem hist_forget {w : World} {p : Nat} {S : List Nat} {rows : List (List Ev)} {hor : Nat} {V : ByteArray → List Ev} {rm km n1 n2 : Nat} {R : Int → Option Value} {M : ByteArray → Option Value} (h : HsAt w p S rows hor V rm km n1 n2 R M) (k : ByteArray) (hk : k.size ≤ maxLen) (hV : (V k).length ≤ many) (hn2 : n2 ≤ 1000000) :
    Calls Tryz.prog 40 #[.pointer (some ⟨p, 0, none⟩), .string k] w fun e w' => e = .returned (.tuple #[]) ∧ Forgot w p S rows hor V rm km n1 n2 R k w' := by
  obtain ⟨c0, c1, c2, c3, _⟩ := cells4 h.blk
  obtain ⟨v, hv⟩ : ∃ v, v = (M k).getD (.slice none 0 0) := ⟨_, rfl⟩
  have hat := h.get k
  rw [← hv] at hat
  have hlk : ∀ X, Fr [] w X → (Instr.lookup 69 (.map (some km)) (.string k) false).run Tryz.prog X = .ok v X := fun X hX => by
    rw [hv]; exact (h.kmap.keep hX (by simp)).look KS keys_map (zero_vers _) rfl hk
  have k1 := hlk w.drew ((Fr.refl [] w).drew)
  obtain ⟨L, hL⟩ : ∃ L, L = fromV (V k) hor := ⟨_, rfl⟩
  have HC : Hid (∀ X, Fr [] w X → Calls Tryz.prog 57 #[v, .int .i64 hor] X fun e w' => ∃ v', e = .returned v' ∧ OutAt Ev.cells 63 4 X w' v' L ∧ Fr [] X w') :=
    Lib.hid (fun X hX => by rw [hL]; exact ver_from v (V k) hor X (LAt.keep0 hat hX) hV)
  have HH := Lib.hid h
  have HL := Lib.hid hL
  have HV := Lib.hid hv
  have HCELL : Hid (∀ X, Fr [] w X → X.cell? ⟨p, 0, none⟩ = some (.int .i64 hor) ∧ X.cell? ⟨p, 3, none⟩ = some (.map (some km))) := Lib.hid (fun X hX => ⟨hX.cell c0 (by simp), hX.cell c3 (by simp)⟩)
  clear h hat hlk hV hL hv
  go_enter Tryz.func40, Tryz.ntmps40
  go_wp2_with fail
  go_region_held3 (fun w' => w'.cell? ⟨p, 0, none⟩ = some (.int .i64 hor) ∧ w'.cell? ⟨p, 3, none⟩ = some (.map (some km))) (first | go_keep | assumption) (first
    | (go_at_call 26; refine (span_hor (r := hor) (by assumption)).mono ?_; rintro e w1 ⟨rfl, rfl⟩)
    | (go_at_call 57; refine (HC.out _ (Fr.refl [] w).drew).mono ?_; rintro e w1 ⟨v1, rfl, ho1, hf1⟩; have hfw := (Fr.refl [] w).drew.trans hf1 (by simp); have q := HCELL.out w1 hfw; have HO1 := Lib.hid ho1; have HF1 := Lib.hid hfw; clear ho1 hf1 hfw))
  all_goals
    obtain ⟨s1, d1, rfl, la1, ma1⟩ := HO1.out.lies.form
    unfold maxLen at ma1
    have HH1 := Lib.hid (HH.out.keep HF1.out (by simp))
    have HKM := Lib.hid HH1.out.kmap
    obtain ⟨q0, q3⟩ := q
    rename_i hheld
    clear hheld c0 c1 c2 c3 k1 HC HCELL
    by_cases hz : L = []
    · subst hz
      go_wp2_with (at_delete; refine go_stop ?_)
      unfold Stop
      refine wpList_delete_G rfl _ _ 69 rfl strD KS isSl 75 keys_map km n2 M rfl HKM.out k rfl hk ?dl
      case dl =>
      intro w5 hm5 hf5
      have hres : Forgot w p S rows hor V rm km n1 n2 R k w5 := by
        have h5 := HH1.out.kdel hf5 hm5
        refine ⟨S, n2, (fun z => if z = k then none else M z), ?_, by omega, (HF1.out.mono (by simp)).trans (hf5.mono (T := S) (fun x hx => Or.inl (by rw [List.mem_singleton.1 hx]; exact HH1.out.ks))) (fun x hx => Or.inl hx), Grow.refl _ _⟩
        rw [← HL.out]; exact h5
      have HRES := Lib.hid hres
      clear hm5 hf5 hres
      go_wp2
      refine bodyPost_ret (v := .tuple #[]) (by simp [results, Tryz.results40, go_sem]) rfl ?_
      exact ⟨rfl, HRES.out⟩
    · have hl0 : 0 < L.length := List.length_pos_iff.2 hz
      have t0 : ¬ ((L.length : Int) = 0) := by omega
      have t00 : ¬ (L.length = 0) := by omega
      have HZ := Lib.hid hz
      clear hz
      obtain ⟨w5, hst, hm5, hf5⟩ := HKM.out.store (t := 69) (E := 75) KS keys_map (by unfold maxLen; omega) (e := k) hk (x := .slice s1 L.length d1) rfl
      simp only [strD] at hst
      have hres : Forgot w p S rows hor V rm km n1 n2 R k w5 := by
        have hlm : EvAt w5 (.slice s1 L.length d1) L := HO1.out.lies.keep hf5 (fun g hg => by
          have := not_map HO1.out.lies HKM.out g hg
          simpa using this)
        have h5 := HH.out.kput (key := k) (v0 := v) HV.out hlm (fun g hg => Or.inr (by simpa using HO1.out.new g hg)) ((HF1.out.mono (by simp)).trans (hf5.mono (T := km :: v.ownBlock.toList) (by simp)) (fun x hx => Or.inl hx)) hm5
        refine ⟨S ++ (Value.slice s1 L.length d1).ownBlock.toList, n2 + 1, (fun z => if z = k then some (.slice s1 L.length d1) else M z), ?_, Nat.le_refl _, (HF1.out.mono (by simp)).trans (hf5.mono (T := S) (fun x hx => Or.inl (by rw [List.mem_singleton.1 hx]; exact HH1.out.ks))) (fun x hx => Or.inl hx), fun x hx => ?_⟩
        · rw [← HL.out]; exact h5
        · rcases List.mem_append.1 hx with hx | hx
          · exact Or.inl hx
          · have := HO1.out.new x (Option.mem_toList.1 hx)
            exact Or.inr (by simpa using this)
      have HRES := Lib.hid hres
      clear hm5 hf5 hres
      go_wp2
      go_end0
      exact ⟨rfl, HRES.out⟩
end Go.Proofs.YtmipllkgioakoaaGreat
namespace Go.Proofs.YtmipllkgioakoaaGreat
open Go.RowKit Go.Maps
set_option linter.unusedVariables false
set_option linter.unusedSimpArgs false

/-! the keys of a list are raised -/
def VJ (rows : List (List Ev)) (hor c : Nat) (l : List Ev) (k : ByteArray) : List Ev := if l.any (fun e => decide (e.key = k)) = true then fromV (versN rows hor k) c else versN rows hor k
theorem take_one {α : Type} {m : List α} {j : Nat} {x : α} (hx : m[j]? = some x) : m.take (j + 1) = m.take j ++ [x] := by
  rw [List.take_add_one, hx]; rfl
theorem VJ.nil (rows : List (List Ev)) (hor c : Nat) (k : ByteArray) : VJ rows hor c [] k = versN rows hor k := by unfold VJ; simp
theorem VJ.step {rows : List (List Ev)} {hor c : Nat} {l : List Ev} {j : Nat} {x : Ev} (hx : l[j]? = some x) : (fun z => if z = x.key then fromV (VJ rows hor c (l.take j) x.key) c else VJ rows hor c (l.take j) z) = VJ rows hor c (l.take (j + 1)) := by
  funext z
  have h1 : (l.take (j + 1)).any (fun e => decide (e.key = z)) = ((l.take j).any (fun e => decide (e.key = z)) || decide (x.key = z)) := by rw [take_one hx, List.any_append]; simp
  by_cases hz : z = x.key
  · subst hz
    rw [if_pos rfl]
    unfold VJ
    rw [h1]
    rw [if_pos (show ((l.take j).any (fun e => decide (e.key = x.key)) || decide (x.key = x.key)) = true by simp)]
    split
    · rw [fromV_fromV (Int.le_refl _)]
    · rfl
  · rw [if_neg hz]
    unfold VJ
    rw [h1, show decide (x.key = z) = false by simpa using fun e => hz e.symm, Bool.or_false]
theorem VJ.len (rows : List (List Ev)) (hor c : Nat) (l : List Ev) (k : ByteArray) : (VJ rows hor c l k).length ≤ rows.flatten.length := by
  unfold VJ
  split
  · exact Nat.le_trans (fromV_len _ _) (vers_len _ _ _)
  · exact vers_len _ _ _
theorem VJ.all {rows : List (List Ev)} {hor c : Nat} (h : HWf rows) (hc : hor ≤ c) (k : ByteArray) : versN rows c k = VJ rows hor c (lastE (goneN rows hor c)) k := by
  unfold VJ
  split
  · exact (vers_raise hc k).symm
  · rename_i hn
    refine (vers_stay h hc fun e he hk => hn ?_).symm
    cases hl : lastOf k (goneN rows hor c) with
    | none => exact absurd hk (lastOf_none.1 hl e he)
    | some y =>
      have hy := lastOf_some hl
      rw [List.any_eq_true]
      exact ⟨y, (mem_lastE _ _).2 (by rw [hy.2]; exact hl), by simpa using hy.2⟩
section
variable {w w' w2 : World} {p : Nat} {S : List Nat} {rows : List (List Ev)} {hor : Nat} {V : ByteArray → List Ev} {rm km n1 n2 : Nat} {R : Int → Option Value} {M : ByteArray → Option Value}
/-- the horizon is one higher; other blocks may change -/
theorem HsAt.rdelT (h : HsAt w p S rows hor V rm km n1 n2 R M) {m1 : Nat} {T : List Nat} (hf : Fr T w w2) (hT : ∀ k ∈ T, k = p ∨ k = rm ∨ k ∉ S)
    (hb : w2.heap[p]? = some (.cells #[.int .i64 ((hor : Int) + 1), .int .i64 rows.length, .map (some rm), .map (some km)] 73 (0, 0)))
    (hm : MapG Tryz.prog 3 intD isSl w2 rm m1 (fun z => if z = (hor : Int) + 1 then none else R z)) :
    HsAt w2 p S rows (hor + 1) V rm km m1 n2 (fun z => if z = (hor : Int) + 1 then none else R z) M := by
  have out : ∀ g, g ∈ S → g ≠ p → g ≠ rm → g ∉ T := fun g h1 h2 h3 hm => by
    rcases hT g hm with h4 | h4 | h4
    · exact h2 h4
    · exact h3 h4
    · exact h4 h1
  have sub : ∀ e v, (if e = (hor : Int) + 1 then none else R e) = some v → e ≠ (hor : Int) + 1 ∧ R e = some v := fun e v he => by
    by_cases hee : e = (hor : Int) + 1
    · rw [if_pos hee] at he; cases he
    · rw [if_neg hee] at he; exact ⟨hee, he⟩
  refine ⟨by rw [hb]; simp, hm, h.kmap.keep hf (out _ h.ks h.kp h.ne.symm), ?_, ?_, h.kno, fun k v hk => (h.kyes k v hk).keep hf (fun g hg => out g (h.kS k v g hk hg) (h.kfar hk hg).1 (h.kfar hk hg).2.1), h.apart, ?_, ?_, h.kS, h.ps, h.rs, h.ks, h.ne, fun k hk => Nat.lt_of_lt_of_le (h.lt k hk) hf.size⟩
  · intro e v he
    obtain ⟨g1, g2⟩ := sub e v he
    obtain ⟨i, r, h1, h2, h3, h4⟩ := h.ronly e v g2
    exact ⟨i, r, h1, by omega, h3, h4.keep hf (fun g hg => out g (h.rS e v g g2 hg) (h.rfar g2 hg).1 (h.rfar g2 hg).2.1)⟩
  · intro i h1 h2
    rw [if_neg (by omega)]
    exact h.rhas i (by omega) h2
  · intro e v k v' g he hk hg hg'
    exact h.cross e v k v' g (sub e v he).2 hk hg hg'
  · intro e v g he hg
    exact h.rS e v g (sub e v he).2 hg
end

set_option maxRecDepth 100000 in
set_option maxHeartbeats 4000000 in
theorem hist_compact {w : World} {p : Nat} {S : List Nat} {H : HA} {n : Nat} (rev : Int) (h : Hs w p S H) (hk : HOk H n) (hn : n ≤ 1000) : Calls Tryz.prog 19 #[.pointer (some ⟨p, 0, none⟩), .int .i64 rev] w fun e w' =>
    ∃ S', e = .returned (.int .i64 (H.comE rev)) ∧ Hs w' p S' (H.com rev) ∧ Fr S w w' ∧ Grow S S' w := by
  have HS0 := Lib.hid h
  have hfl : H.rows.flatten.length ≤ 100000 := by have := hk.flat; omega
  have hhor := hk.hor
  have hrl : H.rows.length ≤ 1000 := by have := hk.rev; omega
  obtain ⟨hwf, rm, km, n1, n2, R, M, b1, b2, h⟩ := h
  have hb22 : n2 ≤ 200000 := by
    have h1 := congrArg List.length (congrArg List.flatten (List.take_append_drop H.hor H.rows))
    rw [List.flatten_append, List.length_append] at h1
    omega
  have hmm := @run_makeMap Tryz.prog
  have HZ := Lib.hid (comE_zero (H := H) (rev := rev))
  by_cases hneg : rev < 0
  · have t1 : decide (rev < 0) = true := by simpa using hneg
    have HE : Hid (H.comE rev = 1) := Lib.hid (by unfold HA.comE; rw [if_pos hneg])
    have HC : Hid (H.com rev = H) := Lib.hid (by unfold HA.com; rw [HE.out, if_neg (by decide)])
    clear h b2
    go_enter Tryz.func19, Tryz.ntmps19
    go_wp2
    go_ret
    exact ⟨S, (by rw [HE.out]; rfl), by rw [HC.out]; exact HS0.out, Fr.refl _ _, Grow.refl _ _⟩
  · have t1 : decide (rev < 0) = false := by simpa using hneg
    obtain ⟨m, rfl⟩ := Int.eq_ofNat_of_zero_le (show 0 ≤ rev by omega)
    obtain ⟨c0, c1, c2, c3, _⟩ := cells4 h.blk
    by_cases hgt : H.rows.length < m
    · have t2 : decide ((H.rows.length : Int) < (m : Int)) = true := by simpa using hgt
      have HE : Hid (H.comE m = 6) := Lib.hid (by unfold HA.comE; rw [if_neg hneg, if_pos (by omega)])
      have HC : Hid (H.com m = H) := Lib.hid (by unfold HA.com; rw [HE.out, if_neg (by decide)])
      clear h b2 hneg
      go_enter Tryz.func19, Tryz.ntmps19
      go_wp2_with (go_at_call 32; refine (span_last c1).mono ?_; rintro e w1 ⟨rfl, rfl⟩)
      go_ret
      exact ⟨S, (by rw [HE.out]; rfl), by rw [HC.out]; exact HS0.out, Fr.refl _ _, Grow.refl _ _⟩
    · have t2 : decide ((H.rows.length : Int) < (m : Int)) = false := by simpa using hgt
      have HE : Hid (H.comE m = 0) := Lib.hid (comE_zero.2 ⟨by omega, by omega⟩)
      have HC : Hid (H.com m = ⟨H.rows, max H.hor m⟩) := Lib.hid (by unfold HA.com; rw [HE.out, if_pos rfl]; simp)
      obtain ⟨rows, hor⟩ := H
      dsimp only at *
      have hml : m ≤ rows.length := by omega
      have HH := Lib.hid h
      have HW := Lib.hid hwf
      have HB2 := Lib.hid b2
      have HSL := Lib.hid h.lt
      clear h b2 hneg hwf
      go_enter Tryz.func19, Tryz.ntmps19
      go_wp2_with (go_at_call 32; refine (span_last c1).mono ?_; rintro e w1 ⟨rfl, rfl⟩)
      clear c0 c1 c2 c3
      go_loopw [5] (fun v wr => ∃ (c : Nat) (R' : Int → Option Value), hor ≤ c ∧ (c ≤ m ∨ c = hor) ∧ HsAt wr p S rows c (versN rows hor) rm km n1 n2 R' M ∧ OutAt Ev.cells 63 4 w wr v (goneN rows hor c) ∧ Fr S w wr) (fun _ wr => m - (intOf ((wr.cell? ⟨p, 0, none⟩).getD undef)).toNat)
      case atStart => exact ⟨hor, R, Nat.le_refl _, Or.inr rfl, HH.out, by rw [gone_self]; exact OutAt.nil _ _, Fr.refl _ _⟩
      case round =>
        obtain ⟨c, R', hc1, hc2, h, ho, hf⟩ := hrel
        obtain ⟨c0, c1, c2, c3, cf⟩ := cells4 h.blk
        have cf0 := cf 0
        have HH1 := Lib.hid h
        have HO1 := Lib.hid ho
        have HF1 := Lib.hid hf
        clear h ho hf cf
        by_cases hlt : c < m
        · have t3 : decide ((c : Int) < (m : Int)) = true := by simpa using hlt
          go_wp2_with (first
            | (go_at_call 26; refine (span_hor (r := c) c0).mono ?_; rintro e w1 ⟨rfl, rfl⟩)
            | (go_at_call 38; refine (span_raise (r := c) c0 cf0 ⟨by omega, by omega⟩).mono ?_; rintro e w1 ⟨rfl, rfl⟩; refine go_stop ?_))
          unfold Stop
          have hwl := Lib.hid HH1.out.lt
          have hsl := Lib.hid HF1.out.size
          have HPB : Hid ((wr.setCell ⟨p, 0, none⟩ (.int .i64 ((c : Int) + 1))).heap[p]? = some (.cells #[.int .i64 ((c : Int) + 1), .int .i64 rows.length, .map (some rm), .map (some km)] 73 (0, 0))) := Lib.hid (by simpa using set_block HH1.out.blk 0 (.int .i64 ((c : Int) + 1)))
          have HFP : Hid (Fr [p] wr (wr.setCell ⟨p, 0, none⟩ (.int .i64 ((c : Int) + 1)))) := Lib.hid ((Fr.refl [p] wr).setCell (p := ⟨p, 0, none⟩) (Or.inl (by simp)) _)
          clear c0 c1 c2 c3 cf0
          generalize wr.setCell ⟨p, 0, none⟩ (.int .i64 ((c : Int) + 1)) = ws at *
          obtain ⟨r, hr⟩ : ∃ r, rows[c]? = some r := ⟨_, List.getElem?_eq_getElem (show c < rows.length by omega)⟩
          obtain ⟨u, hu⟩ := Option.isSome_iff_exists.1 (HH1.out.rhas c (Nat.le_refl _) (by omega))
          have hua : EvAt wr u r := by
            obtain ⟨i, r', g1, _, g3, g4⟩ := HH1.out.ronly _ u hu
            obtain rfl : i = c := by omega
            rw [hr] at g3; cases g3; exact g4
          have huo : ∀ g, u.ownBlock = some g → g ∉ [p] := fun g hg => by simpa using (HH1.out.rfar hu hg).1
          have hua2 := hua.keep HFP.out huo
          have hlk := (HH1.out.rmap.keep HFP.out (by simpa using HH1.out.rp)).look (t := 68) (E := 50) KI rows_map (zero_evs _) rfl (e := (c : Int) + 1) (KI_ok (by omega) (by omega))
          rw [hu] at hlk
          simp only [intD, Option.getD_some] at hlk
          obtain ⟨c0, c1, c2, c3, _⟩ := cells4 HPB.out
          have hov : ∀ g ∈ u5.ownBlock.toList, w.heap.size ≤ g := fun g hg => HO1.out.new g (Option.mem_toList.1 hg)
          have hvp : ∀ g, u5.ownBlock = some g → g ∉ [p] := fun g hg hm => by
            obtain rfl := List.mem_singleton.1 hm
            have := HO1.out.new _ hg; have := HSL.out _ HH1.out.ps; omega
          have ho2 : Lies ws 63 4 u5 (goneN rows hor c).length (allC Ev.cells (goneN rows hor c)) := HO1.out.lies.keep HFP.out hvp
          have hgl := gone_len rows hor c
          have hgr := gone_len rows hor (c + 1)
          have hgs := gone_step (a := hor) hr hc1
          have hrl2 : (goneN rows hor c).length + r.length ≤ 100000 := by rw [hgs, List.length_append] at hgr; omega
          have HGS := Lib.hid hgs
          have HUA := Lib.hid hua2
          have HO2 := Lib.hid ho2
          have HOV := Lib.hid hov
          clear hr hu hua huo hua2 hvp ho2 hgs hov
          go_wp2_with (at_builtin; refine wpList_append_any rfl (.tmp 31) (.tmp 37) 50 63 (.agg #[.int .i64 0, .string ⟨#[]⟩, .string ⟨#[]⟩, .bool false]) 4 48 rfl ev_slice ev_info rfl (by decide) _ (goneN rows hor c).length (allC Ev.cells (goneN rows hor c)) rfl HO2.out u r.length (allC Ev.cells r) rfl HUA.out (allC_ones Ev.cone r) (by unfold maxLen; omega) (by omega) ?app)
          case app =>
          intro v2 w2 h1 h2 h3
          have hp2 : p ∉ u5.ownBlock.toList := fun hm => by have := HOV.out p hm; have := HSL.out _ HH1.out.ps; omega
          have hr2 : rm ∉ u5.ownBlock.toList := fun hm => by have := HOV.out rm hm; have := HSL.out _ HH1.out.rs; omega
          have HB2' := Lib.hid (h2.keep HPB.out hp2)
          obtain ⟨d0, d1, d2, d3, _⟩ := cells4 HB2'.out
          have HM2 := Lib.hid ((HH1.out.rmap.keep HFP.out (by simpa using HH1.out.rp)).keep h2 hr2)
          have HL2 := Lib.hid h1
          have HF2 : Hid (Fr (p :: u5.ownBlock.toList) wr w2) := Lib.hid ((HFP.out.mono (by simp)).trans h2 (fun k hk => Or.inl (by simp [Option.mem_toList.1 hk])))
          have HN2 : Hid (∀ k, v2.ownBlock = some k → w.heap.size ≤ k) := Lib.hid (fun k hk => by
            rcases h3 k hk with h4 | h4
            · exact HOV.out k (by simp [h4])
            · have := HFP.out.size; have := hsl.out; omega)
          clear h1 h2 h3 hp2 hr2 c0 c1 c2 c3 hlk
          go_wp2_with (at_delete; refine go_stop ?_)
          unfold Stop
          refine wpList_delete_G rfl _ _ 68 rfl intD KI isSl 50 rows_map rm n1 R' rfl HM2.out ((c : Int) + 1) rfl (KI_ok (by omega) (by omega)) ?dl
          case dl =>
          intro w5 hm5 hf5
          dsimp only [Act.put]
          have hT : Fr (p :: rm :: u5.ownBlock.toList) wr w5 := (HF2.out.mono (fun k hk => by
            rcases List.mem_cons.1 hk with rfl | hk
            · exact Or.inl (by simp)
            · exact Or.inl (by simp [Option.mem_toList.1 hk]))).trans hf5 (fun k hk => Or.inl (by simp at hk; simp [hk]))
          have h5 := HH1.out.rdelT hT (fun k hk => by
            rcases List.mem_cons.1 hk with rfl | hk
            · exact Or.inl rfl
            · rcases List.mem_cons.1 hk with rfl | hk
              · exact Or.inr (Or.inl rfl)
              · exact Or.inr (Or.inr (fun hm => by have := HOV.out k hk; have := HSL.out k hm; omega))) (hf5.keep HB2'.out (by simpa using HH1.out.rp.symm)) hm5
          have hO5 : OutAt Ev.cells 63 4 w w5 v2 (goneN rows hor (c + 1)) := by
            rw [HGS.out]
            refine ⟨?_, HN2.out⟩
            unfold LAt
            rw [allC_app, List.length_append]
            exact HL2.out.keep hf5 (fun k hk hm => by
              obtain rfl := List.mem_singleton.1 hm
              have := HN2.out _ hk; have := HSL.out _ HH1.out.rs; omega)
          have HH5 := Lib.hid h5
          have HO5 := Lib.hid hO5
          have HF5 : Hid (Fr S w w5) := Lib.hid (HF1.out.trans hT (fun k hk => by
            rcases List.mem_cons.1 hk with rfl | hk
            · exact Or.inl HH1.out.ps
            · rcases List.mem_cons.1 hk with rfl | hk
              · exact Or.inl HH1.out.rs
              · exact Or.inr (HOV.out k hk)))
          clear hm5 hf5 hT h5 hO5 d0 d1 d2 d3
          go_wp2_with fail
          go_roundw
          case rel => exact ⟨c + 1, _, by omega, by omega, HH5.out, HO5.out, HF5.out⟩
          case measure =>
            rw [(cells4 HH5.out.blk).1, (cells4 HH1.out.blk).1]
            simp [intOf]; omega
        · have t3 : decide ((c : Int) < (m : Int)) = false := by simpa using hlt
          go_wp2_with (first
            | (go_at_call 26; refine (span_hor (r := c) c0).mono ?_; rintro e w1 ⟨rfl, rfl⟩))
          obtain ⟨rfl⟩ : c = max hor m := by omega
          obtain ⟨c, hc⟩ : ∃ c, c = max hor m := ⟨_, rfl⟩
          rw [← hc] at HH1 HO1
          have hgl := gone_len rows hor c
          have HLST : Hid (∀ X v, EvIn X v (goneN rows hor c) → Calls Tryz.prog 39 #[v] X fun e w' => ∃ v, e = .returned v ∧ EvIn w' v (lastE (goneN rows hor c)) ∧ Fr [] X w' ∧ ∀ k, v.ownBlock = some k → X.heap.size ≤ k) := Lib.hid (fun X v hv => event_last_new v _ X hv (by unfold many; omega))
          have hll := lastE_len (goneN rows hor c)
          have HTG : Hid ((rows.take c).flatten.length = (rows.take hor).flatten.length + (goneN rows hor c).length) := Lib.hid (take_gone (by omega))
          have HVA : Hid (∀ k, versN rows c k = VJ rows hor c (lastE (goneN rows hor c)) k) := Lib.hid (fun k => VJ.all HW.out (by omega) k)
          have HRD : Hid (EvIn wr u5 (goneN rows hor c)) := Lib.hid (LAt.read HO1.out.lies Ev.clen)
          have HHC := Lib.hid hc
          generalize lastE (goneN rows hor c) = ll at *
          clear c0 c1 c2 c3 cf0 hc1 hc2 hlt t3 hc
          go_wp2_with (go_at_call 39; refine (HLST.out _ _ HRD.out).mono ?_; rintro e w1 ⟨v1, rfl, hl1, hf1, hn1⟩; refine go_stop ?_)
          unfold Stop
          obtain ⟨s1, d1, rfl, la1, ma1⟩ := hl1.form
          unfold maxLen at ma1
          have HF2 := Lib.hid (HF1.out.trans hf1 (by simp))
          have HH2 := Lib.hid (HH1.out.keep hf1 (by simp))
          have HL2 := Lib.hid (LFar.of_new (S := S) hl1 hn1 HH1.out.lt)
          clear hl1 hf1 hn1 HH1 HO1 HF1 HRD HLST
          go_wp2_with fail
          go_loopw [47] (fun i wr => ∃ (j : Nat) (S' : List Nat) (n2' : Nat) (M' : ByteArray → Option Value), i = .int .i64 j ∧ j ≤ ll.length ∧ HsAt wr p S' rows c (VJ rows hor c (ll.take j)) rm km n1 n2' R' M' ∧ n2' ≤ n2 + j ∧ LFar S' Ev.cells 4 wr (.slice s1 ll.length d1) ll ∧ Fr S w wr ∧ Grow S S' w) (fun i _ => ll.length - (intOf i).toNat)
          case atStart => exact ⟨0, S, n2, M, rfl, Nat.zero_le _, HH2.out.vers (fun k => VJ.nil _ _ _ _), Nat.le_refl _, HL2.out, HF2.out, Grow.refl _ _⟩
          case round =>
            clear HH2 HF2 HL2
            obtain ⟨j, S2, n3, M3, rfl, hj, h3, hn3, hl3, hf3, hg3⟩ := hrel
            have HH3 := Lib.hid h3
            have HL3 := Lib.hid hl3
            have HF3 := Lib.hid hf3
            have HG3 := Lib.hid hg3
            clear h3 hl3 hf3 hg3
            by_cases h : j < ll.length
            · obtain ⟨x, hx⟩ : ∃ x, ll[j]? = some x := ⟨_, List.getElem?_eq_getElem h⟩
              obtain ⟨g, off, d2, e1, _, l1, k1⟩ := EvIn.here HL3.out.lin (by omega)
              simp only [Value.slice.injEq] at e1
              obtain ⟨rfl, _, rfl⟩ := e1
              obtain ⟨p0, p1, p2, p3⟩ := k1 j x hx
              have t1 : decide (j < ll.length) = true := by simpa using h
              have HST := Lib.hid (VJ.step (rows := rows) (hor := hor) (c := c) hx)
              have hal : ∀ Z, Fr [] wr (wr.alloc Z) := fun Z => (Fr.refl [] wr).alloc Z
              have HFG : Hid (∀ Z, Calls Tryz.prog 40 #[.pointer (some ⟨p, 0, none⟩), .string x.key] (wr.alloc Z) fun e w' => e = .returned (.tuple #[]) ∧ Forgot (wr.alloc Z) p S2 rows c (VJ rows hor c (ll.take j)) rm km n1 n3 R' x.key w') :=
                Lib.hid (fun Z => hist_forget (HH3.out.keep (hal Z) (by simp)) x.key x.wf.1 (Nat.le_trans (VJ.len _ _ _ _ _) (by unfold many; omega)) (by omega))
              have HAL := Lib.hid hal
              clear hx k1 hal
              go_wp2_with (go_at_call 40; refine (HFG.out _).mono ?_; rintro e w5 ⟨rfl, S4, n4, M4, h4, hn4, hf4, hg4⟩; refine go_stop ?_)
              unfold Stop
              rw [HST.out] at h4
              have HH4 := Lib.hid h4
              have HL4 := Lib.hid ((HL3.out.keep0 (HAL.out _)).step hf4 hg4)
              have HF4 := Lib.hid ((HF3.out.trans (HAL.out _) (by simp)).trans hf4 HG3.out)
              have HG4 : Hid (Grow S S4 w) := Lib.hid (HG3.out.trans hg4 (HF3.out.trans (HAL.out _) (by simp)).size)
              clear h4 hf4 hg4 HFG HST
              go_wp2_with fail
              go_roundw
              case rel => exact ⟨j + 1, S4, n4, M4, by go_num, by omega, HH4.out, by omega, HL4.out, HF4.out, HG4.out⟩
              case measure => simp [intOf]; omega
            · have t1 : decide (j < ll.length) = false := by simpa using h
              obtain rfl : j = ll.length := by omega
              go_wp2
              go_ret
              refine ⟨S2, (by rw [HE.out]; rfl), ?_, HF3.out, HG3.out⟩
              rw [HC.out]
              have h3 := HH3.out
              rw [List.take_length] at h3
              rw [← HHC.out]
              refine ⟨HW.out, rm, km, n1, n3, R', M3, b1, ?_, h3.vers HVA.out⟩
              have := HB2.out
              have := HTG.out
              show n3 ≤ rows.flatten.length + (rows.take c).flatten.length
              omega
end Go.Proofs.YtmipllkgioakoaaGreat
namespace Go.Proofs.YtmipllkgioakoaaGreat
open Go.RowKit Go.Maps
set_option linter.unusedVariables false
set_option linter.unusedSimpArgs false

/-- a Hist that is being copied to: what is still left to come -/
structure Cp (w : World) (p : Nat) (S : List Nat) (rows : List (List Ev)) (hor : Nat) (V : ByteArray → List Ev) (lr : Int → Bool) (lk : ByteArray → Bool) (rm km n1 n2 : Nat) (R : Int → Option Value) (M : ByteArray → Option Value) : Prop where
  blk : w.heap[p]? = some (.cells #[.int .i64 hor, .int .i64 rows.length, .map (some rm), .map (some km)] 73 (0, 0))
  rmap : MapG Tryz.prog 3 intD isSl w rm n1 R
  kmap : MapG Tryz.prog 9 strD isSl w km n2 M
  ronly : ∀ e v, R e = some v → ∃ (i : Nat) (r : List Ev), e = (i : Int) + 1 ∧ hor ≤ i ∧ rows[i]? = some r ∧ EvAt w v r
  rhas : ∀ i : Nat, hor ≤ i → i < rows.length → lr ((i : Int) + 1) = false → (R ((i : Int) + 1)).isSome = true
  kno : ∀ k, lk k = false → M k = none → V k = []
  kyes : ∀ k v, M k = some v → EvAt w v (V k)
  apart : ∀ k k' v v' g, M k = some v → M k' = some v' → v.ownBlock = some g → v'.ownBlock = some g → k = k'
  cross : ∀ e v k v' g, R e = some v → M k = some v' → v.ownBlock = some g → v'.ownBlock = some g → False
  rS : ∀ e v g, R e = some v → v.ownBlock = some g → g ∈ S
  kS : ∀ k v g, M k = some v → v.ownBlock = some g → g ∈ S
  ps : p ∈ S
  rs : rm ∈ S
  ks : km ∈ S
  ne : rm ≠ km
  lt : ∀ k ∈ S, k < w.heap.size
section
variable {w w' w2 : World} {p : Nat} {S : List Nat} {rows : List (List Ev)} {hor : Nat} {V : ByteArray → List Ev} {lr : Int → Bool} {lk : ByteArray → Bool} {rm km n1 n2 : Nat} {R : Int → Option Value} {M : ByteArray → Option Value}
theorem Cp.done (h : Cp w p S rows hor V lr lk rm km n1 n2 R M) (hr : ∀ i : Nat, i < rows.length → lr ((i : Int) + 1) = false) (hk : ∀ k, V k = [] ∨ lk k = false) : HsAt w p S rows hor V rm km n1 n2 R M :=
  ⟨h.blk, h.rmap, h.kmap, h.ronly, fun i h1 h2 => h.rhas i h1 h2 (hr i h2), fun k hm => (hk k).elim id (fun hl => h.kno k hl hm), h.kyes, h.apart, h.cross, h.rS, h.kS, h.ps, h.rs, h.ks, h.ne, h.lt⟩
theorem Cp.rp (h : Cp w p S rows hor V lr lk rm km n1 n2 R M) : rm ≠ p := by
  rintro rfl; obtain ⟨es, c, hc⟩ := h.rmap.isMap; rw [h.blk] at hc; cases hc
theorem Cp.kp (h : Cp w p S rows hor V lr lk rm km n1 n2 R M) : km ≠ p := by
  rintro rfl; obtain ⟨es, c, hc⟩ := h.kmap.isMap; rw [h.blk] at hc; cases hc
theorem Cp.keep (h : Cp w p S rows hor V lr lk rm km n1 n2 R M) {T : List Nat} (hf : Fr T w w') (hd : ∀ k ∈ S, k ∉ T) : Cp w' p S rows hor V lr lk rm km n1 n2 R M :=
  ⟨hf.keep h.blk (hd _ h.ps), h.rmap.keep hf (hd _ h.rs), h.kmap.keep hf (hd _ h.ks),
   fun e v he => by obtain ⟨i, r, h1, h2, h3, h4⟩ := h.ronly e v he; exact ⟨i, r, h1, h2, h3, h4.keep hf (fun g hg => hd g (h.rS e v g he hg))⟩,
   h.rhas, h.kno, fun k v hk => (h.kyes k v hk).keep hf (fun g hg => hd g (h.kS k v g hk hg)), h.apart, h.cross, h.rS, h.kS, h.ps, h.rs, h.ks, h.ne,
   fun k hk => Nat.lt_of_lt_of_le (h.lt k hk) hf.size⟩
theorem Cp.far (h : Cp w p S rows hor V lr lk rm km n1 n2 R M) {v : Value} {l : List Ev} (hv : EvAt w v l) : ∀ g, v.ownBlock = some g → g ≠ rm ∧ g ≠ km :=
  fun g hg => ⟨not_map hv h.rmap g hg, not_map hv h.kmap g hg⟩
/-- a row more, in new memory -/
theorem Cp.rput (h : Cp w p S rows hor V lr lk rm km n1 n2 R M) {e : Int} {i m1 : Nat} {r : List Ev} {v1 : Value} (he : e = (i : Int) + 1) (hi : hor ≤ i) (hr : rows[i]? = some r) (hl : EvAt w v1 r) (hnew : ∀ g, v1.ownBlock = some g → g ∉ S)
    (hf : Fr [rm] w w2) (hm : MapG Tryz.prog 3 intD isSl w2 rm m1 (fun z => if z = e then some v1 else R z)) :
    Cp w2 p (S ++ v1.ownBlock.toList) rows hor V (fun z => lr z && !decide (z = e)) lk rm km m1 n2 (fun z => if z = e then some v1 else R z) M := by
  have inl : ∀ k, k ∈ S → k ∈ S ++ v1.ownBlock.toList := fun k hk => List.mem_append.2 (Or.inl hk)
  have old : ∀ v l g, EvAt w v l → v.ownBlock = some g → g ∉ [rm] := fun v l g hv hg => by simpa using (h.far hv g hg).1
  refine ⟨hf.keep h.blk (by simpa using h.rp.symm), hm, h.kmap.keep hf (by simpa using h.ne.symm), ?_, ?_, h.kno, fun k v hk => (h.kyes k v hk).keep hf (fun g hg => old v _ g (h.kyes k v hk) hg), h.apart, ?_, ?_, fun k v g hk hg => inl g (h.kS k v g hk hg), inl _ h.ps, inl _ h.rs, inl _ h.ks, h.ne, ?_⟩
  · intro z v hz
    by_cases hee : z = e
    · rw [if_pos hee] at hz; cases hz
      exact ⟨i, r, hee.trans he, hi, hr, hl.keep hf (fun g hg => old _ r g hl hg)⟩
    · rw [if_neg hee] at hz
      obtain ⟨i, r, h1, h2, h3, h4⟩ := h.ronly z v hz
      exact ⟨i, r, h1, h2, h3, h4.keep hf (fun g hg => old v r g h4 hg)⟩
  · intro j h1 h2 h3
    by_cases hjj : (j : Int) + 1 = e
    · rw [if_pos hjj]; rfl
    · rw [if_neg hjj]
      exact h.rhas j h1 h2 (by simpa [hjj] using h3)
  · intro z v k v' g hz hk hg hg'
    by_cases hee : z = e
    · rw [if_pos hee] at hz; cases hz
      exact hnew g hg (h.kS k v' g hk hg')
    · rw [if_neg hee] at hz; exact h.cross z v k v' g hz hk hg hg'
  · intro z v g hz hg
    by_cases hee : z = e
    · rw [if_pos hee] at hz; cases hz; simp [hg]
    · rw [if_neg hee] at hz; exact inl g (h.rS z v g hz hg)
  · intro k hk
    rcases List.mem_append.1 hk with hk | hk
    · exact Nat.lt_of_lt_of_le (h.lt k hk) hf.size
    · exact Nat.lt_of_lt_of_le (hl.lt k (Option.mem_toList.1 hk)) hf.size
/-- a key more, in new memory -/
theorem Cp.kput (h : Cp w p S rows hor V lr lk rm km n1 n2 R M) {e : ByteArray} {m1 : Nat} {v1 : Value} (hl : EvAt w v1 (V e)) (hnew : ∀ g, v1.ownBlock = some g → g ∉ S)
    (hf : Fr [km] w w2) (hm : MapG Tryz.prog 9 strD isSl w2 km m1 (fun z => if z = e then some v1 else M z)) :
    Cp w2 p (S ++ v1.ownBlock.toList) rows hor V lr (fun z => lk z && !decide (z = e)) rm km n1 m1 R (fun z => if z = e then some v1 else M z) := by
  have inl : ∀ k, k ∈ S → k ∈ S ++ v1.ownBlock.toList := fun k hk => List.mem_append.2 (Or.inl hk)
  have old : ∀ v l g, EvAt w v l → v.ownBlock = some g → g ∉ [km] := fun v l g hv hg => by simpa using (h.far hv g hg).2
  refine ⟨hf.keep h.blk (by simpa using h.kp.symm), h.rmap.keep hf (by simpa using h.ne), hm, ?_, h.rhas, ?_, ?_, ?_, ?_, fun k v g hk hg => inl g (h.rS k v g hk hg), ?_, inl _ h.ps, inl _ h.rs, inl _ h.ks, h.ne, ?_⟩
  · intro z v hz
    obtain ⟨i, r, h1, h2, h3, h4⟩ := h.ronly z v hz
    exact ⟨i, r, h1, h2, h3, h4.keep hf (fun g hg => old v r g h4 hg)⟩
  · intro k hk hM
    by_cases hee : k = e
    · rw [if_pos hee] at hM; cases hM
    · rw [if_neg hee] at hM
      exact h.kno k (by simpa [hee] using hk) hM
  · intro k v hk
    by_cases hee : k = e
    · rw [if_pos hee] at hk; cases hk; rw [hee]
      exact hl.keep hf (fun g hg => old _ _ g hl hg)
    · rw [if_neg hee] at hk
      exact (h.kyes k v hk).keep hf (fun g hg => old v _ g (h.kyes k v hk) hg)
  · intro k k' v v' g hk hk' hg hg'
    by_cases h1 : k = e <;> by_cases h2 : k' = e
    · rw [h1, h2]
    · rw [if_pos h1] at hk; rw [if_neg h2] at hk'; cases hk
      exact (hnew g hg (h.kS k' v' g hk' hg')).elim
    · rw [if_neg h1] at hk; rw [if_pos h2] at hk'; cases hk'
      exact (hnew g hg' (h.kS k v g hk hg)).elim
    · rw [if_neg h1] at hk; rw [if_neg h2] at hk'
      exact h.apart _ _ _ _ g hk hk' hg hg'
  · intro z v k v' g hz hk hg hg'
    by_cases hee : k = e
    · rw [if_pos hee] at hk; cases hk
      exact hnew g hg' (h.rS z v g hz hg)
    · rw [if_neg hee] at hk; exact h.cross z v k v' g hz hk hg hg'
  · intro k v g hk hg
    by_cases hee : k = e
    · rw [if_pos hee] at hk; cases hk; simp [hg]
    · rw [if_neg hee] at hk; exact inl g (h.kS k v g hk hg)
  · intro k hk
    rcases List.mem_append.1 hk with hk | hk
    · exact Nat.lt_of_lt_of_le (h.lt k hk) hf.size
    · exact Nat.lt_of_lt_of_le (hl.lt k (Option.mem_toList.1 hk)) hf.size
end
theorem vers_big {rows : List (List Ev)} {hor : Nat} {k : ByteArray} (hk : ¬ k.size ≤ maxLen) : versN rows hor k = [] := by
  cases h : versN rows hor k with
  | nil => rfl
  | cons e r =>
    have h1 : e ∈ versN rows hor k := by rw [h]; simp
    have := vers_key e h1
    exact absurd (by rw [← this]; exact e.wf.1) hk

theorem hist_new_at (w : World) : Calls Tryz.prog 6 #[] w fun e w' => ∃ p rm km, e = .returned (.pointer (some ⟨p, 0, none⟩)) ∧ w'.heap[p]? = some (.cells #[.int .i64 0, .int .i64 0, .map (some rm), .map (some km)] 73 (0, 0)) ∧ MapG Tryz.prog 3 intD isSl w' rm 0 (fun _ => none) ∧ MapG Tryz.prog 9 strD isSl w' km 0 (fun _ => none) ∧ Fr [] w w' ∧ w.heap.size ≤ p ∧ w.heap.size ≤ rm ∧ w.heap.size ≤ km ∧ rm ≠ km := by
  have hmm := @run_makeMap Tryz.prog
  go_enter Tryz.func6, Tryz.ntmps6
  go_wp2
  obtain ⟨b0, b1, b2, hf⟩ := three_boxes (S := []) (w := w) (a := .map #[] 0) (b := .map #[] 0) (c := .cells #[.int .i64 0, .int .i64 0, .map (some w.heap.size), .map (some (w.heap.size + 1))] 73) (by simp) (Fr.refl [] _)
  have m0 : MapG Tryz.prog 3 intD isSl _ w.heap.size 0 (fun _ => none) := (MapG.made Tryz.prog 3 intD isSl w).keep (((Fr.refl [] (w.alloc (.map #[] 0))).alloc (.map #[] 0)).alloc (.cells #[.int .i64 0, .int .i64 0, .map (some w.heap.size), .map (some (w.heap.size + 1))] 73)) (by simp)
  have m1 : MapG Tryz.prog 9 strD isSl _ (w.heap.size + 1) 0 (fun _ => none) := (by
    have := (MapG.made Tryz.prog 9 strD isSl (w.alloc (.map #[] 0))).keep ((Fr.refl [] ((w.alloc (.map #[] 0)).alloc (.map #[] 0))).alloc (.cells #[.int .i64 0, .int .i64 0, .map (some w.heap.size), .map (some (w.heap.size + 1))] 73)) (by simp)
    simpa using this)
  generalize ((w.alloc (.map #[] 0)).alloc (.map #[] 0)).alloc (.cells #[.int .i64 0, .int .i64 0, .map (some w.heap.size), .map (some (w.heap.size + 1))] 73) = w3 at *
  go_ret
  exact ⟨w.heap.size + 1 + 1, w.heap.size, w.heap.size + 1, rfl, b2, m0, m1, hf, by omega, by omega, by omega, by omega⟩

end Go.Proofs.YtmipllkgioakoaaGreat
namespace Go.Proofs.YtmipllkgioakoaaGreat
def hp (p : Nat) : Value := .pointer (some ⟨p, 0, none⟩)
end Go.Proofs.YtmipllkgioakoaaGreat
