/- WHAT ALL LAWS OF model SHARE: few, ran
THE EXAMPLE OF THE LAWS OF model -/
import Derived.Test.YtlklmmpblgcaoaaModelS
import Derived.Test.YtlklmmpblgcaoaaTxAwake
import Derived.Test.YtlklmmpblgcaoaaHistOne
namespace Go.Proofs.Ytlklmmpblgcaoaa
open Go.RowKit
set_option linter.unusedVariables false
set_option linter.unusedSimpArgs false

def smallR (d : Rv) : Bool := decide (d.q.cmps.length ≤ 8) && decide (d.q.thn.length ≤ 8) && decide (d.q.els.length ≤ 8)
def fewB (l : List Rv) : Bool := decide (l.length ≤ 60) && l.all smallR
theorem gt8 (n : Nat) : (decide ((8 : Int) < (n : Int)) = false ∧ decide (n ≤ 8) = true) ∨ (decide ((8 : Int) < (n : Int)) = true ∧ decide (n ≤ 8) = false) := by
  by_cases h : n ≤ 8
  · exact Or.inl ⟨by simp; omega, by simp; omega⟩
  · exact Or.inr ⟨by simp; omega, by simp; omega⟩
theorem take_up {α : Type} {m : List α} {j : Nat} {x : α} (hx : m[j]? = some x) : m.take (j + 1) = m.take j ++ [x] := by
  rw [List.take_add_one, hx]; rfl
theorem few_bad {l : List Rv} {j : Nat} {x : Rv} (hx : l[j]? = some x) (h : smallR x = false) : fewB l = false := by
  unfold fewB
  have : l.all smallR = false := by
    rw [List.all_eq_false]; exact ⟨x, List.mem_of_getElem? hx, by rw [h]; decide⟩
  rw [this]; simp
theorem few_end {l : List Rv} {j : Nat} (hj : j ≤ l.length) (ha : (l.take j).all smallR = true) (h : ¬ (j < l.length ∧ j < 61)) : fewB l = decide ((l.length : Int) ≤ 60) := by
  unfold fewB
  by_cases h2 : l.length ≤ 60
  · have : j = l.length := by omega
    rw [this, List.take_length] at ha
    rw [ha]; simp; omega
  · rw [decide_eq_false h2, Bool.false_and]; symm; simp; omega
theorem few_next {l : List Rv} {j : Nat} {x : Rv} (hx : l[j]? = some x) (ha : (l.take j).all smallR = true) (h : smallR x = true) : (l.take (j + 1)).all smallR = true := by
  rw [take_up hx, List.all_append, ha]; simp [h]
set_option maxHeartbeats 4000000 in
theorem mfew_any (lv : Value) (l : List Rv) (w : World) (hl : RvIn w lv l) : Calls Try.prog 10 #[lv] w fun e w' => e = .returned (.bool (fewB l)) ∧ Fr [] w w' := by
  obtain ⟨s1, c1, rfl, la, ma⟩ := hl.form
  unfold maxLen at ma
  have HL := Lib.hid hl
  clear hl
  go_enter Try.func10, Try.ntmps10
  go_wp2_with fail
  go_loopw [3] (fun i wr => ∃ (j : Nat), i = .int .i64 j ∧ j ≤ l.length ∧ j ≤ 61 ∧ Hid ((l.take j).all smallR = true) ∧ Hid (Fr [] w wr)) (fun i _ => 61 - (intOf i).toNat)
  case atStart => exact ⟨0, rfl, Nat.zero_le _, by omega, Lib.hid (by simp), Lib.hid (Fr.refl _ _)⟩
  case round =>
    obtain ⟨j, rfl, hj, hj61, HA, HF⟩ := hrel
    by_cases h : j < l.length ∧ j < 61
    · obtain ⟨h1, h2⟩ := h
      have t1 : decide ((j : Int) < (l.length : Int)) = true := by simp; omega
      have t2 : decide ((j : Int) < 61) = true := by simp; omega
      obtain ⟨d, hd⟩ : ∃ d, l[j]? = some d := ⟨_, List.getElem?_eq_getElem h1⟩
      obtain ⟨g, off, d1, e1, hg, l1, k1⟩ := RvIn.here (HL.out.keep0 HF.out) (by omega)
      cases e1
      obtain ⟨hc, hq⟩ := k1 j d hd
      obtain ⟨p0, p1, p2, p3, p4, p5, p6⟩ := hc
      obtain ⟨s4, c4, e4, l4, m4⟩ := LIn.form hq.c
      obtain ⟨s5, c5, e5, l5, m5⟩ := LIn.form hq.t
      obtain ⟨s6, c6, e6, l6, m6⟩ := LIn.form hq.e
      unfold maxLen at m4 m5 m6
      rw [e4] at p4
      rw [e5] at p5
      rw [e6] at p6
      have HN := Lib.hid (few_next hd HA.out)
      have HBAD := Lib.hid (few_bad hd)
      clear hd k1 hq e4 e5 e6 p0 p1 p2 p3
      obtain ⟨b, hb⟩ : ∃ b, b = smallR d := ⟨_, rfl⟩
      have HB := Lib.hid hb
      clear hb
      rcases gt8 d.q.cmps.length with ⟨t4, u4⟩ | ⟨t4, u4⟩
      all_goals rcases gt8 d.q.thn.length with ⟨t5, u5⟩ | ⟨t5, u5⟩
      all_goals rcases gt8 d.q.els.length with ⟨t6, u6⟩ | ⟨t6, u6⟩
      all_goals
        have HS : Hid (smallR d = _) := Lib.hid (by unfold smallR; rw [u4, u5, u6])
        clear u4 u5 u6
        go_wp2_with fail
      all_goals first
        | (go_ret; exact ⟨by rw [HBAD.out HS.out]; rfl, HF.out⟩)
        | (go_roundw
           case rel => exact ⟨j + 1, by go_num, by omega, by omega, Lib.hid (HN.out HS.out), HF⟩
           case measure => simp [intOf]; omega)
    · have HE := Lib.hid (few_end hj HA.out h)
      rcases (by omega : (j < l.length ∧ ¬ j < 61) ∨ ¬ j < l.length) with ⟨h1, h2⟩ | h1
      · have t1 : decide ((j : Int) < (l.length : Int)) = true := by simp; omega
        have t2 : decide ((j : Int) < 61) = false := by simp; omega
        go_wp2_with fail
        go_ret
        exact ⟨by rw [HE.out]; rfl, HF.out⟩
      · have t1 : decide ((j : Int) < (l.length : Int)) = false := by simp; omega
        go_wp2_with fail
        go_ret
        exact ⟨by rw [HE.out]; rfl, HF.out⟩
/-- requests run -/
def runV (l : List Rv) : MA := runM MA.zero (l.map Rv.q)
theorem runV_nil : runV [] = MA.zero := rfl
theorem runV_next {l : List Rv} {j : Nat} {x : Rv} (hx : l[j]? = some x) : runV (l.take (j + 1)) = (runV (l.take j)).next x.q := by
  unfold runV
  rw [take_up hx, List.map_append, List.map_cons, List.map_nil, runM_snoc]
theorem runV_ok (l : List Rv) (j : Nat) : MOk (runV (l.take j)) l.length := by
  have h := runM_ok MOk.zero ((l.take j).map Rv.q)
  exact h.mono (by rw [List.length_map, List.length_take]; omega)
theorem few_small {l : List Rv} (h : fewB l = true) : l.length ≤ 60 ∧ ∀ d ∈ l, d.q.cmps.length ≤ 8 ∧ d.q.thn.length ≤ 8 ∧ d.q.els.length ≤ 8 := by
  unfold fewB at h
  rw [Bool.and_eq_true, List.all_eq_true] at h
  refine ⟨by simpa using h.1, fun d hd => ?_⟩
  have := h.2 d hd
  unfold smallR at this
  simp only [Bool.and_eq_true, decide_eq_true_eq] at this
  exact ⟨this.1.1, this.1.2, this.2⟩
set_option maxHeartbeats 4000000 in
theorem mran_any (lv : Value) (l : List Rv) (w0 w : World) (hl : RvIn w0 lv l) (hf : Fr [] w0 w) (h : fewB l = true) : Calls Try.prog 14 #[lv] w fun e w' =>
    ∃ p S, e = .returned (.pointer (some ⟨p, 0, none⟩)) ∧ Md w' p S (runV l) ∧ Fr [] w w' ∧ ∀ k ∈ S, w.heap.size ≤ k := by
  obtain ⟨s1, c1, rfl, la, ma⟩ := hl.form
  unfold maxLen at ma
  have HL := Lib.hid (hl.keep0 hf)
  obtain ⟨h60, h8⟩ := few_small h
  have H8 := Lib.hid h8
  clear hl h8 h hf
  go_enter Try.func14, Try.ntmps14
  go_wp2_with (go_at_call 9; refine (mdl_new _).mono ?_; rintro e w1 ⟨p, S0, rfl, h1, h2, h3⟩; refine go_stop ?_)
  unfold Stop
  have HS0 := Lib.hid h1
  have HF0 := Lib.hid h2
  have HG0 := Lib.hid h3
  clear h1 h2 h3
  go_wp2_with fail
  go_loopw [4] (fun i wr => ∃ (j : Nat) (S : List Nat), i = .int .i64 j ∧ j ≤ l.length ∧ Hid (Md wr p S (runV (l.take j))) ∧ Hid (∀ k ∈ S, w.heap.size ≤ k) ∧ Hid (Fr [] w wr)) (fun i _ => l.length - (intOf i).toNat)
  case atStart => exact ⟨0, S0, rfl, Nat.zero_le _, HS0, HG0, HF0⟩
  case round =>
    obtain ⟨j, S, rfl, hj, HS, HSS, HF⟩ := hrel
    by_cases h : j < l.length
    · have t1 : decide ((j : Int) < (l.length : Int)) = true := by simp; omega
      obtain ⟨d, hd⟩ : ∃ d, l[j]? = some d := ⟨_, List.getElem?_eq_getElem h⟩
      obtain ⟨g, off, d1, e1, hg, l1, k1⟩ := RvIn.here (HL.out.keep0 HF.out) (by omega)
      cases e1
      obtain ⟨hc, hq⟩ := k1 j d hd
      obtain ⟨p0, p1, p2, p3, p4, p5, p6⟩ := hc
      have HQ := Lib.hid (RqFar.of_old (HL.out.2 d (List.mem_of_getElem? hd)) HSS.out HF.out)
      have HN := Lib.hid (runV_next hd)
      have HOK := Lib.hid (runV_ok l j)
      have H8d := Lib.hid (H8.out d (List.mem_of_getElem? hd))
      clear hd k1 hq
      go_wp2_with (go_at_call 11; refine (mdl_serve (n := l.length) d.q d.c d.t d.e HS.out HOK.out (by omega) HQ.out H8d.out.1 H8d.out.2.1 H8d.out.2.2).mono ?_; rintro e w2 ⟨v2, S2, rfl, h1, h2, h3, h4, h5⟩; have HS2 := Lib.hid h1; have HF2 := Lib.hid h4; have HG2 := Lib.hid (show Grow S S2 wr from h5); clear h1 h2 h3 h4 h5)
      go_roundw
      case rel =>
        refine ⟨j + 1, S2, by go_num, by omega, Lib.hid (by rw [HN.out]; exact HS2.out), Lib.hid (fun k hk => ?_), Lib.hid (HF.out.trans HF2.out (fun k hk => Or.inr (HSS.out k hk)))⟩
        rcases HG2.out k hk with h1 | h1
        · exact HSS.out k h1
        · have := HF.out.size; omega
      case measure => simp [intOf]; omega
    · have t1 : decide ((j : Int) < (l.length : Int)) = false := by simp; omega
      have hjl : l.take j = l := List.take_of_length_le (by omega)
      rw [hjl] at HS
      clear hjl
      go_wp2_with fail
      go_ret
      exact ⟨p, S, rfl, HS.out, HF.out, HSS.out⟩
end Go.Proofs.Ytlklmmpblgcaoaa
namespace Go.Proofs.Ytlklmmpblgcaoaa
open Go.RowKit
set_option linter.unusedVariables false
set_option linter.unusedSimpArgs false

def qp : Rq := putQ ⟨#[97]⟩ ⟨#[120]⟩ ⟨wa, wx⟩
def q2 : Rq := ⟨2, ⟨#[]⟩, ⟨#[]⟩, 1, [], [], []⟩
def q3 : Rq := ⟨2, ⟨#[]⟩, ⟨#[]⟩, 2, [], [], []⟩
def oax : Od := ⟨⟨#[97]⟩, ⟨#[120]⟩, false, by decide⟩
def kax : Kv := ⟨⟨#[97]⟩, ⟨#[120]⟩, 1, by decide⟩
def mda : MA := ⟨1, ⟨[[oax.ev 1]], 0⟩⟩
theorem qp_may : mayQ qp = true := by
  have e1 : (⟨#[97]⟩ : ByteArray).toList = [97] := by simp only [ByteArray.toList_eq]
  simp [mayQ, qp, putQ, cmsB, opsB, opB, mayB, e1]
  decide
theorem qp_plan : planL MA.zero.map qp = [oax] := by
  have h : holdsC MA.zero.map qp.cmps = true := rfl
  unfold planL
  rw [h]
  simp [qp, putQ, keepO, oax]
theorem qp_ch : MA.zero.chE qp = 0 := by
  unfold MA.chE
  rw [qp_plan]
  decide
theorem qp_err : MA.zero.err qp = 0 := by
  unfold MA.err
  rw [if_pos qp_may, if_neg (by decide), if_neg (by decide), qp_ch]
theorem qp_ok : MA.zero.ok qp = true := by
  unfold MA.ok
  rw [decide_eq_true ⟨qp_may, rfl, qp_err⟩]; rfl
theorem qp_next : MA.zero.next qp = mda := by
  unfold MA.next
  rw [if_pos qp_may, if_neg (by decide), if_neg (by decide), if_pos qp_ch, qp_plan]
  have h : HA.zero.app [oax] = mda.H := by
    unfold HA.app HA.zero
    simp only
    rw [rowOf_one]
    rfl
  show MA.mk (0 + 1) (HA.zero.app [oax]) = mda
  rw [h]; rfl
theorem q2_may : mayQ q2 = true := by
  have e1 : (⟨#[]⟩ : ByteArray).toList = [] := by simp only [ByteArray.toList_eq]
  simp [mayQ, q2, e1]
  decide
theorem q3_may : mayQ q3 = true := by
  have e1 : (⟨#[]⟩ : ByteArray).toList = [] := by simp only [ByteArray.toList_eq]
  simp [mayQ, q3, e1]
  decide
theorem mda_map : mapN mda.H.rows 1 = [kax] := by
  show mapN [[oax.ev 1]] 1 = _
  simp [mapN, foldK, oneK, lowB, highB, Ev.put, Ev.kv, Od.ev, oax, kax]
theorem q2_err : mda.err q2 = 0 := by
  unfold MA.err
  rw [if_pos q2_may, if_pos (show q2.kind = 2 from rfl)]; rfl
theorem q2_tell : mda.tell q2 = [kax] := by
  unfold MA.tell
  rw [if_pos ⟨q2_may, rfl⟩]
  have h := (at_ok (H := mda.H) (n := 1) (by decide) (by decide)).2
  rw [mda_map] at h
  exact h
theorem q2_next : mda.next q2 = mda := by
  unfold MA.next
  rw [if_pos q2_may, if_pos (show q2.kind = 2 from rfl)]
theorem q3_err : mda.err q3 = 6 := by
  unfold MA.err
  rw [if_pos q3_may, if_pos (show q3.kind = 2 from rfl)]; rfl
theorem q3_next : mda.next q3 = mda := by
  unfold MA.next
  rw [if_pos q3_may, if_pos (show q3.kind = 2 from rfl)]
theorem mda_ok : MOk mda 1 := by have := MOk.zero.next qp; rw [qp_next] at this; exact this
theorem not_grow {S S' : List Nat} {w : World} {b : Nat} (h : Grow S S' w) (hn : b ∉ S) (hl : b < w.heap.size) : b ∉ S' := fun hm => by
  rcases h b hm with h1 | h1
  · exact hn h1
  · omega
theorem Md.fresh {w : World} {p : Nat} {S : List Nat} {M : MA} (h : Md w p S M) : w.heap.size ∉ S := fun hm => by have := h.lt _ hm; omega
set_option maxRecDepth 100000 in
set_option maxHeartbeats 4000000 in
theorem mdl_awake (w : World) : Calls Try.prog 8 #[] w fun e w' => e = .returned (.bool true) ∧ Fr [] w w' := by
  go_enter Try.func8, Try.ntmps8
  go_wp2_with (first
    | (go_at_call 9; refine (mdl_new _).mono ?_; rintro e w1 ⟨p, S0, rfl, h1, h2, h3⟩; have HS := Lib.hid h1; have HF := Lib.hid h2; have HG := Lib.hid h3; clear h1 h2 h3)
    | (go_at_call 20; refine (txn_putN ⟨#[97]⟩ ⟨#[120]⟩ ⟨wa, wx⟩ _).mono ?_; rintro e w2 ⟨cv, tv, ev, rfl, h1, h2, h3⟩; refine go_stop ?_))
  unfold Stop
  have HQ := Lib.hid (RqFar.of_new h1 h2 HS.out.lt)
  replace HS := Lib.hid (HS.out.keep h3 (by simp))
  replace HF := Lib.hid (HF.out.trans h3 (by simp))
  clear h1 h2 h3
  dsimp only [rqA, putQ]
  go_wp2_with (go_at_call 11; refine (mdl_serve (n := 0) qp cv tv ev HS.out MOk.zero (by decide) HQ.out (by decide) (by decide) (by decide)).mono ?_; rintro e w3 ⟨v3, S3, rfl, h1, h2, h3, h4, h5⟩; rw [qp_next] at h1 ⊢; rw [qp_err, qp_ok]; refine go_stop ?_)
  unfold Stop
  obtain ⟨s3, c3, rfl, _, _⟩ := h2.form
  have hg := h5.ge HF.out.size HG.out
  replace HF := Lib.hid (HF.out.trans h4 (fun k hk => Or.inr (HG.out k hk)))
  replace HS := Lib.hid h1
  replace HG := Lib.hid hg
  clear h1 h2 h3 h4 h5 hg HQ
  generalize (MA.zero.tell qp).length = n3
  dsimp only [mda, List.length_cons, List.length_nil, Nat.zero_add]
  go_wp2_with (go_at_call 11; refine go_stop ?_)
  unfold Stop
  have HB1 : Hid ((w3.alloc (.cells #[.int .i64 1, .int .i64 1, .int .i64 0, .int .i64 0, .bool true, .slice s3 n3 c3] 32)).heap[w3.heap.size]? = some (.cells #[.int .i64 1, .int .i64 1, .int .i64 0, .int .i64 0, .bool true, .slice s3 n3 c3] 32 (0, 0))) := Lib.hid (new_block _ _)
  have hal : Fr [] w3 (w3.alloc (.cells #[.int .i64 1, .int .i64 1, .int .i64 0, .int .i64 0, .bool true, .slice s3 n3 c3] 32)) := (Fr.refl [] w3).alloc _
  have HN1 := Lib.hid HS.out.fresh
  replace HS := Lib.hid (HS.out.keep hal (by simp))
  replace HF := Lib.hid (HF.out.trans hal (by simp))
  have HL1 := Lib.hid (lt_of_block HB1.out)
  clear hal
  generalize w3.alloc (.cells #[.int .i64 1, .int .i64 1, .int .i64 0, .int .i64 0, .bool true, .slice s3 n3 c3] 32) = wa at *
  generalize w3.heap.size = b1 at *
  refine (mdl_serve (n := 1) q2 (.slice none 0 0) (.slice none 0 0) (.slice none 0 0) HS.out mda_ok (by decide) (RqFar.nil _ _ _ _ _ _ ⟨by decide, by decide⟩) (by decide) (by decide) (by decide)).mono ?_
  rintro e w4 ⟨v4, S4, rfl, h1, h2, h3, h4, h5⟩
  rw [q2_next] at h1 ⊢
  rw [q2_tell] at h2
  rw [q2_err]
  obtain ⟨s4, c4, rfl, _, _⟩ := h2.form
  have hg := h5.ge HF.out.size HG.out
  replace HB1 := Lib.hid (h4.keep HB1.out HN1.out)
  replace HN1 := Lib.hid (not_grow h5 HN1.out HL1.out)
  replace HF := Lib.hid (HF.out.trans h4 (fun k hk => Or.inr (HG.out k hk)))
  replace HS := Lib.hid h1
  replace HG := Lib.hid hg
  replace HL1 := Lib.hid (lt_of_block HB1.out)
  have HV := Lib.hid h2
  clear h1 h2 h3 h4 h5 hg
  generalize mda.ok q2 = okb
  dsimp only [mda, List.length_cons, List.length_nil, Nat.zero_add] at HV ⊢
  go_wp2_with (go_at_call 11; refine go_stop ?_)
  unfold Stop
  have HB2 : Hid ((w4.alloc (.cells #[.int .i64 1, .int .i64 1, .int .i64 0, .int .i64 0, .bool okb, .slice s4 1 c4] 32)).heap[w4.heap.size]? = some (.cells #[.int .i64 1, .int .i64 1, .int .i64 0, .int .i64 0, .bool okb, .slice s4 1 c4] 32 (0, 0))) := Lib.hid (new_block _ _)
  have hal : Fr [] w4 (w4.alloc (.cells #[.int .i64 1, .int .i64 1, .int .i64 0, .int .i64 0, .bool okb, .slice s4 1 c4] 32)) := (Fr.refl [] w4).alloc _
  have HN2 := Lib.hid HS.out.fresh
  replace HB1 := Lib.hid (hal.keep HB1.out (by simp))
  replace HL1 := Lib.hid (lt_of_block HB1.out)
  replace HS := Lib.hid (HS.out.keep hal (by simp))
  replace HF := Lib.hid (HF.out.trans hal (by simp))
  replace HV := Lib.hid (HV.out.keep0 hal)
  have HL2 := Lib.hid (lt_of_block HB2.out)
  clear hal
  generalize w4.alloc (.cells #[.int .i64 1, .int .i64 1, .int .i64 0, .int .i64 0, .bool okb, .slice s4 1 c4] 32) = wb at *
  generalize w4.heap.size = b2 at *
  refine (mdl_serve (n := 1) q3 (.slice none 0 0) (.slice none 0 0) (.slice none 0 0) HS.out mda_ok (by decide) (RqFar.nil _ _ _ _ _ _ ⟨by decide, by decide⟩) (by decide) (by decide) (by decide)).mono ?_
  rintro e w5 ⟨v5, S5, rfl, h1, h2, h3, h4, h5⟩
  rw [q3_next] at h1 ⊢
  rw [q3_err]
  obtain ⟨s5, c5, rfl, _, _⟩ := h2.form
  have hg := h5.ge HF.out.size HG.out
  replace HB1 := Lib.hid (h4.keep HB1.out HN1.out)
  replace HB2 := Lib.hid (h4.keep HB2.out HN2.out)
  replace HF := Lib.hid (HF.out.trans h4 (fun k hk => Or.inr (HG.out k hk)))
  replace HS := Lib.hid h1
  replace HG := Lib.hid hg
  have hkv : KvIn w5 (.slice s4 1 c4) [kax] := (HV.out.keep h4).lin
  obtain ⟨gv, ov, cv', hv, hgv, _, kv⟩ := KvIn.here hkv (by decide)
  cases hv
  obtain ⟨y0, y1, y2⟩ := kv 0 kax rfl
  clear h1 h2 h3 h4 h5 hg HN1 HN2 HL1 HL2 HV hkv kv
  generalize mda.ok q3 = okc
  generalize (mda.tell q3).length = n5
  dsimp only [mda, List.length_cons, List.length_nil, Nat.zero_add] at HS ⊢
  dsimp only [kax] at y0 y1 y2
  simp only [Nat.zero_mul, Nat.add_zero] at y0 y1 y2
  have HB3 := Lib.hid (new_block w5 (.cells #[.int .i64 1, .int .i64 1, .int .i64 0, .int .i64 6, .bool okc, .slice s5 n5 c5] 32))
  have hal : Fr [] w5 (w5.alloc (.cells #[.int .i64 1, .int .i64 1, .int .i64 0, .int .i64 6, .bool okc, .slice s5 n5 c5] 32)) := (Fr.refl [] w5).alloc _
  obtain ⟨a0, a1, a2, a3, a4, a5, _⟩ := cells6 (hal.keep HB1.out (by simp))
  obtain ⟨d0, d1, d2, d3, d4, d5, _⟩ := cells6 (hal.keep HB2.out (by simp))
  obtain ⟨e0, e1, e2, e3, e4, e5, _⟩ := cells6 HB3.out
  replace y0 := hal.cell y0 (by simp)
  replace y1 := hal.cell y1 (by simp)
  replace y2 := hal.cell y2 (by simp)
  replace HS := Lib.hid (HS.out.keep hal (by simp))
  replace HF := Lib.hid (HF.out.trans hal (by simp))
  clear hal
  have hfd : ∀ W : World, (Instr.field 28 (.agg #[.int .i64 1, .int .i64 1, .int .i64 0]) 0).run Try.prog W = .ok (.int .i64 1) W := fun _ => by kernel_rfl
  go_wp2_with (first
    | (go_at_call 13; refine (mdl_head HS.out).mono ?_; rintro e w6 ⟨rfl, h6⟩; replace HS := Lib.hid (HS.out.keep h6 (by simp)); replace HF := Lib.hid (HF.out.trans h6 (by simp)); clear h6)
    | (go_at_call 15; refine (mdl_hist HS.out mda_ok (by decide)).mono ?_; rintro e w7 ⟨pq, S7, rfl, h1, h2, _⟩; have HQ := Lib.hid h1; replace HF := Lib.hid (HF.out.trans h2 (by simp)); clear h1 h2)
    | (go_at_call 17; refine (hist_rev HQ.out).mono ?_; rintro e w8 ⟨rfl, rfl⟩))
  go_ret
  exact ⟨rfl, HF.out⟩
end Go.Proofs.Ytlklmmpblgcaoaa
