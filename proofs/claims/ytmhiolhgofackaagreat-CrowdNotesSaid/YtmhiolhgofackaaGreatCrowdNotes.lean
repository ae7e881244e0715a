/- Calls are noted in the turn in which they begin, each answered behind its begin, never more under way than threads; the clock counts them, and picks; who can't begin is told so: for every list of deeds, 400 at most looked at. No condition. -/
import Derived.Test.YtmhiolhgofackaaGreatCrAk
import Derived.Test.YtmhiolhgofackaaGreatCrDo
import Derived.IntWalk
namespace Go.Proofs.YtmhiolhgofackaaGreat.lawCrowdNotes
open Go.ChangeShapes Go.WideShapes Go.ChangeAt Go.RowKit Go.Deep Go.ChangeMaps
set_option linter.unusedVariables false
set_option linter.unusedSimpArgs false

/-- what a deed does to clock and notes, whoever is asked -/
def Way (c : Cro) (d : Dd) (e : Int) (dn dm : Nat) : Prop := ∀ c' er, DoR c d c' er → er = e ∧ c'.now = c.now + dn ∧ c'.cas.length = c.cas.length + dm
theorem beg_none {c c' : Cro} {t kind er : Int} {key : ByteArray} (h : BegR c t kind key c' er) {m : Nat} (ht : t = (m : Int)) (hs : c.sl[m]? = some none) : er = 0 ∧ c' = c.begin m kind key := by
  rcases h with ⟨m', e, hs', rfl, rfl⟩ | ⟨m', i, e, hs', rfl, rfl⟩ | ⟨e, rfl, rfl⟩
  · have : m' = m := by omega
    subst this
    exact ⟨rfl, rfl⟩
  · have : m' = m := by omega
    subst this
    rw [hs] at hs'
    cases hs'
  · have := get_lt hs
    omega
theorem beg_some {c c' : Cro} {t kind er : Int} {key : ByteArray} (h : BegR c t kind key c' er) {m i : Nat} (ht : t = (m : Int)) (hs : c.sl[m]? = some (some i)) : er = 8 ∧ c' = c := by
  rcases h with ⟨m', e, hs', rfl, rfl⟩ | ⟨m', i, e, hs', rfl, rfl⟩ | ⟨e, rfl, rfl⟩
  · have : m' = m := by omega
    subst this
    rw [hs] at hs'
    cases hs'
  · exact ⟨rfl, rfl⟩
  · have := get_lt hs
    omega
theorem beg_out {c c' : Cro} {t kind er : Int} {key : ByteArray} (h : BegR c t kind key c' er) (ht : t < 0 ∨ (c.sl.length : Int) ≤ t) : er = 1 ∧ c' = c := by
  rcases h with ⟨m', e, hs', rfl, rfl⟩ | ⟨m', i, e, hs', rfl, rfl⟩ | ⟨e, rfl, rfl⟩
  · have := get_lt hs'
    omega
  · have := get_lt hs'
    omega
  · exact ⟨rfl, rfl⟩
theorem pick_some {c c' : Cro} {t : Int} (h : PickR c t c') {m i : Nat} (ht : t = (m : Int)) (hs : c.sl[m]? = some (some i)) : c'.now = c.now + 1 ∧ c'.cas.length = c.cas.length := by
  rcases h with ⟨m', i', x, b, ok, e, hs', hx, hr, rfl⟩ | ⟨e, rfl⟩
  · exact ⟨rfl, by show (c.cas.set _ _).length = _; rw [List.length_set]⟩
  · rcases e with e | ⟨m', e, hs'⟩
    · have := get_lt hs
      omega
    · have : m' = m := by omega
      subst this
      rw [hs] at hs'
      cases hs'
theorem pick_no {c c' : Cro} {t : Int} (h : PickR c t c') (ht : (t < 0 ∨ (c.sl.length : Int) ≤ t) ∨ ∃ m : Nat, t = (m : Int) ∧ c.sl[m]? = some none) : c' = c := by
  rcases h with ⟨m', i', x, b, ok, e, hs', hx, hr, rfl⟩ | ⟨e, rfl⟩
  · rcases ht with ht | ⟨m, ht, hs⟩
    · have := get_lt hs'
      omega
    · have : m' = m := by omega
      subst this
      rw [hs] at hs'
      cases hs'
  · rfl
/-- a deed's ways: which thread, which kind -/
inductive Ways : Bool → Bool → Bool → Bool → Bool → Int → Nat → Nat → Prop where
  | bn : Ways true true true true true 0 1 1
  | bs : Ways true true true true false 8 0 0
  | bl : Ways true true false true false 1 0 0
  | bh : Ways true true true false false 1 0 0
  | pn (k1 k2 : Bool) (h : (k1 && k2) = false) : Ways k1 k2 true true true 0 0 0
  | ps (k1 k2 : Bool) (h : (k1 && k2) = false) : Ways k1 k2 true true false 0 1 0
  | pl (k1 k2 : Bool) (h : (k1 && k2) = false) : Ways k1 k2 false true false 0 0 0
  | ph (k1 k2 : Bool) (h : (k1 && k2) = false) : Ways k1 k2 true false false 0 0 0
theorem ways {c : Cro} (h4 : c.sl.length = 4) (d : Dd) : ∃ k1 k2 t1 t2 id e dn dm, decide (1 ≤ d.kind) = k1 ∧ decide (d.kind ≤ 3) = k2 ∧ decide (0 ≤ d.t) = t1 ∧ decide (d.t < 4) = t2 ∧ idleAt c d.t = id ∧ Way c d e dn dm ∧ Ways k1 k2 t1 t2 id e dn dm := by
  by_cases hb : begins d
  · have q1 : decide (1 ≤ d.kind) = true := decide_eq_true (by rcases hb with h | h | h <;> omega)
    have q2 : decide (d.kind ≤ 3) = true := decide_eq_true (by rcases hb with h | h | h <;> omega)
    have way : ∀ {e : Int} {dn dm : Nat}, (∀ c' er, BegR c d.t d.kind d.key c' er → er = e ∧ c'.now = c.now + dn ∧ c'.cas.length = c.cas.length + dm) → Way c d e dn dm := fun h c' er hd => by
      rcases hd with ⟨_, hd⟩ | ⟨hn, _⟩
      · exact h c' er hd
      · exact absurd hb hn
    rcases slot_ways c d.t with ⟨m, ht, hs⟩ | ⟨m, i, ht, hs⟩ | ht
    · have hm := get_lt hs
      refine ⟨_, _, _, _, _, 0, 1, 1, q1, q2, decide_eq_true (by omega), decide_eq_true (by omega), by rw [ht]; exact idle_in hs, way fun c' er h => ?_, .bn⟩
      obtain ⟨rfl, rfl⟩ := beg_none h ht hs
      exact ⟨rfl, rfl, by show (c.cas ++ _).length = _; rw [List.length_append]; rfl⟩
    · have hm := get_lt hs
      refine ⟨_, _, _, _, _, 8, 0, 0, q1, q2, decide_eq_true (by omega), decide_eq_true (by omega), by rw [ht]; exact idle_in hs, way fun c' er h => ?_, .bs⟩
      obtain ⟨rfl, rfl⟩ := beg_some h ht hs
      exact ⟨rfl, rfl, rfl⟩
    · have hw : Way c d 1 0 0 := way fun c' er h => by
        obtain ⟨rfl, rfl⟩ := beg_out h ht
        exact ⟨rfl, rfl, rfl⟩
      by_cases h0 : d.t < 0
      · exact ⟨_, _, _, _, _, 1, 0, 0, q1, q2, decide_eq_false (by omega), decide_eq_true (by omega), idle_out ht, hw, .bl⟩
      · exact ⟨_, _, _, _, _, 1, 0, 0, q1, q2, decide_eq_true (by omega), decide_eq_false (by omega), idle_out ht, hw, .bh⟩
  · have q : (decide (1 ≤ d.kind) && decide (d.kind ≤ 3)) = false := by
      rw [← Bool.decide_and, decide_eq_false_iff_not]
      rintro ⟨h1, h2⟩
      exact hb (by unfold begins; omega)
    have way : ∀ {dn dm : Nat}, (∀ c', PickR c d.t c' → c'.now = c.now + dn ∧ c'.cas.length = c.cas.length + dm) → Way c d 0 dn dm := fun h c' er hd => by
      rcases hd with ⟨hn, _⟩ | ⟨_, hd, rfl⟩
      · exact absurd hn hb
      · exact ⟨rfl, h c' hd⟩
    rcases slot_ways c d.t with ⟨m, ht, hs⟩ | ⟨m, i, ht, hs⟩ | ht
    · have hm := get_lt hs
      refine ⟨_, _, _, _, _, 0, 0, 0, rfl, rfl, decide_eq_true (by omega), decide_eq_true (by omega), by rw [ht]; exact idle_in hs, way fun c' h => ?_, .pn _ _ q⟩
      rw [pick_no h (Or.inr ⟨m, ht, hs⟩)]
      exact ⟨rfl, rfl⟩
    · have hm := get_lt hs
      exact ⟨_, _, _, _, _, 0, 1, 0, rfl, rfl, decide_eq_true (by omega), decide_eq_true (by omega), by rw [ht]; exact idle_in hs, way fun c' h => pick_some h ht hs, .ps _ _ q⟩
    · have hw : Way c d 0 0 0 := way fun c' h => by
        rw [pick_no h (Or.inl ht)]
        exact ⟨rfl, rfl⟩
      by_cases h0 : d.t < 0
      · exact ⟨_, _, _, _, _, 0, 0, 0, rfl, rfl, decide_eq_false (by omega), decide_eq_true (by omega), idle_out ht, hw, .pl _ _ q⟩
      · exact ⟨_, _, _, _, _, 0, 0, 0, rfl, rfl, decide_eq_true (by omega), decide_eq_false (by omega), idle_out ht, hw, .ph _ _ q⟩
theorem notes_calls {w0 w4 : World} {tb mb cb : Nat} {S0 : SetB} {c' : Cro} {E : Rows} (h : Cw w0 w4 tb mb cb S0 c' E) (hn : c'.now ≤ 1000) : ∀ W, Fr [] w4 W → Calls Tryz.prog 10 #[pt cb] W fun e w' => ∃ s cap, e = .returned (.slice s c'.cas.length cap) ∧ Fr [] W w' := fun W hW => by
  refine (cw_Calls (h.keep0 hW) hn).mono ?_
  rintro e w' ⟨v, he, hv, hf, _⟩
  obtain ⟨s, cap, rfl, _, _⟩ := LAt.form hv
  exact ⟨s, cap, he, hf⟩
set_option maxRecDepth 100000 in
set_option maxHeartbeats 4000000 in
theorem walk (lv : Value) (l : List Dd) (w : World) (hl : DdIn w lv l) :
    Calls Tryz.prog 4 #[lv] w fun e w' => e = .returned (.bool true) ∧ Below w.heap.size w w' := by
  obtain ⟨ls, lc, rfl, la, lb⟩ := LIn.form hl
  unfold maxLen at lb
  have HL := Lib.hid hl
  clear hl
  by_cases g2 : (400 : Int) < (l.length : Int)
  · have t2 : decide ((400 : Int) < (l.length : Int)) = true := decide_eq_true g2
    clear g2
    go_enter Tryz.func4, Tryz.ntmps4
    go_wp2_with (go_at_call 6; refine (cr_awake _).mono ?_; rintro e w1 ⟨rfl, hf⟩; have HF1 := Lib.hid hf; clear hf)
    go_ret
    exact ⟨rfl, HF1.out.below (Nat.le_refl _) (by simp)⟩
  have t2 : decide ((400 : Int) < (l.length : Int)) = false := decide_eq_false g2
  have hl400 : l.length ≤ 400 := by omega
  clear g2
  go_enter Tryz.func4, Tryz.ntmps4
  go_wp2_with (go_at_call 6; refine (cr_awake _).mono ?_; rintro e w1 ⟨rfl, hf⟩; refine go_stop ?_)
  unfold Stop
  have HF1 := Lib.hid hf
  clear hf
  have HBG := Lib.hid (cr_begun (.slice none 0 0) [] w1 (LIn.nil _) (Nat.zero_le _))
  go_wp2_with (go_at_call 7; refine HBG.out.mono ?_; rintro e w2 ⟨tb, mb, B, rfl, HB⟩; refine go_stop ?_)
  unfold Stop
  have HC := Lib.hid HB.out.cw
  obtain ⟨cb, hcb⟩ : ∃ cb, cb = B.cb := ⟨_, rfl⟩
  rw [← hcb] at HC ⊢
  clear HBG HB hcb
  go_wp2_with fail
  go_loopw [6, 7, 8] (fun cl mn i wr => ∃ (j : Nat) (c : Cro), i = .int .i64 j ∧ cl = .int .i64 (c.now : Int) ∧ mn = .int .i64 (c.cas.length : Int) ∧ j ≤ l.length ∧ Cw w1 wr tb mb cb (inS []) c [] ∧ c.now ≤ j ∧ c.sl.length = 4) (fun _ _ i _ => l.length - (intOf i).toNat)
  case atStart => exact ⟨0, _, rfl, rfl, rfl, Nat.zero_le _, HC.out, Nat.le_refl _, rfl⟩
  case round =>
    obtain ⟨j, c, rfl, rfl, rfl, hj, hc, hn, h4⟩ := hrel
    have HCW := Lib.hid hc
    have hfew := HCW.out.few
    clear hc HC
    by_cases h : j < l.length
    · have t0 : decide ((j : Int) < (l.length : Int)) = true := decide_eq_true (by omega)
      obtain ⟨d, hd⟩ : ∃ d, l[j]? = some d := ⟨_, List.getElem?_eq_getElem h⟩
      have HLW := Lib.hid (LIn.keep0 (LIn.keep0 HL.out HF1.out) HCW.out.fr)
      obtain ⟨g, off, d1, e1, hg, l1, k1⟩ := DdIn.here HLW.out (by omega)
      simp only [Value.slice.injEq] at e1
      obtain ⟨rfl, _, rfl⟩ := e1
      obtain ⟨p0, p1, p2⟩ := k1 j d hd
      clear k1
      obtain ⟨k1, k2, t1, t2, id, e, dn, dm, q1, q2, q3, q4, q5, hway, hw⟩ := ways h4 d
      have HID : Hid (Calls Tryz.prog 11 #[pt cb, .int .i64 d.t] wr fun e w' => e = .returned (.bool id) ∧ Fr [] wr w') := Lib.hid (by rw [← q5]; exact cw_Idle HCW.out d.t)
      have HDO : Hid (∀ W, Fr [] wr W → Calls Tryz.prog 8 #[pt tb, pt cb, .agg #[.int .i64 d.kind, .int .i64 d.t, .string d.key]] W fun e' w' => e' = .returned (.int .i64 e) ∧ Hid (∃ c', Cw w1 w' tb mb cb (inS []) c' [] ∧ c'.now = c.now + dn ∧ c'.cas.length = c.cas.length + dm ∧ c'.sl.length = 4 ∧ c'.now ≤ c.now + 1)) := Lib.hid fun W hW => by
        refine (cr_do (HCW.out.keep0 hW) (by omega) d).mono ?_
        rintro e' w' ⟨er, he, hv⟩
        obtain ⟨c', k3, k4⟩ := hv.out
        obtain ⟨rfl, b1, b2⟩ := hway c' er k3
        obtain ⟨b3, b4⟩ := k3.step
        exact ⟨he, Lib.hid ⟨c', k4, b1, b2, by rw [b4, h4], b3⟩⟩
      have HCELL : Hid (∀ W c', Cw w1 W tb mb cb (inS []) c' [] → W.cell? ⟨g, off + j * 3, none⟩ = some (.int .i64 d.kind) ∧ W.cell? ⟨g, off + j * 3 + 1, none⟩ = some (.int .i64 d.t)) := Lib.hid fun W c' hcw => by
        obtain ⟨g', off', d1', e1', _, _, k1'⟩ := DdIn.here (LIn.keep0 (LIn.keep0 HL.out HF1.out) hcw.fr) (by omega)
        simp only [Value.slice.injEq, Option.some.injEq, Addr.mk.injEq, and_true, true_and] at e1'
        obtain ⟨⟨rfl, rfl⟩, rfl⟩ := e1'
        obtain ⟨a0, a1, _⟩ := k1' j d hd
        exact ⟨a0, a1⟩
      clear hway q5 hd h4
      cases hw
      case' bn => have hbool : True := trivial
      case' bs => have hbool : True := trivial
      case' bl => have hbool : True := trivial
      case' bh => have hbool : True := trivial
      case' pn hh => cases k1 <;> cases k2 <;> first | (exact absurd hh (by decide)) | skip
      case' ps hh => cases k1 <;> cases k2 <;> first | (exact absurd hh (by decide)) | skip
      case' pl hh => cases k1 <;> cases k2 <;> first | (exact absurd hh (by decide)) | skip
      case' ph hh => cases k1 <;> cases k2 <;> first | (exact absurd hh (by decide)) | skip
      all_goals go_wp2_with (go_at_call 11; refine HID.out.mono ?_; rintro e w3 ⟨rfl, hf3⟩; refine go_stop ?_)
      all_goals unfold Stop
      all_goals have p0 := hf3.cell p0 (by simp)
      all_goals have p1 := hf3.cell p1 (by simp)
      all_goals have p2 := hf3.cell p2 (by simp)
      all_goals have HF3 := Lib.hid hf3
      all_goals clear hf3
      all_goals go_wp2_with (go_at_call 8; refine (HDO.out _ HF3.out).mono ?_; rintro e w4 ⟨rfl, HV⟩; refine go_stop ?_)
      all_goals unfold Stop
      all_goals obtain ⟨c', hcw, n1, m1, hs4, hn1⟩ := HV.out
      all_goals obtain ⟨p0, p1⟩ := HCELL.out _ _ hcw
      all_goals have HCW2 := Lib.hid hcw
      all_goals clear hcw p2
      all_goals have hb4 : c.now ≤ 400 := by omega
      all_goals have hb5 : c.cas.length ≤ 400 := by omega
      all_goals have HCK := Lib.hid (show ∀ W, Fr [] w4 W → Calls Tryz.prog 12 #[pt cb] W fun e w' => e = .returned (.int .i64 (c'.now : Int)) ∧ W = w' from fun W hW => cw_Clock (HCW2.out.keep0 hW))
      all_goals have HCA := Lib.hid (notes_calls HCW2.out (by omega))
      all_goals have N1 := Lib.hid n1
      all_goals have M1 := Lib.hid m1
      all_goals have HN1 := Lib.hid hn1
      all_goals have HS4 := Lib.hid hs4
      all_goals rw [n1] at HCK
      all_goals rw [m1] at HCA
      all_goals clear n1 m1 hs4 hn1
      all_goals go_wp2_with (go_at_call 12; refine (HCK.out _ (Fr.refl [] w4)).mono ?_; rintro e w5 ⟨rfl, rfl⟩)
      all_goals go_wp2_with (go_at_call 10; refine (HCA.out _ (Fr.refl [] w4)).mono ?_; rintro e w6 ⟨s9, c9, rfl, hf6⟩; have HF6 := Lib.hid hf6; clear hf6)
      all_goals go_roundw
      all_goals first
        | (show _ < _; simp [intOf]; omega)
        | exact ⟨j + 1, c', by go_num, by rw [N1.out]; rfl, by rw [M1.out]; rfl, by omega, HCW2.out.keep0 HF6.out, by have := HN1.out; omega, HS4.out⟩
    · have t0 : decide ((j : Int) < (l.length : Int)) = false := decide_eq_false (by omega)
      have HCA := Lib.hid (cw_Calls HCW.out (by omega))
      have HOK := Lib.hid HCW.out.ok
      have H4 := Lib.hid h4
      have HNC : Hid (c.cas.length ≤ 400) := Lib.hid (by omega)
      obtain ⟨CA, hCA⟩ : ∃ x, x = c.cas := ⟨_, rfl⟩
      rw [← hCA] at HCA HNC
      have HCAS := Lib.hid hCA
      clear hCA hfew hn h4
      go_wp2_with (go_at_call 10; refine HCA.out.mono ?_; rintro e w4 ⟨v, rfl, hv, hf, _⟩; refine go_stop ?_)
      unfold Stop
      have HF4 := Lib.hid (Fr.trans (T := []) HF1.out (Fr.trans (T := []) HCW.out.fr hf (by simp)) (by simp))
      have HX := Lib.hid (LAt.read hv Ca.clen)
      obtain ⟨s5, c5, rfl, lx, mx⟩ := LAt.form hv
      unfold maxLen at mx
      clear hv hf HCA HCW
      go_wp2_with fail
      go_loopw [14, 15] (fun o i wr => ∃ (k : Nat), i = .int .i64 k ∧ o = .int .i64 (((CA.take k).filter isOpen).length : Int) ∧ k ≤ CA.length ∧ Fr [] w4 wr) (fun _ i _ => CA.length - (intOf i).toNat)
      case atStart => exact ⟨0, rfl, rfl, Nat.zero_le _, Fr.refl _ _⟩
      case round =>
        obtain ⟨k, rfl, rfl, hk, hf⟩ := hrel
        have HF5 := Lib.hid hf
        clear hf
        have hnc := HNC.out
        have hol : ((CA.take k).filter isOpen).length ≤ k := Nat.le_trans (List.length_filter_le _ _) (by rw [List.length_take]; omega)
        obtain ⟨O, hO⟩ : ∃ O, O = ((CA.take k).filter isOpen).length := ⟨_, rfl⟩
        rw [← hO] at hol ⊢
        have HOO := Lib.hid hO
        clear hO
        by_cases h : k < CA.length
        · have t1 : decide (k < CA.length) = true := by simpa using h
          obtain ⟨x, hx⟩ : ∃ x, CA[k]? = some x := ⟨_, List.getElem?_eq_getElem h⟩
          obtain ⟨gx, ox, d1, e1, hgx, l1, k1⟩ := CaIn.here (LIn.keep0 HX.out HF5.out) (by omega)
          simp only [Value.slice.injEq] at e1
          obtain ⟨rfl, _, rfl⟩ := e1
          obtain ⟨x0, x1, x2, x3, x4⟩ := k1 k x hx
          have hx' : c.cas[k]? = some x := by rw [← HCAS.out]; exact hx
          have HST : Hid (((CA.take (k + 1)).filter isOpen).length = O + (if isOpen x then 1 else 0)) := Lib.hid (by
            rw [List.take_add_one, hx, List.filter_append, List.length_append, HOO.out]
            congr 1
            show (List.filter isOpen [x]).length = _
            rw [List.filter_cons]
            cases isOpen x <;> rfl)
          have hend : ∀ (D : Nat), D = ((CA.take (k + 1)).filter isOpen).length → True := fun _ _ => trivial
          clear hend
          by_cases hr : x.ret < 0
          · have b1 : decide (x.ret < 0) = true := decide_eq_true hr
            have b2 : decide (0 ≤ x.ret) = false := decide_eq_false (by omega)
            have HS2 : Hid (((CA.take (k + 1)).filter isOpen).length = O + 1) := Lib.hid (by rw [HST.out]; unfold isOpen; rw [b1]; rfl)
            clear hr HST
            cases k with
            | zero =>
              go_wp2_with fail
              go_quiet (fail)
              go_wp2_with fail
              go_roundw
              case rel => exact ⟨1, by go_num, by rw [HS2.out]; rfl, by omega, HF5.out.drewN nq⟩
              case measure => simp [intOf]; omega
            | succ q =>
              obtain ⟨y, hy⟩ : ∃ y, CA[q]? = some y := ⟨_, List.getElem?_eq_getElem (by omega)⟩
              obtain ⟨y0, y1, y2, y3, y4⟩ := k1 q y hy
              have hris := HOK.out.rise q (q + 1) y x (by omega) (by rw [← HCAS.out]; exact hy) hx'
              have b3 : decide (x.inv ≤ y.inv) = false := decide_eq_false (by omega)
              clear k1 hx hx' hy hris
              have w1' : IntKind.i64.wrap (((q + 1 : Nat) : Int) - 1) = (q : Int) := by
                have : (((q + 1 : Nat) : Int) - 1) = (q : Int) := by omega
                rw [this]
                exact IntWalk.i64_in _ (by omega)
              have w2' : IntKind.i64.wrap ((q : Int) + 1 - 1) = (q : Int) := by
                have : ((q : Int) + 1 - 1) = (q : Int) := by omega
                rw [this]
                exact IntWalk.i64_in _ (by omega)
              go_wp2_with fail
              go_quiet (fail)
              clear w1' w2'
              go_wp2_with fail
              go_roundw
              case rel => exact ⟨q + 1 + 1, by go_num, by rw [HS2.out]; rfl, by omega, HF5.out.drewN nq⟩
              case measure => simp [intOf]; omega
          · have hri := HOK.out.ret k x hx' (by omega)
            have b1 : decide (x.ret < 0) = false := decide_eq_false hr
            have b2 : decide (0 ≤ x.ret) = true := decide_eq_true (by omega)
            have b4 : decide (x.ret ≤ x.inv) = false := decide_eq_false (by omega)
            have HS2 : Hid (((CA.take (k + 1)).filter isOpen).length = O) := Lib.hid (by rw [HST.out]; unfold isOpen; rw [b1]; rfl)
            clear hr HST hri
            cases k with
            | zero =>
              go_wp2_with fail
              go_quiet (fail)
              go_wp2_with fail
              go_roundw
              case rel => exact ⟨1, by go_num, by rw [HS2.out], by omega, HF5.out.drewN nq⟩
              case measure => simp [intOf]; omega
            | succ q =>
              obtain ⟨y, hy⟩ : ∃ y, CA[q]? = some y := ⟨_, List.getElem?_eq_getElem (by omega)⟩
              obtain ⟨y0, y1, y2, y3, y4⟩ := k1 q y hy
              have hris := HOK.out.rise q (q + 1) y x (by omega) (by rw [← HCAS.out]; exact hy) hx'
              have b3 : decide (x.inv ≤ y.inv) = false := decide_eq_false (by omega)
              clear k1 hx hx' hy hris
              have w1' : IntKind.i64.wrap (((q + 1 : Nat) : Int) - 1) = (q : Int) := by
                have : (((q + 1 : Nat) : Int) - 1) = (q : Int) := by omega
                rw [this]
                exact IntWalk.i64_in _ (by omega)
              have w2' : IntKind.i64.wrap ((q : Int) + 1 - 1) = (q : Int) := by
                have : ((q : Int) + 1 - 1) = (q : Int) := by omega
                rw [this]
                exact IntWalk.i64_in _ (by omega)
              go_wp2_with fail
              go_quiet (fail)
              clear w1' w2'
              go_wp2_with fail
              go_roundw
              case rel => exact ⟨q + 1 + 1, by go_num, by rw [HS2.out], by omega, HF5.out.drewN nq⟩
              case measure => simp [intOf]; omega
        · have t1 : decide (k < CA.length) = false := by simpa using h
          have hO4 : O ≤ 4 := by
            have h1 := HOK.out.opens
            rw [H4.out, ← HCAS.out] at h1
            rw [HOO.out, List.take_of_length_le (by omega)]
            exact h1
          have t3 : decide ((O : Int) ≤ 4) = true := decide_eq_true (by omega)
          have t4 : decide (O ≤ 4) = true := decide_eq_true hO4
          clear hO4
          go_wp2_with fail
          go_ret
          exact ⟨rfl, (HF4.out.trans HF5.out (by simp)).below (Nat.le_refl _) (by simp)⟩

set_option maxRecDepth 100000 in
theorem contract (H : Type) (enc : TypeId × Value → H) (W : World) (base : Nat) (args : Array Value) (ds gs : List (DataW H)) (before : List MemPlace)
    (hval0 : ∀ (j : Nat) t v, Tryz.f4.params[j]? = some t → args[j]? = some v → Value.okWide Tryz.prog W .any base t v)
    (hW : DataW.Whole enc Tryz.prog Tryz.f4.params.toList Rows.crowdNotesSpec.vars false W args.toList ds gs before) :
    Calls Tryz.prog 4 args W fun e W' => ∃ v, e = .returned v ∧ Rows.crowdNotesSpec.post enc Tryz.prog Tryz.f4 false true false false W args v W' := by
  have hval : ∀ (j : Nat) t v, Tryz.f4.params[j]? = some t → args[j]? = some v → Value.okWide Tryz.prog W .any base t v := hval0
  have hW' := hW
  obtain ⟨p, q, hA0, hV, rfl, hfz, hnd⟩ := hW
  have hA : DataW.TrodAll enc Tryz.prog W 0 (fun _ => true) true Tryz.f4.params.toList args.toList ds p := hA0
  rw [Tryz.params4] at hA hval
  obtain ⟨v0, vs0, d0, ds0, p0, q0, hargs, rfl, rfl, h0, r0⟩ := trodAll_cons hA
  obtain ⟨rfl, rfl, rfl⟩ := trodAll_nil r0
  obtain rfl : args = #[v0] := by cases args; simp_all
  obtain ⟨rfl, rfl⟩ := trodVars_none hV
  have k0 := h0
  have lt0 : ∀ x ∈ p0, x.block < W.heap.size := by obtain ⟨m, hm⟩ := k0; exact DataW.trod_lt m _ _ _ hm
  obtain ⟨l, hl⟩ := open_dds (hval 0 23 v0 rfl rfl) h0
  clear hA0 hval0 hval
  refine (walk v0 l W hl).mono fun e W' ⟨he, bel⟩ => ?_
  subst he
  exact ⟨_, rfl, _, _, _, [], _, [], hW', trodAll_mk1 (shut_bool Tryz.underlying4 _), (trodAll_cons_mk (Below.trod laid_prog (by kernel_rfl) (of_decide_eq_true (by kernel_rfl)) k0 bel lt0) trodAll_mk0), rfl, bel.frame _, fun h => by cases h⟩

set_option maxRecDepth 100000 in
theorem lifted (os : Os) (started : os.Started) (H : Type) (enc : TypeId × Value → H) :
    ReturnsInHanded {} Tryz.checked os 4 .any (Rows.crowdNotesSpec.pre6 enc Tryz.prog Tryz.f4 Rows.crowdNotesRow.domain false) (Rows.crowdNotesSpec.post enc Tryz.prog Tryz.f4 false true false false) := by
  refine returnsInHanded_of_change (C := Tryz.checked) own_prog started (by kernel_rfl) Tryz.func4
    (ChangeSpec.witness6 (enc := enc) (C := Tryz.checked) false ⟨#[], #[.slice none 0 0], []⟩ 8 (by kernel_rfl) (by kernel_rfl) (by kernel_rfl) (by kernel_rfl)) ?_
  intro W base args ds gs before hval hW _ _
  exact contract H enc W base args ds gs before hval hW

theorem proved : Rows.CrowdNotesSaid :=
  OpenClaim.holds_of_wide 4 Tryz.f4 rfl rfl rfl rfl rfl rfl rfl ⟨rfl, rfl, rfl, rfl, rfl⟩ rfl rfl rfl rfl rfl (by kernel_rfl) Tryz.func4 (by kernel_rfl)
    (of_decide_eq_true (by kernel_rfl)) (by unfold Func.isWrapper; first | (rw [if_pos (by decide +kernel)]; kernel_rfl) | (rw [if_neg (by decide +kernel)]; exact ⟨rfl, rfl⟩))
    (fun os started H enc _ => lifted os started H enc)

end Go.Proofs.YtmhiolhgofackaaGreat.lawCrowdNotes
