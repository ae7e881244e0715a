/- PACKAGE event: same, add, Cut: contracts -/
import Derived.Test.YtadlccdmbnimaaaEvCut
import Derived.Test.YtadlccdmbnimaaaEvLst
namespace Go.Proofs.Ytadlccdmbnimaaa
open Go.RowKit
set_option linter.unusedVariables false
set_option linter.unusedSimpArgs false

/-! plainly: the first row, and what comes behind it -/
theorem cutS_app {A B : List (List Ev)} (e : Ev) (hB : B ≠ []) : cutS (A ++ B) e = A ++ cutS B e := by
  obtain ⟨r, hr⟩ : ∃ r, B.getLast? = some r := by
    cases h : B.getLast? with
    | none => exact absurd (List.getLast?_eq_none_iff.1 h) hB
    | some r => exact ⟨r, rfl⟩
  have hAB : (A ++ B).getLast? = some r := by rw [List.getLast?_append, hr]; rfl
  unfold cutS
  rw [hr, hAB]
  dsimp only
  split
  · rw [List.dropLast_append_of_ne_nil hB, List.append_assoc]
  · rw [List.append_assoc]
theorem cutS_ne_nil (B : List (List Ev)) (e : Ev) : cutS B e ≠ [] := by
  unfold cutS
  split
  · simp
  · split <;> simp
theorem foldl_cut_app : ∀ (l : List Ev) (A B : List (List Ev)), B ≠ [] → l.foldl cutS (A ++ B) = A ++ l.foldl cutS B
  | [], A, B, _ => rfl
  | e :: r, A, B, hB => by rw [List.foldl_cons, List.foldl_cons, cutS_app e hB, foldl_cut_app r A _ (cutS_ne_nil B e)]
theorem foldl_same {v : Int} : ∀ (s q : List Ev), q ≠ [] → (∀ x ∈ q, x.rev = v) → (∀ x ∈ s, x.rev = v) → s.foldl cutS [q] = [q ++ s]
  | [], q, _, _, _ => by simp
  | e :: r, q, hq, h1, h2 => by
    have hs : sameRev q e = true := by
      unfold sameRev
      cases h : q.getLast? with
      | none => exact absurd (List.getLast?_eq_none_iff.1 h) hq
      | some p => 
        have hp : p ∈ q := List.mem_of_getLast? h
        simp [h1 p hp, h2 e (by simp)]
    rw [List.foldl_cons]
    have : cutS [q] e = [q ++ [e]] := by unfold cutS; simp [hs]
    rw [this, foldl_same r (q ++ [e]) (by simp) (fun x hx => by rcases List.mem_append.1 hx with hx | hx; exact h1 x hx; simp at hx; subst hx; exact h2 _ (by simp)) (fun x hx => h2 x (List.mem_cons_of_mem _ hx))]
    simp
/-- how many, from the first one on, are of its revision -/
structure SameN (l : List Ev) (h : Ev) (n : Nat) : Prop where
  one : 1 ≤ n
  le : n ≤ l.length
  all : ∀ x ∈ l.take n, x.rev = h.rev
  stop : ∀ y, l[n]? = some y → y.rev ≠ h.rev
theorem cutE_run {l : List Ev} {h : Ev} {n : Nat} (h0 : l[0]? = some h) (hn : SameN l h n) : cutE l = [l.take n] ++ cutE (l.drop n) := by
  have hsplit : l = l.take n ++ l.drop n := (List.take_append_drop n l).symm
  have hne : l.take n ≠ [] := by
    intro e
    have h1 := congrArg List.length e
    rw [List.length_take, Nat.min_eq_left hn.le] at h1
    have h2 := hn.one
    simp at h1; omega
  have h1 : cutE (l.take n) = [l.take n] := by
    obtain ⟨e, s, hes⟩ : ∃ e s, l.take n = e :: s := by
      cases hx : l.take n with
      | nil => exact absurd hx hne
      | cons e s => exact ⟨e, s, rfl⟩
    have hall := hn.all
    rw [hes] at hall ⊢
    show s.foldl cutS (cutS [] e) = _
    have : cutS [] e = [[e]] := rfl
    rw [this, foldl_same (v := h.rev) s [e] (by simp) (fun x hx => hall x (by simp at hx; subst hx; simp)) (fun x hx => hall x (List.mem_cons_of_mem _ hx))]
    rfl
  have h2 : cutE l = (l.drop n).foldl cutS (cutE (l.take n)) := by
    conv => lhs; rw [hsplit]
    unfold cutE; rw [List.foldl_append]
  rw [h2, h1]
  cases hd : l.drop n with
  | nil => rfl
  | cons y s =>
    have hy : l[n]? = some y := by
      have := congrArg (fun z => z[0]?) hd
      simpa using this
    have hne2 := hn.stop y hy
    have hs : sameRev (l.take n) y = false := by
      unfold sameRev
      cases hl : (l.take n).getLast? with
      | none => rfl
      | some p =>
        have hp : p ∈ l.take n := List.mem_of_getLast? hl
        simp only [hn.all p hp, decide_eq_false_iff_not]
        exact fun e => hne2 e.symm
    have hc : cutS [l.take n] y = [l.take n] ++ [[y]] := by unfold cutS; simp [hs]
    rw [List.foldl_cons, hc, foldl_cut_app s _ _ (by simp)]
    rfl
/-! pieces of a row that is read -/
theorem LIn.take {α : Type} {cs : α → List Value} {sz : Nat} {w : World} {s : Option Addr} {c n k : Nat} {l : List α} (h : LIn cs sz w (.slice s n c) l) (hk : k ≤ l.length) : LIn cs sz w (.slice s k c) (l.take k) := by
  obtain ⟨a, c', h1, h2, h3, h4⟩ := h
  cases h1
  have hlen : (l.take k).length = k := by rw [List.length_take]; omega
  refine ⟨s, c, by rw [hlen], by omega, h3, fun hl => ?_⟩
  obtain ⟨g, off, h5, h6, h7⟩ := h4 (by omega)
  refine ⟨g, off, h5, h6, fun i x hx j hj => h7 i x ?_ j hj⟩
  rw [List.getElem?_take] at hx
  split at hx
  · exact hx
  · cases hx
theorem LIn.drop {α : Type} {cs : α → List Value} {sz : Nat} {w : World} {g off off' c n k m : Nat} {l : List α} (h : LIn cs sz w (.slice (some ⟨g, off, none⟩) n c) l) (hm : l.length = m + k) (ho : CutAt off k sz c off') (hg : g < w.heap.size) : LIn cs sz w (.slice (some ⟨g, off', none⟩) m (c - k)) (l.drop k) := by
  obtain ⟨a, c', h1, h2, h3, h4⟩ := h
  cases h1
  have hlen : (l.drop k).length = m := by rw [List.length_drop]; omega
  refine ⟨_, c - k, by rw [hlen], by omega, by omega, fun hl => ⟨g, off', rfl, hg, fun i x hx j hj => ?_⟩⟩
  obtain ⟨g', off2, h5, h6, h7⟩ := h4 (by omega)
  cases h5
  rcases ho with rfl | ⟨rfl, rfl⟩
  · have := h7 (k + i) x (by rw [List.getElem?_drop] at hx; exact hx) j hj
    rw [← this]
    congr 2
    rw [Nat.add_mul]; omega
  · omega
/-- a row more -/
theorem OwnRows.add {wb W W1 w' : World} {v v' u : Value} {vs : List Value} {rows : List (List Ev)} {r : List Ev} (h : OwnRows wb W v vs rows) (hW : wb.heap.size ≤ W.heap.size) (hf : Fr [] W W1) (hu : EvAt W1 u r) (hun : ∀ k, u.ownBlock = some k → W.heap.size ≤ k)
    (h1 : Lies w' 22 1 v' (rows.length + 1) (vs ++ [u])) (h2 : Fr v.ownBlock.toList W1 w') (h3 : ∀ k, v'.ownBlock = some k → v.ownBlock = some k ∨ W1.heap.size ≤ k) : OwnRows wb w' v' (vs ++ [u]) (rows ++ [r]) := by
  have hl := h.len
  have get : ∀ (i : Nat) z, (vs ++ [u])[i]? = some z → vs[i]? = some z ∨ (i = vs.length ∧ z = u) := by
    intro i z hz
    by_cases hi : i < vs.length
    · rw [List.getElem?_append_left hi] at hz; exact Or.inl hz
    · rw [List.getElem?_append_right (by omega)] at hz
      obtain ⟨h4, h5⟩ := List.getElem?_eq_some_iff.1 hz
      simp at h4
      have : i - vs.length = 0 := by omega
      simp [this] at h5
      exact Or.inr ⟨by omega, h5.symm⟩
  have hlt : ∀ (i : Nat) z k, vs[i]? = some z → z.ownBlock = some k → k < W.heap.size := by
    intro i z k hz hk
    have hi : i < rows.length := by rw [← hl]; exact (List.getElem?_eq_some_iff.1 hz).1
    exact (h.row i z _ hz (List.getElem?_eq_getElem hi)).lt k hk
  have hvlt : ∀ k, v.ownBlock = some k → k < W.heap.size := h.lies.lt
  have hult : ∀ k, u.ownBlock = some k → k < W1.heap.size := hu.lt
  have hfs := hf.size
  refine ⟨by rw [List.length_append]; exact h1, ?_, ?_, ?_, ?_⟩
  · intro i z q hz hq
    rcases get i z hz with hz2 | ⟨rfl, rfl⟩
    · have hi : i < rows.length := by rw [← hl]; exact (List.getElem?_eq_some_iff.1 hz2).1
      rw [List.getElem?_append_left hi] at hq
      refine (LAt.keep0 (h.row i z q hz2 hq) hf).keep h2 (fun k hk hm => ?_)
      exact (h.far i z k hz2 hk).2 (by simpa using hm)
    · rw [hl, List.getElem?_append_right (Nat.le_refl _)] at hq
      simp at hq
      subst hq
      refine hu.keep h2 (fun k hk hm => ?_)
      have := hun k hk
      have := hvlt k (by simpa using hm)
      omega
  · intro k hk
    rcases h3 k hk with h4 | h4
    · exact h.new k h4
    · omega
  · intro i z k hz hk
    rcases get i z hz with hz2 | ⟨rfl, rfl⟩
    · refine ⟨(h.far i z k hz2 hk).1, fun hv => ?_⟩
      rcases h3 k hv with h4 | h4
      · exact (h.far i z k hz2 hk).2 h4
      · have := hlt i z k hz2 hk; omega
    · refine ⟨by have := hun k hk; omega, fun hv => ?_⟩
      rcases h3 k hv with h4 | h4
      · have := hvlt k h4; have := hun k hk; omega
      · have := hult k hk; omega
  · intro i j z z' k hz hz' hij hk
    rcases get i z hz with hz2 | ⟨rfl, rfl⟩
    · rcases get j z' hz' with hz3 | ⟨rfl, rfl⟩
      · exact h.apart i j z z' k hz2 hz3 hij hk
      · intro hk'
        have := hlt i z k hz2 hk; have := hun k hk'; omega
    · rcases get j z' hz' with hz3 | ⟨rfl, rfl⟩
      · intro hk'
        have := hlt j z' k hz3 hk'; have := hun k hk; omega
      · exact absurd rfl hij

/-! the code -/
theorem event_same (lv : Value) (l : List Ev) (h : Ev) (w : World) (hl : EvIn w lv l) (bl : l.length ≤ many) (h0 : l[0]? = some h) : Calls Try.prog 24 #[lv] w fun e w' => ∃ n : Nat, e = .returned (.int .i64 n) ∧ SameN l h n ∧ Fr [] w w' := by
  unfold many at bl
  have hpos : 0 < l.length := (List.getElem?_eq_some_iff.1 h0).1
  obtain ⟨g, off, c1, rfl, hg, la, k1⟩ := EvIn.here hl hpos
  obtain ⟨_, _, e9, _, ma⟩ := hl.form
  cases e9
  unfold maxLen at ma
  have HL := Lib.hid hl
  have HK := Lib.hid k1
  have H0 := Lib.hid h0
  clear hl k1 h0
  go_enter Try.func24, Try.ntmps24
  go_wp2_with fail
  go_loopw [3] (fun i wr => ∃ (j : Nat), i = .int .i64 j ∧ 1 ≤ j ∧ j ≤ l.length ∧ (∀ x ∈ l.take j, x.rev = h.rev) ∧ Fr [] w wr) (fun i _ => l.length - (intOf i).toNat)
  case atStart =>
    refine ⟨1, rfl, Nat.le_refl _, hpos, fun x hx => ?_, Fr.refl _ _⟩
    obtain ⟨h1, h2⟩ := List.getElem?_eq_some_iff.1 H0.out
    rw [List.take_one, List.head?_eq_getElem?, H0.out] at hx
    simp at hx; rw [hx]
  case round =>
    obtain ⟨j, rfl, hj1, hj, hs, hf⟩ := hrel
    have HS := Lib.hid hs
    have HF := Lib.hid hf
    clear hs hf
    have hc0 := ((HK.out 0 h H0.out).keep HF.out (by simp)).c0
    simp only [Nat.zero_mul, Nat.add_zero] at hc0
    by_cases hlt : j < l.length
    · obtain ⟨x, hx⟩ : ∃ x, l[j]? = some x := ⟨_, List.getElem?_eq_getElem hlt⟩
      have hcj := ((HK.out j x hx).keep HF.out (by simp)).c0
      have HX := Lib.hid hx
      have t1 : decide ((j : Int) < (l.length : Int)) = true := by simp; omega
      clear hx
      by_cases he : x.rev = h.rev
      all_goals
        have HE := Lib.hid he
      · have t2 : (x.rev == h.rev) = true := by simpa using he
        clear he
        go_wp2_with fail
        go_quiet (fail)
        go_wp2_with fail
        go_roundw
        case rel =>
          refine ⟨j + 1, by go_num, by omega, by omega, fun y hy => ?_, HF.out.drewN nq⟩
          rcases (mem_snoc HX.out y).1 hy with hy | rfl
          · exact HS.out y hy
          · exact HE.out
        case measure => simp [intOf]; omega
      · have t2 : (x.rev == h.rev) = false := by simpa using he
        clear he
        go_wp2_with fail
        go_quiet (fail)
        go_wp2_with fail
        go_ret
        exact ⟨j, rfl, ⟨hj1, hj, HS.out, fun y hy => by rw [HX.out] at hy; cases hy; exact HE.out⟩, HF.out.drewN nq⟩
    · have t1 : decide ((j : Int) < (l.length : Int)) = false := by simp; omega
      go_wp2_with fail
      go_quiet (fail)
      go_wp2_with fail
      go_ret
      exact ⟨j, rfl, ⟨hj1, hj, HS.out, fun y hy => by rw [List.getElem?_eq_none (by omega)] at hy; cases hy⟩, HF.out.drewN nq⟩
set_option maxHeartbeats 1000000 in
theorem event_add {wb w : World} {v : Value} {vs : List Value} {rows : List (List Ev)} (uv : Value) (r : List Ev) (hW : Fr [] wb w) (h : OwnRows wb w v vs rows) (hr : EvIn w uv r) (br : r.length ≤ many) (bv : rows.length ≤ many) :
    Calls Try.prog 25 #[v, uv] w fun e w' => ∃ v' vs', e = .returned v' ∧ OwnRows wb w' v' vs' (rows ++ [r]) ∧ Fr [] wb w' := by
  unfold many at br bv
  have HO := Lib.hid h
  have HW := Lib.hid hW
  have HSRC := Lib.hid (LIn.src hr Ev.clen (by decide))
  obtain ⟨s1, c1, rfl, l1, m1⟩ := h.lies.form
  obtain ⟨s2, c2, rfl, l2, m2⟩ := hr.form
  unfold maxLen at m1 m2
  clear h hr hW
  go_enter Try.func25, Try.ntmps25
  go_wp2_with (at_builtin; refine go_stop ?_)
  unfold Stop
  refine wpList_append_src rfl (.tmp 6) (.tmp 7) 22 40 (.agg #[.int .i64 0, .string ⟨#[]⟩, .string ⟨#[]⟩, .bool false]) 4 48 rfl ev_slice ev_info rfl (by decide) (.slice none 0 0) 0 [] rfl (Lies.nil _ _ _) _ r.length (allC Ev.cells r) rfl HSRC.out (allC_ones Ev.cone _) (by unfold maxLen; omega) (by omega) ?_
  intro u w1 k1 k2 k3
  rw [Nat.zero_add, List.nil_append] at k1
  have hu : EvAt w1 u r := k1
  have HU := Lib.hid hu
  have HF1 : Hid (Fr [] w w1) := Lib.hid (by simpa [Value.ownBlock] using k2)
  have HUN : Hid (∀ k, u.ownBlock = some k → w.heap.size ≤ k) := Lib.hid (fun k hk => by
    rcases k3 k hk with h4 | h4
    · simp [Value.ownBlock] at h4
    · omega)
  obtain ⟨su, cu, rfl, _, _⟩ := hu.form
  clear k1 k2 k3 hu
  go_wp2_with (at_builtin; refine go_stop ?_)
  unfold Stop
  refine wpList_append_any rfl (.tmp 9) (.tmp 11) 27 22 (.slice none 0 0) 1 24 rfl rows_slice rows_info rfl (by decide) (.slice s1 rows.length c1) rows.length vs rfl ((HO.out.lies.keep HF1.out (by simp)).keep ((Fr.refl [] _).alloc _) (by simp)) _ 1 [.slice su r.length cu] rfl (lies_row w1 22 [.slice su r.length cu] rfl _ rfl) (by intro y hy; simp at hy; subst hy; rfl) (by unfold maxLen; omega) (by omega) ?_
  intro v' w2 k1 k2 k3
  have hadd := OwnRows.add (W1 := w1.alloc (.cells #[.slice su r.length cu] 22)) HO.out HW.out.size (HF1.out.alloc _) (LAt.keep0 HU.out ((Fr.refl [] w1).alloc _)) HUN.out k1 k2 (fun k hk => by
    rcases k3 k hk with h4 | h4
    · exact Or.inl h4
    · exact Or.inr (by omega))
  have HA := Lib.hid hadd
  have HG := Lib.hid (((HW.out.trans HF1.out (by simp)).alloc (.cells #[.slice su r.length cu] 22)).trans k2 (fun k hk => Or.inr (HO.out.new k (by simpa using hk))))
  clear hadd k1 k2 k3
  go_wp2_with fail
  go_ret
  exact ⟨_, _, rfl, HA.out, HG.out⟩
def lenV : Value → Nat
  | .slice _ n _ => n
  | _ => 0
set_option maxHeartbeats 2000000 in
theorem event_cut (lv : Value) (l : List Ev) (w : World) (hl : EvIn w lv l) (bl : l.length ≤ many) : Calls Try.prog 11 #[lv] w fun e w' => ∃ v, e = .returned v ∧ RowsIn w' v (cutE l) ∧ Fr [] w w' := by
  have HB := Lib.hid bl
  obtain ⟨s1, c1, rfl, l1, m1⟩ := hl.form
  have HL := Lib.hid hl
  clear hl bl
  go_enter Try.func11, Try.ntmps11
  go_wp2_with fail
  go_loopw [0, 3] (fun lv v wr => ∃ (r : List Ev) (vs : List Value) (rows : List (List Ev)), EvIn w lv r ∧ r.length ≤ l.length ∧ OwnRows w wr v vs rows ∧ rows ++ cutE r = cutE l ∧ Fr [] w wr) (fun lv _ _ => lenV lv)
  case atStart => exact ⟨l, [], [], HL.out, Nat.le_refl _, OwnRows.nil _ _, rfl, Fr.refl _ _⟩
  case round =>
    obtain ⟨r, vs, rows, hr, hrl, ho, hs, hf⟩ := hrel
    have HR := Lib.hid hr
    have HRL := Lib.hid hrl
    have HO := Lib.hid ho
    have HS := Lib.hid hs
    have HF := Lib.hid hf
    obtain ⟨s2, c2, rfl, l2, m2⟩ := ho.lies.form
    clear hrl ho hs hf
    by_cases hpos : 0 < r.length
    · obtain ⟨g, off, c3, rfl, hg, l3, k3⟩ := EvIn.here hr hpos
      obtain ⟨x, hx⟩ : ∃ x, r[0]? = some x := ⟨_, List.getElem?_eq_getElem hpos⟩
      have HX := Lib.hid hx
      have t1 : decide ((0 : Int) < (r.length : Int)) = true := by simp; omega
      clear hr k3 hx
      go_wp2_with (go_at_call 24; refine (event_same _ r x _ (LIn.keep0 HR.out HF.out) (by have := HB.out; have := HRL.out; omega) HX.out).mono ?_; rintro e w1 ⟨n, rfl, h1, h2⟩; refine go_stop ?_)
      unfold Stop
      have hn1 := h1.one
      have hn2 := h1.le
      have HN := Lib.hid h1
      have HF1 := Lib.hid (HF.out.trans h2 (by simp))
      have HO1 := Lib.hid (HO.out.keep h2)
      have HR1 := Lib.hid (LIn.keep0 HR.out HF1.out)
      have hrows : rows.length ≤ l.length := by
        have q1 := congrArg List.length HS.out
        rw [List.length_append] at q1
        have q2 := cut_len l
        omega
      have HRW := Lib.hid hrows
      clear h1 h2 hrows
      go_wp2_with (go_at_call 25; refine (event_add _ (r.take n) HF1.out HO1.out (LIn.take HR1.out hn2) (by have := HB.out; have := HRL.out; rw [List.length_take]; omega) (by have := HB.out; have := HRW.out; omega)).mono ?_; rintro e w2 ⟨v', vs', rfl, h1, h2⟩; refine go_stop ?_)
      unfold Stop
      have HO2 := Lib.hid h1
      have HF2 := Lib.hid h2
      clear h1 h2 HR1
      obtain ⟨s4, c4, rfl, _, _⟩ := HO2.out.lies.form
      go_wp2_with (refine wpList_slice_from rfl (.tmp 15) (.tmp 16) 22 40 (.agg #[.int .i64 0, .string ⟨#[]⟩, .string ⟨#[]⟩, .bool false]) 4 48 rfl ev_slice ev_info _ _ r.length c3 n (r.length - n) rfl rfl (by omega) (by omega) ?sl)
      case sl =>
      intro off4 hcut
      have HD := Lib.hid (LIn.drop HR.out (m := r.length - n) (k := n) (by omega) hcut hg)
      clear hcut
      go_wp2_with fail
      go_roundw
      case rel =>
        have hlen : (rows ++ [r.take n]).length = rows.length + 1 := by simp
        rw [← hlen]
        refine ⟨r.drop n, vs', rows ++ [r.take n], HD.out, ?_, HO2.out, ?_, HF2.out⟩
        · have := HRL.out; rw [List.length_drop]; omega
        · rw [← HS.out, cutE_run HX.out HN.out, List.append_assoc]
      case measure => simp [lenV]; omega
    · have t1 : decide ((0 : Int) < (r.length : Int)) = false := by simp only [decide_eq_false_iff_not]; omega
      obtain rfl : r = [] := List.eq_nil_of_length_eq_zero (by omega)
      obtain ⟨s3, c3, rfl, _, _⟩ := hr.form
      clear hr
      go_wp2_with fail
      go_ret
      refine ⟨_, rfl, ?_, HF.out⟩
      have hcut : rows = cutE l := by have := HS.out; simpa [cutE] using this
      rw [← hcut]
      exact RowsAt.read ⟨vs, HO.out.lies, HO.out.len, HO.out.row⟩
end Go.Proofs.Ytadlccdmbnimaaa
