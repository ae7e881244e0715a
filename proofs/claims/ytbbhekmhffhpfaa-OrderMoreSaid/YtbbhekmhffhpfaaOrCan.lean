/- impostref14: can: contract -/
import Derived.Test.YtbbhekmhffhpfaaOrRef
import Derived.Deep.DeepCutAuto
namespace Go.Proofs.Ytbbhekmhffhpfaa
open Go.RowKit
set_option linter.unusedVariables false
set_option linter.unusedSimpArgs false

open Classical in
noncomputable def fitB (l : List Ca) (f : Nat → Bool) (S : SetB) : Bool := decide (FitI l f S)
theorem fitB_true {l : List Ca} {f : Nat → Bool} {S : SetB} : fitB l f S = true ↔ FitI l f S := by unfold fitB; simp
theorem fitB_false {l : List Ca} {f : Nat → Bool} {S : SetB} : fitB l f S = false ↔ ¬ FitI l f S := by unfold fitB; simp
/-- place i can be done first, and leads to an end -/
def Leads (l : List Ca) (f : Nat → Bool) (S : SetB) (i : Nat) : Prop := ∃ c, l[i]? = some c ∧ f i = false ∧ (∀ j d, l[j]? = some d → f j = false → ahead d c = false) ∧ (0 ≤ c.ret → doOk c.kind (S c.key) = c.ok) ∧ FitI l (upd f i) (up S c)
def AllNeg (l : List Ca) (f : Nat → Bool) : Prop := ∀ (i : Nat) (c : Ca), l[i]? = some c → f i = false → c.ret < 0
theorem fitI_cases {l : List Ca} {f : Nat → Bool} {S : SetB} : FitI l f S ↔ AllNeg l f ∨ ∃ i, Leads l f S i := by
  constructor
  · intro h
    cases h with
    | all h => exact Or.inl h
    | step i c h1 h2 h3 h4 h5 => exact Or.inr ⟨i, c, h1, h2, h3, h4, h5⟩
  · rintro (h | ⟨i, c, h1, h2, h3, h4, h5⟩)
    · exact FitI.all h
    · exact FitI.step i c h1 h2 h3 h4 h5
/-- all of the first j that are left weren't answered -/
def allTo (l : List Ca) (f : Nat → Bool) : Nat → Bool
  | 0 => true
  | j + 1 => allTo l f j && (f j || ((l[j]?).map (fun c => decide (c.ret < 0))).getD true)
theorem allTo_iff {l : List Ca} {f : Nat → Bool} : ∀ {j : Nat}, allTo l f j = true ↔ ∀ i c, i < j → l[i]? = some c → f i = false → c.ret < 0
  | 0 => by simp [allTo]
  | j + 1 => by
    have ih := @allTo_iff l f j
    unfold allTo
    rw [Bool.and_eq_true, ih]
    constructor
    · rintro ⟨h1, h2⟩ i c hi hc hf
      by_cases e : i = j
      · subst e
        rw [hf, hc] at h2
        simpa using h2
      · exact h1 i c (by omega) hc hf
    · intro h
      refine ⟨fun i c hi => h i c (by omega), ?_⟩
      cases hf : f j with
      | true => rfl
      | false =>
        cases hc : l[j]? with
        | none => rfl
        | some c => simpa using h j c (by omega) hc hf
theorem allTo_len {l : List Ca} {f : Nat → Bool} : allTo l f l.length = true ↔ AllNeg l f := by
  rw [allTo_iff]
  exact ⟨fun h i c hc hf => h i c (List.getElem?_eq_some_iff.1 hc).1 hc hf, fun h i c _ hc hf => h i c hc hf⟩
theorem allTo_skip {l : List Ca} {f : Nat → Bool} {j : Nat} (h : f j = true) : allTo l f (j + 1) = allTo l f j := by simp [allTo, h]
theorem allTo_step {l : List Ca} {f : Nat → Bool} {j : Nat} {c : Ca} (hc : l[j]? = some c) (h : f j = false) : allTo l f (j + 1) = (allTo l f j && decide (c.ret < 0)) := by simp [allTo, h, hc]
/-- none of the first k that are left is ahead of c -/
def freeTo (l : List Ca) (f : Nat → Bool) (c : Ca) : Nat → Bool
  | 0 => true
  | j + 1 => freeTo l f c j && (f j || ((l[j]?).map (fun d => !(ahead d c))).getD true)
theorem freeTo_iff {l : List Ca} {f : Nat → Bool} {c : Ca} : ∀ {j : Nat}, freeTo l f c j = true ↔ ∀ i d, i < j → l[i]? = some d → f i = false → ahead d c = false
  | 0 => by simp [freeTo]
  | j + 1 => by
    have ih := @freeTo_iff l f c j
    unfold freeTo
    rw [Bool.and_eq_true, ih]
    constructor
    · rintro ⟨h1, h2⟩ i d hi hd hf
      by_cases e : i = j
      · subst e
        rw [hf, hd] at h2
        simpa using h2
      · exact h1 i d (by omega) hd hf
    · intro h
      refine ⟨fun i d hi => h i d (by omega), ?_⟩
      cases hf : f j with
      | true => rfl
      | false =>
        cases hd : l[j]? with
        | none => rfl
        | some d => simpa using h j d (by omega) hd hf
theorem freeTo_len {l : List Ca} {f : Nat → Bool} {c : Ca} : freeTo l f c l.length = true ↔ ∀ (j : Nat) (d : Ca), l[j]? = some d → f j = false → ahead d c = false := by
  rw [freeTo_iff]
  exact ⟨fun h i d hd hf => h i d (List.getElem?_eq_some_iff.1 hd).1 hd hf, fun h i d _ hd hf => h i d hd hf⟩
theorem freeTo_step {l : List Ca} {f : Nat → Bool} {c : Ca} {j : Nat} {d : Ca} (hd : l[j]? = some d) : freeTo l f c (j + 1) = (freeTo l f c j && (f j || !(ahead d c))) := by simp [freeTo, hd]
theorem not_leads {l : List Ca} {f : Nat → Bool} {S : SetB} {j : Nat} (h : ∀ i, i < j → ¬ Leads l f S i) (hj : ¬ Leads l f S j) : ∀ i, i < j + 1 → ¬ Leads l f S i := by
  intro i hi
  by_cases e : i = j
  · subst e; exact hj
  · exact h i (by omega)
theorem leads_done {l : List Ca} {f : Nat → Bool} {S : SetB} {j : Nat} (h : f j = true) : ¬ Leads l f S j := by
  rintro ⟨c, _, h2, _⟩; rw [h] at h2; cases h2
theorem leads_iff {l : List Ca} {f : Nat → Bool} {S : SetB} {j : Nat} {c : Ca} (hc : l[j]? = some c) (hf : f j = false) : Leads l f S j ↔ freeTo l f c l.length = true ∧ (0 ≤ c.ret → doOk c.kind (S c.key) = c.ok) ∧ FitI l (upd f j) (up S c) := by
  rw [freeTo_len]
  constructor
  · rintro ⟨c', h1, h2, h3, h4, h5⟩
    rw [hc] at h1; cases h1
    exact ⟨h3, h4, h5⟩
  · rintro ⟨h3, h4, h5⟩
    exact ⟨c, hc, hf, h3, h4, h5⟩
theorem fit_end {l : List Ca} {f : Nat → Bool} {S : SetB} (h : ∀ i, i < l.length → ¬ Leads l f S i) : fitB l f S = allTo l f l.length := by
  have hno : ¬ ∃ i, Leads l f S i := by
    rintro ⟨i, hi⟩
    have hi' := hi
    obtain ⟨c, hc, _⟩ := hi'
    exact h i (List.getElem?_eq_some_iff.1 hc).1 hi
  cases ha : allTo l f l.length with
  | true => exact fitB_true.2 (fitI_cases.2 (Or.inl (allTo_len.1 ha)))
  | false =>
    refine fitB_false.2 fun h => ?_
    rcases fitI_cases.1 h with h | h
    · rw [allTo_len.2 h] at ha; cases ha
    · exact hno h

/-! what is done, as a list of bools -/
def boC (b : Bool) : List Value := [.bool b]
def dones (l : List Ca) (f : Nat → Bool) : List Bool := (List.range l.length).map f
theorem dones_len (l : List Ca) (f : Nat → Bool) : (dones l f).length = l.length := by simp [dones]
theorem dones_at {l : List Ca} (f : Nat → Bool) {j : Nat} (h : j < l.length) : (dones l f)[j]? = some (f j) := by simp [dones, h]
theorem dones_set (l : List Ca) (f : Nat → Bool) (j : Nat) : (dones l f).set j true = dones l (upd f j) := by
  apply List.ext_getElem?
  intro i
  rw [List.getElem?_set]
  by_cases hi : i < l.length
  · by_cases e : j = i
    · subst e
      rw [if_pos rfl, if_pos (by rw [dones_len]; exact hi), dones_at _ hi]; simp [upd]
    · rw [if_neg e, dones_at _ hi, dones_at _ hi]
      have e' : ¬ i = j := fun h => e h.symm
      simp [upd, e']
  · have h1 : (dones l f)[i]? = none := List.getElem?_eq_none (by rw [dones_len]; omega)
    have h2 : (dones l (upd f j))[i]? = none := List.getElem?_eq_none (by rw [dones_len]; omega)
    rw [h1, h2]
    by_cases e : j = i
    · subst e; rw [if_pos rfl, if_neg (by rw [dones_len]; omega)]
    · rw [if_neg e]
def BoIn (w : World) (v : Value) (l : List Bool) : Prop := LIn boC 1 w v l
theorem BoIn.here {w : World} {v : Value} {l : List Bool} (h : BoIn w v l) (hn : 0 < l.length) : ∃ g off c, v = .slice (some ⟨g, off, none⟩) l.length c ∧ g < w.heap.size ∧ l.length ≤ c ∧ ∀ i x, l[i]? = some x → w.cell? ⟨g, off + i, none⟩ = some (.bool x) := by
  obtain ⟨g, off, c, hv, h1, h2, h3⟩ := LIn.here h hn
  refine ⟨g, off, c, hv, h1, h2, fun i x hx => ?_⟩
  have e0 := h3 i x hx 0 (by decide)
  rw [Nat.mul_one, Nat.add_zero] at e0
  exact e0
theorem bo_slice : Try.prog.underlying 58 = some (.slice 4) := Try.underlying58
theorem bo_info : (Try.prog.info? 4).map (fun i => (i.zero, i.size, i.bytes)) = some (some (.bool false), 1, 1) := by kernel_rfl

/-- d[j] = true, of a row of bools of one's own -/
theorem bo_store {l : List Ca} {f : Nat → Bool} {w' : World} {v' : Value} {j : Nat} (hj : j < l.length) (h1 : Lies w' 4 1 v' l.length (allC boC (dones l f))) :
    ∃ g off c, v' = .slice (some ⟨g, off, none⟩) l.length c ∧ g < w'.heap.size ∧ w'.cell? ⟨g, off + j, none⟩ = some (.bool (f j)) ∧ w'.frozen? ⟨g, off + j, none⟩ = false ∧
      BoIn (w'.setCell ⟨g, off + j, none⟩ (.bool true)) (.slice (some ⟨g, off, none⟩) l.length c) (dones l (upd f j)) := by
  have h2 : LAt boC 4 1 w' v' (dones l f) := by unfold LAt; rw [dones_len]; exact h1
  obtain ⟨s0, c0, hv0, hc1, hc2⟩ := LAt.form h2
  obtain ⟨g, off, c, hv, hg, hc, hat⟩ := LAt.here h2 (fun _ => rfl) (by rw [dones_len]; omega)
  rw [hv] at hv0
  simp only [Value.slice.injEq] at hv0
  obtain ⟨_, _, e0⟩ := hv0
  rw [← e0] at hc1 hc2
  clear e0
  rw [dones_len] at hv hc hc1
  have h3 := hat j _ (dones_at f hj) 0 (by decide)
  rw [Nat.mul_one, Nat.add_zero] at h3
  refine ⟨g, off, c, hv, hg, h3.1, h3.2, some ⟨g, off, none⟩, c, by rw [dones_len], by rw [dones_len]; exact hc1, hc2, fun _ => ⟨g, off, rfl, by rw [World.size_setCell]; exact hg, ?_⟩⟩
  intro i x hx q hq
  obtain rfl : q = 0 := by omega
  have hi : i < l.length := by have := (List.getElem?_eq_some_iff.1 hx).1; rw [dones_len] at this; exact this
  rw [dones_at _ hi] at hx
  rw [Nat.mul_one, Nat.add_zero]
  simp only [Option.some.injEq] at hx
  subst hx
  unfold upd
  by_cases e : i = j
  · subst e
    rw [if_pos rfl, cs_same _ h3.1]; rfl
  · rw [if_neg e]
    have h4 := hat i _ (dones_at f hi) 0 (by decide)
    rw [Nat.mul_one, Nat.add_zero] at h4
    exact cs_other _ _ h4.1 (addr_ne (Or.inr (by omega)))

set_option maxRecDepth 100000 in
set_option maxHeartbeats 4000000 in
theorem rr_can (l : List Ca) (hl12 : l.length ≤ 12) : ∀ (n : Nat) (f : Nat → Bool) (s : List ByteArray) (sv lv dv : Value) (w : World), left l f < n → s.length + n ≤ 1000 → SsIn w sv s → CaIn w lv l → BoIn w dv (dones l f) →
    Calls Try.prog 26 #[sv, lv, dv] w fun e w' => e = .returned (.bool (fitB l f (inS s))) ∧ Fr [] w w' := by
  intro n
  induction n with
  | zero => intro f s sv lv dv w h; exact absurd h (Nat.not_lt_zero _)
  | succ n ih =>
    intro f s sv lv dv w hn hs1 hs hl hd
    obtain ⟨ss, sc, rfl, sa, sb⟩ := LIn.form hs
    obtain ⟨ls, lc, rfl, la, lb⟩ := LIn.form hl
    obtain ⟨ds, dc, rfl, da, db⟩ := LIn.form hd
    unfold maxLen at sb lb db
    have HS := Lib.hid hs
    have HL := Lib.hid hl
    have HD := Lib.hid hd
    have HN := Lib.hid hn
    have IH := Lib.hid ih
    clear hs hl hd hn ih
    rw [dones_len] at da HD ⊢
    go_enter Try.func26, Try.ntmps26
    go_wp2_with fail
    go_loopw [7, 8] (fun a i wr => ∃ (j : Nat), i = .int .i64 j ∧ j ≤ l.length ∧ a = .bool (allTo l f j) ∧ (∀ i, i < j → ¬ Leads l f (inS s) i) ∧ Fr [] w wr) (fun _ i _ => l.length - (intOf i).toNat)
    case atStart => exact ⟨0, rfl, Nat.zero_le _, rfl, fun i h => absurd h (by omega), Fr.refl _ _⟩
    case round =>
      obtain ⟨j, rfl, hj, rfl, hno, hf⟩ := hrel
      have HNO := Lib.hid hno
      have HF := Lib.hid hf
      clear hno hf
      obtain ⟨A, hA⟩ : ∃ A, A = allTo l f j := ⟨_, rfl⟩
      rw [← hA]
      have HA := Lib.hid hA
      clear hA
      by_cases h : j < l.length
      · obtain ⟨c, hc⟩ : ∃ c, l[j]? = some c := ⟨_, List.getElem?_eq_getElem h⟩
        obtain ⟨gd, od, d1, e1, _, l1, k1⟩ := BoIn.here (LIn.keep0 HD.out HF.out) (by rw [dones_len]; omega)
        rw [dones_len] at e1
        simp only [Value.slice.injEq] at e1
        obtain ⟨rfl, _, rfl⟩ := e1
        obtain ⟨gl, ol, l1, e2, _, l2, k2⟩ := CaIn.here (LIn.keep0 HL.out HF.out) (by omega)
        simp only [Value.slice.injEq] at e2
        obtain ⟨rfl, _, rfl⟩ := e2
        have p0 := k1 j _ (dones_at f h)
        obtain ⟨y0, y1, y2, y3, y4⟩ := k2 j c hc
        have t1 : decide (j < l.length) = true := by simpa using h
        have HC := Lib.hid hc
        clear hc k1 k2
        cases hfj : f j with
        | true =>
          rw [hfj] at p0
          have HFJ := Lib.hid hfj
          clear hfj
          go_wp2_with fail
          go_roundw
          case rel => exact ⟨j + 1, by go_num, by omega, by rw [allTo_skip HFJ.out, HA.out], not_leads HNO.out (leads_done HFJ.out), HF.out⟩
          case measure => show l.length - ((j : Int) + 1).toNat < l.length - (j : Int).toNat; omega
        | false =>
          rw [hfj] at p0
          have HFJ := Lib.hid hfj
          clear hfj
          obtain ⟨A', hA'⟩ : ∃ A', A' = allTo l f (j + 1) := ⟨_, rfl⟩
          have HA' : Hid (A' = (A && decide (c.ret < 0))) := Lib.hid (by rw [hA', allTo_step HC.out HFJ.out, HA.out])
          have HAA := Lib.hid hA'
          clear hA'
          go_upto_region 6 with fail
          go_cut [7] (fun v wc => v = .bool A' ∧ wc = wr)
          case first =>
            cases A
            · go_wp2_with fail
              go_meet
              exact ⟨by rw [HA'.out]; rfl, rfl⟩
            · go_wp2_with fail
              go_meet
              exact ⟨by rw [HA'.out]; rfl, rfl⟩
          case rest =>
          obtain ⟨rfl, rfl⟩ := hcut
          clear p0 y0 y1 y2 y3 y4 HA'
          go_wp2_with fail
          go_loopw [9, 10] (fun a i wr => ∃ (k : Nat), i = .int .i64 k ∧ k ≤ l.length ∧ a = .bool (freeTo l f c k) ∧ Fr [] wc wr) (fun _ i _ => l.length - (intOf i).toNat)
          case atStart => exact ⟨0, rfl, Nat.zero_le _, rfl, Fr.refl _ _⟩
          case round =>
            obtain ⟨k, rfl, hk, rfl, hf⟩ := hrel
            have HFK := Lib.hid (Fr.trans (T := []) HF.out hf (by simp))
            have HFM := Lib.hid hf
            clear hf
            obtain ⟨B, hB⟩ : ∃ B, B = freeTo l f c k := ⟨_, rfl⟩
            rw [← hB]
            have HB := Lib.hid hB
            clear hB
            by_cases h2 : k < l.length
            · obtain ⟨d, hdd⟩ : ∃ d, l[k]? = some d := ⟨_, List.getElem?_eq_getElem h2⟩
              obtain ⟨gd', od', d1, e1, _, l1, k1⟩ := BoIn.here (LIn.keep0 HD.out HFK.out) (by rw [dones_len]; omega)
              rw [dones_len] at e1
              simp only [Value.slice.injEq] at e1
              obtain ⟨e1, _, rfl⟩ := e1
              simp only [Option.some.injEq, Addr.mk.injEq, and_true, true_and] at e1
              obtain ⟨rfl, rfl⟩ := e1
              obtain ⟨gl', ol', l1, e2, _, l2, k2⟩ := CaIn.here (LIn.keep0 HL.out HFK.out) (by omega)
              simp only [Value.slice.injEq] at e2
              obtain ⟨e2, _, rfl⟩ := e2
              simp only [Option.some.injEq, Addr.mk.injEq, and_true, true_and] at e2
              obtain ⟨rfl, rfl⟩ := e2
              have p0 := k1 k _ (dones_at f h2)
              have YC := k2 j c HC.out
              have YD := k2 k d hdd
              have t2 : decide (k < l.length) = true := by simpa using h2
              have HDD := Lib.hid hdd
              clear hdd k1 k2
              obtain ⟨B', hB'⟩ : ∃ B', B' = freeTo l f c (k + 1) := ⟨_, rfl⟩
              have HB' : Hid (B' = (B && (f k || !(ahead d c)))) := Lib.hid (by rw [hB', freeTo_step HDD.out, HB.out])
              have HBB := Lib.hid hB'
              clear hB'
              have q0 : ∀ n : After [] wr, n.now.cell? ⟨gd, od + k, none⟩ = some (.bool (f k)) := fun n => n.cell p0 (by simp)
              have z0 : ∀ n : After [] wr, n.now.cell? ⟨gl, ol + k * 5, none⟩ = some (.int .i64 d.kind) := fun n => n.cell YD.c0 (by simp)
              have z1 : ∀ n : After [] wr, n.now.cell? ⟨gl, ol + k * 5 + 1, none⟩ = some (.string d.key) := fun n => n.cell YD.c1 (by simp)
              have z2 : ∀ n : After [] wr, n.now.cell? ⟨gl, ol + k * 5 + 2, none⟩ = some (.bool d.ok) := fun n => n.cell YD.c2 (by simp)
              have z3 : ∀ n : After [] wr, n.now.cell? ⟨gl, ol + k * 5 + 3, none⟩ = some (.int .i64 d.inv) := fun n => n.cell YD.c3 (by simp)
              have z4 : ∀ n : After [] wr, n.now.cell? ⟨gl, ol + k * 5 + 4, none⟩ = some (.int .i64 d.ret) := fun n => n.cell YD.c4 (by simp)
              have x0 : ∀ n : After [] wr, n.now.cell? ⟨gl, ol + j * 5, none⟩ = some (.int .i64 c.kind) := fun n => n.cell YC.c0 (by simp)
              have x1 : ∀ n : After [] wr, n.now.cell? ⟨gl, ol + j * 5 + 1, none⟩ = some (.string c.key) := fun n => n.cell YC.c1 (by simp)
              have x2 : ∀ n : After [] wr, n.now.cell? ⟨gl, ol + j * 5 + 2, none⟩ = some (.bool c.ok) := fun n => n.cell YC.c2 (by simp)
              have x3 : ∀ n : After [] wr, n.now.cell? ⟨gl, ol + j * 5 + 3, none⟩ = some (.int .i64 c.inv) := fun n => n.cell YC.c3 (by simp)
              have x4 : ∀ n : After [] wr, n.now.cell? ⟨gl, ol + j * 5 + 4, none⟩ = some (.int .i64 c.ret) := fun n => n.cell YC.c4 (by simp)
              clear p0 YC YD
              go_upto_region 11 with fail
              cases B
              · refine wp_region_after [] (by kernel_rfl) (by kernel_rfl) ?_
                repeat (go_big_quiet_step (fail))
                refine wpQuiet_nil ?_
                rintro _ ⟨nq, rfl⟩
                clear q0 z0 z1 z2 z3 z4 x0 x1 x2 x3 x4
                have HFX := Lib.hid (Fr.trans (T := []) HFM.out nq.fr (by simp))
                go_wp2_with fail
                go_roundw
                case rel => exact ⟨k + 1, by go_num, by omega, by rw [← HBB.out, HB'.out]; rfl, HFX.out⟩
                case measure => simp [intOf]; omega
              · cases hfk : f k with
                | true =>
                  rw [hfk] at q0
                  have HFK2 := Lib.hid hfk
                  clear hfk
                  refine wp_region_after [] (by kernel_rfl) (by kernel_rfl) ?_
                  repeat (go_big_quiet_step (fail))
                  refine wpQuiet_nil ?_
                  rintro _ ⟨nq, rfl⟩
                  clear q0 z0 z1 z2 z3 z4 x0 x1 x2 x3 x4
                  have HFX := Lib.hid (Fr.trans (T := []) HFM.out nq.fr (by simp))
                  go_wp2_with fail
                  go_roundw
                  case rel => exact ⟨k + 1, by go_num, by omega, by rw [← HBB.out, HB'.out, HFK2.out]; rfl, HFX.out⟩
                  case measure => simp [intOf]; omega
                | false =>
                  rw [hfk] at q0
                  have HFK2 := Lib.hid hfk
                  clear hfk
                  obtain ⟨AH, hAH⟩ : ∃ AH, AH = ahead d c := ⟨_, rfl⟩
                  have HCA : Hid (∀ W, Calls Try.prog 12 #[d.agg, c.agg] W fun e w' => e = .returned (.bool AH) ∧ Fr [] W w') := Lib.hid fun W => by rw [hAH]; exact rr_ahead d c W
                  have HAH := Lib.hid hAH
                  clear hAH
                  refine wp_region_after [] (by kernel_rfl) (by kernel_rfl) ?_
                  repeat (go_big_quiet_step (first | (go_at_call 12; exact After.quiet (HCA.out _))))
                  refine wpQuiet_nil ?_
                  rintro _ ⟨nq, rfl⟩
                  clear q0 z0 z1 z2 z3 z4 x0 x1 x2 x3 x4
                  have HFX := Lib.hid (Fr.trans (T := []) HFM.out nq.fr (by simp))
                  go_wp2_with fail
                  go_roundw
                  case rel => exact ⟨k + 1, by go_num, by omega, by rw [← HBB.out, HB'.out, HFK2.out, HAH.out]; rfl, HFX.out⟩
                  case measure => simp [intOf]; omega
            · have t2 : decide (k < l.length) = false := by simpa using h2
              have HFR : Hid (B = freeTo l f c l.length) := Lib.hid (by rw [HB.out]; congr 1; omega)
              obtain ⟨gl', ol', l1, e2, _, l2, k2⟩ := CaIn.here (LIn.keep0 HL.out HFK.out) (by omega)
              simp only [Value.slice.injEq] at e2
              obtain ⟨e2, _, rfl⟩ := e2
              simp only [Option.some.injEq, Addr.mk.injEq, and_true, true_and] at e2
              obtain ⟨rfl, rfl⟩ := e2
              obtain ⟨y0, y1, y2, y3, y4⟩ := k2 j c HC.out
              clear k2
              go_wp2_with (go_at_call 15; refine (rr_do _ s c _ (LIn.keep0 HS.out HFK.out) (by omega)).mono ?_; rintro e w2 ⟨v, rfl, hv, hf⟩; refine go_stop ?_)
              unfold Stop
              obtain ⟨sv2, sc2, rfl, sa2, sb2⟩ := LIn.form hv
              have HF2 := Lib.hid (Fr.trans (T := []) HFK.out hf (by simp))
              have HV := Lib.hid hv
              have HFW2 := Lib.hid hf
              obtain ⟨y0', y1', y2', y3', y4'⟩ : CaC w2 gl (ol + j * 5) c := ⟨hf.cell y0 (by simp), hf.cell y1 (by simp), hf.cell y2 (by simp), hf.cell y3 (by simp), hf.cell y4 (by simp)⟩
              obtain ⟨OK, hOK⟩ : ∃ OK, OK = doOk c.kind (inS s c.key) := ⟨_, rfl⟩
              rw [← hOK]
              have HOK := Lib.hid hOK
              obtain ⟨CO, hCO⟩ : ∃ CO, CO = c.ok := ⟨_, rfl⟩
              rw [← hCO] at y2'
              have HCO := Lib.hid hCO
              obtain ⟨T, hT⟩ : ∃ T, T = (!B || (decide (0 ≤ c.ret) && (OK != CO))) := ⟨_, rfl⟩
              have HT := Lib.hid hT
              clear hv hf y0 y1 y2 y3 y4 hOK hCO hT
              go_upto_region 13 with fail
              go_cut [85] (fun v wx => v = .bool T ∧ wx = w2)
              case first =>
                cases B
                · go_wp2_with fail
                  go_meet
                  exact ⟨by rw [HT.out]; rfl, rfl⟩
                · by_cases hr : 0 ≤ c.ret
                  · have t3 : decide (0 ≤ c.ret) = true := decide_eq_true hr
                    clear hr
                    go_wp2_with fail
                    go_meet
                    exact ⟨by rw [HT.out, t3]; rfl, rfl⟩
                  · have t3 : decide (0 ≤ c.ret) = false := decide_eq_false hr
                    clear hr
                    go_wp2_with fail
                    go_meet
                    exact ⟨by rw [HT.out, t3]; rfl, rfl⟩
              case rest =>
              obtain ⟨rfl, rfl⟩ := hcut
              cases T
              · have HSTEP : Hid (Leads l f (inS s) j ↔ FitI l (upd f j) (inS (doL s c))) := Lib.hid (by
                  rw [leads_iff HC.out HFJ.out, ← HFR.out, doL_in]
                  have ht := HT.out.symm
                  simp only [Bool.or_eq_false_iff, Bool.not_eq_false', Bool.and_eq_false_iff, decide_eq_false_iff_not, bne_eq_false_iff_eq] at ht
                  refine ⟨fun h => h.2.2, fun h => ⟨ht.1, fun hr => ?_, h⟩⟩
                  rcases ht.2 with h5 | h5
                  · exact absurd hr h5
                  · rw [← HOK.out, h5]; exact HCO.out)
                clear y0' y1' y2' y3' y4'
                have hlen := dones_len l f
                have HSRC : Hid (Src (wc.alloc (.cells #[] 4)) 1 (.slice (some ⟨gd, od, none⟩) l.length dc) l.length (allC boC (dones l f))) := Lib.hid (by
                  have h5 := LIn.src (LIn.keep0 HD.out (Fr.trans (T := []) HF2.out ((Fr.refl [] wc).alloc (.cells #[] 4)) (by simp))) (fun _ => rfl) (by decide)
                  rw [hlen] at h5; exact h5)
                go_wp2_with (at_builtin; refine wpList_append_src rfl (.tmp 86) (.tmp 87) 58 4 (.bool false) 1 1 rfl bo_slice bo_info rfl (by decide) _ 0 [] rfl (lies_empty wc 4 1 _ rfl) _ l.length (allC boC (dones l f)) rfl HSRC.out (allC_ones (fun x y hy => by simp only [boC, List.mem_singleton] at hy; subst hy; rfl) _) (by unfold maxLen; omega) (by omega) ?app)
                case app =>
                intro v' w' h1 h3 h4
                obtain ⟨g, off, cc, rfl, hgl, hg0, hg1, hg2⟩ := bo_store (f := f) h h1
                have hgw : wc.heap.size ≤ g := by
                  rcases h4 g rfl with e | e
                  · have : wc.heap.size = g := by simpa [Value.ownBlock] using e
                    omega
                  · omega
                have hfa : Fr [] wc w' := ((Fr.refl [] wc).alloc _).trans h3 (fun x hx => Or.inr (by
                  have : x = wc.heap.size := by simpa [Value.ownBlock] using hx
                  omega))
                have HF3 := Lib.hid (hfa.setCell (p := ⟨g, off + j, none⟩) (Or.inr hgw) (.bool true))
                have HBO := Lib.hid hg2
                clear h1 h3 h4 hg2 hfa hgw
                have HL3 := Lib.hid (LIn.keep0 HL.out (Fr.trans (T := []) HF2.out HF3.out (by simp)))
                have HV3 := Lib.hid (LIn.keep0 HV.out HF3.out)
                have HLE : Hid (left l (upd f j) < n) := Lib.hid (by have := left_upd HC.out HFJ.out; have := HN.out; omega)
                have hdl := doL_len s c
                have HREC := Lib.hid (IH.out (upd f j) (doL s c) _ _ _ _ HLE.out (by omega) HV3.out HL3.out HBO.out)
                obtain ⟨R, hR⟩ : ∃ R, R = fitB l (upd f j) (inS (doL s c)) := ⟨_, rfl⟩
                rw [← hR] at HREC
                have HR := Lib.hid hR
                clear hR hdl
                go_upto_region 16 with fail
                generalize w'.setCell ⟨g, off + j, none⟩ (.bool true) = w3 at *
                go_wp2_with (go_at_call 26; refine HREC.out.mono ?_; rintro e w4 ⟨rfl, hf⟩; refine go_stop ?_)
                unfold Stop
                have HF4 := Lib.hid (Fr.trans (T := []) (Fr.trans (T := []) HF2.out HF3.out (by simp)) hf (by simp))
                clear hf
                cases R
                · have HNL : Hid (¬ Leads l f (inS s) j) := Lib.hid (by rw [HSTEP.out]; exact fitB_false.1 HR.out.symm)
                  go_wp2_with fail
                  go_roundw
                  case rel => exact ⟨j + 1, by go_num, by omega, by rw [HAA.out], not_leads HNO.out HNL.out, HF4.out⟩
                  case measure => simp [intOf]; omega
                · have HYL : Hid (fitB l f (inS s) = true) := Lib.hid (fitB_true.2 (fitI_cases.2 (Or.inr ⟨j, HSTEP.out.2 (fitB_true.1 HR.out.symm)⟩)))
                  go_wp2_with fail
                  go_ret
                  exact ⟨by rw [HYL.out]; rfl, HF4.out⟩
              · have HNL : Hid (¬ Leads l f (inS s) j) := Lib.hid (by
                  rw [leads_iff HC.out HFJ.out, ← HFR.out]
                  rintro ⟨q1, q2, _⟩
                  have ht := HT.out
                  rw [q1] at ht
                  have ht' := ht.symm
                  simp only [Bool.not_true, Bool.false_or, Bool.and_eq_true, decide_eq_true_eq, bne_iff_ne, ne_eq] at ht'
                  exact ht'.2 (by rw [HOK.out, HCO.out]; exact q2 ht'.1))
                clear y0' y1' y2' y3' y4'
                go_wp2_with fail
                go_roundw
                case rel => exact ⟨j + 1, by go_num, by omega, by rw [HAA.out], not_leads HNO.out HNL.out, HF2.out⟩
                case measure => simp [intOf]; omega
      · have t1 : decide (j < l.length) = false := by simpa using h
        go_wp2_with fail
        go_ret
        have ej : j = l.length := by omega
        subst ej
        exact ⟨by rw [fit_end HNO.out, ← HA.out]; rfl, HF.out⟩

theorem left_le {l : List Ca} (f : Nat → Bool) : left l f ≤ l.length := by
  unfold left
  induction l generalizing f with
  | nil => simp [rest]
  | cons c l ih =>
    unfold rest
    split
    · exact Nat.le_succ_of_le (ih _)
    · simp; exact ih _
theorem made_false : ∀ n : Nat, (List.replicate n ([.bool false] : List Value)).flatten = List.replicate n (.bool false) := by
  intro n; induction n with
  | zero => rfl
  | succ n ih => rw [List.replicate_succ, List.flatten_cons, ih, List.replicate_succ]; rfl
theorem none_done {w : World} {l : List Ca} {v : Value} (h : w.ownsRow 0 4 1 v l.length (List.replicate l.length (.bool false))) : BoIn w v (dones l (fun _ => false)) := by
  have h2 : LAt boC 4 1 w v (dones l (fun _ => false)) := by
    unfold LAt
    rw [dones_len]
    have e : allC boC (dones l (fun _ => false)) = List.replicate l.length (.bool false) := by
      rw [← made_false]
      unfold allC dones
      congr 1
      rw [List.map_map, List.map_eq_replicate_iff.2 (by intro x _; rfl : ∀ x ∈ List.range l.length, (boC ∘ fun _ => false) x = [.bool false])]
      simp
    rw [e]
    exact Lies.of_own h
  exact LAt.read h2 (fun _ => rfl)
end Go.Proofs.Ytbbhekmhffhpfaa
