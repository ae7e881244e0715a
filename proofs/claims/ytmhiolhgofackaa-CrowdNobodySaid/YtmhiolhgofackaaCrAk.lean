/- impostlaw16.awake: contract
impostlaw16.begun, fits: contracts
impostlaw16.fits: contract
impostlaw16.awake: contract -/
import Derived.Test.YtmhiolhgofackaaCrDo
import Derived.Test.YtmhiolhgofackaaBsMine
import Derived.Test.YtmhiolhgofackaaOrFitP
namespace Go.Proofs.Ytmhiolhgofackaa
open Go.RowKit
set_option linter.unusedVariables false
set_option linter.unusedSimpArgs false

theorem CwS.start {Q : PlQ} {w0 w w' : World} {tb mb n : Nat} {S0 : SetB} {K : Rows} {B : CB} (h : ThrQ Q w0 w tb mb [] 0 K 0 S0 []) (hf : Fr [] w w') (hc : CrAt w' B [] (Cro.new n)) (hn : ∀ b ∈ B.foot, w.heap.size ≤ b) : CwS Q w0 w' tb mb B [] 0 S0 (Cro.new n) [] := by
  obtain ⟨K', k1, k2⟩ := hc.objs
  refine ⟨K', h.write (S := []) (by simp) hf (fun _ => hf.iv0) (fun r hr => ?_), hc, fun b hb => ⟨Nat.le_trans h.fr.size (hn b hb), k2 b hb⟩, by simp, CroOk.new n, Nat.le_refl _, Nat.le_refl _⟩
  obtain ⟨i1, i2⟩ := k1 r (by simpa using hr)
  exact ⟨i1, Or.inr (hn _ i2)⟩
/-- both threads' calls -/
structure TwoC (c : Cro) : Prop where
  two : c.sl.length = 2
  own : ∀ (t i : Nat), c.sl[t]? = some (some i) → i = t
  len : c.cas.length = 2
  all : ∀ x ∈ c.cas, x.kind = 1 ∧ x.key = keyA
theorem TwoC.pick {c : Cro} (h : TwoC c) {m : Nat} {x : Ca} (hx : c.cas[m]? = some x) (b ok : Bool) : TwoC (c.pick m m x b ok) := by
  refine ⟨?_, fun t i hi => ?_, ?_, fun y hy => ?_⟩
  · show (if b then c.sl.set m none else c.sl).length = 2
    cases b
    · exact h.two
    · simp only [if_true, List.length_set]; exact h.two
  · have hi' : (if b then c.sl.set m none else c.sl)[t]? = some (some i) := hi
    cases b
    · exact h.own t i hi'
    · simp only [if_true] at hi'
      rcases get_set hi' with ⟨_, e, _⟩ | ⟨_, e⟩
      · cases e
      · exact h.own t i e
  · show (c.cas.set m _).length = 2
    rw [List.length_set]; exact h.len
  · have hy' : y ∈ c.cas.set m (if b then { x with ok := ok, ret := c.now } else x) := hy
    have hxa := h.all x (List.mem_of_getElem? hx)
    rcases List.mem_or_eq_of_mem_set hy' with e | e
    · exact h.all y e
    · rw [e]
      cases b
      · exact hxa
      · exact hxa
theorem TwoC.start : TwoC (((Cro.new 2).begin 0 1 keyA).begin 1 1 keyA) := by
  refine ⟨rfl, fun t i hi => ?_, rfl, fun x hx => ?_⟩
  · have hl := get_lt hi
    have : t = 0 ∨ t = 1 := by simp [Cro.begin, Cro.new] at hl; omega
    rcases this with rfl | rfl
    · have : (some (some 0) : Option (Option Nat)) = some (some i) := hi
      cases this; rfl
    · have : (some (some 1) : Option (Option Nat)) = some (some i) := hi
      cases this; rfl
  · have : x ∈ [(⟨1, keyA, false, 0, -1⟩ : Ca), ⟨1, keyA, false, 1, -1⟩] := hx
    simp only [List.mem_cons, List.not_mem_nil, or_false] at this
    rcases this with rfl | rfl <;> exact ⟨rfl, rfl⟩
section
variable {w0 w w' : World} {tb mb n j : Nat} {S0 : SetB} {B : CB} {ps : List Nat} {c : Cro}
theorem two_slot (h : TwoC c) (j : Nat) : ∃ s, c.sl[j % 2]? = some s ∧ (s = none ∨ s = some (j % 2)) := by
  have hl : j % 2 < c.sl.length := by rw [h.two]; omega
  have hg : c.sl[j % 2]? = some c.sl[j % 2] := List.getElem?_eq_getElem hl
  refine ⟨_, hg, ?_⟩
  cases hs : c.sl[j % 2] with
  | none => exact Or.inl rfl
  | some i =>
    rw [hs] at hg
    rw [h.own _ _ hg]
    exact Or.inr rfl
/-- one pick -/
theorem two_pick (h : CwS (TwoQ j) w0 w tb mb B ps n S0 c []) (hc : TwoC c) (hn : c.now ≤ 1000) :
    Calls Try.prog 9 #[pt B.cb, .int .i64 ((j % 2 : Nat) : Int)] w fun e w' => ∃ v, e = .returned v ∧ Hid (∃ n' c', CwS (TwoQ (j + 1)) w0 w' tb mb B ps n' S0 c' [] ∧ TwoC c' ∧ c'.now ≤ c.now + 1 ∧ c.now ≤ c'.now) := by
  obtain ⟨s, hs, hor⟩ := two_slot hc j
  rcases hor with rfl | rfl
  · refine (cw_Pick_no h (t := ((j % 2 : Nat) : Int)) (Or.inr ⟨j % 2, rfl, hs⟩)).mono ?_
    rintro e w' ⟨he, hv⟩
    refine ⟨_, he, Lib.hid ⟨n, c, ?_, hc, by omega, Nat.le_refl _⟩⟩
    obtain ⟨K, k1, k2⟩ := hv.out
    refine ⟨K, ?_, k2⟩
    have hx : ∃ x, c.cas[j % 2]? = some x := ⟨_, List.getElem?_eq_getElem (by rw [hc.len]; omega)⟩
    obtain ⟨x, hx⟩ := hx
    have hret : ¬ x.ret < 0 := fun hr => by
      obtain ⟨t, ht⟩ := h.ok.open_ _ x hx hr
      have := hc.own _ _ ht
      rw [← this, hs] at ht
      cases ht
    obtain ⟨st, cnt, ds, X, A, t, qs, L, cs, lin, a1, a2, a3, a4⟩ := k1
    have hk : ThrQ (fun t' l' => t' = t ∧ l' = plOf qs) w0 w' tb mb ps n ([] ++ K) c.now S0 c.cas := ⟨st, cnt, ds, X, A, t, qs, L, cs, lin, a1, a2, a3, rfl, rfl⟩
    obtain ⟨t1, l1, ⟨rfl, rfl⟩, _, hl⟩ := hk.look
    obtain ⟨cl, o, h1, h2⟩ := hl _ x hx
    have ho : o = none := by
      cases o with
      | none => rfl
      | some s => exact absurd (h2.2 (by simp)) hret
    subst ho
    exact ⟨st, cnt, ds, X, A, t1, qs, L, cs, lin, a1, a2, a3, two_rest a4 h1⟩
  · refine (cw_Pick h hn (t := ((j % 2 : Nat) : Int)) rfl hs).mono ?_
    rintro e w' ⟨he, hv⟩
    obtain ⟨x, b, ok, hx, hr, hv⟩ := hv.out
    exact ⟨_, he, Lib.hid ⟨n + 1, _, hv.mono (fun _ _ q => two_step q), hc.pick hx b ok, Nat.le_refl _, by show c.now ≤ c.now + 1; omega⟩⟩
/-- what both are told -/
structure TwoEnd (c : Cro) (x y : Ca) : Prop where
  cas : c.cas = [x, y]
  ok : x.ok ≠ y.ok
  rx : 0 < x.ret
  ry : 0 < y.ret
  fits : fitsB [] [x, y] = true
  idle : c.sl[0]? = some none
  now : 2 < c.now
theorem two_end (h : CwS (TwoQ 200) w0 w tb mb B ps n (fun _ => false) c []) (hc : TwoC c) : ∃ x y, TwoEnd c x y := by
  obtain ⟨x, y, hxy⟩ : ∃ x y, c.cas = [x, y] := by
    have := hc.len
    match hcc : c.cas, this with
    | [x, y], _ => exact ⟨x, y, rfl⟩
  have hok := h.ok
  have hfit := h.fit keyA
  obtain ⟨K, k1, k2⟩ := h
  have ht := two_told (k := 176) k1
  have h0 : c.cas[0]? = some x := by rw [hxy]; rfl
  have h1 : c.cas[1]? = some y := by rw [hxy]; rfl
  have rx := ht.2 x (List.mem_of_getElem? h0)
  have ry := ht.2 y (List.mem_of_getElem? h1)
  have ix := hok.inv 0 x h0
  have iy := hok.inv 1 y h1
  have qx := hok.ret 0 x h0 rx
  have qy := hok.ret 1 y h1 ry
  have hr := hok.rise 0 1 x y (by omega) h0 h1
  obtain ⟨ax, bx⟩ := hc.all x (List.mem_of_getElem? h0)
  obtain ⟨ay, by_⟩ := hc.all y (List.mem_of_getElem? h1)
  have hkey : ofKey keyA c.cas = [x, y] := by
    rw [hxy]
    unfold ofKey
    simp [bx, by_]
  rw [hkey] at hfit
  refine ⟨x, y, hxy, hfit.two rx ry ax ay (by rw [bx, by_]) rfl, by omega, by omega, ?_, ?_, by omega⟩
  · have := hok.fits (first := []) (k := keyA) (by rw [hkey]; simp) (by rw [hkey]; exact hfit)
    rw [hkey] at this
    exact this
  · obtain ⟨s, hs, hor⟩ := two_slot hc 0
    rcases hor with rfl | rfl
    · exact hs
    · obtain ⟨z, hz, hzr⟩ := hok.has 0 0 hs
      rw [h0] at hz
      cases hz
      omega
end
end Go.Proofs.Ytmhiolhgofackaa
namespace Go.Proofs.Ytmhiolhgofackaa
open Go.RowKit
set_option linter.unusedVariables false
set_option linter.unusedSimpArgs false

theorem holdS_ins {x : Hold} {l : List ByteArray} (h : HoldS x (inS l)) (k : ByteArray) (v : Int) : HoldS (doX x 1 k v).1 (inS (l ++ [k])) := by
  intro k'
  have := doX_up h (kind := 1) k v (c := ⟨1, k, false, 0, 0⟩) rfl rfl k'
  rw [← this]
  unfold up
  by_cases e : k' = k
  · subst e
    rw [if_pos rfl]
    have h1 : inS (l ++ [k']) k' = true := by unfold inS; simp
    rw [h1]
    rfl
  · rw [if_neg e]
    unfold inS
    simp [e]
    exact fun q => absurd q.symm e
theorem mem0c (W : World) : Calls Try.prog 6 #[.int .i64 0] W fun e w' => ∃ mb, e = .returned (pt mb) ∧ Hid (∃ mv, MemAt w' mb mv ⟨[], 0⟩ ∧ Fr [] W w' ∧ W.heap.size ≤ mb ∧ ∀ k, mv.ownBlock = some k → W.heap.size ≤ k) := (new_any W 0).mono fun e w' h => by
  unfold MadeMem at h
  rw [if_pos (by decide)] at h
  obtain ⟨p, v, h1, h2, h3, h4, h5⟩ := h
  exact ⟨p, h1, Lib.hid ⟨v, h2, h3, h4, h5⟩⟩
theorem tree0c {w0 u0 u1 : World} {mb : Nat} (h0 : Fr [] w0 u0) (h : ∃ mv, MemAt u1 mb mv ⟨[], 0⟩ ∧ Fr [] u0 u1 ∧ u0.heap.size ≤ mb ∧ ∀ k, mv.ownBlock = some k → u0.heap.size ≤ k) : Calls Try.prog 5 #[pt mb] u1 fun e w' => ∃ tb, e = .returned (pt tb) ∧ Hid (Mine w0 w' tb mb (fun _ => none) 0 []) := by
  obtain ⟨mv, h1, h2, h3, h4⟩ := h
  exact mine_New h1 (h0.trans h2 (by simp)) (Nat.le_trans h0.size h3) (fun k hk => Nat.le_trans h0.size (h4 k hk))
/-- a tree of a law's own, a Crowd, and what it holds -/
def Beg (w w' : World) (tb mb : Nat) (B : CB) (S0 : SetB) : Prop := ∃ K x m, Mine w w' tb mb x m K ∧ CrAt w' B [] (Cro.new 4) ∧ (∀ b ∈ B.foot, w.heap.size ≤ b ∧ ∃ o, (b, o) ∈ K) ∧ HoldS x S0 ∧ m ≤ 20
theorem Beg.cw {w w' : World} {tb mb : Nat} {B : CB} {S0 : SetB} (h : Beg w w' tb mb B S0) : Cw w w' tb mb B.cb S0 (Cro.new 4) [] := by
  obtain ⟨K, x, m, h1, h2, h3, h4, h5⟩ := h
  have e : (fun k => (x k).isSome) = S0 := by funext k; exact (h4 k).symm
  have ht := Thr.start h1 (by omega)
  rw [e] at ht
  exact ⟨B, [], 0, rfl, K, ht, h2, h3, by simp, CroOk.new 4, Nat.le_refl _, Nat.le_refl _⟩
end Go.Proofs.Ytmhiolhgofackaa
namespace Go.Proofs.Ytmhiolhgofackaa
open Go.RowKit
set_option linter.unusedVariables false
set_option linter.unusedSimpArgs false

theorem take_snocC {α : Type} {m : List α} {j : Nat} {x : α} (hx : m[j]? = some x) : m.take (j + 1) = m.take j ++ [x] := by
  rw [List.take_add_one, hx]; rfl
theorem ofKey_snoc {l : List Ca} {k : Nat} {d : Ca} {key : ByteArray} (hd : l[k]? = some d) : ofKey key (l.take (k + 1)) = if d.key = key then ofKey key (l.take k) ++ [d] else ofKey key (l.take k) := by
  unfold ofKey
  rw [take_snocC hd, List.filter_append]
  by_cases h : d.key = key
  · rw [if_pos h, List.filter_cons_of_pos (by simpa using h)]; rfl
  · rw [if_neg h, List.filter_cons_of_neg (by simpa using h)]; simp
abbrev CaRow (wb wr : World) (v : Value) (o : List Ca) : Prop := OutAt Ca.cells 41 5 wb wr v o
end Go.Proofs.Ytmhiolhgofackaa
namespace Go.Proofs.Ytmhiolhgofackaa
open Go.RowKit
set_option linter.unusedVariables false
set_option linter.unusedSimpArgs false

theorem tree1c {w0 u0 u1 : World} {mb : Nat} (h0 : Fr [] w0 u0) (h : ∃ mv, MemAt u1 mb mv ⟨[], 0⟩ ∧ Fr [] u0 u1 ∧ u0.heap.size ≤ mb ∧ ∀ k, mv.ownBlock = some k → u0.heap.size ≤ k) : Calls Try.prog 5 #[pt mb] u1 fun e w' => ∃ tb, e = .returned (pt tb) ∧ Hid (ThrQ (fun t' l => t' = Tr.new ⟨[], 0⟩ ∧ l = []) w0 w' tb mb [] 0 [] 0 (fun _ => false) []) := by
  obtain ⟨mv, h1, h2, h3, h4⟩ := h
  exact thr_New h1 (h0.trans h2 (by simp)) (Nat.le_trans h0.size h3) (fun k hk => Nat.le_trans h0.size (h4 k hk))
set_option maxRecDepth 20000 in
set_option maxHeartbeats 4000000 in
theorem cr_awake (w : World) : Calls Try.prog 4 #[] w fun e w' => e = .returned (.bool true) ∧ Fr [] w w' := by
  go_enter Try.func4, Try.ntmps4
  go_wp2_with (go_at_call 6; refine (mem0c w).mono ?_; rintro e u1 ⟨mb, rfl, HM⟩; refine go_stop ?_)
  unfold Stop
  have HT := Lib.hid (tree1c (Fr.refl [] w) HM.out)
  go_wp2_with (go_at_call 5; refine HT.out.mono ?_; rintro e u2 ⟨tb, rfl, M2⟩; refine go_stop ?_)
  unfold Stop
  clear HM HT
  have HN := Lib.hid (cr_New u2 (n := 2) (by omega) (by omega))
  go_wp2_with (go_at_call 13; refine HN.out.mono ?_; rintro e u3 ⟨B, rfl, HB⟩; refine go_stop ?_)
  unfold Stop
  have HC0 := Lib.hid (CwS.start M2.out HB.out.2.1 HB.out.1 HB.out.2.2)
  clear HN HB M2
  have HI1 := Lib.hid (cw_Insert HC0.out (Nat.zero_le _) keyA 1)
  go_wp2_with (go_at_call 14; refine HI1.out.mono ?_; rintro e u4 ⟨p1, rfl, HM1⟩; refine go_stop ?_)
  unfold Stop
  have HB1 := Lib.hid (cw_Begin_ok HM1.out (Nat.zero_le _) (t := 0) (m := 0) rfl rfl)
  go_wp2_with (go_at_call 8; refine HB1.out.mono ?_; rintro e u5 ⟨rfl, HV1⟩; refine go_stop ?_)
  unfold Stop
  obtain ⟨v1, hc1⟩ := HV1.out
  have HC1 := Lib.hid hc1
  clear HI1 HM1 HB1 HV1 hc1 HC0
  have HI2 := Lib.hid (cw_Insert HC1.out (show 0 + 1 ≤ 1000 by omega) keyA 2)
  go_wp2_with (go_at_call 14; refine HI2.out.mono ?_; rintro e u6 ⟨p2, rfl, HM2⟩; refine go_stop ?_)
  unfold Stop
  have HB2 := Lib.hid (cw_Begin_ok HM2.out (show 0 + 1 ≤ 1000 by omega) (t := 1) (m := 1) rfl rfl)
  go_wp2_with (go_at_call 8; refine HB2.out.mono ?_; rintro e u7 ⟨rfl, HV2⟩; refine go_stop ?_)
  unfold Stop
  obtain ⟨v2, hc2⟩ := HV2.out
  have HC2 := Lib.hid (hc2.mono (Q' := TwoQ 0) (fun _ _ h => two_begin h))
  clear HI2 HM2 HB2 HV2 hc2 HC1
  go_wp2_with fail
  obtain ⟨B2, hB2⟩ : ∃ B2 : CB, B2 = { B with cv := v2 } := ⟨_, rfl⟩
  have hcb : B.cb = B2.cb := by rw [hB2]
  have HC3 : Hid (CwS (TwoQ 0) w u7 tb mb B2 [p1, p2] 0 (fun _ => false) (((Cro.new 2).begin 0 1 keyA).begin 1 1 keyA) []) := Lib.hid (by rw [hB2]; exact HC2.out)
  rw [hcb]
  clear HC2 hB2 hcb
  go_loopw [5] (fun i wr => ∃ (j n : Nat) (c : Cro), i = .int .i64 j ∧ j ≤ 200 ∧ CwS (TwoQ j) w wr tb mb B2 [p1, p2] n (fun _ => false) c [] ∧ TwoC c ∧ c.now ≤ 2 + j) (fun i _ => 200 - (intOf i).toNat)
  case atStart => exact ⟨0, 0, _, rfl, Nat.zero_le _, HC3.out, TwoC.start, Nat.le_refl _⟩
  case round =>
    obtain ⟨j, n, c, rfl, hj, hc, ht, hn⟩ := hrel
    have HC := Lib.hid hc
    have HT := Lib.hid ht
    clear hc ht HC3
    by_cases h : j < 200
    · have t0 : decide ((j : Int) < 200) = true := decide_eq_true (by omega)
      have e2 : ((j % 2 : Nat) : Int) = (j : Int) % 2 := by omega
      have HP := Lib.hid (two_pick HC.out HT.out (by omega))
      rw [e2] at HP
      clear e2
      go_wp2_with (go_at_call 9; refine HP.out.mono ?_; rintro e w2 ⟨v, rfl, HV⟩; refine go_stop ?_)
      unfold Stop
      go_wp2_with fail
      go_roundw
      case rel =>
        obtain ⟨n', c', k1, k2, k3, _⟩ := HV.out
        exact ⟨j + 1, n', c', by go_num, by omega, k1, k2, by omega⟩
      case measure => simp [intOf]; omega
    · have t0 : decide ((j : Int) < 200) = false := decide_eq_false (by omega)
      have ej : j = 200 := by omega
      have HC4 : Hid (CwS (TwoQ 200) w wr tb mb B2 [p1, p2] n (fun _ => false) c []) := Lib.hid (by rw [← ej]; exact HC.out)
      obtain ⟨x, y, hE⟩ := two_end HC4.out HT.out
      have HE := Lib.hid hE
      have HCA := Lib.hid (cr_Calls HC4.out.cr (by have := HC4.out.few; omega))
      clear hE ej HC
      go_wp2_with (go_at_call 11; refine HCA.out.mono ?_; rintro e w2 ⟨v, rfl, hv, hf, _⟩; refine go_stop ?_)
      unfold Stop
      rw [HE.out.cas] at hv
      have HF := Lib.hid hf
      have HR := Lib.hid (LAt.read hv Ca.clen)
      obtain ⟨g, off, c1, rfl, hg, hl2, hat⟩ := CaIn.here HR.out (by simp)
      obtain ⟨x0, x1, x2, x3, x4⟩ := hat 0 x rfl
      obtain ⟨y0, y1, y2, y3, y4⟩ := hat 1 y rfl
      simp only [Nat.zero_mul, Nat.add_zero, Nat.one_mul] at x0 x1 x2 x3 x4 y0 y1 y2 y3 y4
      have HFT : Hid (∀ W, Fr [] w2 W → Calls Try.prog 15 #[.slice none 0 0, .slice (some ⟨g, off, none⟩) 2 c1] W fun e w' => e = .returned (.bool true) ∧ Fr [] W w') := Lib.hid fun W hW => by
        rw [← HE.out.fits]
        exact or_fits _ _ [] [x, y] W (LIn.nil W) (LIn.keep0 HR.out hW)
      have HID : Hid (∀ W, Fr [] w2 W → Calls Try.prog 10 #[pt B2.cb, .int .i64 0] W fun e w' => e = .returned (.bool true) ∧ Fr [] W w') := Lib.hid fun W hW => by
        have := cr_Idle ((HC4.out.cr.keep0 HF.out).keep0 hW) ((0 : Nat) : Int)
        rw [idle_in HE.out.idle] at this
        exact this
      have HCK : Hid (∀ W, Fr [] w2 W → Calls Try.prog 12 #[pt B2.cb] W fun e w' => e = .returned (.int .i64 (c.now : Int)) ∧ W = w') := Lib.hid fun W hW => cr_Clock ((HC4.out.cr.keep0 HF.out).keep0 hW)
      have z1 : (x.ok == y.ok) = false := by simpa using HE.out.ok
      have z2 : decide (0 < x.ret) = true := decide_eq_true HE.out.rx
      have z3 : decide (0 < y.ret) = true := decide_eq_true HE.out.ry
      have z4 : decide ((2 : Int) < (c.now : Int)) = true := decide_eq_true (by have := HE.out.now; omega)
      clear hv hf hat
      go_wp2_with fail
      go_region_held3 (fun W => W.cell? ⟨g, off + 2, none⟩ = some (.bool x.ok) ∧ W.cell? ⟨g, off + 5 + 2, none⟩ = some (.bool y.ok) ∧ W.cell? ⟨g, off + 4, none⟩ = some (.int .i64 x.ret) ∧ W.cell? ⟨g, off + 5 + 4, none⟩ = some (.int .i64 y.ret)) (go_keep)
        (first
          | (go_at_call 15; refine (HFT.out _ (Fr.refl [] w2).drew).mono ?_; rintro e w3 ⟨rfl, hf3⟩
             have HF3 := Lib.hid ((Fr.refl [] w2).drew.trans hf3 (by simp))
             have x2 := HF3.out.cell x2 (by simp)
             have x4 := HF3.out.cell x4 (by simp)
             have y2 := HF3.out.cell y2 (by simp)
             have y4 := HF3.out.cell y4 (by simp)
             clear hf3)
          | (go_at_call 10; refine (HID.out _ HF3.out).mono ?_; rintro e w4 ⟨rfl, hf4⟩
             have HF4 := Lib.hid (HF3.out.trans hf4 (by simp))
             have x2 := hf4.cell x2 (by simp)
             have x4 := hf4.cell x4 (by simp)
             have y2 := hf4.cell y2 (by simp)
             have y4 := hf4.cell y4 (by simp)
             clear hf4)
          | (go_at_call 12; refine (HCK.out _ HF4.out).mono ?_; rintro e w5 ⟨rfl, rfl⟩))
      all_goals go_wp2_with fail
      all_goals go_ret
      all_goals exact ⟨rfl, (HC4.out.fr.trans HF.out (by simp)).trans HF4.out (by simp)⟩
end Go.Proofs.Ytmhiolhgofackaa
