/- A thread alone is answered, call by call, what a set tells; in the end the tree's keys are the set's: for every list of deeds, 60 at most looked at. No condition. -/
import Derived.Test.YtmhiolhgofackaaGreatCrAk
import Derived.Test.YtmhiolhgofackaaGreatCrOne
import Derived.IntWalk
namespace Go.Proofs.YtmhiolhgofackaaGreat.lawCrowdAlone
open Go.ChangeShapes Go.WideShapes Go.ChangeAt Go.RowKit Go.Deep Go.ChangeMaps
set_option linter.unusedVariables false
set_option linter.unusedSimpArgs false

theorem beg_al {w w' : World} {tb mb : Nat} {B : CB} (h : Beg w w' tb mb B (inS [])) : ∃ x m, Al (MineT w tb mb x m) w w' B [] (Cro.new 4) [] ∧ HoldS x (inS []) ∧ m ≤ 20 := by
  obtain ⟨K, x, m, h1, h2, h3, h4, h5⟩ := h
  exact ⟨x, m, ⟨K, h1, h2, h3, by simp, CroOk.new 4, rfl⟩, h4, h5⟩
theorem ss_uniq {w : World} {v : Value} {l r : List ByteArray} (h : SsIn w v l) (g : SsIn w v r) : l = r := by
  obtain ⟨s1, c1, e1, _⟩ := LIn.form h
  obtain ⟨s2, c2, e2, _⟩ := LIn.form g
  have hlen : l.length = r.length := by rw [e1] at e2; exact slice_len e2
  by_cases hn : 0 < l.length
  · obtain ⟨g1, o1, d1, f1, _, _, k1⟩ := SsIn.here h hn
    obtain ⟨g2, o2, d2, f2, _, _, k2⟩ := SsIn.here g (by omega)
    rw [f1] at f2
    simp only [Value.slice.injEq, Option.some.injEq, Addr.mk.injEq, and_true] at f2
    obtain ⟨⟨rfl, rfl⟩, _, _⟩ := f2
    refine List.ext_getElem? (fun i => ?_)
    by_cases hi : i < l.length
    · have x1 : l[i]? = some l[i] := List.getElem?_eq_getElem hi
      have x2 : r[i]? = some (r[i]'(by omega)) := List.getElem?_eq_getElem (by omega)
      have a1 := k1 i _ x1
      have a2 := k2 i _ x2
      rw [a1] at a2
      simp only [Option.some.injEq, Value.string.injEq] at a2
      rw [x1, x2, a2]
    · rw [List.getElem?_eq_none (by omega), List.getElem?_eq_none (by omega)]
  · have h1 : l = [] := List.length_eq_zero_iff.1 (by omega)
    have h2 : r = [] := List.length_eq_zero_iff.1 (by omega)
    rw [h1, h2]
def sl0 : List (Option Nat) := [none, none, none, none]
/-- between two deeds -/
def Rest (w1 w : World) (tb mb cb : Nat) (sv : Value) (set : List ByteArray) (j : Nat) : Prop :=
  ∃ x n B ps c E, B.cb = cb ∧ Al (MineT w1 tb mb x n) w1 w B ps c E ∧ RowK strC 1 E sv set ∧ HoldS x (inS set) ∧ n ≤ 20 + j ∧ c.sl = sl0 ∧ c.cas.length ≤ j ∧ c.now ≤ 400 * j ∧ set.length ≤ j
theorem doL_len (s : List ByteArray) (c : Ca) : (doL s c).length ≤ s.length + 1 := by
  unfold doL
  have hf : ∀ p : ByteArray → Bool, (s.filter p).length ≤ s.length := fun p => List.length_filter_le p s
  split
  · rw [List.length_append]
    have := hf (fun k => !decide (k = c.key))
    simp only [List.length_singleton]
    first | omega | (have h2 := List.length_filter_le _ s; omega)
  · split
    · exact Nat.le_trans (List.length_filter_le _ s) (by omega)
    · omega
/-- a deed's call is on its way, or was answered -/
def OnWay (w1 w : World) (tb mb cb : Nat) (x : Hold) (n : Nat) (r : An) (N : Nat) (now : Nat) (E : Rows) (k : Nat) : Prop :=
  ∃ p B ps c m, B.cb = cb ∧ Al (FlyT w1 tb mb p x n m r) w1 w B ps c E ∧ ps[N]? = some p ∧ c.sl = [none, none, some N, none] ∧ c.cas.length = N + 1 ∧ c.now ≤ now + k ∧ m + k ≤ 300
def Home (w1 w : World) (tb mb cb : Nat) (x : Hold) (n : Nat) (r : An) (N : Nat) (now : Nat) (E : Rows) (k : Nat) : Prop :=
  ∃ p B ps c, B.cb = cb ∧ Al (LandT w1 tb mb p x n r) w1 w B ps c E ∧ c.sl = sl0 ∧ c.cas.length = N + 1 ∧ (∃ y, c.cas[N]? = some y ∧ y.ok = r.ok ∧ 0 ≤ y.ret) ∧ c.now ≤ now + k ∧ k ≤ 300
/-- the set that is next -/
theorem next_rows {w1 w5 w7 : World} {tb mb n : Nat} {x : Hold} {B : CB} {ps : List Nat} {c : Cro} {E1 : Rows} {sv v : Value} {set set' : List ByteArray} (hal : Al (MineT w1 tb mb x n) w1 w5 B ps c E1) (hrow : RowK strC 1 E1 sv set) (hf : Fr [] w5 w7) (hv : SsIn w7 v set') (hor : v = sv ∨ ∀ k, v.ownBlock = some k → w5.heap.size ≤ k) : ∃ E2, RowK strC 1 E2 v set' ∧ Al (MineT w1 tb mb x n) w1 w7 B ps c E2 := by
  rcases hor with rfl | hor
  · have h7 := hal.keep0 (keeps_mine ..) hf
    have hs : SsIn w7 v set := hrow w7 (fun p hp => h7.at (keeps_mine ..) (o := p.2) hp)
    have e : set' = set := ss_uniq hv hs
    subst e
    exact ⟨E1, hrow, h7⟩
  · obtain ⟨K', h1, h2⟩ := RowK.of hv
    exact ⟨K', h1, hal.rows (keeps_mine ..) hf (fun r hr => ⟨(h2 r hr).1, Or.inr (hor _ (h2 r hr).2)⟩)⟩
theorem Rest.on {w1 w w' : World} {tb mb cb : Nat} {sv : Value} {set : List ByteArray} {j : Nat} (h : Rest w1 w tb mb cb sv set j) (hf : Fr [] w w') : Rest w1 w' tb mb cb sv set (j + 1) := by
  obtain ⟨x, n, B, ps, c, E, h1, h2, h3, h4, h5, h6, h7, h8, h9⟩ := h
  exact ⟨x, n, B, ps, c, E, h1, h2.keep0 (keeps_mine ..) hf, h3, h4, by omega, h6, by omega, by omega, by omega⟩
section
variable {w1 w : World} {tb mb cb : Nat} {x : Hold} {n : Nat} {r : An} {N now : Nat} {E : Rows} {k : Nat}
theorem onway_idle (h : OnWay w1 w tb mb cb x n r N now E k) : Calls Tryz.prog 11 #[pt cb, .int .i64 2] w fun e w' => e = .returned (.bool false) ∧ Hid (OnWay w1 w' tb mb cb x n r N now E k) := by
  obtain ⟨p, B, ps, c, m, rfl, h, h2, h3, h4⟩ := h
  refine (al_Idle h ((2 : Nat) : Int)).mono ?_
  rintro e w' ⟨he, hf⟩
  rw [idle_in (s := some N) (by rw [h3]; rfl)] at he
  exact ⟨he, Lib.hid ⟨p, B, ps, c, m, rfl, h.keep0 (keeps_fly ..) hf, h2, h3, h4⟩⟩
theorem home_idle (h : Home w1 w tb mb cb x n r N now E k) : Calls Tryz.prog 11 #[pt cb, .int .i64 2] w fun e w' => e = .returned (.bool true) ∧ Hid (Home w1 w' tb mb cb x n r N now E k) := by
  obtain ⟨p, B, ps, c, rfl, h, h3, h4⟩ := h
  refine (al_Idle h ((2 : Nat) : Int)).mono ?_
  rintro e w' ⟨he, hf⟩
  rw [idle_in (s := none) (by rw [h3]; rfl)] at he
  exact ⟨he, Lib.hid ⟨p, B, ps, c, rfl, h.keep0 (keeps_land ..) hf, h3, h4⟩⟩
theorem onway_pick (h : OnWay w1 w tb mb cb x n r N now E k) (hr : r.err = 0) (hnow : now ≤ 100000) : Calls Tryz.prog 13 #[pt cb, .int .i64 2] w fun e w' => e = .returned (.bool true) ∧ Hid (OnWay w1 w' tb mb cb x n r N now E (k + 1) ∨ Home w1 w' tb mb cb x n r N now E (k + 1)) := by
  obtain ⟨p, B, ps, c, m, rfl, h, h2, h3, h4, h5, h6⟩ := h
  have hm : 0 < m := by obtain ⟨K, hk, _⟩ := h; exact Fly.pos hk
  obtain ⟨m, rfl⟩ : ∃ q, m = q + 1 := ⟨m - 1, by omega⟩
  have hs : c.sl[2]? = some (some N) := by rw [h3]; rfl
  refine (al_Pick h hr (by omega) hs h2).mono ?_
  rintro e w' ⟨he, hv⟩
  obtain ⟨y, hy, hv⟩ := hv.out
  refine ⟨he, Lib.hid ?_⟩
  rcases hv with hv | hv
  · refine Or.inr ⟨p, B, ps, _, rfl, hv, ?_, ?_, ⟨{ y with ok := r.ok, ret := c.now }, ?_, rfl, ?_⟩, ?_, by omega⟩
    · show c.sl.set 2 none = sl0
      rw [h3]; rfl
    · show (c.cas.set N _).length = N + 1
      rw [List.length_set, h4]
    · show (c.cas.set N _)[N]? = _
      rw [List.getElem?_set_self (by omega)]; rfl
    · show (0 : Int) ≤ (c.now : Int)
      omega
    · show c.now + 1 ≤ now + (k + 1)
      omega
  · refine Or.inl ⟨p, B, ps, _, m, rfl, hv, h2, ?_, ?_, ?_, by omega⟩
    · show c.sl = _
      exact h3
    · show (c.cas.set N _).length = N + 1
      rw [List.length_set, h4]
    · show c.now + 1 ≤ now + (k + 1)
      omega
theorem under_onway {ps : List Nat} {c : Cro} {kind : Int} {key : ByteArray} {x0 : Hold} {n0 : Nat} (h : UnderWay w1 w tb mb cb x0 n0 ps c E kind key) (hn : n0 ≤ 80) (hsl : c.sl = sl0) (hN : c.cas.length = N) (hp : c.cas.length = ps.length) : OnWay w1 w tb mb cb (doX x0 kind key (vOf kind)).1 (n0 + 1) (doX x0 kind key (vOf kind)).2 N (c.now + 1) E 0 := by
  obtain ⟨p, B, hb, h⟩ := h
  refine ⟨p, B, _, _, _, hb, h, ?_, ?_, ?_, Nat.le_refl _, by omega⟩
  · rw [List.getElem?_append_right (by omega)]
    have : N - ps.length = 0 := by omega
    rw [this]; rfl
  · show c.sl.set 2 (some c.cas.length) = _
    rw [hsl, hN]; rfl
  · show (c.cas ++ _).length = N + 1
    rw [List.length_append, hN]; rfl
end
set_option maxRecDepth 100000 in
set_option maxHeartbeats 4000000 in
theorem walk (lv : Value) (l : List Dd) (w : World) (hl : DdIn w lv l) :
    Calls Tryz.prog 5 #[lv] w fun e w' => e = .returned (.bool true) ∧ Below w.heap.size w w' := by
  obtain ⟨ls, lc, rfl, la, lb⟩ := LIn.form hl
  unfold maxLen at lb
  have HL := Lib.hid hl
  clear hl
  by_cases g2 : (60 : Int) < (l.length : Int)
  · have t2 : decide ((60 : Int) < (l.length : Int)) = true := decide_eq_true g2
    clear g2
    go_enter Tryz.func5, Tryz.ntmps5
    go_wp2_with (go_at_call 6; refine (cr_awake _).mono ?_; rintro e w1 ⟨rfl, hf⟩; have HF1 := Lib.hid hf; clear hf)
    go_ret
    exact ⟨rfl, HF1.out.below (Nat.le_refl _) (by simp)⟩
  have t2 : decide ((60 : Int) < (l.length : Int)) = false := decide_eq_false g2
  have hl60 : l.length ≤ 60 := by omega
  clear g2
  go_enter Tryz.func5, Tryz.ntmps5
  go_wp2_with (go_at_call 6; refine (cr_awake _).mono ?_; rintro e w1 ⟨rfl, hf⟩; refine go_stop ?_)
  unfold Stop
  have HF1 := Lib.hid hf
  clear hf
  have HBG := Lib.hid (cr_begun (.slice none 0 0) [] w1 (LIn.nil _) (Nat.zero_le _))
  go_wp2_with (go_at_call 7; refine HBG.out.mono ?_; rintro e w2 ⟨tb, mb, B, rfl, HB⟩; refine go_stop ?_)
  unfold Stop
  have HA := Lib.hid (beg_al HB.out)
  obtain ⟨cb, hcb⟩ : ∃ cb, cb = B.cb := ⟨_, rfl⟩
  have HCB := Lib.hid hcb
  rw [← hcb]
  clear HBG HB hcb
  go_wp2_with fail
  have HR0 : Hid (Rest w1 w2 tb mb cb (.slice none 0 0) [] 0) := Lib.hid (by
    obtain ⟨x, m, k1, k2, k3⟩ := HA.out
    exact ⟨x, m, B, [], Cro.new 4, [], HCB.out.symm, k1, fun W _ => LIn.nil W, k2, by omega, rfl, Nat.le_refl _, Nat.zero_le _, Nat.le_refl _⟩)
  clear HA HCB
  go_loopw [6, 7] (fun sv i wr => ∃ (j : Nat) (set : List ByteArray), i = .int .i64 j ∧ j ≤ l.length ∧ Rest w1 wr tb mb cb sv set j) (fun _ i _ => l.length - (intOf i).toNat)
  case atStart => exact ⟨0, [], rfl, Nat.zero_le _, HR0.out⟩
  case round =>
    obtain ⟨j, set, rfl, hj, hrest⟩ := hrel
    clear HR0
    by_cases h : j < l.length
    · have t0 : decide ((j : Int) < (l.length : Int)) = true := decide_eq_true (by omega)
      obtain ⟨x, n, B, ps, c, E, rfl, hal, hrow, hx, hn, hsl, hcas, hnow, hset⟩ := hrest
      obtain ⟨d, hd⟩ : ∃ d, l[j]? = some d := ⟨_, List.getElem?_eq_getElem h⟩
      obtain ⟨g, off, d1, e1, hg, l1, k1⟩ := DdIn.here (LIn.keep0 (LIn.keep0 HL.out HF1.out) (hal.fr (keeps_mine ..))) (by omega)
      simp only [Value.slice.injEq] at e1
      obtain ⟨rfl, _, rfl⟩ := e1
      obtain ⟨p0, p1, p2⟩ := k1 j d hd
      clear k1 hd
      have HAL := Lib.hid hal
      have HROW := Lib.hid hrow
      have HX := Lib.hid hx
      have HSL := Lib.hid hsl
      have n1 : ¬ g = wr.heap.size := by omega
      have n2 : ¬ wr.heap.size = g := by omega
      clear hal hrow hx hsl
      by_cases hb : d.kind = 1 ∨ d.kind = 2 ∨ d.kind = 3
      · have q1 : decide (d.kind < 1) = false := decide_eq_false (by omega)
        have q2 : decide (3 < d.kind) = false := decide_eq_false (by omega)
        have HBK := Lib.hid hb
        clear hb
        obtain ⟨W1, hW1⟩ : ∃ W1, W1 = wr.alloc (.cells #[.int .i64 d.kind, .int .i64 2, .string d.key] 32) := ⟨_, rfl⟩
        obtain ⟨q, hq⟩ : ∃ q, q = wr.heap.size := ⟨_, rfl⟩
        obtain ⟨E1, hE1⟩ : ∃ E1 : Rows, E1 = (wr.heap.size, .cells #[.int .i64 d.kind, .int .i64 2, .string d.key] 32 (0, 0)) :: E := ⟨_, rfl⟩
        have HA1 := Lib.hid (HAL.out.alloc (keeps_mine ..) #[.int .i64 d.kind, .int .i64 2, .string d.key] 32)
        rw [← hW1, ← hE1] at HA1
        have HQ : Hid ((q, (.cells #[.int .i64 d.kind, .int .i64 2, .string d.key] 32 (0, 0) : Obj)) ∈ E1) := Lib.hid (by rw [hE1, hq]; exact List.mem_cons_self ..)
        have HROW1 : Hid (RowK strC 1 E1 u6 set) := Lib.hid (HROW.out.mono (fun r hr => by rw [hE1]; exact List.mem_cons_of_mem _ hr))
        have HDO := Lib.hid (al_do HA1.out (by omega) (by omega) (by omega) (by rw [HSL.out]; rfl) d.key HBK.out)
        have HWQ := Lib.hid (show W1 = _ ∧ q = _ from ⟨hW1, hq⟩)
        have HEQ := Lib.hid hE1
        clear hW1 hq hE1 HROW HAL
        go_wp2_with (go_at_call 8; rw [← HWQ.out.1]; refine HDO.out.mono ?_; rintro e w3 ⟨rfl, HU⟩; refine go_stop ?_)
        unfold Stop
        rw [← HWQ.out.2]
        have HW0 := Lib.hid (under_onway HU.out (by omega) HSL.out rfl HA1.out.len)
        obtain ⟨r, hr⟩ : ∃ r, r = (doX x d.kind d.key (vOf d.kind)).2 := ⟨_, rfl⟩
        obtain ⟨x', hx'⟩ : ∃ x', x' = (doX x d.kind d.key (vOf d.kind)).1 := ⟨_, rfl⟩
        rw [← hr, ← hx'] at HW0
        have HRX := Lib.hid (show r = _ ∧ x' = _ from ⟨hr, hx'⟩)
        obtain ⟨N, hN⟩ : ∃ N, N = c.cas.length := ⟨_, rfl⟩
        obtain ⟨M, hM⟩ : ∃ M, M = c.now + 1 := ⟨_, rfl⟩
        rw [← hN, ← hM] at HW0
        have HNM := Lib.hid (show N = c.cas.length ∧ M = c.now + 1 from ⟨hN, hM⟩)
        have hNj : N ≤ 60 := by omega
        have hMj : M ≤ 24001 := by omega
        clear hN hM
        have HRE : Hid (r.err = 0) := Lib.hid (by rw [hr]; exact (doX_ok HX.out d.kind d.key _).2)
        clear hr hx' HU HDO HA1
        go_wp2_with fail
        go_loopw [9] (fun kv wi => ∃ (k : Nat), kv = .int .i64 k ∧ (OnWay w1 wi tb mb B.cb x' (n + 1) r N M E1 k ∨ Home w1 wi tb mb B.cb x' (n + 1) r N M E1 k)) (fun kv _ => 2000 - (intOf kv).toNat)
        case atStart => exact ⟨0, rfl, Or.inl HW0.out⟩
        case round =>
          obtain ⟨k, rfl, hor⟩ := hrel
          clear HW0
          rcases hor with how | hho
          · have hk : k ≤ 300 := by obtain ⟨_, _, _, _, _, _, _, _, _, _, _, h9⟩ := how; omega
            have t1 : decide ((k : Int) < 2000) = true := decide_eq_true (by omega)
            have HI := Lib.hid (onway_idle how)
            clear how
            go_wp2_with (go_at_call 11; refine HI.out.mono ?_; rintro e w5 ⟨rfl, HO⟩; refine go_stop ?_)
            unfold Stop
            have HP := Lib.hid (onway_pick HO.out HRE.out (by omega))
            clear HI HO
            go_wp2_with (go_at_call 13; refine HP.out.mono ?_; rintro e w6 ⟨rfl, HO⟩; refine go_stop ?_)
            unfold Stop
            go_wp2_with fail
            go_roundw
            case rel => exact ⟨k + 1, by go_num, HO.out⟩
            case measure => simp [intOf]; omega
          · have hk : k ≤ 300 := by obtain ⟨_, _, _, _, _, _, _, _, _, _, h9⟩ := hho; exact h9
            have t1 : decide ((k : Int) < 2000) = true := decide_eq_true (by omega)
            have HI := Lib.hid (home_idle hho)
            clear hho
            go_wp2_with (go_at_call 11; refine HI.out.mono ?_; rintro e w5 ⟨rfl, HO⟩; refine go_stop ?_)
            unfold Stop
            obtain ⟨p, B', ps', c', hb', hal', hsl', hcas', ⟨y, hy, hyo, hyr⟩, hnow', _⟩ := HO.out
            have HAM := Lib.hid (Al.turn (T' := MineT w1 tb mb x' (n + 1)) (keeps_land ..) (keeps_mine ..) hal' (fun K h => Landed.mine h))
            have HCC := Lib.hid (show B'.cb = B.cb ∧ c'.sl = sl0 ∧ c'.cas.length = N + 1 ∧ c'.now ≤ M + 300 from ⟨hb', hsl', hcas', by omega⟩)
            obtain ⟨b0, b1, b2, b3⟩ := cells3 (HAM.out.at (keeps_mine ..) HQ.out)
            have hbq := lt_of_block (HAM.out.at (keeps_mine ..) HQ.out)
            have HSS : Hid (SsIn w5 u6 set) := Lib.hid (HROW1.out w5 (fun pr hpr => HAM.out.at (keeps_mine ..) (o := pr.2) hpr))
            have HD := Lib.hid (fun (W : World) (hW : Fr [] w5 W) => rr_do_new u6 set ⟨d.kind, d.key, false, 0, 0⟩ W (LIn.keep0 HSS.out hW) (by omega))
            obtain ⟨OKV, hOKV⟩ : ∃ b, b = doOk d.kind (inS set d.key) := ⟨_, rfl⟩
            have HOKV : Hid (doOk (⟨d.kind, d.key, false, 0, 0⟩ : Ca).kind (inS set (⟨d.kind, d.key, false, 0, 0⟩ : Ca).key) = OKV) := Lib.hid hOKV.symm
            rw [HOKV.out] at HD
            have hyo2 : y.ok = OKV := by rw [hyo, HRX.out.1, hOKV]; exact (doX_ok HX.out d.kind d.key _).1
            have HY := Lib.hid (show c'.cas[N]? = some y ∧ y.ok = OKV ∧ 0 ≤ y.ret from ⟨hy, hyo2, hyr⟩)
            clear HI HO hal' hsl' hcas' hy hyo hyr hnow' hb' hOKV hyo2
            go_wp2_with (go_at_call 14; refine (HD.out _ (Fr.refl [] w5)).mono ?_; rintro e w7 ⟨v, rfl, hv, hf7, hor⟩; refine go_stop ?_)
            unfold Stop
            have hnx := next_rows HAM.out HROW1.out hf7 hv hor
            obtain ⟨E2, hrow2, hal2⟩ := hnx
            have HROW2 := Lib.hid hrow2
            have HAL2 := Lib.hid hal2
            clear hrow2 hal2 hv hor hf7 HD HSS b0 b1 b2 b3 hbq
            have HCA : Hid (Calls Tryz.prog 10 #[pt B.cb] w7 fun e w' => ∃ s cap g off, e = .returned (.slice s (N + 1) cap) ∧ s = some ⟨g, off, none⟩ ∧ N + 1 ≤ cap ∧ cap ≤ maxLen ∧ g < w'.heap.size ∧ w'.cell? ⟨g, off + N * 5 + 2, none⟩ = some (.bool OKV) ∧ w'.cell? ⟨g, off + N * 5 + 4, none⟩ = some (.int .i64 y.ret) ∧ Fr [] w7 w') := Lib.hid (by
              rw [← HCC.out.1]
              refine (al_Calls HAL2.out (by have := HCC.out.2.2.1; omega)).mono ?_
              rintro e w' ⟨v2, he, hv2, hf, _⟩
              obtain ⟨g2, off2, cap2, rfl, hg2, hle, hat⟩ := CaIn.here (LAt.read hv2 Ca.clen) (by have := HCC.out.2.2.1; omega)
              obtain ⟨_, _, hform, _, hmx⟩ := LAt.form hv2
              cases hform
              obtain ⟨a0, a1, a2, a3, a4⟩ := hat N y HY.out.1
              rw [HCC.out.2.2.1] at he hle
              rw [HY.out.2.1] at a2
              exact ⟨_, _, g2, off2, he, rfl, hle, hmx, hg2, a2, a4, hf⟩)
            go_wp2_with (go_at_call 10; refine HCA.out.mono ?_; rintro e w8 ⟨s8, cap8, g8, off8, rfl, rfl, hle8, hmx8, hg8, y2, y4, hf8⟩; refine go_stop ?_)
            unfold Stop
            have HF8 := Lib.hid hf8
            clear hf8 HCA
            unfold maxLen at hmx8
            have z1 : decide (y.ret < 0) = false := decide_eq_false (by have := HY.out.2.2; omega)
            have w1' : IntKind.i64.wrap (((N + 1 : Nat) : Int) - 1) = (N : Int) := by
              have : (((N + 1 : Nat) : Int) - 1) = (N : Int) := by omega
              rw [this]
              exact IntWalk.i64_in _ (by omega)
            have w2' : IntKind.i64.wrap ((N : Int) + 1 - 1) = (N : Int) := by
              have : ((N : Int) + 1 - 1) = (N : Int) := by omega
              rw [this]
              exact IntWalk.i64_in _ (by omega)
            go_wp2_with fail
            clear w1' w2'
            go_roundw
            case rel =>
              have hdl := doL_len set ⟨d.kind, d.key, false, 0, 0⟩
              refine ⟨j + 1, _, by go_num, by omega, x', n + 1, B', ps', c', E2, HCC.out.1, HAL2.out.keep0 (keeps_mine ..) HF8.out, HROW2.out, ?_, by omega, HCC.out.2.1, by have := HCC.out.2.2.1; have := HNM.out.1; omega, by have := HCC.out.2.2.2; have := HNM.out.2; omega, by omega⟩
              rw [HRX.out.2]
              exact doX_do HX.out d.key _ rfl rfl
            case measure => simp [intOf]; omega
      · have HREST : Hid (Rest w1 wr tb mb B.cb u6 set j) := Lib.hid ⟨x, n, B, ps, c, E, rfl, HAL.out, HROW.out, HX.out, hn, HSL.out, hcas, hnow, hset⟩
        clear HAL HROW HX HSL hn hcas hnow hset
        by_cases hlo : d.kind < 1
        · have q1 : decide (d.kind < 1) = true := decide_eq_true hlo
          clear hlo hb
          go_wp2_with fail
          go_roundw
          case rel => exact ⟨j + 1, set, by go_num, by omega, HREST.out.on ((Fr.refl [] wr).alloc _)⟩
          case measure => simp [intOf]; omega
        · have q1 : decide (d.kind < 1) = false := decide_eq_false hlo
          have q2 : decide (3 < d.kind) = true := decide_eq_true (by omega)
          clear hlo hb
          go_wp2_with fail
          go_roundw
          case rel => exact ⟨j + 1, set, by go_num, by omega, HREST.out.on ((Fr.refl [] wr).alloc _)⟩
          case measure => simp [intOf]; omega
    · have t0 : decide ((j : Int) < (l.length : Int)) = false := decide_eq_false (by omega)
      obtain ⟨x, n, B, ps, c, E, rfl, hal, hrow, hx, hn, hsl, hcas, hnow, hset⟩ := hrest
      have HSS : Hid (SsIn wr u6 set) := Lib.hid (hrow wr (fun pr hpr => hal.at (keeps_mine ..) (o := pr.2) hpr))
      obtain ⟨K, hM, _⟩ := hal
      have HFM := Lib.hid (Fr.trans (T := []) HF1.out hM.fr (by simp))
      have HKY := Lib.hid (mine_Keys hM (by omega))
      have HX := Lib.hid hx
      clear hM hrow hx
      go_wp2_with (go_at_call 16; refine HKY.out.mono ?_; rintro e w4 ⟨ks, kl, kc, rfl, HK⟩; refine go_stop ?_)
      unfold Stop
      have HKK : Hid (kl = keptL set) := Lib.hid (HK.out.2.1.set HX.out)
      have HKS : Hid (StIn w4 (.slice ks kl.length kc) kl) := Lib.hid HK.out.1.stIn
      have HF4 := Lib.hid HK.out.2.2.2.1
      have HKP := Lib.hid (rr_kept u6 set w4 (LIn.keep0 HSS.out HF4.out) (by omega))
      clear HK HKY
      go_wp2_with (go_at_call 17; refine HKP.out.mono ?_; rintro e w5 ⟨v5, rfl, hv5, hf5⟩; refine go_stop ?_)
      unfold Stop
      have HF5 := Lib.hid hf5
      have HSA := Lib.hid (rr_same _ v5 kl (keptL set) w5 (LIn.keep0 HKS.out hf5) hv5)
      rw [decide_eq_true HKK.out] at HSA
      clear hv5 hf5
      go_wp2_with (go_at_call 15; refine HSA.out.mono ?_; rintro e w6 ⟨rfl, hf6⟩; have HF6 := Lib.hid hf6; clear hf6)
      go_ret
      exact ⟨rfl, (((HFM.out.trans HF4.out (by simp)).trans HF5.out (by simp)).trans HF6.out (by simp)).below (Nat.le_refl _) (by simp)⟩

set_option maxRecDepth 100000 in
theorem contract (H : Type) (enc : TypeId × Value → H) (W : World) (base : Nat) (args : Array Value) (ds gs : List (DataW H)) (before : List MemPlace)
    (hval0 : ∀ (j : Nat) t v, Tryz.f5.params[j]? = some t → args[j]? = some v → Value.okWide Tryz.prog W .any base t v)
    (hW : DataW.Whole enc Tryz.prog Tryz.f5.params.toList Rows.crowdAloneSpec.vars false W args.toList ds gs before) :
    Calls Tryz.prog 5 args W fun e W' => ∃ v, e = .returned v ∧ Rows.crowdAloneSpec.post enc Tryz.prog Tryz.f5 false true false false W args v W' := by
  have hval : ∀ (j : Nat) t v, Tryz.f5.params[j]? = some t → args[j]? = some v → Value.okWide Tryz.prog W .any base t v := hval0
  have hW' := hW
  obtain ⟨p, q, hA0, hV, rfl, hfz, hnd⟩ := hW
  have hA : DataW.TrodAll enc Tryz.prog W 0 (fun _ => true) true Tryz.f5.params.toList args.toList ds p := hA0
  rw [Tryz.params5] at hA hval
  obtain ⟨v0, vs0, d0, ds0, p0, q0, hargs, rfl, rfl, h0, r0⟩ := trodAll_cons hA
  obtain ⟨rfl, rfl, rfl⟩ := trodAll_nil r0
  obtain rfl : args = #[v0] := by cases args; simp_all
  obtain ⟨rfl, rfl⟩ := trodVars_none hV
  have k0 := h0
  have lt0 : ∀ x ∈ p0, x.block < W.heap.size := by obtain ⟨m, hm⟩ := k0; exact DataW.trod_lt m _ _ _ hm
  obtain ⟨l, hl⟩ := open_dds (hval 0 23 v0 rfl rfl) h0
  clear hA0 hval0 hval
  refine (walk v0 l W hl).mono fun e W' ⟨he, bel⟩ => ?_
  subst he
  exact ⟨_, rfl, _, _, _, [], _, [], hW', trodAll_mk1 (shut_bool Tryz.underlying4 _), (trodAll_cons_mk (Below.trod laid_prog (by kernel_rfl) (of_decide_eq_true (by kernel_rfl)) k0 bel lt0) trodAll_mk0), rfl, bel.frame _, fun h => by cases h⟩

set_option maxRecDepth 100000 in
theorem lifted (os : Os) (started : os.Started) (H : Type) (enc : TypeId × Value → H) :
    ReturnsInHanded {} Tryz.checked os 5 .any (Rows.crowdAloneSpec.pre6 enc Tryz.prog Tryz.f5 Rows.crowdAloneRow.domain false) (Rows.crowdAloneSpec.post enc Tryz.prog Tryz.f5 false true false false) := by
  refine returnsInHanded_of_change (C := Tryz.checked) own_prog started (by kernel_rfl) Tryz.func5
    (ChangeSpec.witness6 (enc := enc) (C := Tryz.checked) false ⟨#[], #[.slice none 0 0], []⟩ 8 (by kernel_rfl) (by kernel_rfl) (by kernel_rfl) (by kernel_rfl)) ?_
  intro W base args ds gs before hval hW _ _
  exact contract H enc W base args ds gs before hval hW

theorem proved : Rows.CrowdAloneSaid :=
  OpenClaim.holds_of_wide 5 Tryz.f5 rfl rfl rfl rfl rfl rfl rfl ⟨rfl, rfl, rfl, rfl, rfl⟩ rfl rfl rfl rfl rfl (by kernel_rfl) Tryz.func5 (by kernel_rfl)
    (of_decide_eq_true (by kernel_rfl)) (by unfold Func.isWrapper; first | (rw [if_pos (by decide +kernel)]; kernel_rfl) | (rw [if_neg (by decide +kernel)]; exact ⟨rfl, rfl⟩))
    (fun os started H enc _ => lifted os started H enc)

end Go.Proofs.YtmhiolhgofackaaGreat.lawCrowdAlone
