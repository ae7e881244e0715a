/- THE LAWS OF cursor: put, few, made, real, told: contracts
THE LAWS OF cursor: awake -/
import Derived.Test.YtmbfcdoemcffpaaHistDo
import Derived.Test.YtmbfcdoemcffpaaCurPoll
import Derived.Test.YtmbfcdoemcffpaaCuSame
import Derived.Test.YtmbfcdoemcffpaaCuDel
import Derived.Test.YtmbfcdoemcffpaaHistApply
import Derived.Test.YtmbfcdoemcffpaaHist
import Derived.Test.YtmbfcdoemcffpaaHistRan
namespace Go.Proofs.Ytmbfcdoemcffpaa
open Go.RowKit
set_option linter.unusedVariables false
set_option linter.unusedSimpArgs false

theorem cfew_any (lv : Value) (l : List Dd) (w : World) (hl : DdIn w lv l) : Calls Try.prog 17 #[lv] w fun e w' => ∃ b : Bool, e = .returned (.bool b) ∧ (b = true ↔ (l.length ≤ 30 ∧ ∀ d ∈ l, d.ops.length ≤ 8)) ∧ w = w' := by
  obtain ⟨s1, c1, rfl, la, ma⟩ := hl.form
  unfold maxLen at ma
  have HL := Lib.hid hl
  clear hl
  go_enter Try.func17, Try.ntmps17
  go_wp2_with fail
  go_loopw [3] (fun i wr => ∃ (j : Nat), i = .int .i64 j ∧ j ≤ l.length ∧ j ≤ 31 ∧ (∀ d ∈ l.take j, d.ops.length ≤ 8) ∧ wr.heap = w.heap ∧ Hid (wr = w)) (fun i _ => l.length - (intOf i).toNat)
  case atStart => exact ⟨0, rfl, Nat.zero_le _, by omega, by simp, rfl, Lib.hid rfl⟩
  case round =>
    obtain ⟨j, rfl, hj, hj2, hs, hh, hw⟩ := hrel
    have HS := Lib.hid hs
    have HW := hw
    clear hs hh hw
    by_cases h : j < l.length
    · have t1 : decide ((j : Int) < (l.length : Int)) = true := by simp; omega
      by_cases h2 : j < 31
      · have t2 : decide ((j : Int) < 31) = true := by simp; omega
        obtain ⟨x, hx⟩ : ∃ x, l[j]? = some x := ⟨_, List.getElem?_eq_getElem h⟩
        obtain ⟨g, off, d1, e1, hg, l1, k1⟩ := DdIn.here (w := wr) (by rw [HW.out]; exact HL.out) (by omega)
        cases e1
        obtain ⟨p0, p1, p2, po⟩ := k1 j x hx
        obtain ⟨su, cu, hu, lu, mu⟩ := LIn.form po
        rw [hu] at p1
        have HX := Lib.hid hx
        unfold maxLen at mu
        clear hx k1 po hu
        by_cases h3 : x.ops.length ≤ 8
        · have t3 : decide ((8 : Int) < (x.ops.length : Int)) = false := by simp; omega
          have H3 := Lib.hid h3
          go_wp2_with fail
          go_roundw
          case rel =>
            refine ⟨j + 1, by go_num, by omega, by omega, fun d hd => ?_, by rw [HW.out], HW⟩
            rcases (mem_snocD HX.out d).1 hd with hd | rfl
            · exact HS.out d hd
            · exact H3.out
          case measure => simp [intOf]; omega
        · have t3 : decide ((8 : Int) < (x.ops.length : Int)) = true := by simp; omega
          have H3 := Lib.hid h3
          go_wp2_with fail
          go_ret
          refine ⟨false, rfl, ⟨(fun hc => by cases hc), fun ⟨_, hc⟩ => absurd (hc x (List.mem_of_getElem? HX.out)) H3.out⟩, HW.out.symm⟩
      · have t2 : decide ((j : Int) < 31) = false := by simp; omega
        have t4 : decide ((l.length : Int) ≤ 30) = false := by simp; omega
        go_wp2_with fail
        go_ret
        refine ⟨false, rfl, ⟨(fun hc => by cases hc), fun ⟨hc, _⟩ => by omega⟩, HW.out.symm⟩
    · have t1 : decide ((j : Int) < (l.length : Int)) = false := by simp; omega
      have hjl : l.take j = l := List.take_of_length_le (by omega)
      have HS2 : Hid (∀ d ∈ l, d.ops.length ≤ 8) := Lib.hid (by have := HS.out; rw [hjl] at this; exact this)
      clear hjl
      by_cases h4 : l.length ≤ 30
      · have t4 : decide ((l.length : Int) ≤ 30) = true := by simp; omega
        go_wp2_with fail
        go_ret
        exact ⟨true, rfl, ⟨fun _ => ⟨h4, HS2.out⟩, fun _ => rfl⟩, HW.out.symm⟩
      · have t4 : decide ((l.length : Int) ≤ 30) = false := by simp; omega
        go_wp2_with fail
        go_ret
        exact ⟨false, rfl, ⟨(fun hc => by cases hc), fun ⟨hc, _⟩ => absurd hc h4⟩, HW.out.symm⟩
theorem cu_made (C : Cu) (w : World) : Calls Try.prog 10 #[C.val] w fun e w' => e = .returned C.val ∧ Fr [] w w' := by
  unfold Cu.val
  go_enter Try.func10, Try.ntmps10
  go_wp2_with fail
  refine bodyPost_ret (v := .agg #[.string C.f, .string C.t, .int .i64 C.next, .bool C.once, .bool C.dead]) (by simp [results, Try.results10, go_sem, *]) rfl ⟨rfl, ?_⟩
  with_reducible (repeat (first | exact Fr.refl _ _ | refine Fr.drew ?_ | refine Fr.alloc ?_ _))
theorem cu_real (C : Cu) (w : World) : Calls Try.prog 12 #[C.val] w fun e w' => e = .returned C.val ∧ Fr [] w w' := by
  unfold Cu.val
  go_enter Try.func12, Try.ntmps12
  go_wp2_with fail
  refine bodyPost_ret (v := .agg #[.string C.f, .string C.t, .int .i64 C.next, .bool C.once, .bool C.dead]) (by simp [results, Try.results12, go_sem, *]) rfl ⟨rfl, ?_⟩
  with_reducible (repeat (first | exact Fr.refl _ _ | refine Fr.drew ?_ | refine Fr.alloc ?_ _))
theorem cu_told (N : Nt) (s : Option Addr) (n c : Nat) (w : World) : Calls Try.prog 14 #[ntV N (.slice s n c)] w fun e w' => e = .returned (ntV N (.slice s n c)) ∧ Fr [] w w' := by
  unfold ntV
  go_enter Try.func14, Try.ntmps14
  go_wp2_with fail
  refine bodyPost_ret (v := .agg #[.int .i64 N.err, .int .i64 N.hor, .int .i64 N.upto, .slice s n c]) (by simp [results, Try.results14, go_sem, *]) rfl ⟨rfl, ?_⟩
  with_reducible (repeat (first | exact Fr.refl _ _ | refine Fr.drew ?_ | refine Fr.alloc ?_ _))
theorem cu_put (o : Od) (hd : o.del = false) (w : World) : Calls Try.prog 34 #[.string o.key, .string o.val] w fun e w' => e = .returned (.slice (some ⟨w.heap.size, 0, none⟩) 1 1) ∧ w' = w.alloc (.cells o.cells.toArray 103) := by
  unfold Od.cells
  rw [hd]
  go_enter Try.func34, Try.ntmps34
  go_wp2_with fail
  go_ret
  exact ⟨rfl, rfl⟩
end Go.Proofs.Ytmbfcdoemcffpaa
namespace Go.Proofs.Ytmbfcdoemcffpaa
open Go.RowKit
set_option linter.unusedVariables false
set_option linter.unusedSimpArgs false

def k1 : Od := ⟨⟨#[97]⟩, ⟨#[120]⟩, false, by decide⟩
def k2 : Od := ⟨⟨#[98]⟩, ⟨#[121]⟩, false, by decide⟩
def k3 : Od := ⟨⟨#[97]⟩, ⟨#[122]⟩, false, by decide⟩
def g1 : HA := ⟨[[k1.ev 1]], 0⟩
def g2 : HA := ⟨[[k1.ev 1], [k2.ev 2]], 0⟩
def g3 : HA := ⟨[[k1.ev 1], [k2.ev 2], [k3.ev 3]], 0⟩
def g4 : HA := ⟨[[k1.ev 1], [k2.ev 2], [k3.ev 3]], 3⟩
theorem app_put (H : HA) (o : Od) (hd : o.del = false) : H.app [o] = ⟨H.rows ++ [[o.ev (H.rows.length + 1)]], H.hor⟩ := by
  unfold HA.app
  rw [rowOf_one, hd]
  simp [putR]
theorem ga1 : HA.zero.app [k1] = g1 := app_put HA.zero k1 rfl
theorem ga2 : g1.app [k2] = g2 := app_put g1 k2 rfl
theorem ga3 : g2.app [k3] = g3 := app_put g2 k3 rfl
theorem ga4 : g3.com 3 = g4 := by
  have h : g3.comE 3 = 0 := comE_zero.2 ⟨by decide, by decide⟩
  unfold HA.com
  rw [if_pos h]; rfl
theorem gm1 : (restrictK ⟨#[]⟩ ⟨#[]⟩ (mapN g1.rows g1.rows.length)).length = 1 := by
  rw [restrict_all]
  show (mapN [[k1.ev 1]] 1).length = 1
  simp [mapN, foldK, oneK, lowB, highB, Ev.put, Ev.kv, Od.ev, k1]
def w2C : Cu := ⟨⟨#[]⟩, ⟨#[]⟩, 2, false, false⟩
def w3C : Cu := ⟨⟨#[]⟩, ⟨#[]⟩, 3, false, false⟩
def wdC : Cu := ⟨⟨#[]⟩, ⟨#[]⟩, 3, false, true⟩
theorem gp1 : w2C.pollC g3 1 = w3C ∧ w2C.pollN g3 1 = ⟨0, 0, 2, [[k2.ev 2]]⟩ := by
  have h : Live w2C g3 1 := ⟨rfl, rfl, by decide, by decide⟩
  have hn : w2C.n g3 1 = 1 := by
    have := h.n_min (m := 1)
    exact this
  have hg := h.got_eq 1
  rw [hn] at hg
  have hg : w2C.got g3 1 = [[k2.ev 2]] := hg
  refine ⟨by rw [h.pollC, hn]; rfl, ?_⟩
  rw [h.pollN, hn, hg, full_tell rfl]
  have hf : w2C.full [[k2.ev 2]] = [[k2.ev 2]] := by
    unfold Cu.full
    have : filterE w2C.f w2C.t [k2.ev 2] = [k2.ev 2] := by
      unfold filterE
      rw [List.filter_eq_self]
      exact fun x _ => inR_all _
    simp [this]
  rw [hf]; rfl
theorem gp2 : w3C.pollC g4 9 = wdC ∧ w3C.pollN g4 9 = ⟨5, 3, 0, []⟩ := old_poll (C := w3C) (H := g4) rfl (by decide) 9
theorem gp3 : wdC.pollC g4 9 = wdC ∧ wdC.pollN g4 9 = ⟨4, 0, 0, []⟩ := by
  unfold Cu.pollC Cu.pollN Cu.then' Cu.told
  rw [if_pos (show wdC.dead = true from rfl), if_pos (show wdC.dead = true from rfl)]
  exact ⟨rfl, rfl⟩
theorem gok1 : HOk g1 1 := ⟨by decide, by decide, by intro r hr; simp [g1] at hr; subst hr; decide⟩
theorem gok2 : HOk g2 2 := ⟨by decide, by decide, by intro r hr; simp [g2] at hr; rcases hr with rfl | rfl <;> decide⟩
theorem gok3 : HOk g3 3 := ⟨by decide, by decide, by intro r hr; simp [g3] at hr; rcases hr with rfl | rfl | rfl <;> decide⟩
theorem gok4 : HOk g4 3 := ⟨by decide, by decide, by intro r hr; simp [g4] at hr; rcases hr with rfl | rfl | rfl <;> decide⟩
/-- one op that is put -/
theorem od_one {S : List Nat} {w : World} (o : Od) (hS : ∀ k ∈ S, k < w.heap.size) : LFar S Od.cells 3 (w.alloc (.cells o.cells.toArray 103)) (.slice (some ⟨w.heap.size, 0, none⟩) 1 1) [o] := by
  refine LFar.of_new (LAt.read (e := 103) ?_ Od.clen) (fun k hk => ?_) hS
  · unfold LAt
    rw [allC_one]
    exact lies_row w 103 o.cells rfl _ rfl
  · simp [Value.ownBlock] at hk; omega
/-- a put, done -/
theorem put_do {w W : World} {p : Nat} {S : List Nat} {H : HA} {n : Nat} (o : Od) (h : Hs W p S H) (hk : HOk H n) (hn : n ≤ 1000) (hf : Fr [] w W) (hg : ∀ k ∈ S, w.heap.size ≤ k) :
    Calls Try.prog 19 #[.pointer (some ⟨p, 0, none⟩), .slice (some ⟨W.heap.size, 0, none⟩) 1 1] (W.alloc (.cells o.cells.toArray 103)) fun e w' =>
      ∃ v S', e = .returned v ∧ Hs w' p S' (H.app [o]) ∧ Fr [] w w' ∧ Fr S (W.alloc (.cells o.cells.toArray 103)) w' ∧ Grow S S' W ∧ (∀ k ∈ S', w.heap.size ≤ k) := by
  have hfa : Fr [] W (W.alloc (.cells o.cells.toArray 103)) := (Fr.refl [] W).alloc _
  refine (hist_apply (n := n) _ [o] (h.keep hfa (by simp)) hk hn (od_one o h.lt) (by simp)).mono ?_
  rintro e w2 ⟨v2, S2, rfl, h1, h2, h3, h4, h5⟩
  have hg5 : Grow S S2 W := fun k hk => (h5 k hk).imp id (fun h => Nat.le_trans hfa.size h)
  exact ⟨v2, S2, rfl, h1, (hf.trans hfa (by simp)).trans h4 (fun k hk => Or.inr (hg k hk)), h4, hg5, hg5.ge hf.size hg⟩
set_option maxRecDepth 100000 in
set_option maxHeartbeats 4000000 in
theorem cu_awake (w : World) : Calls Try.prog 8 #[] w fun e w' => e = .returned (.bool true) ∧ Fr [] w w' := by
  go_enter Try.func8, Try.ntmps8
  go_wp2_with (first
    | (go_at_call 18; refine (hist_new _).mono ?_; rintro e w1 ⟨p, S0, rfl, h1, h2, h3⟩; have HS := Lib.hid h1; have HF := Lib.hid h2; have HG := Lib.hid h3; clear h1 h2 h3)
    | (go_at_call 34; refine (cu_put k1 rfl _).mono ?_; rintro e wn ⟨rfl, rfl⟩)
    | (go_at_call 19; refine go_stop ?_))
  unfold Stop
  refine (put_do k1 HS.out HOk.zero (by decide) HF.out HG.out).mono ?_
  rintro e w2 ⟨v2, S2, rfl, h1, h2, h3, h4, h5⟩
  rw [ga1] at h1
  replace HS := Lib.hid h1
  replace HF := Lib.hid h2
  replace HG := Lib.hid h5
  clear h1 h2 h3 h4 h5
  have HOP : Hid (Calls Try.prog 20 #[.pointer (some ⟨p, 0, none⟩), .agg #[.string ⟨#[]⟩, .string ⟨#[]⟩], .int .i64 0] w2 fun e w' => ∃ s c, e = .returned (.tuple #[.agg #[.string ⟨#[]⟩, .string ⟨#[]⟩, .int .i64 2, .bool false, .bool false], .slice s 1 c, .int .i64 0]) ∧ Fr [] w2 w') := Lib.hid ((cur_open ⟨#[]⟩ ⟨#[]⟩ HS.out gok1 (by decide)).mono (by
    rintro e w' ⟨v, rfl, h1, h2⟩
    obtain ⟨s, c, hv, _, _⟩ := h1.form
    rw [gm1] at hv
    subst hv
    exact ⟨s, c, rfl, h2⟩))
  go_wp2_with (first
    | (go_at_call 20; refine HOP.out.mono ?_; rintro e w3 ⟨s3, c3, rfl, h2⟩; replace HS := Lib.hid (HS.out.keep h2 (by simp)); replace HF := Lib.hid (HF.out.trans h2 (by simp)); clear h2)
    | (go_at_call 34; refine (cu_put k2 rfl _).mono ?_; rintro e wn ⟨rfl, rfl⟩)
    | (go_at_call 19; refine go_stop ?_))
  unfold Stop
  clear HOP
  obtain ⟨pc, hpc⟩ : ∃ pc, pc = w3.heap.size := ⟨_, rfl⟩
  have hlt := HS.out.lt
  have hcb : (w3.alloc (.cells #[.string ⟨#[]⟩, .string ⟨#[]⟩, .int .i64 2, .bool false, .bool false] 31)).heap[pc]? = some (.cells #[.string ⟨#[]⟩, .string ⟨#[]⟩, .int .i64 2, .bool false, .bool false] 31 (0, 0)) := by rw [hpc]; exact new_block _ _
  have hf3 : Fr [] w3 (w3.alloc (.cells #[.string ⟨#[]⟩, .string ⟨#[]⟩, .int .i64 2, .bool false, .bool false] 31)) := (Fr.refl [] w3).alloc _
  have hsz : pc + 1 = (w3.alloc (.cells #[.string ⟨#[]⟩, .string ⟨#[]⟩, .int .i64 2, .bool false, .bool false] 31)).heap.size := by rw [hpc]; simp
  rw [← hpc]
  generalize w3.alloc (.cells #[.string ⟨#[]⟩, .string ⟨#[]⟩, .int .i64 2, .bool false, .bool false] 31) = wc at hcb hf3 hsz ⊢
  rw [hsz]
  have hwpc : w.heap.size ≤ pc := by have := HF.out.size; omega
  refine (put_do k2 (HS.out.keep hf3 (by simp)) gok1 (by decide) (HF.out.trans hf3 (by simp)) HG.out).mono ?_
  rintro e w4 ⟨v4, S4, rfl, h1, h2, h3, h4, h5⟩
  rw [ga2] at h1
  have hal : ∀ o, Fr [] wc (wc.alloc o) := fun o => (Fr.refl [] wc).alloc o
  have HB4 := Lib.hid (h3.keep ((hal _).keep hcb (by simp)) (fun hm => by have := hlt _ hm; omega))
  have HP4 : Hid (∀ k ∈ S4, k ≠ pc) := Lib.hid (fun k hk => by
    rcases h4 k hk with h | h
    · have := hlt k h; omega
    · have := lt_of_block hcb; omega)
  replace HS := Lib.hid h1
  replace HF := Lib.hid h2
  replace HG := Lib.hid h5
  have HWPC := Lib.hid hwpc
  clear h1 h2 h3 h4 h5 hal hcb hf3 hlt hpc hwpc
  go_wp2_with (first
    | (go_at_call 34; refine (cu_put k3 rfl _).mono ?_; rintro e wn ⟨rfl, rfl⟩)
    | (go_at_call 19; refine go_stop ?_))
  unfold Stop
  refine (put_do k3 HS.out gok2 (by decide) HF.out HG.out).mono ?_
  rintro e w5 ⟨v5, S5, rfl, h1, h2, h3, h4, h5⟩
  rw [ga3] at h1
  have hal : ∀ o, Fr [] w4 (w4.alloc o) := fun o => (Fr.refl [] w4).alloc o
  have HB5 := Lib.hid (h3.keep ((hal _).keep HB4.out (by simp)) (fun hm => HP4.out _ hm rfl))
  have HP5 : Hid (∀ k ∈ S5, k ≠ pc) := Lib.hid (fun k hk => by
    rcases h4 k hk with h | h
    · exact HP4.out k h
    · have := lt_of_block HB4.out; omega)
  replace HS := Lib.hid h1
  replace HF := Lib.hid h2
  replace HG := Lib.hid h5
  clear h1 h2 h3 h4 h5 hal HB4 HP4
  have HPO : Hid (Calls Try.prog 25 #[.agg #[.string ⟨#[]⟩, .string ⟨#[]⟩, .int .i64 2, .bool false, .bool false], .pointer (some ⟨p, 0, none⟩), .int .i64 1] w5 fun e w' => ∃ s c, e = .returned (.tuple #[.agg #[.string ⟨#[]⟩, .string ⟨#[]⟩, .int .i64 3, .bool false, .bool false], .agg #[.int .i64 0, .int .i64 0, .int .i64 2, .slice s 1 c]]) ∧ RowsF (pc :: S5) w' (.slice s 1 c) [[k2.ev 2]] ∧ Fr [] w5 w') := Lib.hid ((cur_poll (pc :: S5) w2C 1 HS.out gok3 (by decide) (fun k hk => by
      rcases List.mem_cons.1 hk with rfl | hk
      · exact lt_of_block HB5.out
      · exact HS.out.lt k hk) (show Mid40 2 from ⟨by decide, by decide⟩)).mono (by
    rintro e w' ⟨v, rfl, h1, h2⟩
    rw [gp1.2] at h1
    obtain ⟨s, c, hv, _, _⟩ := h1.form
    subst hv
    rw [gp1.1, gp1.2]
    exact ⟨s, c, rfl, h1, h2⟩))
  obtain ⟨b0, b1, b2, b3, b4, bf⟩ := cells5 HB5.out
  go_wp2_with (go_at_call 25; refine HPO.out.mono ?_; rintro e w6 ⟨s6, c6, rfl, h1, h2⟩; refine go_stop ?_)
  unfold Stop
  have hb6 := h2.keep HB5.out (by simp)
  have HB6 := Lib.hid hb6
  have HR6 := Lib.hid h1
  replace HS := Lib.hid (HS.out.keep h2 (by simp))
  replace HF := Lib.hid (HF.out.trans h2 (by simp))
  clear h1 h2 b0 b1 b2 b3 b4 bf HPO HB5
  obtain ⟨b0, b1, b2, b3, b4, bf⟩ := cells5 hb6
  have bf0 := bf 0
  have bf1 := bf 1
  have bf2 := bf 2
  have bf3 := bf 3
  have bf4 := bf 4
  have hpl := lt_of_block hb6
  have m1 : ¬ pc = w6.heap.size := by omega
  have m2 : ¬ w6.heap.size = pc := by omega
  clear bf hb6
  go_wp2_with (go_at_call 22; refine go_stop ?_)
  unfold Stop
  obtain ⟨pn, hpn⟩ : ∃ pn, pn = w6.heap.size := ⟨_, rfl⟩
  obtain ⟨w7, hw7⟩ : ∃ x, x = ((((((w6.setCell ⟨pc, 0, none⟩ (.string ⟨#[]⟩)).setCell ⟨pc, 1, none⟩ (.string ⟨#[]⟩)).setCell ⟨pc, 2, none⟩ (.int .i64 3)).setCell ⟨pc, 3, none⟩ (.bool false)).setCell ⟨pc, 4, none⟩ (.bool false)).alloc (Obj.cells #[.int .i64 0, .int .i64 0, .int .i64 2, .slice s6 1 c6] 34)) := ⟨_, rfl⟩
  have hb7 : w7.heap[pc]? = some (.cells #[.string ⟨#[]⟩, .string ⟨#[]⟩, .int .i64 3, .bool false, .bool false] 31 (0, 0)) := by
    rw [hw7]; exact blk_alloc (set5_block HB6.out _ _ _ _ _) _
  have hn7 : w7.heap[pn]? = some (.cells #[.int .i64 0, .int .i64 0, .int .i64 2, .slice s6 1 c6] 34 (0, 0)) := by
    rw [hw7]; exact nblk_at (by rw [hpn]; simp)
  have hf7 : Fr [pc] w6 w7 := by
    rw [hw7]
    refine Fr.alloc ?_ _
    with_reducible (repeat (first | exact Fr.refl _ _ | refine Fr.setCell ?_ (Or.inl (by simp)) _))
  have hpcn : pc < pn := by omega
  rw [← hpn, ← hw7]
  have HS7 := Lib.hid (HS.out.keep hf7 (fun k hk hm => HP5.out k hk (by simpa using hm)))
  have HR7 := Lib.hid (HR6.out.keep (hf7.mono (fun k hk => Or.inl (by simp at hk; simp [hk]))))
  have HF7 := Lib.hid (HF.out.trans hf7 (fun k hk => Or.inr (by have := HWPC.out; simp at hk; omega)))
  have hlt7 := HS.out.lt
  have HPN : Hid (∀ k ∈ S5, k ≠ pn) := Lib.hid (fun k hk => by have := hlt7 k hk; omega)
  have HB7 := Lib.hid hb7
  have HN7 := Lib.hid hn7
  clear hw7 hpn hf7 hlt7 m1 m2 bf0 bf1 bf2 bf3 bf4 b0 b1 b2 b3 b4 hb7 hn7 hpl HS HF HR6 HB6
  refine (hist_compact 3 HS7.out gok3 (by decide)).mono ?_
  rintro e w8 ⟨S8, rfl, h1, h2, h3⟩
  rw [ga4] at h1
  have HS := Lib.hid h1
  have HR8 := Lib.hid (HR7.out.step (h2.mono (fun k hk => Or.inl (List.mem_cons_of_mem _ hk))) (show Grow (pc :: S5) (pc :: S8) w7 from fun k hk => by
    rcases List.mem_cons.1 hk with rfl | hk
    · exact Or.inl (by simp)
    · exact (h3 k hk).imp (fun h => List.mem_cons_of_mem _ h) id))
  have HF8 := Lib.hid (HF7.out.trans h2 (fun k hk => Or.inr (HG.out k hk)))
  have HB8 := Lib.hid (h2.keep HB7.out (fun hm => HP5.out _ hm rfl))
  have HN8 := Lib.hid (h2.keep HN7.out (fun hm => HPN.out _ hm rfl))
  have HP8 : Hid (∀ k ∈ S8, k ≠ pc) := Lib.hid (fun k hk => by
    rcases h3 k hk with h | h
    · exact HP5.out k h
    · have := lt_of_block HB7.out; omega)
  clear h1 h2 h3 HS7 HR7 HF7 HB7 HN7 HPN HP5 HG
  have HPO : Hid (Calls Try.prog 25 #[.agg #[.string ⟨#[]⟩, .string ⟨#[]⟩, .int .i64 3, .bool false, .bool false], .pointer (some ⟨p, 0, none⟩), .int .i64 9] w8 fun e w' => ∃ s c, e = .returned (.tuple #[.agg #[.string ⟨#[]⟩, .string ⟨#[]⟩, .int .i64 3, .bool false, .bool true], .agg #[.int .i64 5, .int .i64 3, .int .i64 0, .slice s 0 c]]) ∧ Fr [] w8 w') := Lib.hid ((cur_poll [] w3C 9 HS.out gok4 (by decide) (by simp) (show Mid40 3 from ⟨by decide, by decide⟩)).mono (by
    rintro e w' ⟨v, rfl, h1, h2⟩
    rw [gp2.2] at h1
    obtain ⟨s, c, hv, _, _⟩ := h1.form
    subst hv
    rw [gp2.1, gp2.2]
    exact ⟨s, c, rfl, h2⟩))
  obtain ⟨b0, b1, b2, b3, b4, bf⟩ := cells5 HB8.out
  go_wp2_with (go_at_call 25; refine HPO.out.mono ?_; rintro e w9 ⟨s9, c9, rfl, h2⟩; refine go_stop ?_)
  unfold Stop
  have hb9 := h2.keep HB8.out (by simp)
  have HB9 := Lib.hid hb9
  have HN9 := Lib.hid (h2.keep HN8.out (by simp))
  have HR9 := Lib.hid (HR8.out.keep0 h2)
  replace HS := Lib.hid (HS.out.keep h2 (by simp))
  have HF9 := Lib.hid (HF8.out.trans h2 (by simp))
  clear h2 b0 b1 b2 b3 b4 bf HPO HB8 HN8 HR8 HF8
  obtain ⟨b0, b1, b2, b3, b4, bf⟩ := cells5 hb9
  have bf0 := bf 0
  have bf1 := bf 1
  have bf2 := bf 2
  have bf3 := bf 3
  have bf4 := bf 4
  have hpl := lt_of_block hb9
  have hnl := lt_of_block HN9.out
  have m1 : ¬ pc = w9.heap.size := by omega
  have m2 : ¬ w9.heap.size = pc := by omega
  clear bf hb9
  go_wp2_with (go_at_call 25; refine go_stop ?_)
  unfold Stop
  obtain ⟨po, hpo⟩ : ∃ po, po = w9.heap.size := ⟨_, rfl⟩
  obtain ⟨wA, hwA⟩ : ∃ x, x = ((((((w9.setCell ⟨pc, 0, none⟩ (.string ⟨#[]⟩)).setCell ⟨pc, 1, none⟩ (.string ⟨#[]⟩)).setCell ⟨pc, 2, none⟩ (.int .i64 3)).setCell ⟨pc, 3, none⟩ (.bool false)).setCell ⟨pc, 4, none⟩ (.bool true)).alloc (Obj.cells #[.int .i64 5, .int .i64 3, .int .i64 0, .slice s9 0 c9] 34)) := ⟨_, rfl⟩
  have hoA : wA.heap[po]? = some (.cells #[.int .i64 5, .int .i64 3, .int .i64 0, .slice s9 0 c9] 34 (0, 0)) := by
    rw [hwA]; exact nblk_at (by rw [hpo]; simp)
  have hfA : Fr [pc] w9 wA := by
    rw [hwA]
    refine Fr.alloc ?_ _
    with_reducible (repeat (first | exact Fr.refl _ _ | refine Fr.setCell ?_ (Or.inl (by simp)) _))
  rw [← hpo, ← hwA]
  have hnc : pn ≠ pc := fun e => by
    have h1 := HN9.out
    rw [e, HB9.out] at h1
    simp at h1
  have HSA := Lib.hid (HS.out.keep hfA (fun k hk hm => HP8.out k hk (by simpa using hm)))
  have HRA := Lib.hid (HR9.out.keep (hfA.mono (fun k hk => Or.inl (by simp at hk; simp [hk]))))
  have HFA := Lib.hid (HF9.out.trans hfA (fun k hk => Or.inr (by have := HWPC.out; simp at hk; omega)))
  have HNA := Lib.hid (hfA.keep HN9.out (by simpa using hnc))
  have HOA := Lib.hid hoA
  clear hwA hpo hfA hoA hnc m1 m2 bf0 bf1 bf2 bf3 bf4 b0 b1 b2 b3 b4 hpl hnl HS HF9 HR9 HB9 HN9
  have HPO : Hid (Calls Try.prog 25 #[.agg #[.string ⟨#[]⟩, .string ⟨#[]⟩, .int .i64 3, .bool false, .bool true], .pointer (some ⟨p, 0, none⟩), .int .i64 9] wA fun e w' => ∃ s c, e = .returned (.tuple #[.agg #[.string ⟨#[]⟩, .string ⟨#[]⟩, .int .i64 3, .bool false, .bool true], .agg #[.int .i64 4, .int .i64 0, .int .i64 0, .slice s 0 c]]) ∧ Fr [] wA w') := Lib.hid ((cur_poll [] wdC 9 HSA.out gok4 (by decide) (by simp) (show Mid40 3 from ⟨by decide, by decide⟩)).mono (by
    rintro e w' ⟨v, rfl, h1, h2⟩
    rw [gp3.2] at h1
    obtain ⟨s, c, hv, _, _⟩ := h1.form
    subst hv
    rw [gp3.1, gp3.2]
    exact ⟨s, c, rfl, h2⟩))
  refine HPO.out.mono ?_
  rintro e wB ⟨sB, cB, rfl, h2⟩
  have hnB := h2.keep HNA.out (by simp)
  have hoB := h2.keep HOA.out (by simp)
  obtain ⟨g, off, c, hv, hlt, hat⟩ := RowsIn.here ((HRA.out.keep0 h2).rowsIn) (by decide)
  obtain ⟨u, hu, hur⟩ := hat 0 [k2.ev 2] rfl
  obtain ⟨g', off', c', hv', hlt', _, hat'⟩ := EvIn.here hur (by decide)
  obtain ⟨q0, q1, q2, q3⟩ := hat' 0 (k2.ev 2) rfl
  simp only [Value.slice.injEq] at hv
  obtain ⟨rfl, hone, rfl⟩ := hv
  subst hv'
  clear hone
  obtain ⟨n0, n1, n2, n3, _⟩ := cells4 hnB
  obtain ⟨o0, o1, o2, o3, _⟩ := cells4 hoB
  have lpn := lt_of_block hnB
  have lpo := lt_of_block hoB
  have pn1 : ¬ pn = wB.heap.size := by omega
  have pn2 : ¬ wB.heap.size = pn := by omega
  have pn3 : ¬ pn = wB.heap.size + 1 := by omega
  have pn4 : ¬ wB.heap.size + 1 = pn := by omega
  have pn5 : pn < wB.heap.size + 1 := by omega
  have po1 : ¬ po = wB.heap.size := by omega
  have po2 : ¬ wB.heap.size = po := by omega
  have po3 : ¬ po = wB.heap.size + 1 := by omega
  have po4 : ¬ wB.heap.size + 1 = po := by omega
  have po5 : po < wB.heap.size + 1 := by omega
  have g1 : ¬ g = wB.heap.size := by omega
  have g2 : ¬ wB.heap.size = g := by omega
  have g3 : ¬ g = wB.heap.size + 1 := by omega
  have g4 : ¬ wB.heap.size + 1 = g := by omega
  have g5 : g < wB.heap.size + 1 := by omega
  have gq1 : ¬ g' = wB.heap.size := by omega
  have gq2 : ¬ wB.heap.size = g' := by omega
  have gq3 : ¬ g' = wB.heap.size + 1 := by omega
  have gq4 : ¬ wB.heap.size + 1 = g' := by omega
  have gq5 : g' < wB.heap.size + 1 := by omega
  have HFB := Lib.hid (HFA.out.trans h2 (by simp))
  have hk : (k2.ev 2).key = ⟨#[98]⟩ := rfl
  rw [hk] at q1
  simp only [Nat.add_zero, Nat.zero_mul, List.length_cons, List.length_nil, Nat.zero_add] at hu q1
  clear h2 hnB hoB hur hat hat' HPO HSA HRA HFA HNA HOA q0 q2 q3 hk
  go_wp2_with fail
  go_ret
  exact ⟨rfl, (HFB.out.alloc _).alloc _⟩
theorem grow_ne {S S' : List Nat} {wr : World} {a : Nat} (hg : Grow S S' wr) (h : ∀ k ∈ S, k ≠ a) (ha : a < wr.heap.size) : ∀ k ∈ S', k ≠ a := fun k hk => by
  rcases hg k hk with h1 | h1
  · exact h k h1
  · omega
/-- a deed's ops, done -/
theorem deed_app {w wr : World} {p : Nat} {S : List Nat} {H : HA} {n : Nat} (u : Value) (ops : List Od) (h : Hs wr p S H) (hk : HOk H n) (hn : n ≤ 1000) (hf : Fr [] w wr) (hg : ∀ k ∈ S, w.heap.size ≤ k) (po : OdIn w u ops) (h8 : ops.length ≤ 8) :
    Calls Try.prog 19 #[.pointer (some ⟨p, 0, none⟩), u] wr fun e w' =>
      ∃ v S', e = .returned v ∧ Hs w' p S' (H.app ops) ∧ HOk (H.app ops) (n + 1) ∧ Fr [] w w' ∧ Fr S wr w' ∧ Grow S S' wr ∧ (∀ k ∈ S', w.heap.size ≤ k) := by
  refine (hist_apply (n := n) u ops h hk hn (LFar.of_oldw po hf hg) (by omega)).mono ?_
  rintro e w2 ⟨v2, S2, rfl, h1, h2, h3, h4, h5⟩
  exact ⟨v2, S2, rfl, h1, hk.app (by omega), hf.trans h4 (fun k hk => Or.inr (hg k hk)), h4, h5, h5.ge hf.size hg⟩
/-- compacted -/
theorem deed_com {w wr : World} {p : Nat} {S : List Nat} {H : HA} {n : Nat} (rev : Int) (h : Hs wr p S H) (hk : HOk H n) (hn : n ≤ 1000) (hf : Fr [] w wr) (hg : ∀ k ∈ S, w.heap.size ≤ k) :
    Calls Try.prog 22 #[.pointer (some ⟨p, 0, none⟩), .int .i64 rev] wr fun e w' =>
      ∃ S', e = .returned (.int .i64 (H.comE rev)) ∧ Hs w' p S' (H.com rev) ∧ HOk (H.com rev) n ∧ Fr [] w w' ∧ Fr S wr w' ∧ Grow S S' wr ∧ (∀ k ∈ S', w.heap.size ≤ k) := by
  refine (hist_compact (n := n) rev h hk hn).mono ?_
  rintro e w2 ⟨S2, rfl, h1, h4, h5⟩
  exact ⟨S2, rfl, h1, hk.com rev, hf.trans h4 (fun k hk => Or.inr (hg k hk)), h4, h5, h5.ge hf.size hg⟩
end Go.Proofs.Ytmbfcdoemcffpaa
