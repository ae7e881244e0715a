/- THE EXAMPLE OF THE LAWS OF hist -/
import Derived.Test.YtpahencocbahgaaHistRan
namespace Go.Proofs.Ytpahencocbahgaa
open Go.RowKit
set_option linter.unusedVariables false
set_option linter.unusedSimpArgs false

theorem hab : kl ⟨#[97]⟩ ⟨#[98]⟩ = true := by unfold kl; simp only [ByteArray.toList_eq]; decide
theorem hba : kl ⟨#[98]⟩ ⟨#[97]⟩ = false := kl_asymm hab
theorem hnab : ¬ ((⟨#[97]⟩ : ByteArray) = ⟨#[98]⟩) := by decide
theorem hnba : ¬ ((⟨#[98]⟩ : ByteArray) = ⟨#[97]⟩) := by decide
def oa : Od := ⟨⟨#[97]⟩, ⟨#[120]⟩, false, by decide⟩
def ob : Od := ⟨⟨#[98]⟩, ⟨#[120]⟩, false, by decide⟩
def od : Od := ⟨⟨#[97]⟩, ⟨#[]⟩, true, by decide⟩
def ha1 : HA := ⟨[[oa.ev 1, ob.ev 1]], 0⟩
def ha2 : HA := ⟨[[oa.ev 1, ob.ev 1], [od.ev 2]], 0⟩
theorem mapn0 : mapN [] 0 = [] := rfl
theorem mapn1 (r : List (List Ev)) : mapN ([oa.ev 1, ob.ev 1] :: r) 1 = [⟨⟨#[97]⟩, ⟨#[120]⟩, 1, by decide⟩, ⟨⟨#[98]⟩, ⟨#[120]⟩, 1, by decide⟩] := by
  simp [mapN, foldK, oneK, lowB, highB, Ev.put, Ev.kv, Od.ev, oa, ob, hab, hba, kl_irrefl, hnba, hnab]
theorem mapn2 : mapN [[oa.ev 1, ob.ev 1], [od.ev 2]] 2 = [⟨⟨#[98]⟩, ⟨#[120]⟩, 1, by decide⟩] := by
  have h := mapN_step (rows := [[oa.ev 1, ob.ev 1], [od.ev 2]]) (n := 1) (r := [od.ev 2]) rfl
  rw [mapn1] at h
  rw [h]
  simp [foldK, oneK, lowB, highB, Ev.put, Ev.kv, Od.ev, od, hab, hba, kl_irrefl, hnba, hnab]
theorem told1 : HA.zero.told [oa, ob] = [oa.ev 1, ob.ev 1] := by
  simp [HA.told, HA.zero, rowOf, countO, cntB, mapn0, oa, ob, hnba, hnab, getK]
theorem app1 : HA.zero.app [oa, ob] = ha1 := by
  have h := told1
  unfold HA.told HA.zero at h
  unfold HA.app HA.zero ha1
  simp only at h ⊢
  rw [h]; rfl
theorem told2 : ha1.told [od] = [od.ev 2] := by
  unfold HA.told
  rw [rowOf_one]
  have h : getK od.key (mapN ha1.rows ha1.rows.length) = some ⟨⟨#[97]⟩, ⟨#[120]⟩, 1, by decide⟩ := by
    show getK od.key (mapN [[oa.ev 1, ob.ev 1]] 1) = _
    rw [mapn1]; simp [getK, od]
  rw [h]; rfl
theorem app2 : ha1.app [od] = ha2 := by
  have h := told2
  unfold HA.told at h
  unfold HA.app
  rw [h]; rfl
theorem told3 : ha2.told [od] = [] := by
  unfold HA.told
  rw [rowOf_one]
  have h : getK od.key (mapN ha2.rows ha2.rows.length) = none := by
    show getK od.key (mapN [[oa.ev 1, ob.ev 1], [od.ev 2]] 2) = _
    rw [mapn2]; simp [getK, od, hnba]
  rw [h]; rfl
theorem app3 : ha2.app [od] = ha2 := by
  have h := told3
  unfold HA.told at h
  unfold HA.app
  rw [h]; rfl
theorem at1 : ha2.atE 1 = 0 ∧ (ha2.atL 1 ⟨#[]⟩ ⟨#[]⟩).length = 2 := by
  have h := at_ok (H := ha2) (n := 1) (by decide) (by decide)
  refine ⟨h.1, ?_⟩
  have h2 := h.2
  rw [show ((1 : Nat) : Int) = 1 from rfl] at h2
  rw [h2]
  show (mapN [[oa.ev 1, ob.ev 1], [od.ev 2]] 1).length = 2
  rw [mapn1]; rfl
theorem at2 : ha2.atE 2 = 0 ∧ (ha2.atL 2 ⟨#[]⟩ ⟨#[]⟩).length = 1 := by
  have h := at_ok (H := ha2) (n := 2) (by decide) (by decide)
  refine ⟨h.1, ?_⟩
  have h2 := h.2
  rw [show ((2 : Nat) : Int) = 2 from rfl] at h2
  rw [h2]
  show (mapN [[oa.ev 1, ob.ev 1], [od.ev 2]] 2).length = 1
  rw [mapn2]; rfl
theorem hok1 : HOk ha1 1 := by have := HOk.zero.app (ops := [oa, ob]) (by decide); rw [app1] at this; exact this
theorem hok2 : HOk ha2 2 := by have := hok1.app (ops := [od]) (by decide); rw [app2] at this; exact this
/-- a literal of ops -/
theorem od_lit {S : List Nat} {w : World} (l : List Od) (n : Nat) (hn : l.length = n) (hm : n ≤ maxLen) (hS : ∀ k ∈ S, k < w.heap.size) (c : Array Value) (hc : c = (allC Od.cells l).toArray) : LFar S Od.cells 3 (w.alloc (.cells c 45)) (.slice (some ⟨w.heap.size, 0, none⟩) n n) l := by
  subst hc hn
  refine LFar.of_new (LAt.read (e := 45) ?_ Od.clen) (fun k hk => ?_) hS
  · exact ⟨allC_len Od.clen l, Or.inr ⟨_, 0, l.length, (allC Od.cells l).toArray, rfl, new_block _ _, Nat.le_refl _, hm, by simp [allC_len Od.clen l], fun j hj => by simp⟩⟩
  · simp [Value.ownBlock] at hk; omega
set_option maxHeartbeats 2000000 in
theorem hist_awake (w : World) : Calls Try.prog 7 #[] w fun e w' => e = .returned (.bool true) ∧ Fr [] w w' := by
  have qa := at1
  have qb := at2
  obtain ⟨e1, l1⟩ := at1
  obtain ⟨e2, l2⟩ := at2
  clear qa qb
  have lr : ha2.rows.length = 2 := rfl
  have lh : ha2.hor = 0 := rfl
  go_enter Try.func7, Try.ntmps7
  go_wp2_with (first
    | (go_at_call 20; refine (hist_new _).mono ?_; rintro e w1 ⟨p, S0, rfl, h1, h2, h3⟩; have HS := Lib.hid h1; have HF := Lib.hid h2; have HG := Lib.hid h3; clear h1 h2 h3)
    | (go_at_call 21; refine (hput_any _ _).mono ?_; rintro e wn ⟨rfl, h2⟩; replace HS := Lib.hid (HS.out.keep h2 (by simp)); replace HF := Lib.hid (HF.out.trans h2 (by simp)); clear h2)
    | (go_at_call 16; refine go_stop ?_))
  unfold Stop
  have HL := Lib.hid (od_lit (w := wn) [oa, ob] 2 rfl (by decide) HS.out.lt _ rfl)
  have hfa : Fr [] w (wn.alloc (.cells (allC Od.cells [oa, ob]).toArray 45)) := HF.out.alloc _
  refine (hist_apply (n := 0) _ [oa, ob] (HS.out.keep ((Fr.refl [] _).alloc _) (by simp)) HOk.zero (by decide) HL.out (by decide)).mono ?_
  rintro e w2 ⟨v2, S2, rfl, h1, h2, h3, h4, h5⟩
  rw [told1] at h2
  rw [app1] at h1
  obtain ⟨s2, c2, rfl, _, _⟩ := h2.form
  have hg := h5.ge hfa.size HG.out
  replace HF := Lib.hid (hfa.trans h4 (fun k hk => Or.inr (HG.out k hk)))
  replace HS := Lib.hid h1
  replace HG := Lib.hid hg
  clear h1 h2 h3 h4 h5 hfa hg HL
  simp only [List.length_cons, List.length_nil, Nat.zero_add]
  go_wp2_with (first
    | (go_at_call 22; refine (hdel_any _ _).mono ?_; rintro e wn ⟨rfl, h2⟩; replace HS := Lib.hid (HS.out.keep h2 (by simp)); replace HF := Lib.hid (HF.out.trans h2 (by simp)); clear h2)
    | (go_at_call 16; refine go_stop ?_))
  unfold Stop
  have HL := Lib.hid (od_lit (w := wn) [od] 1 rfl (by decide) HS.out.lt _ rfl)
  have hfa : Fr [] w (wn.alloc (.cells (allC Od.cells [od]).toArray 45)) := HF.out.alloc _
  refine (hist_apply (n := 1) _ [od] (HS.out.keep ((Fr.refl [] _).alloc _) (by simp)) hok1 (by decide) HL.out (by decide)).mono ?_
  rintro e w3 ⟨v3, S3, rfl, h1, h2, h3, h4, h5⟩
  rw [told2] at h2
  rw [app2] at h1
  obtain ⟨s3, c3, rfl, _, _⟩ := h2.form
  have hg := h5.ge hfa.size HG.out
  replace HF := Lib.hid (hfa.trans h4 (fun k hk => Or.inr (HG.out k hk)))
  replace HS := Lib.hid h1
  replace HG := Lib.hid hg
  clear h1 h2 h3 h4 h5 hfa hg HL
  simp only [List.length_cons, List.length_nil, Nat.zero_add]
  go_wp2_with (first
    | (go_at_call 22; refine (hdel_any _ _).mono ?_; rintro e wn ⟨rfl, h2⟩; replace HS := Lib.hid (HS.out.keep h2 (by simp)); replace HF := Lib.hid (HF.out.trans h2 (by simp)); clear h2)
    | (go_at_call 16; refine go_stop ?_))
  unfold Stop
  have HL := Lib.hid (od_lit (w := wn) [od] 1 rfl (by decide) HS.out.lt _ rfl)
  have hfa : Fr [] w (wn.alloc (.cells (allC Od.cells [od]).toArray 45)) := HF.out.alloc _
  refine (hist_apply (n := 2) _ [od] (HS.out.keep ((Fr.refl [] _).alloc _) (by simp)) hok2 (by decide) HL.out (by decide)).mono ?_
  rintro e w4 ⟨v4, S4, rfl, h1, h2, h3, h4, h5⟩
  rw [told3] at h2
  rw [app3] at h1
  obtain ⟨s4, c4, rfl, _, _⟩ := h2.form
  have hg := h5.ge hfa.size HG.out
  replace HF := Lib.hid (hfa.trans h4 (fun k hk => Or.inr (HG.out k hk)))
  replace HS := Lib.hid h1
  replace HG := Lib.hid hg
  clear h1 h2 h3 h4 h5 hfa hg HL
  simp only [List.length_cons, List.length_nil, Nat.zero_add]
  go_wp2_with (first
    | (go_at_call 11; refine (hist_at (n := 2) _ _ _ HS.out hok2 (by decide)).mono ?_; rintro e wn ⟨vn, rfl, h1, h2, h3⟩; obtain ⟨sn, cn, rfl, _, _⟩ := h1.form; replace HS := Lib.hid (HS.out.keep h3 (by simp)); replace HF := Lib.hid (HF.out.trans h3 (by simp)); clear h1 h2 h3)
    | (go_at_call 10; refine (hist_rev HS.out).mono ?_; rintro e wn ⟨rfl, rfl⟩)
    | (go_at_call 13; refine (hist_hor HS.out).mono ?_; rintro e wn ⟨rfl, rfl⟩))
  go_ret
  exact ⟨rfl, HF.out⟩
end Go.Proofs.Ytpahencocbahgaa
