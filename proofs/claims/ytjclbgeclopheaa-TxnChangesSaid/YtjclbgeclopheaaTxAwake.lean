/- WHAT ALL LAWS OF txn BEGIN WITH: the example; few -/
import Derived.Test.YtjclbgeclopheaaTxn
import Derived.Test.YtjclbgeclopheaaTxCmp
namespace Go.Proofs.Ytjclbgeclopheaa
open Go.RowKit
set_option linter.unusedVariables false
set_option linter.unusedSimpArgs false

theorem tfew_any (q : Rq) (cv tv ev : Value) (w : World) (h : RqIn w q cv tv ev) : Calls Try.prog 9 #[.agg #[.int .i64 q.kind, .string q.f, .string q.t, .int .i64 q.rev, cv, tv, ev]] w fun e w' => e = .returned (.bool (decide (q.cmps.length ≤ 20) && decide (q.thn.length ≤ 20) && decide (q.els.length ≤ 20))) ∧ Fr [] w w' := by
  obtain ⟨s1, c1, rfl, l1, m1⟩ := LIn.form h.c
  obtain ⟨s2, c2, rfl, l2, m2⟩ := LIn.form h.t
  obtain ⟨s3, c3, rfl, l3, m3⟩ := LIn.form h.e
  unfold maxLen at m1 m2 m3
  clear h
  have key : ∀ n : Nat, (decide ((n : Int) ≤ 20) = true ∧ n ≤ 20) ∨ (decide ((n : Int) ≤ 20) = false ∧ ¬ n ≤ 20) := fun n => by
    by_cases h : n ≤ 20
    · exact Or.inl ⟨by simp; omega, h⟩
    · exact Or.inr ⟨by simp; omega, h⟩
  rcases key q.cmps.length with ⟨t1, h1⟩ | ⟨t1, h1⟩
  all_goals rcases key q.thn.length with ⟨t2, h2⟩ | ⟨t2, h2⟩
  all_goals rcases key q.els.length with ⟨t3, h3⟩ | ⟨t3, h3⟩
  all_goals
    have HR : Hid ((decide (q.cmps.length ≤ 20) && decide (q.thn.length ≤ 20) && decide (q.els.length ≤ 20)) = _) := Lib.hid (by simp only [h1, h2, h3]; rfl)
    clear h1 h2 h3
    go_enter Try.func9, Try.ntmps9
    go_wp2
    go_ret
    refine ⟨?_, (Fr.refl _ _).alloc _⟩
    rw [HR.out]; rfl

def ka : ByteArray := ⟨#[97]⟩
def kx : ByteArray := ⟨#[120]⟩
def ky : ByteArray := ⟨#[121]⟩
theorem wa : ka.size ≤ maxLen := by decide
theorem wx : kx.size ≤ maxLen := by decide
theorem wy : ky.size ≤ maxLen := by decide
def sq : Rq := swapQ ⟨#[97]⟩ ⟨#[120]⟩ ⟨#[121]⟩ wa wx wy
def m1 : List Kv := [⟨⟨#[97]⟩, ⟨#[120]⟩, 1, by decide⟩]
def oay : Od := ⟨⟨#[97]⟩, ⟨#[121]⟩, false, by decide⟩
theorem sq0 : holdsC [] sq.cmps = false ∧ planL [] sq = [] := by
  have h : holdsC [] sq.cmps = false := by simp [sq, swapQ, holdsC, oneC, getK]
  refine ⟨h, ?_⟩
  unfold planL
  rw [h]
  simp [sq, swapQ]
theorem srt_m1 : Srt Kv.key m1 := List.pairwise_singleton _ _
theorem sq1 : holdsC m1 sq.cmps = true ∧ planL m1 sq = [oay] := by
  have h : holdsC m1 sq.cmps = true := by simp [sq, swapQ, holdsC, oneC, getK, m1]
  refine ⟨h, ?_⟩
  unfold planL
  rw [h]
  simp [sq, swapQ, keepO, oay]
theorem sqm : mayE sq = 0 := by
  have e1 : (⟨#[97]⟩ : ByteArray).toList = [97] := by simp only [ByteArray.toList_eq]
  have h : mayQ sq = true := by
    simp [mayQ, sq, swapQ, cmsB, cmB, opsB, opB, mayB, e1]
    decide
  unfold mayE; rw [h]; rfl
theorem sqk {ks : List ByteArray} (h : KeysOk sq ks) : ks = [⟨#[97]⟩] := by
  have hm : ∀ k ∈ ks, k = ⟨#[97]⟩ := fun k hk => by
    have := (h.mem k).1 hk
    simpa [keysL, sq, swapQ] using this
  have h0 : (⟨#[97]⟩ : ByteArray) ∈ ks := (h.mem _).2 (by simp [keysL, sq, swapQ])
  match ks, hm, h0, h.rise with
  | [], _, h0, _ => cases h0
  | [k], hm, _, _ => rw [hm k (by simp)]
  | a :: b :: r, hm, _, hr =>
    have h1 := (List.pairwise_cons.1 hr).1 b (by simp)
    rw [hm a (by simp), hm b (by simp), kl_irrefl] at h1; cases h1
/-- a literal of a map -/
theorem kv_lit (w : World) (l : List Kv) (n : Nat) (hn : l.length = n) (hm : n ≤ maxLen) (c : Array Value) (hc : c = (allC Kv.cells l).toArray) : KvIn (w.alloc (.cells c 35)) (.slice (some ⟨w.heap.size, 0, none⟩) n n) l := by
  subst hc hn
  exact LAt.read (e := 35) ⟨allC_len Kv.clen l, Or.inr ⟨_, 0, l.length, (allC Kv.cells l).toArray, rfl, new_block _ _, Nat.le_refl _, hm, by simp [allC_len Kv.clen l], fun j hj => by simp⟩⟩ Kv.clen
theorem st_lit (w : World) (l : List ByteArray) (n : Nat) (hn : l.length = n) (hm : n ≤ maxLen) (c : Array Value) (hc : c = (allC stC l).toArray) : StIn (w.alloc (.cells c 9)) (.slice (some ⟨w.heap.size, 0, none⟩) n n) l := by
  subst hc hn
  exact LAt.read (e := 9) ⟨allC_len stC_len l, Or.inr ⟨_, 0, l.length, (allC stC l).toArray, rfl, new_block _ _, Nat.le_refl _, hm, by simp [allC_len stC_len l], fun j hj => by simp⟩⟩ stC_len
theorem cm_lit (w : World) (l : List Cm) (n : Nat) (hn : l.length = n) (hm : n ≤ maxLen) (c : Array Value) (hc : c = (allC Cm.cells l).toArray) : CmIn (w.alloc (.cells c 61)) (.slice (some ⟨w.heap.size, 0, none⟩) n n) l := by
  subst hc hn
  exact LAt.read (e := 61) ⟨allC_len Cm.clen l, Or.inr ⟨_, 0, l.length, (allC Cm.cells l).toArray, rfl, new_block _ _, Nat.le_refl _, hm, by simp [allC_len Cm.clen l], fun j hj => by simp⟩⟩ Cm.clen
theorem od_lit0 (w : World) (l : List Od) (n : Nat) (hn : l.length = n) (hm : n ≤ maxLen) (c : Array Value) (hc : c = (allC Od.cells l).toArray) : OdIn (w.alloc (.cells c 52)) (.slice (some ⟨w.heap.size, 0, none⟩) n n) l := by
  subst hc hn
  exact LAt.read (e := 52) ⟨allC_len Od.clen l, Or.inr ⟨_, 0, l.length, (allC Od.cells l).toArray, rfl, new_block _ _, Nat.le_refl _, hm, by simp [allC_len Od.clen l], fun j hj => by simp⟩⟩ Od.clen

set_option maxRecDepth 100000 in
set_option maxHeartbeats 4000000 in
theorem tx_awake (w : World) : Calls Try.prog 8 #[] w fun e w' => e = .returned (.bool true) ∧ Fr [] w w' := by
  have hkq : sq.kind = 1 ∧ sq.f = ⟨#[]⟩ ∧ sq.t = ⟨#[]⟩ ∧ sq.rev = 0 := ⟨rfl, rfl, rfl, rfl⟩
  go_enter Try.func8, Try.ntmps8
  go_wp2_with (go_at_call 22; refine (txn_swap ⟨#[97]⟩ ⟨#[120]⟩ ⟨#[121]⟩ wa wx wy _).mono ?_; rintro e w1 ⟨cv, tv, ev, rfl, hq, hf⟩; refine go_stop ?_)
  unfold Stop
  obtain ⟨s1, c1, rfl, _, _⟩ := LIn.form hq.c
  obtain ⟨s2, c2, rfl, _, _⟩ := LIn.form hq.t
  obtain ⟨s3, c3, rfl, _, _⟩ := LIn.form hq.e
  have hq : RqIn w1 sq (.slice s1 1 c1) (.slice s2 1 c2) (.slice s3 0 c3) := hq
  have HQ := Lib.hid hq
  have HF := Lib.hid hf
  clear hq hf hkq
  dsimp only [rqA, swapQ, List.length_cons, List.length_nil, Nat.zero_add]
  have HP0 : Hid (∀ X, RqIn X sq (.slice s1 1 c1) (.slice s2 1 c2) (.slice s3 0 c3) → Calls Try.prog 13 #[.slice none 0 0, .agg #[.int .i64 1, .string ⟨#[]⟩, .string ⟨#[]⟩, .int .i64 0, .slice s1 1 c1, .slice s2 1 c2, .slice s3 0 c3]] X fun e w' => ∃ v, e = .returned (.tuple #[.bool false, v]) ∧ OdIn w' v [] ∧ Fr [] X w') := Lib.hid (fun X hX => by
    refine (txn_plan (.slice none 0 0) [] sq _ _ _ X (LIn.nil _) Srt.nil hX (by decide) (by decide) (by decide) (by decide)).mono ?_
    rintro e w' ⟨v, rfl, h1, _, h3⟩
    rw [sq0.1]; rw [sq0.2] at h1
    exact ⟨v, rfl, h1, h3⟩)
  have HP1 : Hid (∀ X u, KvIn X u m1 → RqIn X sq (.slice s1 1 c1) (.slice s2 1 c2) (.slice s3 0 c3) → Calls Try.prog 13 #[u, .agg #[.int .i64 1, .string ⟨#[]⟩, .string ⟨#[]⟩, .int .i64 0, .slice s1 1 c1, .slice s2 1 c2, .slice s3 0 c3]] X fun e w' => ∃ v, e = .returned (.tuple #[.bool true, v]) ∧ OdIn w' v [oay] ∧ Fr [] X w') := Lib.hid (fun X u hu hX => by
    refine (txn_plan u m1 sq _ _ _ X hu srt_m1 hX (by decide) (by decide) (by decide) (by decide)).mono ?_
    rintro e w' ⟨v, rfl, h1, _, h3⟩
    rw [sq1.1]; rw [sq1.2] at h1
    exact ⟨v, rfl, h1, h3⟩)
  have HM : Hid (∀ X, RqIn X sq (.slice s1 1 c1) (.slice s2 1 c2) (.slice s3 0 c3) → Calls Try.prog 15 #[.agg #[.int .i64 1, .string ⟨#[]⟩, .string ⟨#[]⟩, .int .i64 0, .slice s1 1 c1, .slice s2 1 c2, .slice s3 0 c3]] X fun e w' => e = .returned (.int .i64 0) ∧ Fr [] X w') := Lib.hid (fun X hX => by
    have := txn_may sq _ _ _ X hX
    rw [sqm] at this; exact this)
  have HKS : Hid (∀ X, RqIn X sq (.slice s1 1 c1) (.slice s2 1 c2) (.slice s3 0 c3) → Calls Try.prog 11 #[.agg #[.int .i64 1, .string ⟨#[]⟩, .string ⟨#[]⟩, .int .i64 0, .slice s1 1 c1, .slice s2 1 c2, .slice s3 0 c3]] X fun e w' => ∃ v, e = .returned v ∧ StIn w' v [⟨#[97]⟩] ∧ Fr [] X w') := Lib.hid (fun X hX => by
    refine (txn_keys sq _ _ _ X hX (by decide) (by decide) (by decide)).mono ?_
    rintro e w' ⟨v, ks, rfl, h1, h2, _, h3⟩
    rw [sqk h2] at h1
    exact ⟨v, rfl, h1, h3⟩)
  go_wp2_with fail
  have HB : Hid ((w1.alloc (.cells #[.int .i64 1, .string ⟨#[]⟩, .string ⟨#[]⟩, .int .i64 0, .slice s1 1 c1, .slice s2 1 c2, .slice s3 0 c3] 28)).heap[w1.heap.size]? = some (.cells #[.int .i64 1, .string ⟨#[]⟩, .string ⟨#[]⟩, .int .i64 0, .slice s1 1 c1, .slice s2 1 c2, .slice s3 0 c3] 28 (0, 0))) := Lib.hid (new_block _ _)
  have hal : Fr [] w1 (w1.alloc (.cells #[.int .i64 1, .string ⟨#[]⟩, .string ⟨#[]⟩, .int .i64 0, .slice s1 1 c1, .slice s2 1 c2, .slice s3 0 c3] 28)) := (Fr.refl [] w1).alloc _
  replace HF := Lib.hid (HF.out.trans hal (by simp))
  replace HQ := Lib.hid (HQ.out.keep0 hal)
  clear hal
  generalize w1.alloc (.cells #[.int .i64 1, .string ⟨#[]⟩, .string ⟨#[]⟩, .int .i64 0, .slice s1 1 c1, .slice s2 1 c2, .slice s3 0 c3] 28) = wb at *
  generalize w1.heap.size = bq at *
  go_wp2_with (go_at_call 13; refine (HP0.out _ HQ.out).mono ?_; rintro e w2 ⟨v2, rfl, ho2, hf2⟩; refine go_stop ?_)
  unfold Stop
  obtain ⟨s4, c4, rfl, _, _⟩ := LIn.form ho2
  have HB2 := Lib.hid (hf2.keep HB.out (by simp))
  replace HF := Lib.hid (HF.out.trans hf2 (by simp))
  replace HQ := Lib.hid (HQ.out.keep0 hf2)
  obtain ⟨q0, q1, q2, q3, q4, q5, q6, _⟩ := cells7 HB2.out
  have nb0 : bq < w2.heap.size := lt_of_block HB2.out
  have nb : ¬ w2.heap.size = bq := by omega
  have nb2 : ¬ bq = w2.heap.size := by omega
  clear ho2 hf2 HB
  go_wp2_with fail
  have HKV := Lib.hid (kv_lit w2 m1 1 rfl (by decide) _ rfl)
  have hal : Fr [] w2 (w2.alloc (.cells (allC Kv.cells m1).toArray 35)) := (Fr.refl [] w2).alloc _
  have HAL := Lib.hid hal
  clear hal
  go_wp2_with (go_at_call 13; refine (HP1.out _ _ HKV.out (HQ.out.keep0 HAL.out)).mono ?_; rintro e w3 ⟨v3, rfl, ho3, hf3⟩; refine go_stop ?_)
  unfold Stop
  have hf23 := HAL.out.trans hf3 (by simp)
  obtain ⟨g3, off3, c3', hv3, hg3, _, k3⟩ := OdIn.here ho3 (by decide)
  subst hv3
  have HO3 := Lib.hid ho3
  have HB3 := Lib.hid (hf23.keep HB2.out (by simp))
  replace HF := Lib.hid (HF.out.trans hf23 (by simp))
  replace HQ := Lib.hid (HQ.out.keep0 hf23)
  clear q0 q1 q2 q3 q4 q5 q6 hf3 hf23 ho3 k3 HB2 HKV HAL nb nb0 nb2
  obtain ⟨q0, q1, q2, q3, q4, q5, q6, _⟩ := cells7 HB3.out
  dsimp only [List.length_cons, List.length_nil, Nat.zero_add] at HO3 ⊢
  go_wp2_with (go_at_call 15; refine (HM.out _ HQ.out).mono ?_; rintro e w4 ⟨rfl, hf4⟩; refine go_stop ?_)
  unfold Stop
  have HB4 := Lib.hid (hf4.keep HB3.out (by simp))
  replace HF := Lib.hid (HF.out.trans hf4 (by simp))
  replace HQ := Lib.hid (HQ.out.keep0 hf4)
  obtain ⟨g4, off4, c4', hv4, hg4, _, k4⟩ := OdIn.here (LIn.keep0 HO3.out hf4) (by decide)
  cases hv4
  obtain ⟨p0, p1, p2⟩ := k4 0 oay rfl
  clear q0 q1 q2 q3 q4 q5 q6 hf4 k4 HB3 HO3
  dsimp only [oay] at p0 p1 p2
  simp only [Nat.zero_mul, Nat.add_zero] at p0 p1 p2
  obtain ⟨q0, q1, q2, q3, q4, q5, q6, _⟩ := cells7 HB4.out
  go_wp2_with (go_at_call 11; refine (HKS.out _ HQ.out).mono ?_; rintro e w5 ⟨v5, rfl, ho5, hf5⟩; refine go_stop ?_)
  unfold Stop
  obtain ⟨s5, c5, rfl, _, _⟩ := LIn.form ho5
  have HO5 := Lib.hid ho5
  replace HF := Lib.hid (HF.out.trans hf5 (by simp))
  clear q0 q1 q2 q3 q4 q5 q6 p0 p1 p2 hf5 ho5 HB4
  dsimp only [List.length_cons, List.length_nil, Nat.zero_add] at HO5 ⊢
  go_wp2_with (go_at_call 24; refine (rstrs_any _ _ [⟨#[97]⟩] [⟨#[97]⟩] _ (LIn.keep0 HO5.out ((Fr.refl [] w5).alloc _)) (st_lit w5 [⟨#[97]⟩] 1 rfl (by decide) _ rfl)).mono ?_; rintro e w6 ⟨rfl, hf6⟩; rw [(sameB_eq stB_eq).2 rfl]; refine go_stop ?_)
  unfold Stop
  go_wp2_with fail
  go_ret
  exact ⟨rfl, (HF.out.alloc _).trans hf6 (by simp)⟩
end Go.Proofs.Ytjclbgeclopheaa
