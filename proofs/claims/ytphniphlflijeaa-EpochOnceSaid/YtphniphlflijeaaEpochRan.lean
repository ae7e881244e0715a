/- CONTRACT OF impostlaw03.ran -/
import Derived.Test.YtphniphlflijeaaEpochLaw
namespace Go.Proofs.Ytphniphlflijeaa
open Go.ChangeShapes Go.WideShapes Go.ChangeAt Go.RowKit Go.Deep
set_option linter.unusedVariables false
set_option linter.unusedSimpArgs false

/-- deeds of both under way -/
structure Going (w wr : World) (XB p : Nat) (S : List Nat) (A : PA) (X : XA) (iv rv : Value) (j : Int) : Prop where
  own : Own w p S A wr
  box : wr.heap[XB]? = some (.cells #[iv, .int .i64 X.ep, rv] 29 (0, 0))
  new : w.heap.size ≤ XB
  ref : RefF wr iv rv X
  okA : OkA A j
  okX : OkX X j
theorem Going.refS {w wr XB p S A X iv rv j} (h : Going w wr XB p S A X iv rv j) : RefS wr (.agg #[iv, .int .i64 X.ep, rv]) X := ⟨iv, rv, rfl, h.ref⟩
theorem Going.call {w wr XB p S A X iv rv j} (h : Going w wr XB p S A X iv rv j) (hj : j ≤ 100000) (k t x : Int) (W : World) (hW : Fr [] wr W) :
    Calls Try.prog 12 #[.pointer (some ⟨p, 0, none⟩), .agg #[iv, .int .i64 X.ep, rv], .agg #[.int .i64 k, .int .i64 t, .int .u64 x]] W (DoOut W p S (A.deed k t x) (X.deed k t x) (alike A X k t)) :=
  do_any W p k t x (h.own.1.keep hW (by simp)) (h.refS.keep hW (by simp)) (h.okA.fit h.okX hj hj)
theorem Going.xb {w wr XB p S A X iv rv j} (h : Going w wr XB p S A X iv rv j) : XB ∉ S := h.own.1.other h.box (by decide)
theorem Going.step {w wr W w4 w5 : World} {XB p : Nat} {S S' T : List Nat} {A A' : PA} {X X' : XA} {iv rv iv' rv' : Value} {j : Int} (h : Going w wr XB p S A X iv rv j) (hW : Fr [] wr W) (hp4 : Pool w4 p S' A') (hr4 : RefS w4 (.agg #[iv', .int .i64 X'.ep, rv']) X') (hf4 : Fr S W w4) (hS : ∀ k ∈ S', k ∈ S ∨ W.heap.size ≤ k)
    (hA : OkA A' (j + 1)) (hX : OkX X' (j + 1)) (h5 : Fr T w4 w5) (hT : ∀ k ∈ T, w.heap.size ≤ k ∧ ∃ c f, w4.heap[k]? = some (.cells c 29 f)) (hbox : w5.heap[XB]? = some (.cells #[iv', .int .i64 X'.ep, rv'] 29 (0, 0))) :
    Going w w5 XB p S' A' X' iv' rv' (j + 1) := by
  have hws := h.own.2.1.size
  have hWs := hW.size
  obtain ⟨iv'', rv'', hv, hr⟩ := hr4
  simp only [refAgg, Value.agg.injEq, List.toArray_eq_iff] at hv
  have hv2 : #[iv', Value.int .i64 X'.ep, rv'] = #[iv'', Value.int .i64 X'.ep, rv''] := by simpa using hv
  obtain ⟨rfl, rfl⟩ : iv' = iv'' ∧ rv' = rv'' := by simpa using hv2
  have hr4 : RefS w4 (refAgg iv' rv' X'.ep) X' := ⟨iv', rv', rfl, hr⟩
  have hn1 : ∀ k ∈ T, k ∉ S' := fun k hk => by obtain ⟨_, c, f, hc⟩ := hT k hk; exact hp4.other hc (by decide)
  have hn2 : ∀ k ∈ T, k ∉ blks (refAgg iv' rv' X'.ep) := fun k hk => by obtain ⟨_, c, f, hc⟩ := hT k hk; exact hr4.other hc (by decide)
  refine ⟨⟨hp4.keep h5 (fun k hk hm => hn1 k hm hk), ((h.own.2.1.trans hW (by simp)).trans hf4 (fun k hk => Or.inr (h.own.2.2 k hk))).trans h5 (fun k hk => Or.inr (hT k hk).1), fun k hk => ?_⟩, hbox, h.new, hr.keep h5 (fun k hk hm => hn2 k hm ((blks_refAgg _ _ _ k).2 hk)), hA, hX⟩
  rcases hS k hk with h' | h'
  · exact h.own.2.2 k h'
  · omega

/-- x is among the deeds that came in -/
def Told (w : World) (a : Option Addr) (len : Nat) (x : Int) : Prop := ∃ b off i, a = some ⟨b, off, none⟩ ∧ i < len ∧ w.cell? ⟨b, off + i * 3 + 2, none⟩ = some (.int .u64 x)
/-- whoever is inside is of the epoch, or of the last one -/
def Near (A : PA) : Prop := ∀ t ∈ A.th, t.1 = true → t.2 ≤ A.ep ∧ A.ep ≤ t.2 + 1
theorem Near.deed {A : PA} (h : Near A) (k t x : Int) : Near (A.deed k t x) := by
  unfold PA.deed
  split
  · unfold PA.enter
    split
    · split
      · exact h
      · intro y hy hb
        rcases List.mem_or_eq_of_mem_set hy with hy | rfl
        · exact h y hy hb
        · exact ⟨Int.le_refl _, by show A.ep ≤ A.ep + 1; omega⟩
    · exact h
  split
  · unfold PA.exit
    split
    · split
      · intro y hy hb
        rcases List.mem_or_eq_of_mem_set hy with hy | rfl
        · exact h y hy hb
        · cases hb
      · exact h
    · exact h
  split
  · exact h
  split
  · unfold PA.advance
    split
    · rename_i hr
      intro y hy hb
      unfold PA.ready at hr
      rw [List.all_eq_true] at hr
      have := hr y hy
      rw [hb] at this
      simp at this
      show y.2 ≤ A.ep + 1 ∧ A.ep + 1 ≤ y.2 + 1
      omega
    · exact h
  · exact h
theorem deed_th (A : PA) (k t x : Int) : (A.deed k t x).th.length = A.th.length := by
  unfold PA.deed PA.enter PA.exit PA.retire PA.advance PA.free
  repeat' split
  all_goals simp
theorem deed_row {A : PA} {k t x : Int} {P : Int → Prop} (h : ∀ y ∈ A.row, P y.1) (hx : P x) : ∀ y ∈ (A.deed k t x).row, P y.1 := by
  unfold PA.deed
  split
  · unfold PA.enter; repeat' split
    all_goals exact h
  split
  · unfold PA.exit; repeat' split
    all_goals exact h
  split
  · intro y hy
    simp only [PA.retire, List.mem_append, List.mem_singleton] at hy
    rcases hy with hy | rfl
    · exact h y hy
    · exact hx
  split
  · unfold PA.advance; split <;> exact h
  · intro y hy; exact h y (List.mem_filter.1 hy).1
structure RanX (w : World) (a : Option Addr) (len : Nat) (A : PA) : Prop where
  told : ∀ y ∈ A.row, Told w a len y.1
  near : Near A
  four : A.th.length = 4
theorem RanX.deed {w a len A} (h : RanX w a len A) (k t x : Int) (hx : Told w a len x) : RanX w a len (A.deed k t x) :=
  ⟨deed_row h.told hx, h.near.deed k t x, by rw [deed_th]; exact h.four⟩
theorem RanX.new (w : World) (a : Option Addr) (len : Nat) : RanX w a len (PA.new 4) := ⟨(by simp [PA.new]), (by intro t ht hb; simp [PA.new] at ht; rw [ht] at hb; cases hb), rfl⟩
def RanPost (w : World) (a : Option Addr) (len : Nat) (e : Ending) (w' : World) : Prop := ∃ p S A, e = .returned (.pointer (some ⟨p, 0, none⟩)) ∧ Own w p S A w' ∧ OkA A 80 ∧ RanX w a len A

set_option maxRecDepth 100000 in
set_option maxHeartbeats 4000000 in
theorem eran_any (w : World) (a : Option Addr) (len cap : Nat) (hd : EDeeds w a len cap) :
    Calls Try.prog 15 #[.slice a len cap] w (RanPost w a len) := by
  have HD := Lib.hid hd
  have hm : len ≤ 9223372036854775807 := by have := hd.1; have := hd.2.1; unfold maxLen at this; omega
  clear hd
  go_enter Try.func15, Try.ntmps15
  go_wp2_with (go_at_call 10; refine (own_new (Fr.refl [] w) 4 (by decide) (by decide)).mono ?_; rintro e w1 ⟨p, S0, rfl, h1⟩; refine go_stop ?_)
  unfold Stop
  go_wp2_with (go_at_call 11; refine (rnew_any _ 4 (by decide)).mono ?_; rintro e w2 ⟨V, rfl, ⟨iv, rv, rfl, hr⟩, hf2⟩; refine go_stop ?_)
  obtain ⟨⟨ia, ic, rfl⟩, ⟨ra, rc, rfl⟩⟩ := hr.forms
  have hG : Going w (w2.alloc (.cells #[.slice ia (XA.new 4).inn.length ic, .int .i64 (XA.new 4).ep, .slice ra (XA.new 4).row.length rc] 29)) w2.heap.size p S0 (PA.new 4) (XA.new 4) (.slice ia (XA.new 4).inn.length ic) (.slice ra (XA.new 4).row.length rc) 0 :=
    ⟨(h1.keep hf2).keep ((Fr.refl [] _).alloc _), new_block _ _, by have := h1.2.1.size; have := hf2.size; omega, hr.keep ((Fr.refl [] _).alloc _) (by simp), OkA.new 4 (by decide), OkX.new 4 (by decide)⟩
  have HG := Lib.hid hG
  obtain ⟨XB, hXB⟩ : ∃ XB, XB = w2.heap.size := ⟨_, rfl⟩
  have HXB := Lib.hid hXB
  clear h1 hr hf2 hG
  unfold Stop
  unfold refAgg
  go_wp2_with fail
  rw [← hXB]
  clear hXB
  go_loopw [5] (fun i wr => ∃ (j : Nat) (S : List Nat) (A : PA) (X : XA) (iv rv : Value), i = .int .i64 j ∧ j ≤ len ∧ j ≤ 80 ∧ Going w wr XB p S A X iv rv j ∧ RanX w a len A) (fun i _ => 80 - (intOf i).toNat)
  case atStart => exact ⟨0, _, _, _, _, _, rfl, Nat.zero_le _, Nat.zero_le _, by rw [HXB.out]; exact HG.out, RanX.new _ _ _⟩
  case round =>
    obtain ⟨j, S, A, X, iv, rv, rfl, hj, hj80, hG, hX⟩ := hrel
    obtain ⟨⟨ia, ic, rfl⟩, ⟨ra, rc, rfl⟩⟩ := hG.ref.forms
    obtain ⟨x0, x1, x2, fx⟩ := cells3 hG.box
    have hXlt : XB < wr.heap.size := lt_of_block hG.box
    have hxr := hG.new
    by_cases hgo : j < len ∧ j < 80
    · obtain ⟨hlt, hlt80⟩ := hgo
      have ht1 : decide (j < len) = true := by simpa using hlt
      have ht2 : decide ((j : Int) < 80) = true := by simp; omega
      obtain ⟨b, off, rfl, hbw, _⟩ := HD.out.2.2 (by omega)
      have hd' := HD.out.keep hG.own.2.1
      obtain ⟨b', off', hbe, hbw', hcells⟩ := hd'.2.2 (by omega)
      simp only [Option.some.injEq, Addr.mk.injEq, and_true] at hbe
      obtain ⟨rfl, rfl⟩ := hbe
      obtain ⟨b2, off2, hbe, _, hcellsw⟩ := HD.out.2.2 (by omega)
      simp only [Option.some.injEq, Addr.mk.injEq, and_true] at hbe
      obtain ⟨rfl, rfl⟩ := hbe
      obtain ⟨kind, t, x, c0, c1, c2⟩ := hcells j hlt
      have hTold : Told w (some ⟨b, off, none⟩) len x := by
        obtain ⟨_, _, x', _, _, d2⟩ := hcellsw j hlt
        have h2 := hG.own.2.1.cell d2 (by simp)
        rw [c2] at h2
        simp only [Option.some.injEq, Value.int.injEq, true_and] at h2
        subst h2
        exact ⟨b, off, j, rfl, hlt, d2⟩
      have HDO := Lib.hid (fun W hW => hG.call (by omega) kind t x W hW)
      have HX' := Lib.hid (hX.deed kind t x hTold)
      have HOA := Lib.hid (hG.okA.deed kind t x)
      have HOX := Lib.hid (hG.okX.deed kind t x)
      have HXF := Lib.hid hG.xb
      have HBF : Hid (b ∉ S) := Lib.hid (fun h => by have := hG.own.2.2 b h; omega)
      have HCF : Hid (wr.heap.size ∉ S) := Lib.hid (fun h => by have := hG.own.1.lt _ h; omega)
      have HG' := Lib.hid hG
      have q1 : ¬ XB = b := by omega
      have q2 : ¬ wr.heap.size = XB := by omega
      have q3 : ¬ wr.heap.size = b := by omega
      clear hG hcells hcellsw hd' hX hTold
      go_wp2_with fail
      go_region_held3 (fun w' => w'.cell? ⟨XB, 0, none⟩ = some (.slice ia X.inn.length ic) ∧ w'.cell? ⟨XB, 1, none⟩ = some (.int .i64 X.ep) ∧ w'.cell? ⟨XB, 2, none⟩ = some (.slice ra X.row.length rc) ∧ w'.cell? ⟨b, off + j * 3, none⟩ = some (.int .i64 kind) ∧ w'.cell? ⟨b, off + j * 3 + 1, none⟩ = some (.int .i64 t) ∧ w'.cell? ⟨b, off + j * 3 + 2, none⟩ = some (.int .u64 x)) (go_keep)
        (first | (go_at_call 12; refine (HDO.out _ ?_).mono ?_; · first | exact (Fr.refl _ _).drew | exact ((Fr.refl _ _).alloc _).drew
                  rintro e w4 ⟨V', S', rfl, hp4, hr4, hf4, hS4⟩
                  have hf2 : Fr S wr w4 := by first | exact ((Fr.refl S _).drew).trans hf4 (fun _ h => Or.inl h) | exact (((Fr.refl S _).alloc _).drew).trans hf4 (fun _ h => Or.inl h)
                  try (have hc4 := hf4.keep (p := wr.heap.size) (o := .cells #[.slice none 0 0, .int .i64 0, .slice none 0 0] 29) (by exact new_block wr _) HCF.out; obtain ⟨z0, z1, z2, fz⟩ := cells3 hc4; have HC4 := Lib.hid hc4; clear hc4)
                  have hw4 : wr.heap.size ≤ w4.heap.size := hf2.size
                  have hx4 := hf2.keep HG'.out.box HXF.out
                  have c0' := hf2.cell c0 HBF.out
                  have c1' := hf2.cell c1 HBF.out
                  have c2' := hf2.cell c2 HBF.out
                  have hS5 : ∀ k ∈ S', k ∈ S ∨ wr.heap.size ≤ k := fun k hk => (hS4 k hk).imp id (fun h => by first | exact h | omega | (simp at h; omega))
                  obtain ⟨i4, r4, rfl, h4⟩ := hr4
                  obtain ⟨⟨ja, jc, rfl⟩, ⟨ka, kc, rfl⟩⟩ := h4.forms
                  unfold refAgg
                  obtain ⟨y0, y1, y2, fy⟩ := cells3 hx4
                  have hX4 := lt_of_block hx4
                  have q4 : ¬ w4.heap.size = XB := by omega
                  have q5 : ¬ w4.heap.size = b := by omega
                  have HX4 := Lib.hid hx4
                  have HP4 := Lib.hid hp4
                  have HR4 : Hid (RefS w4 (.agg #[.slice ja (X.deed kind t x).inn.length jc, .int .i64 (X.deed kind t x).ep, .slice ka (X.deed kind t x).row.length kc]) (X.deed kind t x)) := Lib.hid ⟨_, _, rfl, h4⟩
                  have HF4 := Lib.hid hf2
                  have HS5 := Lib.hid hS5
                  clear hx4 hp4 h4 hf4 hS4 hf2 hS5))
      all_goals go_wp2
      all_goals go_roundw
      case rel =>
        refine ⟨j + 1, S', _, X.deed kind t x, .slice ja (X.deed kind t x).inn.length jc, .slice ka (X.deed kind t x).row.length kc, by go_num, by omega, by omega, ?_, HX'.out⟩
        refine HG'.out.step (T := [XB]) (Fr.refl [] wr) HP4.out HR4.out HF4.out HS5.out HOA.out HOX.out ?_ (by intro k hk; simp at hk; subst hk; exact ⟨by omega, _, _, HX4.out⟩) ?_
        · repeat (first | (with_reducible exact Fr.refl _ _) | (with_reducible refine Fr.alloc ?_ _) | (with_reducible refine Fr.drew ?_) | (with_reducible refine Fr.setCell ?_ (Or.inl (by simp)) _))
        · rw [Below.heap_alloc _ _ _ (by simp; exact hX4)]
          simpa using (set_block (set_block (set_block HX4.out 0 _) 1 _) 2 _)
      case measure => simp [intOf]; omega
      case rel =>
        refine ⟨j + 1, S', _, X.deed kind t x, .slice ja (X.deed kind t x).inn.length jc, .slice ka (X.deed kind t x).row.length kc, by go_num, by omega, by omega, ?_, HX'.out⟩
        refine HG'.out.step (T := [XB, wr.heap.size]) (Fr.refl [] wr) HP4.out HR4.out HF4.out HS5.out HOA.out HOX.out ?_ (by intro k hk; simp at hk; rcases hk with rfl | rfl; exact ⟨by omega, _, _, HX4.out⟩; exact ⟨HG'.out.own.2.1.size, _, _, HC4.out⟩) ?_
        · repeat (first | (with_reducible exact Fr.refl _ _) | (with_reducible refine Fr.alloc ?_ _) | (with_reducible refine Fr.drew ?_) | (with_reducible refine Fr.setCell ?_ (Or.inl (by simp)) _))
        · have hne : XB ≠ wr.heap.size := fun h => q2 h.symm
          simpa using (set_block (set_block (set_block (set_other (set_other (set_other HX4.out hne 0 _) hne 1 _) hne 2 _) 0 _) 1 _) 2 _)
      case measure => simp [intOf]; omega
    · have HF : Hid (RanPost w a len (.returned (.pointer (some ⟨p, 0, none⟩))) wr) := Lib.hid ⟨p, S, A, rfl, hG.own, hG.okA.mono (by omega), hX⟩
      clear hG hX
      by_cases hlt : j < len
      all_goals first
        | have ht1 : decide (j < len) = true := by simpa using hlt
          have ht2 : decide ((j : Int) < 80) = false := by simp; omega
        | have ht1 : decide (j < len) = false := by simpa using hlt
      all_goals
        go_wp2
        go_ret
        exact HF.out
end Go.Proofs.Ytphniphlflijeaa
