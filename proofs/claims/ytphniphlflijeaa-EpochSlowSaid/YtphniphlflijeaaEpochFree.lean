/- PACKAGE epoch: contracts of Left, past and Free -/
import Derived.Test.YtphniphlflijeaaEpochRet
import Derived.Test.YtphniphlflijeaaShelf
import Derived.Sort.OwnSortedInts
namespace Go.Proofs.Ytphniphlflijeaa
open Go.RowKit Go.Maps
set_option linter.unusedVariables false
set_option linter.unusedSimpArgs false

/-! Lists of what is retired -/
/-- when a row may be asked -/
structure RowOk (A : PA) : Prop where
  ep0 : 0 ≤ A.ep
  ep1 : A.ep ≤ 100000
  row : ∀ x ∈ A.row, 0 ≤ x.2 ∧ x.2 ≤ A.ep
  sorted : A.row.Pairwise (fun x y => x.2 ≤ y.2)
  len : A.row.length ≤ 100000
  cnt : A.cnt ≤ 100000
theorem RowOk.wf {A : PA} (h : RowOk A) {x : Int × Int} (hx : x ∈ A.row) : (Lit.int .i64 x.2).wf = true := by
  have := h.row x hx; have := h.ep1; exact int_wf (by omega) (by omega)
theorem mem_atE {row : List (Int × Int)} {e : Int} : atE row e ≠ [] ↔ ∃ x ∈ row, x.2 = e := by
  unfold atE
  rw [Ne, List.map_eq_nil_iff, List.filter_eq_nil_iff]
  constructor
  · intro h
    simp only [Classical.not_forall] at h
    obtain ⟨x, hx, hp⟩ := h
    exact ⟨x, hx, by simpa using hp⟩
  · rintro ⟨x, hx, he⟩ h
    exact h x hx (by simpa using he)
theorem RowsAt.has {w : World} {S : List Nat} {row : List (Int × Int)} {M : Int → Option Value} (h : RowsAt w S (atE row) M) (e : Int) : (M e).isSome = true ↔ ∃ x ∈ row, x.2 = e := by
  rw [← mem_atE]
  cases hm : M e with
  | none => simp [h.no e hm]
  | some v => simp [(h.yes e v hm).1]
/-- how many are of an epoch that was gone through -/
def goneLen (row : List (Int × Int)) (left : Int → Bool) : Nat := (row.filter (fun x => !left x.2)).length
theorem goneLen_step (row : List (Int × Int)) (left : Int → Bool) (e : Int) (he : left e = true) : goneLen row (fun z => left z && !decide (z = e)) = goneLen row left + (atE row e).length := by
  unfold goneLen atE
  induction row with
  | nil => rfl
  | cons x r ih =>
    rw [List.length_map] at ih ⊢
    dsimp only at ih
    by_cases hx : x.2 = e
    · have h1 : left x.2 = true := by rw [hx]; exact he
      rw [List.filter_cons_of_pos (by simp [hx]), List.filter_cons_of_neg (by simp [h1]), List.filter_cons_of_pos (by simpa using hx)]
      simp only [List.length_cons]; omega
    · cases h1 : left x.2
      · rw [List.filter_cons_of_pos (by simp [h1]), List.filter_cons_of_pos (by simp [h1]), List.filter_cons_of_neg (by simpa using hx)]
        simp only [List.length_cons]; omega
      · rw [List.filter_cons_of_neg (by simp [h1, hx]), List.filter_cons_of_neg (by simp [h1]), List.filter_cons_of_neg (by simpa using hx)]
        exact ih
theorem goneLen_le (row : List (Int × Int)) (left : Int → Bool) : goneLen row left ≤ row.length := List.length_filter_le _ _

theorem RangeIs.cnt_le {P : Program} {k : TypeId} {w : World} {b r n : Nat} {M : Int → Option Value} {left : Int → Bool} {cnt : Nat} (h : RangeIs P k w b r n M left cnt) : cnt ≤ n := by
  obtain ⟨D, lt, ⟨es, clock, since, seen, c0, hb, F, hs, hD, hr, hold, hc, _⟩, _⟩ := h
  have : (leftOf es seen).size ≤ es.size := by unfold leftOf; exact Array.size_filter_le
  omega

/-! Left -/
theorem epoch_left (w : World) (p : Nat) {S A} (hp : Pool w p S A) (hA : RowOk A) :
    Calls Try.prog 14 #[.pointer (some ⟨p, 0, none⟩)] w fun e w' => e = .returned (.int .i64 A.row.length) ∧ Fr [] w w' := by
  obtain ⟨tb, m, M, h⟩ := hp
  obtain ⟨c0, c1, c2, _⟩ := cells3 h.blk
  have H := Lib.hid h
  have HA := Lib.hid hA
  have hlen := hA.len
  have HMAP := Lib.hid h.map
  clear h hA
  go_enter Try.func14, Try.ntmps14
  go_wp2_with (at_range; refine wpList_range_map rfl _ 50 rfl 3 39 int_key pool_map m A.cnt M rfl HMAP.out ?_; intro w0 cnt0 hrg0 hg0)
  go_frame
  go_loopw [3] (fun v wr => ∃ (left : Int → Bool) (cnt : Nat), v = .int .i64 (goneLen A.row left) ∧ RangeIs Try.prog 3 wr m w.heap.size A.cnt M left cnt ∧ Fr [] w wr) (fun _ wr => wr.rangeLeft m w.heap.size)
  case atStart =>
    refine ⟨_, _, ?_, hrg0, hg0⟩
    have : goneLen A.row (fun e => (M e).isSome) = 0 := by
      unfold goneLen
      rw [List.length_eq_zero_iff, List.filter_eq_nil_iff]
      intro x hx
      have := (H.out.rows.has x.2).2 ⟨x, hx, rfl⟩
      simp [this]
    rw [this]; rfl
  case round =>
    obtain ⟨left, cnt, rfl, hrg, hf⟩ := hrel
    have HRG := Lib.hid hrg
    have HF := Lib.hid hf
    have hgl := goneLen_le A.row left
    clear hrg hf
    go_wp2_with (at_next; refine wpList_next_map rfl _ rfl 3 int_key m w.heap.size A.cnt M left cnt rfl HRG.out ?_ ?_)
    · intro hl0
      have hall : goneLen A.row left = A.row.length := by
        unfold goneLen
        rw [List.filter_eq_self.2]
        intro x hx
        rw [hl0 x.2 (HA.out.wf hx)]; rfl
      have HALL := Lib.hid hall
      clear hl0 hall
      go_wp2
      go_ret
      exact ⟨by rw [← HALL.out]; rfl, HF.out⟩
    · intro x a1 a2 a3 w1 cnt1 hwx hlx hM hrg1 hlt hf1 hen
      have hl := (H.out.rows.yes x _ hM).2
      obtain ⟨s, q, hv, _⟩ := hl.form
      have hcl : a2 = (atE A.row x).length := by cases hv; rfl
      subst hcl
      have HST := Lib.hid (goneLen_step A.row left x hlx)
      have hle := goneLen_le A.row (fun z => left z && !decide (z = x))
      rw [HST.out] at hle
      have hwrap : IntKind.i64.wrap ((goneLen A.row left : Int) + ((atE A.row x).length : Int)) = (goneLen A.row left : Int) + ((atE A.row x).length : Int) := IntWalk.i64_in _ ⟨by omega, by omega⟩
      have HR1 := Lib.hid hrg1
      have HF1 := Lib.hid (HF.out.trans hf1 (fun k hk => by simp at hk; subst hk; exact Or.inr (Nat.le_refl _)))
      have hmeas : w1.rangeLeft m w.heap.size < wr.rangeLeft m w.heap.size := by rw [hrg1.left_eq, HRG.out.left_eq]; exact hlt
      have HME := Lib.hid hmeas
      clear hl hv hM hlx hrg1 hf1 hmeas hle
      go_wp2
      go_roundw
      case rel =>
        refine ⟨_, cnt1, ?_, HR1.out, HF1.out⟩
        rw [HST.out]; push_cast; rfl
      case measure => exact HME.out
theorem epoch_left_nil (w : World) : Calls Try.prog 14 #[.pointer none] w fun e w' => e = .returned (.int .i64 0) ∧ w = w' := by
  go_enter Try.func14, Try.ntmps14
  go_wp2
  go_ret
  exact ⟨rfl, rfl⟩
end Go.Proofs.Ytphniphlflijeaa
