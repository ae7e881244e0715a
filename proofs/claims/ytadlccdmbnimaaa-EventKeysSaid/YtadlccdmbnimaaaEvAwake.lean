/- THE EXAMPLE OF THE LAWS OF event -/
import Derived.Test.YtadlccdmbnimaaaEvent
import Derived.Test.YtadlccdmbnimaaaEvCmp
namespace Go.Proofs.Ytadlccdmbnimaaa
open Go.RowKit
set_option linter.unusedVariables false
set_option linter.unusedSimpArgs false

def ba : ByteArray := ⟨#[97]⟩
def bb : ByteArray := ⟨#[98]⟩
def aw3 : List Ev := [⟨1, ⟨#[97]⟩, ⟨#[120]⟩, false, by decide⟩, ⟨2, ⟨#[98]⟩, ⟨#[121]⟩, false, by decide⟩, ⟨2, ⟨#[97]⟩, ⟨#[]⟩, true, by decide⟩]
theorem kab : kl ⟨#[97]⟩ ⟨#[98]⟩ = true := by unfold kl; simp only [ByteArray.toList_eq]; decide
theorem kba : kl ⟨#[98]⟩ ⟨#[97]⟩ = false := kl_asymm kab
theorem nab : ¬ ((⟨#[97]⟩ : ByteArray) = ⟨#[98]⟩) := by decide
theorem nba : ¬ ((⟨#[98]⟩ : ByteArray) = ⟨#[97]⟩) := by decide
theorem aw_fold : foldK [] aw3 = [⟨⟨#[98]⟩, ⟨#[121]⟩, 2, by decide⟩] := by
  simp [foldK, aw3, oneK, lowB, highB, Ev.put, Ev.kv, kab, kba, kl_irrefl, nba]
theorem aw_last : (lastE aw3).length = 2 := by
  simp [lastE, aw3, lastGo, insE, lowB, highB, kab, kba, kl_irrefl, nba, nab]
theorem aw_cut : (cutE aw3).length = 2 := by
  simp [cutE, aw3, cutS, sameRev]
theorem aw_filter : (filterE ⟨#[97]⟩ ⟨#[98]⟩ aw3).length = 2 := by
  have h1 : inR ⟨#[97]⟩ ⟨#[98]⟩ ⟨#[97]⟩ = true := by unfold inR; simp only [ByteArray.toList_eq]; decide
  have h2 : inR ⟨#[97]⟩ ⟨#[98]⟩ ⟨#[98]⟩ = false := by unfold inR; simp only [ByteArray.toList_eq]; decide
  simp [filterE, aw3, h1, h2]
theorem aw_restrict : (restrictK ⟨#[99]⟩ ⟨#[]⟩ [⟨⟨#[98]⟩, ⟨#[121]⟩, 2, by decide⟩]).length = 0 := by
  have h1 : inR ⟨#[99]⟩ ⟨#[]⟩ ⟨#[98]⟩ = false := by unfold inR; simp only [ByteArray.toList_eq]; decide
  simp [restrictK, h1]
/-- a row of n elements that was just laid -/
theorem lies_many {sz n : Nat} (w : World) (e : TypeId) (c : List Value) (hs : c.length = n * sz) (hn : n ≤ maxLen) (B : Nat) (hB : w.heap.size = B) : Lies (w.alloc (.cells c.toArray e)) e sz (.slice (some ⟨B, 0, none⟩) n n) n c := by
  subst hB
  exact ⟨hs, Or.inr ⟨_, 0, n, c.toArray, rfl, new_block _ _, Nat.le_refl _, hn, by simp; omega, fun j hj => by simp⟩⟩
set_option maxHeartbeats 2000000 in
theorem event_awake (w : World) : Calls Try.prog 9 #[] w fun e w' => e = .returned (.bool true) ∧ Fr [] w w' := by
  have HLL : Hid (EvIn (w.alloc (.cells (allC Ev.cells aw3).toArray 40)) (.slice (some ⟨w.heap.size, 0, none⟩) 3 3) aw3) := Lib.hid (EvAt.read (lies_many w 40 (allC Ev.cells aw3) rfl (by decide) _ rfl))
  have cmp := fun W => run_eql_kv ⟨⟨#[98]⟩, ⟨#[121]⟩, 2, by decide⟩ ⟨⟨#[98]⟩, ⟨#[121]⟩, 2, by decide⟩ W
  rw [show kvB ⟨⟨#[98]⟩, ⟨#[121]⟩, 2, by decide⟩ ⟨⟨#[98]⟩, ⟨#[121]⟩, 2, by decide⟩ = true from kvB_eq.2 rfl] at cmp
  go_enter Try.func9, Try.ntmps9
  go_wp2_with (go_at_call 19; refine (event_fold _ _ [] aw3 _ (LIn.nil _) HLL.out Srt.nil (by decide) (by decide)).mono ?_; rintro e w1 ⟨v1, rfl, h1, h2⟩; rw [aw_fold] at h1; refine go_stop ?_)
  unfold Stop
  have HL := Lib.hid (LIn.keep0 HLL.out h2)
  have HF := Lib.hid (((Fr.refl [] w).alloc _).trans h2 (by simp))
  obtain ⟨g, off, c, rfl, _, hc, k1⟩ := KvIn.here h1 (by simp)
  obtain ⟨p0, p1, p2⟩ := k1 0 _ rfl
  have HM := Lib.hid h1
  clear h1 h2 k1
  simp only [Nat.zero_mul, Nat.add_zero, List.length_cons, List.length_nil] at p0 p1 p2 hc HM ⊢
  have l1 := aw_last
  have l2 := aw_cut
  have l3 := aw_filter
  have l4 := aw_restrict
  go_wp2_with (first
    | (go_at_call 16; refine (event_last _ aw3 _ HL.out (by decide)).mono ?_; rintro e wn ⟨vn, rfl, h1, h2⟩; obtain ⟨sn, cn, rfl, _⟩ := h1.form; replace HL := Lib.hid (LIn.keep0 HL.out h2); replace HM := Lib.hid (LIn.keep0 HM.out h2); replace HF := Lib.hid (HF.out.trans h2 (by simp)); clear h1 h2)
    | (go_at_call 11; refine (event_cut _ aw3 _ HL.out (by decide)).mono ?_; rintro e wn ⟨vn, rfl, h1, h2⟩; obtain ⟨sn, cn, rfl, _⟩ := h1.form; replace HL := Lib.hid (LIn.keep0 HL.out h2); replace HM := Lib.hid (LIn.keep0 HM.out h2); replace HF := Lib.hid (HF.out.trans h2 (by simp)); clear h1 h2)
    | (go_at_call 14; refine (event_filter _ aw3 _ _ _ HL.out (by decide)).mono ?_; rintro e wn ⟨vn, rfl, h1, h2⟩; obtain ⟨sn, cn, rfl, _⟩ := h1.form; replace HL := Lib.hid (LIn.keep0 HL.out h2); replace HM := Lib.hid (LIn.keep0 HM.out h2); replace HF := Lib.hid (HF.out.trans h2 (by simp)); clear h1 h2)
    | (go_at_call 22; refine (event_restrict _ _ _ _ _ HM.out (by decide)).mono ?_; rintro e wn ⟨vn, rfl, h1, h2⟩; obtain ⟨sn, cn, rfl, _⟩ := h1.form; replace HL := Lib.hid (LIn.keep0 HL.out h2); replace HM := Lib.hid (LIn.keep0 HM.out h2); replace HF := Lib.hid (HF.out.trans h2 (by simp)); clear h1 h2))
  go_ret
  exact ⟨rfl, HF.out⟩
end Go.Proofs.Ytadlccdmbnimaaa
