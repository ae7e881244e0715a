/- THE EXAMPLE OF THE LAWS OF event -/
import Derived.Test.YtjclbgeclopheaaEvent
import Derived.Test.YtjclbgeclopheaaEvCmp
namespace Go.Proofs.Ytjclbgeclopheaa
open Go.RowKit
set_option linter.unusedVariables false
set_option linter.unusedSimpArgs false

def ba : ByteArray := ⟨#[97]⟩
def bb : ByteArray := ⟨#[98]⟩
def aw3 : List Ev := [⟨1, ⟨#[97]⟩, ⟨#[120]⟩, false, by decide⟩, ⟨2, ⟨#[98]⟩, ⟨#[121]⟩, false, by decide⟩, ⟨2, ⟨#[97]⟩, ⟨#[]⟩, true, by decide⟩]
theorem kab : kl ⟨#[97]⟩ ⟨#[98]⟩ = true := by unfold kl; simp only [ByteArray.toList_eq]; decide
theorem kba : kl ⟨#[98]⟩ ⟨#[97]⟩ = false := kl_asymm kab
theorem nab : ¬ ((⟨#[97]⟩ : ByteArray) = ⟨#[98]⟩) := by decide
theorem nba : ¬ ((⟨#[98]⟩ : ByteArray) = ⟨#[97]⟩) := by decide
theorem aw_fold : foldK [] aw3 = [⟨⟨#[98]⟩, ⟨#[121]⟩, 2, by decide⟩] := by
  simp [foldK, aw3, oneK, lowB, highB, Ev.put, Ev.kv, kab, kba, kl_irrefl, nba]
theorem aw_last : (lastE aw3).length = 2 := by
  simp [lastE, aw3, lastGo, insE, lowB, highB, kab, kba, kl_irrefl, nba, nab]
theorem aw_cut : (cutE aw3).length = 2 := by
  simp [cutE, aw3, cutS, sameRev]
theorem aw_filter : (filterE ⟨#[97]⟩ ⟨#[98]⟩ aw3).length = 2 := by
  have h1 : inR ⟨#[97]⟩ ⟨#[98]⟩ ⟨#[97]⟩ = true := by unfold inR; simp only [ByteArray.toList_eq]; decide
  have h2 : inR ⟨#[97]⟩ ⟨#[98]⟩ ⟨#[98]⟩ = false := by unfold inR; simp only [ByteArray.toList_eq]; decide
  simp [filterE, aw3, h1, h2]
theorem aw_restrict : (restrictK ⟨#[99]⟩ ⟨#[]⟩ [⟨⟨#[98]⟩, ⟨#[121]⟩, 2, by decide⟩]).length = 0 := by
  have h1 : inR ⟨#[99]⟩ ⟨#[]⟩ ⟨#[98]⟩ = false := by unfold inR; simp only [ByteArray.toList_eq]; decide
  simp [restrictK, h1]
/-- a row of n elements that was just laid -/
theorem lies_many {sz n : Nat} (w : World) (e : TypeId) (c : List Value) (hs : c.length = n * sz) (hn : n ≤ maxLen) (B : Nat) (hB : w.heap.size = B) : Lies (w.alloc (.cells c.toArray e)) e sz (.slice (some ⟨B, 0, none⟩) n n) n c := by
  subst hB
  exact ⟨hs, Or.inr ⟨_, 0, n, c.toArray, rfl, new_block _ _, Nat.le_refl _, hn, by simp; omega, fun j hj => by simp⟩⟩
end Go.Proofs.Ytjclbgeclopheaa
