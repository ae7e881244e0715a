/- WHAT ALL LAWS OF txn BEGIN WITH: the example; few -/
import Derived.Test.YtlklmmpblgcaoaaTxn
import Derived.Test.YtlklmmpblgcaoaaTxCmp
namespace Go.Proofs.Ytlklmmpblgcaoaa
open Go.RowKit
set_option linter.unusedVariables false
set_option linter.unusedSimpArgs false

def ka : ByteArray := ⟨#[97]⟩
def kx : ByteArray := ⟨#[120]⟩
def ky : ByteArray := ⟨#[121]⟩
theorem wa : ka.size ≤ maxLen := by decide
theorem wx : kx.size ≤ maxLen := by decide
theorem wy : ky.size ≤ maxLen := by decide
def sq : Rq := swapQ ⟨#[97]⟩ ⟨#[120]⟩ ⟨#[121]⟩ wa wx wy
def m1 : List Kv := [⟨⟨#[97]⟩, ⟨#[120]⟩, 1, by decide⟩]
def oay : Od := ⟨⟨#[97]⟩, ⟨#[121]⟩, false, by decide⟩
theorem sq0 : holdsC [] sq.cmps = false ∧ planL [] sq = [] := by
  have h : holdsC [] sq.cmps = false := by simp [sq, swapQ, holdsC, oneC, getK]
  refine ⟨h, ?_⟩
  unfold planL
  rw [h]
  simp [sq, swapQ]
theorem srt_m1 : Srt Kv.key m1 := List.pairwise_singleton _ _
theorem sq1 : holdsC m1 sq.cmps = true ∧ planL m1 sq = [oay] := by
  have h : holdsC m1 sq.cmps = true := by simp [sq, swapQ, holdsC, oneC, getK, m1]
  refine ⟨h, ?_⟩
  unfold planL
  rw [h]
  simp [sq, swapQ, keepO, oay]
theorem sqm : mayE sq = 0 := by
  have e1 : (⟨#[97]⟩ : ByteArray).toList = [97] := by simp only [ByteArray.toList_eq]
  have h : mayQ sq = true := by
    simp [mayQ, sq, swapQ, cmsB, cmB, opsB, opB, mayB, e1]
    decide
  unfold mayE; rw [h]; rfl
theorem sqk {ks : List ByteArray} (h : KeysOk sq ks) : ks = [⟨#[97]⟩] := by
  have hm : ∀ k ∈ ks, k = ⟨#[97]⟩ := fun k hk => by
    have := (h.mem k).1 hk
    simpa [keysL, sq, swapQ] using this
  have h0 : (⟨#[97]⟩ : ByteArray) ∈ ks := (h.mem _).2 (by simp [keysL, sq, swapQ])
  match ks, hm, h0, h.rise with
  | [], _, h0, _ => cases h0
  | [k], hm, _, _ => rw [hm k (by simp)]
  | a :: b :: r, hm, _, hr =>
    have h1 := (List.pairwise_cons.1 hr).1 b (by simp)
    rw [hm a (by simp), hm b (by simp), kl_irrefl] at h1; cases h1
/-- a literal of a map -/
theorem kv_lit (w : World) (l : List Kv) (n : Nat) (hn : l.length = n) (hm : n ≤ maxLen) (c : Array Value) (hc : c = (allC Kv.cells l).toArray) : KvIn (w.alloc (.cells c 56)) (.slice (some ⟨w.heap.size, 0, none⟩) n n) l := by
  subst hc hn
  exact LAt.read (e := 56) ⟨allC_len Kv.clen l, Or.inr ⟨_, 0, l.length, (allC Kv.cells l).toArray, rfl, new_block _ _, Nat.le_refl _, hm, by simp [allC_len Kv.clen l], fun j hj => by simp⟩⟩ Kv.clen
theorem st_lit (w : World) (l : List ByteArray) (n : Nat) (hn : l.length = n) (hm : n ≤ maxLen) (c : Array Value) (hc : c = (allC stC l).toArray) : StIn (w.alloc (.cells c 9)) (.slice (some ⟨w.heap.size, 0, none⟩) n n) l := by
  subst hc hn
  exact LAt.read (e := 9) ⟨allC_len stC_len l, Or.inr ⟨_, 0, l.length, (allC stC l).toArray, rfl, new_block _ _, Nat.le_refl _, hm, by simp [allC_len stC_len l], fun j hj => by simp⟩⟩ stC_len
theorem cm_lit (w : World) (l : List Cm) (n : Nat) (hn : l.length = n) (hm : n ≤ maxLen) (c : Array Value) (hc : c = (allC Cm.cells l).toArray) : CmIn (w.alloc (.cells c 83)) (.slice (some ⟨w.heap.size, 0, none⟩) n n) l := by
  subst hc hn
  exact LAt.read (e := 83) ⟨allC_len Cm.clen l, Or.inr ⟨_, 0, l.length, (allC Cm.cells l).toArray, rfl, new_block _ _, Nat.le_refl _, hm, by simp [allC_len Cm.clen l], fun j hj => by simp⟩⟩ Cm.clen
theorem od_lit0 (w : World) (l : List Od) (n : Nat) (hn : l.length = n) (hm : n ≤ maxLen) (c : Array Value) (hc : c = (allC Od.cells l).toArray) : OdIn (w.alloc (.cells c 81)) (.slice (some ⟨w.heap.size, 0, none⟩) n n) l := by
  subst hc hn
  exact LAt.read (e := 81) ⟨allC_len Od.clen l, Or.inr ⟨_, 0, l.length, (allC Od.cells l).toArray, rfl, new_block _ _, Nat.le_refl _, hm, by simp [allC_len Od.clen l], fun j hj => by simp⟩⟩ Od.clen

end Go.Proofs.Ytlklmmpblgcaoaa
