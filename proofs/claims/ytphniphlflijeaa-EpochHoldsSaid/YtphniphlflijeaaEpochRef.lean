/- THE DOCUMENT's ANSWERS FOR epoch: how they lie; contracts of New, Enter, Exit -/
import Derived.Test.YtphniphlflijeaaLies
namespace Go.Proofs.Ytphniphlflijeaa
open Go.RowKit
set_option linter.unusedVariables false
set_option linter.unusedSimpArgs false

theorem rint_slice : Try.prog.underlying 26 = some (.slice 3) := Try.underlying26
theorem rint_info : (Try.prog.info? 3).map (fun i => (i.zero, i.size, i.bytes)) = some (some (.int .i64 0), 1, 8) := by kernel_rfl

/-- the document's pool: the threads' epochs; the epoch; what is retired, and when -/
structure XA where
  inn : List Int
  ep : Int
  row : List (Int × Int)
def things : List (Int × Int) → List Value
  | [] => []
  | x :: l => .int .u64 x.1 :: .int .i64 x.2 :: things l
theorem things_len : ∀ l : List (Int × Int), (things l).length = l.length * 2
  | [] => rfl
  | x :: l => by simp [things, things_len l]; omega
theorem things_at : ∀ (l : List (Int × Int)) (j : Nat) (b : Int) (e : Int), l[j]? = some (b, e) → (things l)[j * 2]? = some (.int .u64 b) ∧ (things l)[j * 2 + 1]? = some (.int .i64 e)
  | [], _, _, _, h => by simp at h
  | x :: l, 0, b, e, h => by simp at h; subst h; simp [things]
  | x :: l, j + 1, b, e, h => by
    rw [show (j + 1) * 2 = j * 2 + 1 + 1 by omega]
    simp only [things, List.getElem?_cons_succ]
    exact things_at l j b e (by simpa using h)
theorem things_app : ∀ (l r : List (Int × Int)), things (l ++ r) = things l ++ things r
  | [], r => rfl
  | x :: l, r => by simp [things, things_app l r]
theorem things_one : ∀ (l : List (Int × Int)), ∀ y ∈ things l, y.oneCell' = true
  | [], y, h => by simp [things] at h
  | x :: l, y, h => by
    simp only [things, List.mem_cons] at h
    rcases h with rfl | rfl | h
    · rfl
    · rfl
    · exact things_one l y h

structure RefF (w : World) (iv rv : Value) (X : XA) : Prop where
  ins : Lies w 3 1 iv X.inn.length (X.inn.map (Value.int .i64))
  row : Lies w 64 2 rv X.row.length (things X.row)
def refAgg (iv rv : Value) (e : Int) : Value := .agg #[iv, .int .i64 e, rv]
def RefS (w : World) (V : Value) (X : XA) : Prop := ∃ iv rv, V = refAgg iv rv X.ep ∧ RefF w iv rv X
def blks : Value → List Nat
  | .agg cs => cs.toList.flatMap fun v => v.ownBlock.toList
  | v => v.ownBlock.toList
theorem blks_refAgg (iv rv : Value) (e : Int) (j : Nat) : j ∈ blks (refAgg iv rv e) ↔ iv.ownBlock = some j ∨ rv.ownBlock = some j := by
  simp [blks, refAgg, Value.ownBlock]
theorem RefF.keep {S w w' iv rv X} (h : RefF w iv rv X) (hf : Fr S w w') (hn : ∀ j, iv.ownBlock = some j ∨ rv.ownBlock = some j → j ∉ S) : RefF w' iv rv X :=
  ⟨h.ins.keep hf (fun j hj => hn j (Or.inl hj)), h.row.keep hf (fun j hj => hn j (Or.inr hj))⟩
theorem RefS.keep {S w w' V X} (h : RefS w V X) (hf : Fr S w w') (hn : ∀ j ∈ blks V, j ∉ S) : RefS w' V X := by
  obtain ⟨iv, rv, rfl, h⟩ := h
  exact ⟨iv, rv, rfl, h.keep hf (fun j hj => hn j ((blks_refAgg iv rv _ j).2 hj))⟩
theorem RefF.forms {w iv rv X} (h : RefF w iv rv X) : (∃ a c, iv = .slice a X.inn.length c) ∧ ∃ a c, rv = .slice a X.row.length c := by
  obtain ⟨a, c, h1, _⟩ := h.ins.form
  obtain ⟨a2, c2, h2, _⟩ := h.row.form
  exact ⟨⟨a, c, h1⟩, ⟨a2, c2, h2⟩⟩
/-- what an answer hands back -/
def RefNext (w : World) (V' : Value) (X' : XA) (w' : World) : Prop := RefS w' V' X' ∧ Fr [] w w'
def Ref1 (w : World) (X' : XA) (e : Ending) (w' : World) : Prop := ∃ V', e = .returned V' ∧ RefNext w V' X' w'
def Ref2 (w : World) (X' : XA) (b : Value) (e : Ending) (w' : World) : Prop := ∃ V', e = .returned (.tuple #[V', b]) ∧ RefNext w V' X' w'

def XA.new (n : Nat) : XA := ⟨List.replicate n (-1), 0, []⟩
theorem rnew_any (w : World) (n : Nat) (hn : n ≤ 8) : Calls Try.prog 11 #[.int .i64 n] w (Ref1 w (XA.new n)) := by
  go_enter Try.func11, Try.ntmps11
  go_wp2_with fail
  go_loopw [4] (fun i wr => ∃ (j : Nat) (iv : Value), i = .int .i64 j ∧ j ≤ n ∧ Lies wr 3 1 iv j ((List.replicate j (-1)).map (Value.int .i64)) ∧ (∀ k, iv.ownBlock = some k → w.heap.size + 1 < k) ∧
     wr.heap[w.heap.size]? = some (.cells #[.slice none 0 0, .int .i64 0, .slice none 0 0] 29 (0, 0)) ∧ wr.heap[w.heap.size + 1]? = some (.cells #[iv, .int .i64 0, .slice none 0 0] 29 (0, 0)) ∧ Fr [] w wr) (fun i _ => n - (intOf i).toNat)
  case atStart =>
    refine ⟨0, .slice none 0 0, rfl, Nat.zero_le _, Lies.nil _ _ _, (by intro k hk; cases hk), blk_new2 _ _ _, ?_, ((Fr.refl _ _).alloc _).alloc _⟩
    have := new_block (w.alloc (.cells #[.slice none 0 0, .int .i64 0, .slice none 0 0] 29)) (.cells #[.slice none 0 0, .int .i64 0, .slice none 0 0] 29)
    simpa using this
  case round =>
    obtain ⟨j, iv, rfl, hj, hl, hnew, hA, hB, hf⟩ := hrel
    obtain ⟨a0, a1, a2, af⟩ := cells3 hA
    obtain ⟨b0, b1, b2, bf⟩ := cells3 hB
    have lA := lt_of_block hA
    have lB := lt_of_block hB
    have HL := Lib.hid hl
    have HN := Lib.hid hnew
    have HA := Lib.hid hA
    have HB := Lib.hid hB
    have HF := Lib.hid hf
    by_cases hlt : j < n
    · have t1 : decide ((j : Int) < n) = true := by simpa using hlt
      clear hl hnew hA hB hf
      go_wp2_with (at_builtin; refine go_stop ?_)
      unfold Stop
      refine wpList_append_any rfl (.tmp 12) (.tmp 13) 26 3 (.int .i64 0) 1 8 rfl rint_slice rint_info rfl (by decide) iv j ((List.replicate j (-1)).map (Value.int .i64)) rfl (HL.out.alloc _) _ 1 [.int .i64 (-1)] rfl (lies_one _ _ _ _ rfl) (one_int _ _) (by unfold maxLen; omega) (by omega) ?app
      case app =>
      intro v2 w2 ho2 hf2 hn2
      have hv2 : ∀ k, v2.ownBlock = some k → w.heap.size + 1 < k := by
        intro k hk
        rcases hn2 k hk with h | h
        · exact HN.out k h
        · simp at h; omega
      obtain ⟨s2, c2, rfl, _⟩ := ho2.form
      have hni : ∀ k, k ≤ w.heap.size + 1 → k ∉ iv.ownBlock.toList := by intro k hk hm; have := HN.out k (by simpa using hm); omega
      have hA2 := hf2.keep (blk_alloc HA.out _) (hni _ (by omega))
      have hB2 := hf2.keep (blk_alloc HB.out _) (hni _ (by omega))
      have hF2 : Fr [] w w2 := (HF.out.alloc _).trans hf2 (by intro k hk; have := HN.out k (by simpa using hk); right; omega)
      obtain ⟨b0', b1', b2', bf'⟩ := cells3 hB2
      have bf0' := bf' 0
      have HL2 := Lib.hid ho2
      have HV2 := Lib.hid hv2
      have HA2 := Lib.hid hA2
      have HB2 := Lib.hid hB2
      have HF2 := Lib.hid hF2
      clear ho2 hf2 hn2 hv2 hni hA2 hB2 hF2
      go_wp2
      go_roundw
      case rel =>
        refine ⟨j + 1, _, by go_num, by omega, ?_, HV2.out, set_other HA2.out (by omega) _ _, ?_, HF2.out.setNew (by omega) _⟩
        · refine Lies.other ?_ _ (by intro h; have := HV2.out _ h; simp at this) _
          have := HL2.out
          simpa [List.replicate_succ'] using this
        · simpa using set_block HB2.out 0 (.slice s2 (j + 1) c2)
      case measure => simp [intOf]; omega
    · obtain rfl : j = n := by omega
      have t1 : decide ((j : Int) < j) = false := by simp
      obtain ⟨is, ic, rfl, _⟩ := hl.form
      have bf0 := bf 0
      have af0 := af 0
      have af1 := af 1
      have af2 := af 2
      clear hl hnew hA hB hf
      go_wp2
      refine bodyPost_ret (v := refAgg (.slice is j ic) (.slice none 0 0) 0) (by simp [refAgg, results, Try.results11, go_sem, *]) rfl ⟨_, rfl, ⟨_, _, rfl, ?_⟩, ?_⟩
      · refine ⟨?_, Lies.nil _ _ _⟩
        have h1 := HL.out.keep ((Fr.refl [w.heap.size] wr).setCell (p := ⟨w.heap.size, 0, none⟩) (Or.inl (by simp)) (.slice is j ic) |>.setCell (p := ⟨w.heap.size, 1, none⟩) (Or.inl (by simp)) (.int .i64 0) |>.setCell (p := ⟨w.heap.size, 2, none⟩) (Or.inl (by simp)) (.slice none 0 0)) (by intro k hk; have := HN.out k hk; simp; omega)
        simpa [XA.new] using h1
      · exact HF.out.set3 (Nat.le_refl _) _ _ _
end Go.Proofs.Ytphniphlflijeaa
