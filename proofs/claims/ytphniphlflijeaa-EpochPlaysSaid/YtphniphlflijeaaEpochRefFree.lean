/- THE DOCUMENT's ANSWERS FOR epoch: contract of Free -/
import Derived.Test.YtphniphlflijeaaEpochRefOps
import Derived.Deep.RegionLaw
namespace Go.Proofs.Ytphniphlflijeaa
open Go.RowKit
set_option linter.unusedVariables false
set_option linter.unusedSimpArgs false

def XA.freed (X : XA) : List Int := (X.row.filter (fun x => decide (x.2 + 2 ≤ X.ep))).map (·.1)
def XA.free (X : XA) : XA := { X with row := X.row.filter (fun x => !decide (x.2 + 2 ≤ X.ep)) }
/-- what Free leaves -/
def RefFreed (w : World) (X : XA) (e : Ending) (w' : World) : Prop :=
  ∃ V' v, e = .returned (.tuple #[V', v]) ∧ RefNext w V' X.free w' ∧ Lies w' 33 1 v X.freed.length (X.freed.map (Value.int .u64)) ∧ ∀ k, v.ownBlock = some k → w.heap.size ≤ k

/-- the loop of Free -/
structure RFrees (w wr : World) (X : XA) (iv rv : Value) (j : Nat) (v kv : Value) : Prop where
  box : wr.heap[w.heap.size]? = some (.cells #[iv, .int .i64 X.ep, rv] 29 (0, 0))
  res : wr.heap[w.heap.size + 1]? = some (.cells #[.slice none 0 0, .int .i64 0, .slice none 0 0] 29 (0, 0))
  out : wr.heap[w.heap.size + 1 + 1]? = some (.cells #[iv, .int .i64 X.ep, kv] 29 (0, 0))
  own : Lies wr 33 1 v (((X.row.take j).filter (fun x => decide (x.2 + 2 ≤ X.ep))).map (·.1)).length ((((X.row.take j).filter (fun x => decide (x.2 + 2 ≤ X.ep))).map (·.1)).map (Value.int .u64))
  keep : Lies wr 64 2 kv ((X.row.take j).filter (fun x => !decide (x.2 + 2 ≤ X.ep))).length (things ((X.row.take j).filter (fun x => !decide (x.2 + 2 ≤ X.ep))))
  vnew : ∀ k, v.ownBlock = some k → w.heap.size + 1 + 1 < k
  knew : ∀ k, kv.ownBlock = some k → w.heap.size + 1 + 1 < k
  sep : ∀ k, v.ownBlock = some k → kv.ownBlock = some k → False
  fr : Fr [] w wr

theorem lies_kind {w : World} {e e' : TypeId} {size size' n n' : Nat} {v v' : Value} {xs xs' : List Value} (h : Lies w e size v n xs) (h' : Lies w e' size' v' n' xs') (hne : e ≠ e') : ∀ k, v.ownBlock = some k → v'.ownBlock = some k → False := by
  intro k hk hk'
  rcases h.2 with ⟨rfl, _⟩ | ⟨g, off, cap, cur, rfl, hg, _⟩
  · cases hk
  · rcases h'.2 with ⟨rfl, _⟩ | ⟨g', off', cap', cur', rfl, hg', _⟩
    · cases hk'
    · cases hk; cases hk'
      rw [hg] at hg'
      simp at hg'
      exact hne hg'.2

theorem RFrees.old {w wr w2 : World} {X : XA} {iv rv v kv v2 : Value} {j : Nat} {x : Int × Int} (h : RFrees w wr X iv rv j v kv) (hx : X.row[j]? = some x) (ho : x.2 + 2 ≤ X.ep) {W : World} (hW : Fr [] wr W)
    (hl : Lies w2 33 1 v2 ((((X.row.take j).filter (fun x => decide (x.2 + 2 ≤ X.ep))).map (·.1)).length + 1) ((((X.row.take j).filter (fun x => decide (x.2 + 2 ≤ X.ep))).map (·.1)).map (Value.int .u64) ++ [.int .u64 x.1])) (hf : Fr v.ownBlock.toList W w2)
    (hn : ∀ k, v2.ownBlock = some k → v.ownBlock = some k ∨ k = W.heap.size) : RFrees w w2 X iv rv (j + 1) v2 kv := by
  have hni : ∀ k, k ≤ w.heap.size + 1 + 1 → k ∉ v.ownBlock.toList := by intro k hk hm; have := h.vnew k (by simpa using hm); omega
  have hlt := lt_of_block h.out
  have hWs := hW.size
  have htake : X.row.take (j + 1) = X.row.take j ++ [x] := by rw [List.take_add_one, hx]; rfl
  have hk2 := (h.keep.keep hW (by simp)).keep hf (by intro k hk hm; exact h.sep k (by simpa using hm) hk)
  refine ⟨hf.keep (hW.keep h.box (by simp)) (hni _ (by omega)), hf.keep (hW.keep h.res (by simp)) (hni _ (by omega)), hf.keep (hW.keep h.out (by simp)) (hni _ (by omega)), ?_, ?_, ?_, h.knew, ?_, (h.fr.trans hW (by simp)).trans hf (by intro k hk; have := h.vnew k (by simpa using hk); right; omega)⟩
  · rw [htake, List.filter_append, List.map_append, List.map_append]
    have : [x].filter (fun x => decide (x.2 + 2 ≤ X.ep)) = [x] := by simp [ho]
    rw [this]
    simpa using hl
  · rw [htake, List.filter_append]
    have : [x].filter (fun x => !decide (x.2 + 2 ≤ X.ep)) = [] := by simp [ho]
    rw [this, List.append_nil]
    exact hk2
  · intro k hk
    rcases hn k hk with h' | h'
    · exact h.vnew k h'
    · omega
  · exact lies_kind hl hk2 (by decide)
theorem RFrees.new {w wr w2 : World} {X : XA} {iv rv v kv k2 : Value} {j : Nat} {x : Int × Int} (h : RFrees w wr X iv rv j v kv) (hx : X.row[j]? = some x) (ho : ¬ x.2 + 2 ≤ X.ep) {W : World} (hW : Fr [] wr W) 
    (hl : Lies w2 64 2 k2 (((X.row.take j).filter (fun x => !decide (x.2 + 2 ≤ X.ep))).length + 1) (things ((X.row.take j).filter (fun x => !decide (x.2 + 2 ≤ X.ep))) ++ things [x])) (hf : Fr kv.ownBlock.toList W w2)
    (hn : ∀ k, k2.ownBlock = some k → kv.ownBlock = some k ∨ k = W.heap.size) : RFrees w (w2.setCell ⟨w.heap.size + 1 + 1, 2, none⟩ k2) X iv rv (j + 1) v k2 := by
  have hni : ∀ k, k ≤ w.heap.size + 1 + 1 → k ∉ kv.ownBlock.toList := by intro k hk hm; have := h.knew k (by simpa using hm); omega
  have hlt := lt_of_block h.out
  have hWs := hW.size
  have htake : X.row.take (j + 1) = X.row.take j ++ [x] := by rw [List.take_add_one, hx]; rfl
  have hk2 := (h.own.keep hW (by simp)).keep hf (by intro k hk hm; exact h.sep k hk (by simpa using hm))
  have hk2n : ∀ k, k2.ownBlock = some k → w.heap.size + 1 + 1 < k := by
    intro k hk
    rcases hn k hk with h' | h'
    · exact h.knew k h'
    · omega
  have h1 := hf.keep (hW.keep h.box (by simp)) (hni _ (by omega))
  have h2 := hf.keep (hW.keep h.res (by simp)) (hni _ (by omega))
  have h3 := hf.keep (hW.keep h.out (by simp)) (hni _ (by omega))
  refine ⟨set_other h1 (by omega) _ _, set_other h2 (by omega) _ _, by simpa using set_block h3 2 k2, ?_, ?_, h.vnew, hk2n, ?_, ((h.fr.trans hW (by simp)).trans hf (by intro k hk; have := h.knew k (by simpa using hk); right; omega)).setNew (by omega) _⟩
  · rw [htake, List.filter_append, List.map_append, List.map_append]
    have : [x].filter (fun x => decide (x.2 + 2 ≤ X.ep)) = [] := by simp [ho]
    rw [this]
    simp only [List.map_nil, List.append_nil, List.length_append, List.length_nil, Nat.add_zero]
    exact hk2.other _ (by intro e; have := h.vnew _ e; simp at this) _
  · rw [htake, List.filter_append]
    have : [x].filter (fun x => !decide (x.2 + 2 ≤ X.ep)) = [x] := by simp [ho]
    rw [this, things_app]
    have := hl.other ⟨w.heap.size + 1 + 1, 2, none⟩ (by intro e; have := hk2n _ e; simp at this) k2
    simpa using this
  · exact lies_kind hk2 hl (by decide)

set_option maxHeartbeats 4000000 in
theorem rfree_any (w : World) {V : Value} {X : XA} (h : RefS w V X) (hl : X.row.length ≤ 100000) (he0 : 0 ≤ X.ep) (he1 : X.ep ≤ 100000) (hrow : ∀ x ∈ X.row, 0 ≤ x.2 ∧ x.2 ≤ 100000) :
    Calls Try.prog 26 #[V] w (RefFreed w X) := by
  obtain ⟨iv, rv, rfl, h⟩ := h
  have HS0 := Lib.hid h
  obtain ⟨⟨ia, ic, rfl⟩, ⟨ra, rc, rfl⟩⟩ := h.forms
  have HROW := Lib.hid hrow
  unfold refAgg
  clear h hrow
  go_enter Try.func26, Try.ntmps26
  go_wp2_with fail
  go_loopw [5, 6] (fun v i wr => ∃ (j : Nat) (kv : Value), i = .int .i64 j ∧ j ≤ X.row.length ∧ RFrees w wr X (.slice ia X.inn.length ic) (.slice ra X.row.length rc) j v kv) (fun _ i _ => X.row.length - (intOf i).toNat)
  case atStart =>
    refine ⟨0, .slice none 0 0, rfl, Nat.zero_le _, ⟨?_, ?_, ?_, Lies.nil _ _ _, Lies.nil _ _ _, (by intro k hk; cases hk), (by intro k hk; cases hk), (by intro k hk; cases hk), (((Fr.refl _ _).alloc _).alloc _).alloc _⟩⟩
    · exact blk_alloc (blk_new2 _ _ _) _
    · have := new_block (w.alloc (.cells #[.slice ia X.inn.length ic, .int .i64 X.ep, .slice ra X.row.length rc] 29)) (.cells #[.slice none 0 0, .int .i64 0, .slice none 0 0] 29)
      exact blk_alloc (by simpa using this) _
    · have := new_block ((w.alloc (.cells #[.slice ia X.inn.length ic, .int .i64 X.ep, .slice ra X.row.length rc] 29)).alloc (.cells #[.slice none 0 0, .int .i64 0, .slice none 0 0] 29)) (.cells #[.slice ia X.inn.length ic, .int .i64 X.ep, .slice none 0 0] 29)
      simpa using this
  case round =>
    obtain ⟨j, kv, rfl, hj, hR⟩ := hrel
    obtain ⟨a0, a1, a2, af⟩ := cells3 hR.box
    obtain ⟨b0, b1, b2, bf⟩ := cells3 hR.res
    obtain ⟨e0, e1, e2, ef⟩ := cells3 hR.out
    have bf0 := bf 0
    have bf1 := bf 1
    have bf2 := bf 2
    have ef2 := ef 2
    have lC := lt_of_block hR.out
    have lA : w.heap.size < wr.heap.size := by omega
    have lB : w.heap.size + 1 < wr.heap.size := by omega
    have HR := Lib.hid hR
    by_cases hlt : j < X.row.length
    · have t1 : decide ((j : Int) < X.row.length) = true := by simpa using hlt
      obtain ⟨⟨x, s⟩, hx⟩ : ∃ x, X.row[j]? = some x := ⟨_, List.getElem?_eq_getElem hlt⟩
      have hxb := HROW.out _ (List.mem_of_getElem? hx)
      simp only at hxb
      obtain ⟨s0, s1⟩ := hxb
      have hwrap : IntKind.i64.wrap (s + 2) = s + 2 := IntWalk.i64_in _ ⟨by omega, by omega⟩
      obtain ⟨r0, r1⟩ := things_at _ _ _ _ hx
      obtain ⟨g, off, c, hv, hg, hc, hcells⟩ := (HS0.out.row.keep hR.fr (by simp)).here (by omega)
      cases hv
      obtain ⟨d0, _⟩ := hcells (j * 2) (by omega)
      obtain ⟨d1, _⟩ := hcells (j * 2 + 1) (by omega)
      rw [r0] at d0
      rw [r1] at d1
      have d1' : wr.cell? ⟨g, off + j * 2 + 1, none⟩ = some (.int .i64 s) := by rw [Nat.add_assoc]; exact d1
      have hglt : g < w.heap.size := HS0.out.row.lt g rfl
      have hg0 : ¬ g = wr.heap.size := by omega
      have hg1 : ¬ g = w.heap.size + 1 + 1 := by omega
      have hg2 : ¬ wr.heap.size = g := by omega
      have hg3 : ¬ w.heap.size + 1 + 1 = g := by omega
      have n7 : ¬ w.heap.size = w.heap.size + 1 + 1 := by omega
      have n8 : ¬ w.heap.size + 1 + 1 = w.heap.size := by omega
      have n9 : ¬ w.heap.size + 1 + 1 = wr.heap.size := by omega
      have n10 : ¬ wr.heap.size = w.heap.size + 1 + 1 := by omega
      have n11 : ¬ w.heap.size = wr.heap.size := by omega
      have n12 : ¬ wr.heap.size = w.heap.size := by omega
      have n13 : ∀ k o, ((wr.drewN k).alloc o).cell? ⟨w.heap.size + 1 + 1, 2, none⟩ = some kv := fun k o => (((Fr.refl [] wr).drewN k).alloc o).cell e2 (by simp)
      have n14 : ∀ k o, ((wr.drewN k).alloc o).cell? ⟨w.heap.size, 2, none⟩ = some (.slice (some ⟨g, off, none⟩) X.row.length rc) := fun k o => (((Fr.refl [] wr).drewN k).alloc o).cell a2 (by simp)
      have HX := Lib.hid hx
      have hlf := List.length_filter_le (fun x : Int × Int => decide (x.2 + 2 ≤ X.ep)) (X.row.take j)
      have hlf2 := List.length_filter_le (fun x : Int × Int => !decide (x.2 + 2 ≤ X.ep)) (X.row.take j)
      rw [List.length_take] at hlf hlf2
      have HLF := Lib.hid hlf
      have HLF2 := Lib.hid hlf2
      clear hR hx r0 r1 hcells d1 af bf ef hlf hlf2
      by_cases hs : s + 2 ≤ X.ep
      · have t2 : decide (s + 2 ≤ X.ep) = true := by simpa using hs
        have HS := Lib.hid hs
        clear hs
        go_wp2_with fail
        go_quiet (fail)
        go_wp2_with (at_builtin; refine go_stop ?_)
        unfold Stop
        have hW : ∀ o n, Fr [] wr ((wr.alloc o).drewN n) := fun o n => ((Fr.refl [] wr).alloc _).drewN _
        refine wpList_append_any rfl (.tmp 26) (.tmp 33) 39 33 (.int .u64 0) 1 8 rfl ru64_slice ru64_info rfl (by decide) u5 _ _ rfl (HR.out.own.keep (hW _ _) (by simp)) _ 1 [.int .u64 x] rfl ((lies_one wr 33 (.int .u64 x) _ rfl).keep ((Fr.refl [] _).drewN _) (by simp)) (one_int _ _) (by have := HLF.out; rw [List.length_map]; unfold maxLen; omega) (by have := HLF.out; rw [List.length_map]; omega) ?app
        case app =>
        intro v2 w2 ho2 hf2 hn2
        have HS2 := Lib.hid (HR.out.old HX.out HS.out (hW _ _) ho2 hf2 hn2)
        clear ho2 hf2 hn2 hW
        go_wp2
        go_roundw
        case rel => exact ⟨j + 1, kv, by go_num, by omega, HS2.out⟩
        case measure => simp [intOf]; omega
      · have t2 : decide (s + 2 ≤ X.ep) = false := by simpa using hs
        have HS := Lib.hid hs
        clear hs
        go_wp2_with fail
        go_quiet (fail)
        go_wp2_with fail
        have hW : ∀ o n, Fr [] wr ((wr.alloc o).drewN n) := fun o n => ((Fr.refl [] wr).alloc _).drewN _
        have HW := Lib.hid hW
        clear hW
        have HW2 : Hid (∀ o n, Fr [] wr ((wr.drewN n).alloc o)) := Lib.hid (fun o n => ((Fr.refl [] wr).drewN _).alloc _)
        go_region_law
          ((refine step_append_any (by rfl) (.tmp 36) (.tmp 42) 27 64 (.agg #[.int .u64 0, .int .i64 0]) 2 16 (by rfl) thing_slice thing_info rfl (by decide) kv _ _ (by rfl) (HR.out.keep.keep (by first | exact HW2.out _ _ | exact HW.out _ _ | exact (HW.out _ _).drew | exact (HW.out _ _).drewN _) (by simp)) _ 1 (things [(x, s)]) (by rfl) ((lies_thing wr (x, s) _ rfl).keep (by first | exact (Fr.refl [] _).drewN _ | exact ((Fr.refl [] _).drewN _).drew | exact ((Fr.refl [] _).drewN _).drewN _) (by simp)) (things_one _) (by have := HLF2.out; unfold maxLen; omega) (by have := HLF2.out; omega) ?_
            intro v2 w2 ho2 hf2 hn2
            obtain ⟨s4, c4, hv4, _⟩ := ho2.form
            subst hv4
            have HS2 := Lib.hid (HR.out.new HX.out (Int.not_le.2 HS.out) (by first | exact HW2.out _ _ | exact HW.out _ _ | exact (HW.out _ _).drew | exact (HW.out _ _).drewN _) ho2 hf2 hn2)
            have hni : ∀ k, k ≤ w.heap.size + 1 + 1 → k ∉ kv.ownBlock.toList := by intro k hk hm; have := HR.out.knew k (by simpa using hm); omega
            have f1 : Fr kv.ownBlock.toList wr w2 := Fr.trans (Fr.mono (S := []) (T := kv.ownBlock.toList) (by first | exact HW2.out _ _ | exact HW.out _ _ | exact (HW.out _ _).drew | exact (HW.out _ _).drewN _) (by simp)) hf2 (fun k hk => Or.inl hk)
            have f2 := f1.cell a2 (hni _ (by simp; omega))
            have f3 := f1.cell d0 (hni _ (by simp; omega))
            have f4 := f1.cell d1' (hni _ (by simp; omega))
            have f5 := f1.cell e2 (hni _ (by simp))
            have f6 := free_block (f1.keep HR.out.out (hni _ (by omega))) 2
            clear ho2 hf2 hn2 hni f1))
        all_goals go_wp2
        all_goals go_roundw
        all_goals try (case rel => exact ⟨j + 1, _, by go_num, by omega, HS2.out⟩)
        all_goals try (case measure => simp [intOf]; omega)
    · obtain rfl : j = X.row.length := by omega
      have t1 : decide ((X.row.length : Int) < X.row.length) = false := by simp
      have hown := hR.own
      have hkeep := hR.keep
      rw [List.take_length] at hown hkeep
      obtain ⟨vs, vc, rfl, _⟩ := hown.form
      obtain ⟨ks, kc, rfl, _⟩ := hkeep.form
      have HOWN := Lib.hid hown
      have HKEEP := Lib.hid hkeep
      clear hR hown hkeep af bf ef
      go_wp2
      refine bodyPost_ret (v := .tuple #[refAgg (.slice ia X.inn.length ic) (.slice ks X.free.row.length kc) X.ep, .slice vs X.freed.length vc]) (by simp [refAgg, XA.free, XA.freed, results, Try.results26, go_sem, *]) rfl ⟨_, _, rfl, ?_⟩
      have hE : Fr [] w (((wr.setCell ⟨w.heap.size + 1, 0, none⟩ (.slice ia X.inn.length ic)).setCell ⟨w.heap.size + 1, 1, none⟩ (.int .i64 X.ep)).setCell ⟨w.heap.size + 1, 2, none⟩ (.slice ks (X.row.filter (fun x => !decide (x.2 + 2 ≤ X.ep))).length kc)) := HR.out.fr.set3 (by omega) _ _ _
      have hx := ((Fr.refl [w.heap.size + 1] wr).setCell (p := ⟨w.heap.size + 1, 0, none⟩) (Or.inl (by simp)) (.slice ia X.inn.length ic) |>.setCell (p := ⟨w.heap.size + 1, 1, none⟩) (Or.inl (by simp)) (.int .i64 X.ep) |>.setCell (p := ⟨w.heap.size + 1, 2, none⟩) (Or.inl (by simp)) (.slice ks (X.row.filter (fun x => !decide (x.2 + 2 ≤ X.ep))).length kc))
      refine ⟨⟨⟨_, _, rfl, HS0.out.ins.keep hE (by simp), HKEEP.out.keep hx (by intro k hk; have := HR.out.knew k hk; simp; omega)⟩, hE⟩, HOWN.out.keep hx (by intro k hk; have := HR.out.vnew k hk; simp; omega), fun k hk => by have := HR.out.vnew k hk; omega⟩
end Go.Proofs.Ytphniphlflijeaa
