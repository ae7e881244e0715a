/- THE LAWS OF hist: ran: its contract -/
import Derived.Test.YtpahencocbahgaaHistDo1
namespace Go.Proofs.Ytpahencocbahgaa
open Go.RowKit
set_option linter.unusedVariables false
set_option linter.unusedSimpArgs false

def runH (l : List Dd) : HA := l.foldl (fun H d => stepH H d.kind d.ops d.rev) HA.zero
theorem runH_snoc {l : List Dd} {j : Nat} {d : Dd} (hx : l[j]? = some d) : runH (l.take (j + 1)) = stepH (runH (l.take j)) d.kind d.ops d.rev := by
  unfold runH
  rw [take_snoc hx, List.foldl_append]; rfl
theorem runH_ok (l : List Dd) (h : ∀ d ∈ l, d.ops.length ≤ 8) : ∀ j, j ≤ l.length → HOk (runH (l.take j)) j
  | 0, _ => HOk.zero
  | j + 1, hj => by
    have hx : l[j]? = some l[j] := List.getElem?_eq_getElem (by omega)
    rw [runH_snoc hx]
    exact stepH_ok (runH_ok l h j (by omega)) (h _ (List.getElem_mem _))
theorem LFar.of_oldw {α : Type} {cs : α → List Value} {sz : Nat} {S : List Nat} {w w' : World} {v : Value} {l : List α} (h : LIn cs sz w v l) (hf : Fr [] w w') (hS : ∀ k ∈ S, w.heap.size ≤ k) : LFar S cs sz w' v l := (LFar.of_old h hS).keep0 hf
theorem grow_two {a : Nat} {S : List Nat} {w : World} {v : Value} {rows : List (List Ev)} (h : RowsF (a :: S) w v rows) : RowsF ([a, w.heap.size] ++ S) w v rows := h.grow (fun k hk => by
  rcases List.mem_cons.1 hk with rfl | hk
  · exact Or.inl (by simp)
  · rcases List.mem_cons.1 hk with rfl | hk
    · exact Or.inr (Nat.le_refl _)
    · exact Or.inl (List.mem_cons_of_mem _ hk))
/-- what the next round begins with -/
theorem ran_close {w w1 wr wx w2 W : World} {p j : Nat} {S S2 T : List Nat} {l : List Dd} {d : Dd} {rv2 : Value} {rows2 : List (List Ev)} {hor2 : Int} (hn : j < l.length) (hd : l[j]? = some d)
    (HSS : ∀ k ∈ S, w.heap.size ≤ k ∧ k ≠ w1.heap.size) (HF : Fr [] w wr) (hlt : w1.heap.size < wr.heap.size) (HFA : Fr S wr w2) (hg : Grow S S2 wx) (hx : wr.heap.size ≤ wx.heap.size) (HS2 : Hs w2 p S2 (stepH (runH (l.take j)) d.kind d.ops d.rev))
    (HR2 : RowsF (T ++ S2) w2 rv2 rows2) (HX2 : XOk rows2 (j + 1)) (hset : Fr T w2 W) (hT : w1.heap.size ∈ T) (hTn : ∀ k ∈ T, k ∉ S2 ∧ w.heap.size ≤ k)
    (hb : W.heap[w1.heap.size]? = some (.cells #[rv2, .int .i64 hor2] 36 (0, 0))) :
    ∃ (j' : Nat) (S : List Nat) (rv : Value) (rows : List (List Ev)) (hor : Int), Value.int .i64 ((j : Int) + 1) = .int .i64 j' ∧ j' ≤ l.length ∧ Hs W p S (runH (l.take j')) ∧ W.heap[w1.heap.size]? = some (.cells #[rv, .int .i64 hor] 36 (0, 0)) ∧ RowsF (w1.heap.size :: S) W rv rows ∧ XOk rows j' ∧ (∀ k ∈ S, w.heap.size ≤ k ∧ k ≠ w1.heap.size) ∧ Fr [] w W := by
  have hws := HF.size
  refine ⟨j + 1, S2, rv2, rows2, hor2, by go_num, by omega, ?_, hb, ?_, HX2, ?_, ?_⟩
  · rw [runH_snoc hd]; exact HS2.keep hset (fun k hk hm => (hTn k hm).1 hk)
  · refine (HR2.keep (hset.mono (fun k hk => Or.inl (List.mem_append_left _ hk)))).grow (fun k hk => Or.inl ?_)
    rcases List.mem_cons.1 hk with rfl | hk
    · exact List.mem_append_left _ hT
    · exact List.mem_append_right _ hk
  · intro k hk
    rcases hg k hk with h1 | h1
    · exact HSS k h1
    · exact ⟨by omega, by omega⟩
  · exact (HF.trans HFA (fun k hk => Or.inr (HSS k hk).1)).trans hset (fun k hk => Or.inr (hTn k hk).2)
set_option maxHeartbeats 4000000 in
theorem hran_any (lv : Value) (l : List Dd) (w : World) (hl : DdIn w lv l) (h30 : l.length ≤ 30) (h8 : ∀ d ∈ l, d.ops.length ≤ 8) : Calls Try.prog 9 #[lv] w fun e w' =>
    ∃ p S, e = .returned (.pointer (some ⟨p, 0, none⟩)) ∧ Hs w' p S (runH l) ∧ Fr [] w w' ∧ ∀ k ∈ S, w.heap.size ≤ k := by
  obtain ⟨s1, c1, rfl, la, ma⟩ := hl.form
  unfold maxLen at ma
  have HL := Lib.hid hl
  have H8 := Lib.hid h8
  clear hl h8
  go_enter Try.func9, Try.ntmps9
  go_wp2_with (go_at_call 20; refine (hist_new _).mono ?_; rintro e w1 ⟨p, S0, rfl, h1, h2, h3⟩; refine go_stop ?_)
  unfold Stop
  have HS0 := Lib.hid h1
  have HF0 := Lib.hid h2
  have HG0 := Lib.hid h3
  clear h1 h2 h3
  have HX : Hid ((w1.alloc (.cells #[.slice none 0 0, .int .i64 0] 36)).heap[w1.heap.size]? = some (.cells #[.slice none 0 0, .int .i64 0] 36 (0, 0))) := Lib.hid (new_block w1 _)
  go_wp2_with fail
  go_loopw [5] (fun i wr => ∃ (j : Nat) (S : List Nat) (rv : Value) (rows : List (List Ev)) (hor : Int), i = .int .i64 j ∧ j ≤ l.length ∧ Hs wr p S (runH (l.take j)) ∧ wr.heap[w1.heap.size]? = some (.cells #[rv, .int .i64 hor] 36 (0, 0)) ∧ RowsF (w1.heap.size :: S) wr rv rows ∧ XOk rows j ∧ (∀ k ∈ S, w.heap.size ≤ k ∧ k ≠ w1.heap.size) ∧ Fr [] w wr) (fun i _ => l.length - (intOf i).toNat)
  case atStart => exact ⟨0, S0, .slice none 0 0, [], 0, rfl, Nat.zero_le _, HS0.out.keep ((Fr.refl [] _).alloc _) (by simp), HX.out, RowsF.nil _ _, XOk.nil _, fun k hk => ⟨HG0.out k hk, by have := HS0.out.lt k hk; omega⟩, HF0.out.alloc _⟩
  case round =>
    obtain ⟨j, S, rv, rows, hor, rfl, hj, hs, hb, hr, hx, hS, hf⟩ := hrel
    obtain ⟨srv, crv, rfl, _, _⟩ := hr.form
    have HS := Lib.hid hs
    have HB := Lib.hid hb
    have HR := Lib.hid hr
    have HXX := Lib.hid hx
    have HSS := Lib.hid hS
    have HF := Lib.hid hf
    clear hs hb hr hx hS hf
    by_cases h : j < l.length
    · have t1 : decide ((j : Int) < (l.length : Int)) = true := by simp; omega
      obtain ⟨d, hd⟩ : ∃ d, l[j]? = some d := ⟨_, List.getElem?_eq_getElem h⟩
      obtain ⟨g, off, d1, e1, hg, l1, k1⟩ := DdIn.here HL.out (by omega)
      cases e1
      obtain ⟨p0, p1, p2, po⟩ := k1 j d hd
      replace p0 := HF.out.cell p0 (by simp)
      replace p1 := HF.out.cell p1 (by simp)
      replace p2 := HF.out.cell p2 (by simp)
      have HO := Lib.hid (LFar.of_oldw po HF.out (fun k hk => (HSS.out k hk).1))
      have HD := Lib.hid hd
      have HOK := Lib.hid (runH_ok l H8.out j hj)
      have HO8 := Lib.hid (H8.out d (List.mem_of_getElem? hd))
      obtain ⟨b0, b1, bf⟩ := cells2 HB.out
      have bf0 := bf 0
      have bf1 := bf 1
      have HGN : Hid (g ∉ S ∧ w1.heap.size ∉ S ∧ w1.heap.size < wr.heap.size) := Lib.hid ⟨fun hm => by have := (HSS.out g hm).1; omega, fun hm => (HSS.out _ hm).2 rfl, lt_of_block HB.out⟩
      obtain ⟨su, cu, hu, _, _⟩ := po.form
      rw [hu] at p1
      rw [hu] at HO
      have HWN : Hid (wr.heap.size ∉ S) := Lib.hid (fun hm => by have := HS.out.lt _ hm; omega)
      have hwsz := HF.out.size
      have hw1 := HGN.out.2.2
      have n1 : ¬ w1.heap.size = wr.heap.size := by omega
      have n2 : ¬ wr.heap.size = w1.heap.size := by omega
      have n3 : ¬ g = wr.heap.size := by omega
      have n4 : ¬ wr.heap.size = g := by omega
      clear hd k1 po bf hu
      go_wp2_with fail
      go_region_held3 (fun w' => w'.cell? ⟨w1.heap.size, 0, none⟩ = some (.slice srv rows.length crv) ∧ w'.cell? ⟨w1.heap.size, 1, none⟩ = some (.int .i64 hor) ∧ w'.cell? ⟨g, off + j * 3, none⟩ = some (.int .i64 d.kind) ∧ w'.cell? ⟨g, off + j * 3 + 1, none⟩ = some (.slice su d.ops.length cu) ∧ w'.cell? ⟨g, off + j * 3 + 2, none⟩ = some (.int .i64 d.rev)) (go_keep) (first
        | (go_at_call 12; refine (hdo_any (n := j) (HS.out.keep (T := []) (by repeat (first | (with_reducible exact Fr.refl _ _) | (with_reducible refine Fr.drew ?_) | (with_reducible refine Fr.alloc ?_ _))) (by simp)) HOK.out (by omega) _ rows hor [w1.heap.size, wr.heap.size] (by intro k hk; simp at hk ⊢; omega) ((grow_two HR.out).keep0 (by repeat (first | (with_reducible exact Fr.refl _ _) | (with_reducible refine Fr.drew ?_) | (with_reducible refine Fr.alloc ?_ _)))) HXX.out d.kind d.rev _ d.ops (HO.out.keep0 (by repeat (first | (with_reducible exact Fr.refl _ _) | (with_reducible refine Fr.drew ?_) | (with_reducible refine Fr.alloc ?_ _)))) HO8.out).mono ?_; rintro e w2 ⟨rv2, rows2, hor2, b2, S2, rfl, h1, h2, h3, h4, h5⟩; have hfa : Fr S wr w2 := Fr.trans (b := _) (by repeat (first | (with_reducible exact Fr.refl _ _) | (with_reducible refine Fr.drew ?_) | (with_reducible refine Fr.alloc ?_ _))) h4 (fun x hx => Or.inl hx); have z0 := hfa.cell b0 HGN.out.2.1; have z1 := hfa.cell b1 HGN.out.2.1; have z2 := hfa.cell p0 HGN.out.1; have z3 := hfa.cell p1 HGN.out.1; have z4 := hfa.cell p2 HGN.out.1; have HFA := Lib.hid hfa; have m0 := hfa.size; have m1 : ¬ w1.heap.size = w2.heap.size := (by omega); have m2 : ¬ w2.heap.size = w1.heap.size := (by omega); have m3 : ¬ g = w2.heap.size := (by omega); have m4 : ¬ w2.heap.size = g := (by omega); have m5 : w1.heap.size < w2.heap.size := (by omega); clear m0; (first | (obtain ⟨y0, y1, yf⟩ := cells2 (Fr.keep h4 (show ((wr.alloc (.cells #[.slice none 0 0, .int .i64 0] 36)).drew).heap[wr.heap.size]? = some (.cells #[.slice none 0 0, .int .i64 0] 36 (0, 0)) from new_block wr _) HWN.out); have yf0 := yf 0; have yf1 := yf 1; clear yf) | skip); obtain ⟨sr2, cr2, rfl, _, _⟩ := h1.form; have HR2 := Lib.hid h1; have HX2 := Lib.hid h2; have HS2 := Lib.hid h3; have HG2 := Lib.hid (h5 : Grow S S2 _); clear h1 h2 h3 h4 h5 hfa)
        | (go_at_call 12; refine (hdo_any (n := j) (HS.out.keep (T := []) (by repeat (first | (with_reducible exact Fr.refl _ _) | (with_reducible refine Fr.drew ?_) | (with_reducible refine Fr.alloc ?_ _))) (by simp)) HOK.out (by omega) _ rows hor [w1.heap.size] (by intro k hk; simp at hk ⊢; omega) (HR.out.keep0 (by repeat (first | (with_reducible exact Fr.refl _ _) | (with_reducible refine Fr.drew ?_) | (with_reducible refine Fr.alloc ?_ _)))) HXX.out d.kind d.rev _ d.ops (HO.out.keep0 (by repeat (first | (with_reducible exact Fr.refl _ _) | (with_reducible refine Fr.drew ?_) | (with_reducible refine Fr.alloc ?_ _)))) HO8.out).mono ?_; rintro e w2 ⟨rv2, rows2, hor2, b2, S2, rfl, h1, h2, h3, h4, h5⟩; have hfa : Fr S wr w2 := Fr.trans (b := _) (by repeat (first | (with_reducible exact Fr.refl _ _) | (with_reducible refine Fr.drew ?_) | (with_reducible refine Fr.alloc ?_ _))) h4 (fun x hx => Or.inl hx); have z0 := hfa.cell b0 HGN.out.2.1; have z1 := hfa.cell b1 HGN.out.2.1; have z2 := hfa.cell p0 HGN.out.1; have z3 := hfa.cell p1 HGN.out.1; have z4 := hfa.cell p2 HGN.out.1; have HFA := Lib.hid hfa; have m0 := hfa.size; have m1 : ¬ w1.heap.size = w2.heap.size := (by omega); have m2 : ¬ w2.heap.size = w1.heap.size := (by omega); have m3 : ¬ g = w2.heap.size := (by omega); have m4 : ¬ w2.heap.size = g := (by omega); have m5 : w1.heap.size < w2.heap.size := (by omega); clear m0; (first | (obtain ⟨y0, y1, yf⟩ := cells2 (Fr.keep h4 (show ((wr.alloc (.cells #[.slice none 0 0, .int .i64 0] 36)).drew).heap[wr.heap.size]? = some (.cells #[.slice none 0 0, .int .i64 0] 36 (0, 0)) from new_block wr _) HWN.out); have yf0 := yf 0; have yf1 := yf 1; clear yf) | skip); obtain ⟨sr2, cr2, rfl, _, _⟩ := h1.form; have HR2 := Lib.hid h1; have HX2 := Lib.hid h2; have HS2 := Lib.hid h3; have HG2 := Lib.hid (h5 : Grow S S2 _); clear h1 h2 h3 h4 h5 hfa))
      all_goals
        obtain ⟨f0, f1, ff⟩ := cells2 (HFA.out.keep HB.out HGN.out.2.1)
        have ff0 := ff 0
        have ff1 := ff 1
        clear ff
        go_wp2_with fail
        go_roundw
      case rel =>
        have hset : Fr [w1.heap.size] w2 (((w2.setCell ⟨w1.heap.size, 0, none⟩ (.slice sr2 rows2.length cr2)).setCell ⟨w1.heap.size, 1, none⟩ (.int .i64 hor2)).alloc (.cells #[.slice sr2 rows2.length cr2, .int .i64 hor2] 36)) := (((Fr.refl _ w2).setCell (p := ⟨w1.heap.size, 0, none⟩) (Or.inl (by simp)) _).setCell (p := ⟨w1.heap.size, 1, none⟩) (Or.inl (by simp)) _).alloc _
        refine ran_close h HD.out HSS.out HF.out HGN.out.2.2 HFA.out HG2.out (by simp) HS2.out HR2.out HX2.out hset (by simp) ?_ (blk_alloc (by have := set_block (set_block (HFA.out.keep HB.out HGN.out.2.1) 0 (.slice sr2 rows2.length cr2)) 1 (.int .i64 hor2); simpa using this) _)
        intro k hk
        simp only [List.mem_singleton] at hk
        subst hk
        refine ⟨fun hm => ?_, by have := HF0.out.size; omega⟩
        rcases HG2.out _ hm with h6 | h6
        · exact HGN.out.2.1 h6
        · simp at h6; omega
      case measure => simp [intOf]; omega
      case rel =>
        have hset : Fr [w1.heap.size, wr.heap.size] w2 ((((w2.setCell ⟨wr.heap.size, 0, none⟩ (.slice sr2 rows2.length cr2)).setCell ⟨wr.heap.size, 1, none⟩ (.int .i64 hor2)).setCell ⟨w1.heap.size, 0, none⟩ (.slice sr2 rows2.length cr2)).setCell ⟨w1.heap.size, 1, none⟩ (.int .i64 hor2)) := ((((Fr.refl _ w2).setCell (p := ⟨wr.heap.size, 0, none⟩) (Or.inl (by simp)) _).setCell (p := ⟨wr.heap.size, 1, none⟩) (Or.inl (by simp)) _).setCell (p := ⟨w1.heap.size, 0, none⟩) (Or.inl (by simp)) _).setCell (p := ⟨w1.heap.size, 1, none⟩) (Or.inl (by simp)) _
        refine ran_close h HD.out HSS.out HF.out HGN.out.2.2 HFA.out HG2.out (by simp) HS2.out HR2.out HX2.out hset (by simp) ?_ (by have := set_block (set_block (set_other (set_other (HFA.out.keep HB.out HGN.out.2.1) n1 0 (.slice sr2 rows2.length cr2)) n1 1 (.int .i64 hor2)) 0 (.slice sr2 rows2.length cr2)) 1 (.int .i64 hor2); simpa using this)
        intro k hk
        simp only [List.mem_cons, List.not_mem_nil, or_false] at hk
        rcases hk with rfl | rfl
        · refine ⟨fun hm => ?_, by have := HF0.out.size; omega⟩
          rcases HG2.out _ hm with h6 | h6
          · exact HGN.out.2.1 h6
          · simp at h6; omega
        · refine ⟨fun hm => ?_, hwsz⟩
          rcases HG2.out _ hm with h6 | h6
          · exact HWN.out h6
          · simp at h6; omega
      case measure => simp [intOf]; omega
    · have t1 : decide ((j : Int) < (l.length : Int)) = false := by simp; omega
      have hjl : l.take j = l := List.take_of_length_le (by omega)
      have HS2 := HS.out
      rw [hjl] at HS2
      have HS3 := Lib.hid HS2
      clear hjl HS2
      go_wp2_with fail
      go_ret
      exact ⟨p, S, rfl, HS3.out, HF.out, fun k hk => (HSS.out k hk).1⟩
end Go.Proofs.Ytpahencocbahgaa
