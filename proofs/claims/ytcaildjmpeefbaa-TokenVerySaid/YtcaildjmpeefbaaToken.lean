/- PACKAGE token: parts joined, Put, Take -/
import Derived.Test.YtcaildjmpeefbaaTokP
import Derived.Test.YtcaildjmpeefbaaShelf
namespace Go.Proofs.Ytcaildjmpeefbaa
open Go.RowKit
set_option linter.unusedVariables false
set_option linter.unusedSimpArgs false

theorem join_flat : ∀ l : List Bs, Lib.join l [] = l.flatten := by
  intro l
  cases l with
  | nil => rfl
  | cons x r => 
    induction r generalizing x with
    | nil => simp [Lib.join]
    | cons y t ih => 
      have h1 : Lib.join (x :: y :: t) [] = x ++ ([] ++ Lib.join (y :: t) []) := by simp [Lib.join]
      rw [h1, ih y]; simp
/-- parts joined -/
theorem tok_join (bk c : Nat) (xs : List ByteArray) (w : World) (hcells : ∀ (j : Nat) x, xs[j]? = some x → w.cell? ⟨bk, j, none⟩ = some (.string x)) (hbk : bk < w.heap.size) (hN : xs.length ≤ 1000) (hcap : xs.length ≤ c)
    (hlen : (xs.map (·.data.toList)).flatten.length ≤ 140737488355328) : Calls Try.prog 19 #[.slice (some ⟨bk, 0, none⟩) xs.length c] w fun e w' => e = .returned (.string ⟨(xs.map (·.data.toList)).flatten.toArray⟩) ∧ Fr [] w w' := by
  go_enter Try.func19, Try.ntmps19
  go_wp2_with (go_at_call 28; refine go_stop ?_)
  unfold Stop
  refine (Try.strings_Join bk 0 c xs ⟨#[]⟩ w (by simpa using hcells) hbk (by omega) hcap (by show (Lib.join _ []).length ≤ _; rw [join_flat]; exact hlen)).mono ?_
  rintro e w1 ⟨rfl, h1⟩
  have HE : Hid (Lib.join (xs.map (·.data.toList)) (⟨#[]⟩ : ByteArray).data.toList = (xs.map (·.data.toList)).flatten) := Lib.hid (join_flat _)
  rw [HE.out]
  dsimp only
  go_wp2
  go_ret
  exact ⟨rfl, Fr.of_below h1⟩
theorem par_size (s : ByteArray) (hs : s.size ≤ 1000000) : (parRes s.toList).1.f.size ≤ maxLen ∧ (parRes s.toList).1.t.size ≤ maxLen := by
  unfold maxLen
  have hl := tk_len s
  rcases hx : s.toList with _ | ⟨a, _ | ⟨b, _ | ⟨c, r⟩⟩⟩
  · exact ⟨by show (0 : Nat) ≤ _; omega, by show (0 : Nat) ≤ _; omega⟩
  · exact ⟨by show (0 : Nat) ≤ _; omega, by show (0 : Nat) ≤ _; omega⟩
  · exact ⟨by show (0 : Nat) ≤ _; omega, by show (0 : Nat) ≤ _; omega⟩
  · rw [hx] at hl
    simp at hl
    by_cases h : a = 119 ∨ a = 111
    · rw [par_yes a b c r h]
      have h1 := cntR_len r
      have h2 := cntR_len (cntR r)
      simp only [parV, size_tkBa]
      omega
    · rw [par_no a b c r (fun k => h (Or.inl k)) (fun k => h (Or.inr k))]
      exact ⟨by show (0 : Nat) ≤ _; omega, by show (0 : Nat) ≤ _; omega⟩
set_option maxHeartbeats 1000000 in
theorem tok_take (s : ByteArray) (w : World) (hs : s.size ≤ 1000000) : Calls Try.prog 15 #[.string s] w fun e w' => e = .returned (takeV (takeT s.toList)) ∧ Fr [] w w' := by
  have HT : Hid (takeT s.toList = if (parRes s.toList).2 = true ∧ mayT (parRes s.toList).1 = true then some (parRes s.toList).1 else none) := Lib.hid (by rw [← takeP_eq, takeP_res])
  go_enter Try.func15, Try.ntmps15
  have HB := Lib.hid (new_block w (.cells #[.string ⟨#[]⟩, .string ⟨#[]⟩, .int .i64 0, .bool false] 28))
  have HF := Lib.hid ((Fr.refl [] w).alloc (.cells #[.string ⟨#[]⟩, .string ⟨#[]⟩, .int .i64 0, .bool false] 28))
  go_wp2_with (go_at_call 23; refine go_stop ?_)
  unfold Stop
  generalize w.alloc (.cells #[.string ⟨#[]⟩, .string ⟨#[]⟩, .int .i64 0, .bool false] 28) = w0 at *
  refine (tok_parse s _ hs).mono ?_
  rintro e w1 ⟨rfl, h1⟩
  dsimp only
  replace HB := Lib.hid (h1.keep HB.out (by simp))
  replace HF := Lib.hid (HF.out.trans h1 (by simp))
  clear h1
  obtain ⟨t0, t1, t2, t3, tf⟩ := cells4 HB.out
  have tf0 := tf 0
  have tf1 := tf 1
  have tf2 := tf 2
  have tf3 := tf 3
  have hlt := lt_of_block HB.out
  have n1 : ¬ w1.heap.size = w.heap.size := by omega
  have n2 : ¬ w.heap.size = w1.heap.size := by omega
  obtain ⟨hz1, hz2⟩ := par_size s hs
  generalize hpr : parRes s.toList = pr at *
  obtain ⟨U, ok⟩ := pr
  clear hpr
  unfold tkVal
  dsimp only at *
  cases ok
  · have HN : Hid (takeT s.toList = none) := Lib.hid (by rw [HT.out]; simp)
    clear HT
    go_wp2
    refine bodyPost_ret (v := .tuple #[.agg #[.string ⟨#[]⟩, .string ⟨#[]⟩, .int .i64 0, .bool false], .int .i64 2]) (by simp [results, Try.results15, go_sem, *]) rfl ⟨by rw [HN.out]; rfl, (HF.out.set4 (Nat.le_refl _) _ _ _ _).alloc _⟩
  · go_wp2_with (go_at_call 10; refine go_stop ?_)
    unfold Stop
    refine (tok_may U _ hz1 hz2).mono ?_
    rintro e w2 ⟨rfl, h2⟩
    dsimp only
    have HB1 := ((Fr.refl [] _).alloc (.cells #[.string U.f, .string U.t, .int .i64 U.next, .bool U.once] 28)).keep HB.out (by simp)
    have HC1 := new_block w1 (.cells #[.string U.f, .string U.t, .int .i64 U.next, .bool U.once] 28)
    replace HB := Lib.hid (h2.keep HB1 (by simp))
    have HC := Lib.hid (h2.keep HC1 (by simp))
    replace HF := Lib.hid ((HF.out.alloc (.cells #[.string U.f, .string U.t, .int .i64 U.next, .bool U.once] 28)).trans h2 (by simp))
    clear h2 HB1 HC1 t0 t1 t2 t3 tf tf0 tf1 tf2 tf3
    obtain ⟨t0, t1, t2, t3, tf⟩ := cells4 HB.out
    obtain ⟨u0, u1, u2, u3, _⟩ := cells4 HC.out
    have tf0 := tf 0
    have tf1 := tf 1
    have tf2 := tf 2
    have tf3 := tf 3
    have hlt2 := lt_of_block HC.out
    cases hm : mayT U
    · have HN : Hid (takeT s.toList = none) := Lib.hid (by rw [HT.out, hm]; simp)
      clear HT hm
      go_wp2
      refine bodyPost_ret (v := .tuple #[.agg #[.string ⟨#[]⟩, .string ⟨#[]⟩, .int .i64 0, .bool false], .int .i64 2]) (by simp [results, Try.results15, go_sem, *]) rfl ⟨by rw [HN.out]; rfl, HF.out.set4 (Nat.le_refl _) _ _ _ _⟩
    · have HN : Hid (takeT s.toList = some U) := Lib.hid (by rw [HT.out, hm]; simp)
      clear HT hm
      go_wp2
      refine bodyPost_ret (v := .tuple #[.agg #[.string U.f, .string U.t, .int .i64 U.next, .bool U.once], .int .i64 0]) (by simp [results, Try.results15, go_sem, *]) rfl ⟨by rw [HN.out]; rfl, HF.out.set4 (Nat.le_refl _) _ _ _ _⟩
theorem new_block_at {W : World} {o : Obj} {B : Nat} (h : W.heap.size = B) : (W.alloc o).heap[B]? = some o := by subst h; exact new_block W o
/-- six parts joined -/
theorem tok_join6 (a0 a1 a2 a3 a4 a5 r : ByteArray) (bk : Nat) (W : World) (hb : W.heap[bk]? = some (.cells #[.string a0, .string a1, .string a2, .string a3, .string a4, .string a5] 9 (0, 0)))
    (hr : r.toList = a0.toList ++ (a1.toList ++ (a2.toList ++ (a3.toList ++ (a4.toList ++ a5.toList))))) (hz : r.size ≤ 100000000) : Calls Try.prog 19 #[.slice (some ⟨bk, 0, none⟩) 6 6] W fun e w' => e = .returned (.string r) ∧ Fr [] W w' := by
  have hf : (([a0, a1, a2, a3, a4, a5] : List ByteArray).map (·.data.toList)).flatten = r.toList := by
    simp only [List.map_cons, List.map_nil, List.flatten_cons, List.flatten_nil, List.append_nil, ← ByteArray.toList_eq, hr]
  have he : (⟨(([a0, a1, a2, a3, a4, a5] : List ByteArray).map (·.data.toList)).flatten.toArray⟩ : ByteArray) = r := by
    rw [hf]; exact tkBa_list r
  have h := tok_join bk 6 [a0, a1, a2, a3, a4, a5] W (by
    intro j x hj
    rw [cell_block hb]
    match j, hj with
    | 0, hj => cases hj; rfl
    | 1, hj => cases hj; rfl
    | 2, hj => cases hj; rfl
    | 3, hj => cases hj; rfl
    | 4, hj => cases hj; rfl
    | 5, hj => cases hj; rfl) (lt_of_block hb) (by simp) (by simp) (by rw [hf, tk_len]; omega)
  rw [he] at h
  exact h
set_option maxRecDepth 100000 in
set_option maxHeartbeats 2000000 in
theorem tok_put (T : Tk) (w : World) (hf : T.f.size ≤ 1000000) (ht : T.t.size ≤ 1000000) (hw : (Lit.int .i64 T.next).wf = true) : Calls Try.prog 13 #[tkVal T] w fun e w' => e = .returned (.string (tkBa (putT T))) ∧ Fr [] w w' := by
  unfold tkVal
  have HF := Lib.hid ((Fr.refl [] w).alloc (.cells #[.string T.f, .string T.t, .int .i64 T.next, .bool T.once] 28))
  have HB := Lib.hid (new_block w (.cells #[.string T.f, .string T.t, .int .i64 T.next, .bool T.once] 28))
  go_enter Try.func13, Try.ntmps13
  have hn : -9223372036854775808 ≤ T.next ∧ T.next ≤ 9223372036854775807 := by simp [Lit.wf, IntKind.has, IntKind.min, IntKind.max, IntKind.signed, IntKind.bits] at hw; omega
  have hHi : IntKind.u8.wrap (T.next / 256) = ((tkHi T.next).toNat : Int) := by unfold tkHi; rw [tkLow_nat]; simp [IntKind.wrap, IntKind.signed, IntKind.bits]; omega
  have hLo : IntKind.u8.wrap T.next = ((tkLo T.next).toNat : Int) := by unfold tkLo; rw [tkLow_nat]; simp [IntKind.wrap, IntKind.signed, IntKind.bits]; omega
  have HR : Hid ((tkBa (putT T)).toList = (⟨#[tkKind T.once]⟩ : ByteArray).toList ++ ((⟨#[tkHi T.next, tkLo T.next]⟩ : ByteArray).toList ++ ((⟨#[tkLow T.f.size]⟩ : ByteArray).toList ++ (T.f.toList ++ ((⟨#[tkLow T.t.size]⟩ : ByteArray).toList ++ T.t.toList))))) := Lib.hid (by rw [list_tkBa]; unfold putT; simp [ByteArray.toList_eq])
  have HZ : Hid ((tkBa (putT T)).size ≤ 100000000) := Lib.hid (by rw [size_tkBa]; unfold putT; simp [tk_len]; omega)
  have hcv : ∀ (W : World) (B : Nat), W.cell? ⟨B, 0, none⟩ = some (.int .u8 (tkHi T.next).toNat) → W.cell? ⟨B, 1, none⟩ = some (.int .u8 (tkLo T.next).toNat) → (convert 39 9 (.slice (some ⟨B, 0, none⟩) 2 2)).run Try.prog W = .ok (.string ⟨#[tkHi T.next, tkLo T.next]⟩) W := by
    intro W B c0 c1
    refine run_convert_bytes_back _ 39 9 5 ⟨B, 0, none⟩ 2 [tkHi T.next, tkLo T.next] rfl rfl rfl ?_
    intro j hj
    rw [Addr.add_lit]
    match j, hj with
    | 0, _ => exact c0
    | 1, _ => exact c1
  obtain ⟨t0, t1, t2, t3, _⟩ := cells4 HB.out
  go_wp2_with fail
  generalize w.alloc (.cells #[.string T.f, .string T.t, .int .i64 T.next, .bool T.once] 28) = w0 at *
  have hlt := lt_of_block HB.out
  have HS : Hid (∀ W, Fr [] w0 W → W.cell? ⟨w.heap.size, 0, none⟩ = some (.string T.f) ∧ W.cell? ⟨w.heap.size, 1, none⟩ = some (.string T.t) ∧ W.cell? ⟨w.heap.size, 2, none⟩ = some (.int .i64 T.next) ∧ W.cell? ⟨w.heap.size, 3, none⟩ = some (.bool T.once)) := Lib.hid (fun W hW => by
    obtain ⟨c0, c1, c2, c3, _⟩ := cells4 (hW.keep HB.out (by simp))
    exact ⟨c0, c1, c2, c3⟩)
  have hcw : ∀ (V W : World) (B : Nat), V.heap.size = B → Fr [] (V.alloc (.cells #[.int .u8 (tkHi T.next).toNat, .int .u8 (tkLo T.next).toNat] 5)) W → (convert 39 9 (.slice (some ⟨B, 0, none⟩) 2 2)).run Try.prog W = .ok (.string ⟨#[tkHi T.next, tkLo T.next]⟩) W := by
    intro V W B hB hW
    have hb := hW.keep (new_block_at hB) (by simp)
    exact hcv W B (by rw [cell_block hb]; rfl) (by rw [cell_block hb]; rfl)
  have cA := fun o1 o2 => hcw w0 (((w0.alloc (.cells #[.int .u8 (tkHi T.next).toNat, .int .u8 (tkLo T.next).toNat] 5)).alloc o1).alloc o2) w0.heap.size rfl (((Fr.refl [] _).alloc _).alloc _)
  have cA' := fun o1 o2 => hcw w0 (((w0.alloc (.cells #[.int .u8 (tkHi T.next).toNat, .int .u8 (tkLo T.next).toNat] 5)).alloc o1).alloc o2).drew w0.heap.size rfl ((((Fr.refl [] _).alloc _).alloc _).drew)
  have cB := fun o1 => hcw w0 ((w0.alloc (.cells #[.int .u8 (tkHi T.next).toNat, .int .u8 (tkLo T.next).toNat] 5)).alloc o1) w0.heap.size rfl ((Fr.refl [] _).alloc _)
  have cB' := fun o1 => hcw w0 ((w0.alloc (.cells #[.int .u8 (tkHi T.next).toNat, .int .u8 (tkLo T.next).toNat] 5)).alloc o1).drew w0.heap.size rfl (((Fr.refl [] _).alloc _).drew)
  have cC := fun o1 o2 => hcw (w0.alloc o1) (((w0.alloc o1).alloc (.cells #[.int .u8 (tkHi T.next).toNat, .int .u8 (tkLo T.next).toNat] 5)).alloc o2) (w0.heap.size + 1) (by simp) ((Fr.refl [] _).alloc _)
  have cC' := fun o1 o2 => hcw (w0.alloc o1) (((w0.alloc o1).alloc (.cells #[.int .u8 (tkHi T.next).toNat, .int .u8 (tkLo T.next).toNat] 5)).alloc o2).drew (w0.heap.size + 1) (by simp) (((Fr.refl [] _).alloc _).drew)
  clear hw hcw
  go_region_held_law (fun w' => w'.cell? ⟨w.heap.size, 0, none⟩ = some (.string T.f) ∧ w'.cell? ⟨w.heap.size, 1, none⟩ = some (.string T.t) ∧ w'.cell? ⟨w.heap.size, 2, none⟩ = some (.int .i64 T.next) ∧ w'.cell? ⟨w.heap.size, 3, none⟩ = some (.bool T.once)) (first | assumption | exact HS.out _ HE.out | exact HS.out _ (by with_reducible (repeat (first | exact Fr.refl _ _ | refine Fr.drew ?_ | refine Fr.alloc ?_ _)))) (first
    | (go_at_call 20; refine (tok_kind T.once _).mono ?_; rintro e wn ⟨rfl, rfl⟩)
    | (go_at_call 21; refine (tok_count _ _ (by assumption)).mono ?_; rintro e wn ⟨rfl, rfl⟩)
    | (go_at_call 19; refine (tok_join6 _ _ _ _ _ _ (tkBa (putT T)) _ _ (by first | exact new_block_at (by simp) | exact (Fr.refl [] _).drew.keep (new_block_at (by simp)) (by simp)) HR.out HZ.out).mono ?_; rintro e wn ⟨rfl, h2⟩; have HE : Hid (Fr [] w0 wn) := Lib.hid (Fr.trans (by with_reducible (repeat (first | exact Fr.refl _ _ | refine Fr.drew ?_ | refine Fr.alloc ?_ _))) h2 (by simp)); clear h2))
  all_goals
    clear cA cA' cB cB' cC cC' hcv
    go_wp2_with fail
    go_ret
    exact ⟨rfl, HF.out.trans HE.out (by simp)⟩
end Go.Proofs.Ytcaildjmpeefbaa
