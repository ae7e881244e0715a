/- What any watch may be told, and is told, of any head, and any rows: for every watch, every head and all rows of events. No condition. -/
import Derived.Test.YtmbfcdoemcffpaaCuFin
import Derived.Test.YtmbfcdoemcffpaaCuDel
import Derived.Test.YtmbfcdoemcffpaaCuSame
import Derived.Test.YtmbfcdoemcffpaaCuLaw
import Derived.Deep.DeepCutAuto
namespace Go.Proofs.Ytmbfcdoemcffpaa.lawCursorDelivers
open Go.ChangeShapes Go.WideShapes Go.ChangeAt Go.RowKit Go.Deep Go.ChangeMaps
set_option linter.unusedVariables false
set_option linter.unusedSimpArgs false

theorem flat30 {l : List (List Ev)} (h : ∀ r ∈ l, r.length ≤ 30) : l.flatten.length ≤ 30 * l.length := by
  induction l with
  | nil => simp
  | cons x r ih =>
    have h1 := h x List.mem_cons_self
    have h2 := ih (fun y hy => h y (List.mem_cons_of_mem _ hy))
    simp only [List.flatten_cons, List.length_append, List.length_cons]
    omega
theorem run_eql_rc (C : Cu) (w : World) : (binOp .eql 25 (.agg #[.string C.f, .string C.t, .int .i64 C.next, .bool C.once, .bool C.dead]) (.agg #[.string C.f, .string C.t, .int .i64 C.next, .bool C.once, .bool C.dead])).run Try.prog w = .ok (.bool true) w := by
  simp [go_sem]
theorem keep_lt {W w5 : World} {p : Nat} {o : Obj} (h : Fr [] W w5) (hp : W.heap[p]? = some o) : w5.heap[p]? = some o ∧ p < W.heap.size := ⟨h.keep hp (by simp), lt_of_block hp⟩
theorem nblk2 (w : World) (a b : Obj) : ((w.alloc a).alloc b).heap[w.heap.size + 1]? = some b := nblk_at (by simp)
theorem z_ne {w5 : World} {q q' : Nat} {a b : Array Value} {x y : TypeId} {f1 f2 : Nat × Nat} (h1 : w5.heap[q]? = some (.cells a x f1)) (h2 : w5.heap[q']? = some (.cells b y f2)) (hn : ¬ a.size = b.size) : ¬ q = q' := by
  intro h
  subst h
  rw [h1] at h2
  simp at h2
  exact hn (by rw [h2.1])
set_option maxRecDepth 100000 in
set_option maxHeartbeats 16000000 in
theorem walk (C : Cu) (hs hr hh : Int) (rv : Value) (rows : List (List Ev)) (w : World) (hnx : (Lit.int .i64 C.next).wf = true) (hwr : (Lit.int .i64 hr).wf = true) (hwh : (Lit.int .i64 hh).wf = true) (hrows : RowsIn w rv rows) :
    Calls Try.prog 3 #[C.val, headV hs hr hh, rv] w fun e w' => e = .returned (.bool true) ∧ Below w.heap.size w w' := by
  clear hnx hwr hwh
  have HRW := Lib.hid hrows
  obtain ⟨sr, cr, rfl, la, ma⟩ := hrows.form
  unfold maxLen at ma
  clear hrows
  obtain ⟨f, t, next, once, dead⟩ := C
  unfold Cu.val headV
  go_enter Try.func3, Try.ntmps3
  go_wp2_with (go_at_call 8; refine (cu_awake _).mono ?_; rintro e w1 ⟨rfl, h1⟩; refine go_stop ?_)
  unfold Stop
  obtain ⟨x0, x1, hf⟩ := two_boxes h1
  obtain ⟨ph, hph⟩ : ∃ q, q = w.heap.size + 1 := ⟨_, rfl⟩
  obtain ⟨pe, hpe⟩ : ∃ q, q = w.heap.size := ⟨_, rfl⟩
  rw [← hph] at x1 ⊢
  rw [← hpe] at x0 ⊢
  have HX := Lib.hid x0
  have HH := Lib.hid x1
  have HF := Lib.hid hf
  have hne : ¬ pe = ph := by omega
  have HNE := Lib.hid hne
  obtain ⟨a0, a1, a2, a3, a4, _⟩ := cells5 x0
  obtain ⟨c0, c1, c2, _⟩ := cells3 x1
  clear h1 x0 x1 hf hph hpe hne
  by_cases hl : 30 < rows.length
  · have t1 : decide ((30 : Int) < (rows.length : Int)) = true := by simp; omega
    have t1n : decide (30 < rows.length) = true := by simpa using hl
    go_wp2_with fail
    go_ret
    exact ⟨rfl, HF.out.below (Nat.le_refl _) (by simp)⟩
  have t1 : decide ((30 : Int) < (rows.length : Int)) = false := by simp; omega
  have t1n : decide (30 < rows.length) = false := by simpa using hl
  by_cases hn1 : 1099511627776 < next
  · have t2 : decide ((1099511627776 : Int) < next) = true := by simpa using hn1
    go_wp2_with fail
    go_ret
    exact ⟨rfl, HF.out.below (Nat.le_refl _) (by simp)⟩
  have t2 : decide ((1099511627776 : Int) < next) = false := by simpa using hn1
  by_cases hn2 : next < -1099511627776
  · have t3 : decide (next < -1099511627776) = true := by simpa using hn2
    go_wp2_with fail
    go_ret
    exact ⟨rfl, HF.out.below (Nat.le_refl _) (by simp)⟩
  have t3 : decide (next < -1099511627776) = false := by simpa using hn2
  by_cases hn3 : 1099511627776 < hr
  · have t4 : decide ((1099511627776 : Int) < hr) = true := by simpa using hn3
    go_wp2_with fail
    go_ret
    exact ⟨rfl, HF.out.below (Nat.le_refl _) (by simp)⟩
  have t4 : decide ((1099511627776 : Int) < hr) = false := by simpa using hn3
  by_cases hn4 : hr < -1099511627776
  · have t5 : decide (hr < -1099511627776) = true := by simpa using hn4
    go_wp2_with fail
    go_ret
    exact ⟨rfl, HF.out.below (Nat.le_refl _) (by simp)⟩
  have t5 : decide (hr < -1099511627776) = false := by simpa using hn4
  have HNX : Hid (Few40 next ∧ Mid40 next ∧ Few40 hr) := Lib.hid (by unfold Few40 Mid40; omega)
  go_wp2_with fail
  clear t1 t1n t2 t3 t4 t5 hn1 hn2 hn3 hn4
  go_loopw [8] (fun i wr => ∃ j : Nat, i = .int .i64 j ∧ j ≤ rows.length ∧ (∀ r ∈ rows.take j, r.length ≤ 30) ∧ wr = w1) (fun i _ => rows.length - (intOf i).toNat)
  case atStart => exact ⟨0, rfl, Nat.zero_le _, by simp, rfl⟩
  case round =>
    obtain ⟨j, rfl, hj, h30, rfl⟩ := hrel
    have H30 := Lib.hid h30
    clear h30
    by_cases h : j < rows.length
    · have t1 : decide ((j : Int) < (rows.length : Int)) = true := by simp; omega
      have t1n : decide (j < rows.length) = true := by simpa using h
      obtain ⟨x, hx⟩ : ∃ x, rows[j]? = some x := ⟨_, List.getElem?_eq_getElem h⟩
      obtain ⟨g, off, d1, e1, l1, k1⟩ := RowsIn.here (HRW.out.keep0 HF.out) (by omega)
      simp only [Value.slice.injEq] at e1
      obtain ⟨rfl, _, rfl⟩ := e1
      obtain ⟨u, hu, hur⟩ := k1 j x hx
      obtain ⟨su, cu, hus, _, _⟩ := LIn.form hur
      subst hus
      have HXX := Lib.hid hx
      clear hx k1 hur
      by_cases hxl : 30 < x.length
      · have t2 : decide ((30 : Int) < (x.length : Int)) = true := by simp; omega
        have t2n : decide (30 < x.length) = true := by simpa using hxl
        go_wp2_with fail
        go_ret
        exact ⟨rfl, HF.out.below (Nat.le_refl _) (by simp)⟩
      · have t2 : decide ((30 : Int) < (x.length : Int)) = false := by simp; omega
        have t2n : decide (30 < x.length) = false := by simpa using hxl
        go_wp2_with fail
        go_roundw
        case rel =>
          refine ⟨j + 1, by go_num, by omega, fun r hr => ?_, trivial⟩
          rw [List.take_add_one, HXX.out] at hr
          rcases List.mem_append.1 hr with h1 | h1
          · exact H30.out r h1
          · simp at h1; subst h1; omega
        case measure => simp [intOf]; omega
    · have t1 : decide ((j : Int) < (rows.length : Int)) = false := by simp; omega
      have t1n : decide (j < rows.length) = false := by simpa using h
      have hfew : RFew rows := by
        have h1 := H30.out
        rw [List.take_of_length_le (by omega)] at h1
        have h2 := flat30 h1
        exact ⟨by unfold many; omega, by unfold many; omega⟩
      obtain ⟨A, hA⟩ : ∃ A, A = (Cu.mk f t next once dead).then' hr hh rows.length := ⟨_, rfl⟩
      obtain ⟨N, hN⟩ : ∃ N, N = (Cu.mk f t next once dead).told hr hh rows := ⟨_, rfl⟩
      have hpl := lt_of_block HX.out
      have hql := lt_of_block HH.out
      have HPL := Lib.hid hpl
      have HDL : Hid (∀ W, Fr [] wr W → Calls Try.prog 9 #[.agg #[.string f, .string t, .int .i64 next, .bool once, .bool dead], .agg #[.int .i64 hs, .int .i64 hr, .int .i64 hh], .slice sr rows.length cr] W fun e w' => ∃ s c, e = .returned (.tuple #[.agg #[.string A.f, .string A.t, .int .i64 A.next, .bool A.once, .bool A.dead], .agg #[.int .i64 N.err, .int .i64 N.hor, .int .i64 N.upto, .slice s N.rows.length c]]) ∧ PollW pe wr W.heap.size w' N s c ∧ Fr [] W w') := Lib.hid (fun W hW => (cur_deliver _ ⟨f, t, next, once, dead⟩ hs hr hh (.slice sr rows.length cr) rows W (HRW.out.keep0 (HF.out.trans hW (by simp))) (newT (lt_of_block HX.out) hW) HNX.out.2.1 hfew).mono (by
        rintro e w' ⟨v, rfl, h1, h2⟩
        rw [← hA]
        rw [← hN] at h1 ⊢
        obtain ⟨s, c, hv, _, _⟩ := h1.form
        subst hv
        exact ⟨s, c, rfl, ⟨h1, hW.trans h2 (by simp)⟩, h2⟩))
      have HRD : Hid (∀ W, Fr [] wr W → Calls Try.prog 11 #[.agg #[.string f, .string t, .int .i64 next, .bool once, .bool dead], .agg #[.int .i64 hs, .int .i64 hr, .int .i64 hh], .slice sr rows.length cr] W fun e w' => ∃ s c, e = .returned (.tuple #[.agg #[.string A.f, .string A.t, .int .i64 A.next, .bool A.once, .bool A.dead], .agg #[.int .i64 N.err, .int .i64 N.hor, .int .i64 N.upto, .slice s N.rows.length c]]) ∧ RowsIn w' (.slice s N.rows.length c) N.rows ∧ Fr [] W w') := Lib.hid (fun W hW => (rcu_deliver ⟨f, t, next, once, dead⟩ hs hr hh (.slice sr rows.length cr) rows W (HRW.out.keep0 (HF.out.trans hW (by simp))) HNX.out.1 hfew).mono (by
        rintro e w' ⟨v, rfl, h1, h2⟩
        rw [← hA]
        rw [← hN] at h1 ⊢
        obtain ⟨s, c, hv, _, _⟩ := h1.form
        subst hv
        exact ⟨s, c, rfl, h1, h2⟩))
      have HMA := Lib.hid fun W => cu_made ⟨f, t, next, once, dead⟩ W
      have HWI := Lib.hid fun W => cur_window ⟨f, t, next, once, dead⟩ hs hr hh rows.length W HNX.out.1 HNX.out.2.2
      have HWR := Lib.hid fun W => rcu_window ⟨f, t, next, once, dead⟩ hs hr hh rows.length W HNX.out.1 HNX.out.2.2
      unfold Cu.val at HMA HWI HWR
      unfold headV at HWI HWR
      obtain ⟨V, hV⟩ : ∃ V, V = Cu.win ⟨f, t, next, once, dead⟩ hr hh rows.length := ⟨_, rfl⟩
      rw [← hV] at HWI HWR
      clear hA hN hfew hV
      have z1 : ¬ pe = wr.heap.size := by omega
      have z2 : ¬ wr.heap.size = pe := by omega
      have z3 : ¬ pe = wr.heap.size + 1 := by omega
      have z4 : ¬ wr.heap.size + 1 = pe := by omega
      have z5 : ¬ ph = wr.heap.size := by omega
      have z6 : ¬ wr.heap.size = ph := by omega
      have z7 : ¬ ph = wr.heap.size + 1 := by omega
      have z8 : ¬ wr.heap.size + 1 = ph := by omega
      go_upto_region 9 with fail
      go_cut [9, 10] (fun v9 v10 wc => PollFin pe wr A N v9 v10 wc)
      case first =>
        go_region_held3 (fun W => W.cell? ⟨pe, 0, none⟩ = some (.string f) ∧ W.cell? ⟨pe, 1, none⟩ = some (.string t) ∧ W.cell? ⟨pe, 2, none⟩ = some (.int .i64 next) ∧ W.cell? ⟨pe, 3, none⟩ = some (.bool once) ∧ W.cell? ⟨pe, 4, none⟩ = some (.bool dead) ∧ W.cell? ⟨ph, 0, none⟩ = some (.int .i64 hs) ∧ W.cell? ⟨ph, 1, none⟩ = some (.int .i64 hr) ∧ W.cell? ⟨ph, 2, none⟩ = some (.int .i64 hh)) (go_keep) (first | (go_at_call 10; refine (HMA.out _).mono ?_; rintro e wm ⟨rfl, h1⟩; have QM : Hid (Fr [] wr wm) := Lib.hid (Fr.trans (by with_reducible (repeat (first | exact Fr.refl _ _ | refine Fr.drew ?_ | refine Fr.alloc ?_ _))) h1 (by simp)); obtain ⟨a0, a1, a2, a3, a4, _⟩ := cells5 (QM.out.keep HX.out (by simp)); obtain ⟨c0, c1, c2, _⟩ := cells3 (QM.out.keep HH.out (by simp)); have ypewm1 : ¬ pe = wm.heap.size := (by have := QM.out.size; omega); have ypewm2 : ¬ wm.heap.size = pe := (by have := QM.out.size; omega); have ypewm3 : ¬ pe = wm.heap.size + 1 := (by have := QM.out.size; omega); have ypewm4 : ¬ wm.heap.size + 1 = pe := (by have := QM.out.size; omega); have yphwm1 : ¬ ph = wm.heap.size := (by have := QM.out.size; omega); have yphwm2 : ¬ wm.heap.size = ph := (by have := QM.out.size; omega); have yphwm3 : ¬ ph = wm.heap.size + 1 := (by have := QM.out.size; omega); have yphwm4 : ¬ wm.heap.size + 1 = ph := (by have := QM.out.size; omega); (first | (have hZ := keep_lt (p := wr.heap.size) (o := (.cells #[.string ⟨#[]⟩, .string ⟨#[]⟩, .int .i64 0, .bool false, .bool false] 31 (0, 0))) h1 (by with_reducible (first | exact new_block wr _ | exact drew_block (new_block wr _) | exact blk_alloc (new_block wr _) _ | exact drew_block (blk_alloc (new_block wr _) _) | exact blk_alloc (blk_alloc (new_block wr _) _) _ | exact drew_block (blk_alloc (blk_alloc (new_block wr _) _) _) | exact nblk2 wr _ _ | exact drew_block (nblk2 wr _ _) | exact blk_alloc (nblk2 wr _ _) _ | exact drew_block (blk_alloc (nblk2 wr _ _) _) | exact blk_alloc (blk_alloc (nblk2 wr _ _) _) _ | exact drew_block (blk_alloc (blk_alloc (nblk2 wr _ _) _) _))); have HZm := Lib.hid hZ.1; clear hZ) | (have hZ := keep_lt (p := wr.heap.size + 1) (o := (.cells #[.string ⟨#[]⟩, .string ⟨#[]⟩, .int .i64 0, .bool false, .bool false] 31 (0, 0))) h1 (by with_reducible (first | exact new_block wr _ | exact drew_block (new_block wr _) | exact blk_alloc (new_block wr _) _ | exact drew_block (blk_alloc (new_block wr _) _) | exact blk_alloc (blk_alloc (new_block wr _) _) _ | exact drew_block (blk_alloc (blk_alloc (new_block wr _) _) _) | exact nblk2 wr _ _ | exact drew_block (nblk2 wr _ _) | exact blk_alloc (nblk2 wr _ _) _ | exact drew_block (blk_alloc (nblk2 wr _ _) _) | exact blk_alloc (blk_alloc (nblk2 wr _ _) _) _ | exact drew_block (blk_alloc (blk_alloc (nblk2 wr _ _) _) _))); have HZm := Lib.hid hZ.1; clear hZ) | skip); (first | (have hY := keep_lt (p := wr.heap.size) (o := (.cells #[.int .i64 0, .int .i64 0, .int .i64 0, .slice none 0 0] 34 (0, 0))) h1 (by with_reducible (first | exact new_block wr _ | exact drew_block (new_block wr _) | exact blk_alloc (new_block wr _) _ | exact drew_block (blk_alloc (new_block wr _) _) | exact blk_alloc (blk_alloc (new_block wr _) _) _ | exact drew_block (blk_alloc (blk_alloc (new_block wr _) _) _) | exact nblk2 wr _ _ | exact drew_block (nblk2 wr _ _) | exact blk_alloc (nblk2 wr _ _) _ | exact drew_block (blk_alloc (nblk2 wr _ _) _) | exact blk_alloc (blk_alloc (nblk2 wr _ _) _) _ | exact drew_block (blk_alloc (blk_alloc (nblk2 wr _ _) _) _))); have HYm := Lib.hid hY.1; clear hY) | (have hY := keep_lt (p := wr.heap.size + 1) (o := (.cells #[.int .i64 0, .int .i64 0, .int .i64 0, .slice none 0 0] 34 (0, 0))) h1 (by with_reducible (first | exact new_block wr _ | exact drew_block (new_block wr _) | exact blk_alloc (new_block wr _) _ | exact drew_block (blk_alloc (new_block wr _) _) | exact blk_alloc (blk_alloc (new_block wr _) _) _ | exact drew_block (blk_alloc (blk_alloc (new_block wr _) _) _) | exact nblk2 wr _ _ | exact drew_block (nblk2 wr _ _) | exact blk_alloc (nblk2 wr _ _) _ | exact drew_block (blk_alloc (nblk2 wr _ _) _) | exact blk_alloc (blk_alloc (nblk2 wr _ _) _) _ | exact drew_block (blk_alloc (blk_alloc (nblk2 wr _ _) _) _))); have HYm := Lib.hid hY.1; clear hY) | skip); clear h1) | (go_at_call 9; refine (HDL.out _ (by with_reducible (repeat (first | exact Fr.refl _ _ | exact QM.out | refine Fr.drew ?_ | refine Fr.alloc ?_ _)))).mono ?_; rintro e w5 ⟨s5, c5, rfl, h1, h2⟩; have HPW := Lib.hid h1; have Q5 := Lib.hid h1.2; obtain ⟨a0, a1, a2, a3, a4, _⟩ := cells5 (Q5.out.keep HX.out (by simp)); obtain ⟨c0, c1, c2, _⟩ := cells3 (Q5.out.keep HH.out (by simp)); have ypew51 : ¬ pe = w5.heap.size := (by have := Q5.out.size; omega); have ypew52 : ¬ w5.heap.size = pe := (by have := Q5.out.size; omega); have ypew53 : ¬ pe = w5.heap.size + 1 := (by have := Q5.out.size; omega); have ypew54 : ¬ w5.heap.size + 1 = pe := (by have := Q5.out.size; omega); have yphw51 : ¬ ph = w5.heap.size := (by have := Q5.out.size; omega); have yphw52 : ¬ w5.heap.size = ph := (by have := Q5.out.size; omega); have yphw53 : ¬ ph = w5.heap.size + 1 := (by have := Q5.out.size; omega); have yphw54 : ¬ w5.heap.size + 1 = ph := (by have := Q5.out.size; omega); (first | (have hZb := keep_lt (p := wr.heap.size) (o := (.cells #[.string ⟨#[]⟩, .string ⟨#[]⟩, .int .i64 0, .bool false, .bool false] 31 (0, 0))) h2 (by with_reducible (first | exact HZm.out | exact drew_block (HZm.out) | exact blk_alloc (HZm.out) _ | exact drew_block (blk_alloc (HZm.out) _) | exact blk_alloc (blk_alloc (HZm.out) _) _ | exact drew_block (blk_alloc (blk_alloc (HZm.out) _) _) | exact new_block wm _ | exact drew_block (new_block wm _) | exact blk_alloc (new_block wm _) _ | exact drew_block (blk_alloc (new_block wm _) _) | exact blk_alloc (blk_alloc (new_block wm _) _) _ | exact drew_block (blk_alloc (blk_alloc (new_block wm _) _) _) | exact nblk2 wm _ _ | exact drew_block (nblk2 wm _ _) | exact blk_alloc (nblk2 wm _ _) _ | exact drew_block (blk_alloc (nblk2 wm _ _) _) | exact blk_alloc (blk_alloc (nblk2 wm _ _) _) _ | exact drew_block (blk_alloc (blk_alloc (nblk2 wm _ _) _) _))); have hZ := hZb.1; have hZl := hZb.2; clear hZb; have HZ := Lib.hid hZ; have HZ2 := Lib.hid hZl; have HZ1 : Hid (wr.heap.size ≤ wr.heap.size) := Lib.hid (by have := QM.out.size; omega); obtain ⟨z0, z1, z2, z3, z4, zf⟩ := cells5 hZ; have zf0 := zf 0; have zf1 := zf 1; have zf2 := zf 2; have zf3 := zf 3; have zf4 := zf 4; have lZ := lt_of_block hZ; have uZ1 : ¬ wr.heap.size = w5.heap.size := (by omega); have uZ2 : ¬ w5.heap.size = wr.heap.size := (by omega); clear zf hZ hZl) | (have hZb := keep_lt (p := wr.heap.size + 1) (o := (.cells #[.string ⟨#[]⟩, .string ⟨#[]⟩, .int .i64 0, .bool false, .bool false] 31 (0, 0))) h2 (by with_reducible (first | exact HZm.out | exact drew_block (HZm.out) | exact blk_alloc (HZm.out) _ | exact drew_block (blk_alloc (HZm.out) _) | exact blk_alloc (blk_alloc (HZm.out) _) _ | exact drew_block (blk_alloc (blk_alloc (HZm.out) _) _) | exact new_block wm _ | exact drew_block (new_block wm _) | exact blk_alloc (new_block wm _) _ | exact drew_block (blk_alloc (new_block wm _) _) | exact blk_alloc (blk_alloc (new_block wm _) _) _ | exact drew_block (blk_alloc (blk_alloc (new_block wm _) _) _) | exact nblk2 wm _ _ | exact drew_block (nblk2 wm _ _) | exact blk_alloc (nblk2 wm _ _) _ | exact drew_block (blk_alloc (nblk2 wm _ _) _) | exact blk_alloc (blk_alloc (nblk2 wm _ _) _) _ | exact drew_block (blk_alloc (blk_alloc (nblk2 wm _ _) _) _))); have hZ := hZb.1; have hZl := hZb.2; clear hZb; have HZ := Lib.hid hZ; have HZ2 := Lib.hid hZl; have HZ1 : Hid (wr.heap.size ≤ wr.heap.size + 1) := Lib.hid (by have := QM.out.size; omega); obtain ⟨z0, z1, z2, z3, z4, zf⟩ := cells5 hZ; have zf0 := zf 0; have zf1 := zf 1; have zf2 := zf 2; have zf3 := zf 3; have zf4 := zf 4; have lZ := lt_of_block hZ; have uZ1 : ¬ wr.heap.size + 1 = w5.heap.size := (by omega); have uZ2 : ¬ w5.heap.size = wr.heap.size + 1 := (by omega); clear zf hZ hZl) | (have hZb := keep_lt (p := wm.heap.size) (o := (.cells #[.string ⟨#[]⟩, .string ⟨#[]⟩, .int .i64 0, .bool false, .bool false] 31 (0, 0))) h2 (by with_reducible (first | exact HZm.out | exact drew_block (HZm.out) | exact blk_alloc (HZm.out) _ | exact drew_block (blk_alloc (HZm.out) _) | exact blk_alloc (blk_alloc (HZm.out) _) _ | exact drew_block (blk_alloc (blk_alloc (HZm.out) _) _) | exact new_block wm _ | exact drew_block (new_block wm _) | exact blk_alloc (new_block wm _) _ | exact drew_block (blk_alloc (new_block wm _) _) | exact blk_alloc (blk_alloc (new_block wm _) _) _ | exact drew_block (blk_alloc (blk_alloc (new_block wm _) _) _) | exact nblk2 wm _ _ | exact drew_block (nblk2 wm _ _) | exact blk_alloc (nblk2 wm _ _) _ | exact drew_block (blk_alloc (nblk2 wm _ _) _) | exact blk_alloc (blk_alloc (nblk2 wm _ _) _) _ | exact drew_block (blk_alloc (blk_alloc (nblk2 wm _ _) _) _))); have hZ := hZb.1; have hZl := hZb.2; clear hZb; have HZ := Lib.hid hZ; have HZ2 := Lib.hid hZl; have HZ1 : Hid (wr.heap.size ≤ wm.heap.size) := Lib.hid (by have := QM.out.size; omega); obtain ⟨z0, z1, z2, z3, z4, zf⟩ := cells5 hZ; have zf0 := zf 0; have zf1 := zf 1; have zf2 := zf 2; have zf3 := zf 3; have zf4 := zf 4; have lZ := lt_of_block hZ; have uZ1 : ¬ wm.heap.size = w5.heap.size := (by omega); have uZ2 : ¬ w5.heap.size = wm.heap.size := (by omega); clear zf hZ hZl) | (have hZb := keep_lt (p := wm.heap.size + 1) (o := (.cells #[.string ⟨#[]⟩, .string ⟨#[]⟩, .int .i64 0, .bool false, .bool false] 31 (0, 0))) h2 (by with_reducible (first | exact HZm.out | exact drew_block (HZm.out) | exact blk_alloc (HZm.out) _ | exact drew_block (blk_alloc (HZm.out) _) | exact blk_alloc (blk_alloc (HZm.out) _) _ | exact drew_block (blk_alloc (blk_alloc (HZm.out) _) _) | exact new_block wm _ | exact drew_block (new_block wm _) | exact blk_alloc (new_block wm _) _ | exact drew_block (blk_alloc (new_block wm _) _) | exact blk_alloc (blk_alloc (new_block wm _) _) _ | exact drew_block (blk_alloc (blk_alloc (new_block wm _) _) _) | exact nblk2 wm _ _ | exact drew_block (nblk2 wm _ _) | exact blk_alloc (nblk2 wm _ _) _ | exact drew_block (blk_alloc (nblk2 wm _ _) _) | exact blk_alloc (blk_alloc (nblk2 wm _ _) _) _ | exact drew_block (blk_alloc (blk_alloc (nblk2 wm _ _) _) _))); have hZ := hZb.1; have hZl := hZb.2; clear hZb; have HZ := Lib.hid hZ; have HZ2 := Lib.hid hZl; have HZ1 : Hid (wr.heap.size ≤ wm.heap.size + 1) := Lib.hid (by have := QM.out.size; omega); obtain ⟨z0, z1, z2, z3, z4, zf⟩ := cells5 hZ; have zf0 := zf 0; have zf1 := zf 1; have zf2 := zf 2; have zf3 := zf 3; have zf4 := zf 4; have lZ := lt_of_block hZ; have uZ1 : ¬ wm.heap.size + 1 = w5.heap.size := (by omega); have uZ2 : ¬ w5.heap.size = wm.heap.size + 1 := (by omega); clear zf hZ hZl) | skip); (first | (have hYb := keep_lt (p := wr.heap.size) (o := (.cells #[.int .i64 0, .int .i64 0, .int .i64 0, .slice none 0 0] 34 (0, 0))) h2 (by with_reducible (first | exact HYm.out | exact drew_block (HYm.out) | exact blk_alloc (HYm.out) _ | exact drew_block (blk_alloc (HYm.out) _) | exact blk_alloc (blk_alloc (HYm.out) _) _ | exact drew_block (blk_alloc (blk_alloc (HYm.out) _) _) | exact new_block wm _ | exact drew_block (new_block wm _) | exact blk_alloc (new_block wm _) _ | exact drew_block (blk_alloc (new_block wm _) _) | exact blk_alloc (blk_alloc (new_block wm _) _) _ | exact drew_block (blk_alloc (blk_alloc (new_block wm _) _) _) | exact nblk2 wm _ _ | exact drew_block (nblk2 wm _ _) | exact blk_alloc (nblk2 wm _ _) _ | exact drew_block (blk_alloc (nblk2 wm _ _) _) | exact blk_alloc (blk_alloc (nblk2 wm _ _) _) _ | exact drew_block (blk_alloc (blk_alloc (nblk2 wm _ _) _) _))); have hY := hYb.1; have hYl := hYb.2; clear hYb; have HY := Lib.hid hY; have HY2 := Lib.hid hYl; have HY1 : Hid (wr.heap.size ≤ wr.heap.size) := Lib.hid (by have := QM.out.size; omega); obtain ⟨y0, y1, y2, y3, yf⟩ := cells4 hY; have yf0 := yf 0; have yf1 := yf 1; have yf2 := yf 2; have yf3 := yf 3; have lY := lt_of_block hY; have uY1 : ¬ wr.heap.size = w5.heap.size := (by omega); have uY2 : ¬ w5.heap.size = wr.heap.size := (by omega); clear yf hY hYl) | (have hYb := keep_lt (p := wr.heap.size + 1) (o := (.cells #[.int .i64 0, .int .i64 0, .int .i64 0, .slice none 0 0] 34 (0, 0))) h2 (by with_reducible (first | exact HYm.out | exact drew_block (HYm.out) | exact blk_alloc (HYm.out) _ | exact drew_block (blk_alloc (HYm.out) _) | exact blk_alloc (blk_alloc (HYm.out) _) _ | exact drew_block (blk_alloc (blk_alloc (HYm.out) _) _) | exact new_block wm _ | exact drew_block (new_block wm _) | exact blk_alloc (new_block wm _) _ | exact drew_block (blk_alloc (new_block wm _) _) | exact blk_alloc (blk_alloc (new_block wm _) _) _ | exact drew_block (blk_alloc (blk_alloc (new_block wm _) _) _) | exact nblk2 wm _ _ | exact drew_block (nblk2 wm _ _) | exact blk_alloc (nblk2 wm _ _) _ | exact drew_block (blk_alloc (nblk2 wm _ _) _) | exact blk_alloc (blk_alloc (nblk2 wm _ _) _) _ | exact drew_block (blk_alloc (blk_alloc (nblk2 wm _ _) _) _))); have hY := hYb.1; have hYl := hYb.2; clear hYb; have HY := Lib.hid hY; have HY2 := Lib.hid hYl; have HY1 : Hid (wr.heap.size ≤ wr.heap.size + 1) := Lib.hid (by have := QM.out.size; omega); obtain ⟨y0, y1, y2, y3, yf⟩ := cells4 hY; have yf0 := yf 0; have yf1 := yf 1; have yf2 := yf 2; have yf3 := yf 3; have lY := lt_of_block hY; have uY1 : ¬ wr.heap.size + 1 = w5.heap.size := (by omega); have uY2 : ¬ w5.heap.size = wr.heap.size + 1 := (by omega); clear yf hY hYl) | (have hYb := keep_lt (p := wm.heap.size) (o := (.cells #[.int .i64 0, .int .i64 0, .int .i64 0, .slice none 0 0] 34 (0, 0))) h2 (by with_reducible (first | exact HYm.out | exact drew_block (HYm.out) | exact blk_alloc (HYm.out) _ | exact drew_block (blk_alloc (HYm.out) _) | exact blk_alloc (blk_alloc (HYm.out) _) _ | exact drew_block (blk_alloc (blk_alloc (HYm.out) _) _) | exact new_block wm _ | exact drew_block (new_block wm _) | exact blk_alloc (new_block wm _) _ | exact drew_block (blk_alloc (new_block wm _) _) | exact blk_alloc (blk_alloc (new_block wm _) _) _ | exact drew_block (blk_alloc (blk_alloc (new_block wm _) _) _) | exact nblk2 wm _ _ | exact drew_block (nblk2 wm _ _) | exact blk_alloc (nblk2 wm _ _) _ | exact drew_block (blk_alloc (nblk2 wm _ _) _) | exact blk_alloc (blk_alloc (nblk2 wm _ _) _) _ | exact drew_block (blk_alloc (blk_alloc (nblk2 wm _ _) _) _))); have hY := hYb.1; have hYl := hYb.2; clear hYb; have HY := Lib.hid hY; have HY2 := Lib.hid hYl; have HY1 : Hid (wr.heap.size ≤ wm.heap.size) := Lib.hid (by have := QM.out.size; omega); obtain ⟨y0, y1, y2, y3, yf⟩ := cells4 hY; have yf0 := yf 0; have yf1 := yf 1; have yf2 := yf 2; have yf3 := yf 3; have lY := lt_of_block hY; have uY1 : ¬ wm.heap.size = w5.heap.size := (by omega); have uY2 : ¬ w5.heap.size = wm.heap.size := (by omega); clear yf hY hYl) | (have hYb := keep_lt (p := wm.heap.size + 1) (o := (.cells #[.int .i64 0, .int .i64 0, .int .i64 0, .slice none 0 0] 34 (0, 0))) h2 (by with_reducible (first | exact HYm.out | exact drew_block (HYm.out) | exact blk_alloc (HYm.out) _ | exact drew_block (blk_alloc (HYm.out) _) | exact blk_alloc (blk_alloc (HYm.out) _) _ | exact drew_block (blk_alloc (blk_alloc (HYm.out) _) _) | exact new_block wm _ | exact drew_block (new_block wm _) | exact blk_alloc (new_block wm _) _ | exact drew_block (blk_alloc (new_block wm _) _) | exact blk_alloc (blk_alloc (new_block wm _) _) _ | exact drew_block (blk_alloc (blk_alloc (new_block wm _) _) _) | exact nblk2 wm _ _ | exact drew_block (nblk2 wm _ _) | exact blk_alloc (nblk2 wm _ _) _ | exact drew_block (blk_alloc (nblk2 wm _ _) _) | exact blk_alloc (blk_alloc (nblk2 wm _ _) _) _ | exact drew_block (blk_alloc (blk_alloc (nblk2 wm _ _) _) _))); have hY := hYb.1; have hYl := hYb.2; clear hYb; have HY := Lib.hid hY; have HY2 := Lib.hid hYl; have HY1 : Hid (wr.heap.size ≤ wm.heap.size + 1) := Lib.hid (by have := QM.out.size; omega); obtain ⟨y0, y1, y2, y3, yf⟩ := cells4 hY; have yf0 := yf 0; have yf1 := yf 1; have yf2 := yf 2; have yf3 := yf 3; have lY := lt_of_block hY; have uY1 : ¬ wm.heap.size + 1 = w5.heap.size := (by omega); have uY2 : ¬ w5.heap.size = wm.heap.size + 1 := (by omega); clear yf hY hYl) | skip); (try (have v1 := z_ne HZ.out HY.out (by simp); have v2 := z_ne HY.out HZ.out (by simp))); clear h1 h2))
        all_goals go_wp2_with fail
        all_goals go_meet
        all_goals
          first
            | with_reducible exact pfin1 HPW.out.at1 HPL.out
            | with_reducible exact (pfin1 HPW.out.at1 HPL.out).drew
            | with_reducible exact pfin2 HPW.out.at1 HPL.out
            | with_reducible exact (pfin2 HPW.out.at1 HPL.out).drew
            | with_reducible exact pfin3 (HPW.out.at2 HZ1.out HZ2.out) HPL.out HZ1.out HZ.out
            | with_reducible exact (pfin3 (HPW.out.at2 HZ1.out HZ2.out) HPL.out HZ1.out HZ.out).drew
            | with_reducible exact pfin4 (HPW.out.at2 HY1.out HY2.out) HPL.out HY1.out HY.out
            | with_reducible exact (pfin4 (HPW.out.at2 HY1.out HY2.out) HPL.out HY1.out HY.out).drew
            | with_reducible exact pfin5 (HPW.out.at3 HZ1.out HZ2.out HY1.out HY2.out) HPL.out HZ1.out HY1.out v1 HZ.out HY.out
            | with_reducible exact (pfin5 (HPW.out.at3 HZ1.out HZ2.out HY1.out HY2.out) HPL.out HZ1.out HY1.out v1 HZ.out HY.out).drew
            | with_reducible exact pfin6 (HPW.out.at3 HZ1.out HZ2.out HY1.out HY2.out) HPL.out HZ1.out HY1.out v1 HZ.out HY.out
            | with_reducible exact (pfin6 (HPW.out.at3 HZ1.out HZ2.out HY1.out HY2.out) HPL.out HZ1.out HY1.out v1 HZ.out HY.out).drew
      case rest =>
        obtain ⟨qd, qn, s5, c5, rfl, rfl, hx, hy, _, _, _, hr5, hf5⟩ := hcut
        have HQ := Lib.hid hx
        have HNB := Lib.hid hy
        have HR5 := Lib.hid hr5.rowsIn
        have HF5 := Lib.hid hf5
        have HRC := Lib.hid (HRD.out _ hf5)
        clear a0 a1 a2 a3 a4 c0 c1 c2 z1 z2 z3 z4 z5 z6 z7 z8
        obtain ⟨a0, a1, a2, a3, a4, _⟩ := cells5 (hf5.keep HX.out (by simp))
        obtain ⟨c0, c1, c2, _⟩ := cells3 (hf5.keep HH.out (by simp))
        clear hx hy hr5 hf5 HDL HRD hpl hql
        go_wp2_with (go_at_call 11; refine HRC.out.mono ?_; rintro e w6 ⟨s6, c6, rfl, h1, h2⟩; refine go_stop ?_)
        unfold Stop
        have HR6 := Lib.hid h1
        have HF6 := Lib.hid h2
        clear h1 h2 a0 a1 a2 a3 a4 c0 c1 c2
        go_wp2_with fail
        obtain ⟨px, hq⟩ : ∃ q, q = w6.heap.size := ⟨_, rfl⟩
        have hxx : ((w6.alloc (.cells #[.string A.f, .string A.t, .int .i64 A.next, .bool A.once, .bool A.dead] 25)).alloc (.cells #[.int .i64 N.err, .int .i64 N.hor, .int .i64 N.upto, .slice s6 N.rows.length c6] 39)).heap[px]? = some (.cells #[.string A.f, .string A.t, .int .i64 A.next, .bool A.once, .bool A.dead] 25 (0, 0)) := by rw [hq]; exact blk_new2 w6 _ _
        have hyx : ((w6.alloc (.cells #[.string A.f, .string A.t, .int .i64 A.next, .bool A.once, .bool A.dead] 25)).alloc (.cells #[.int .i64 N.err, .int .i64 N.hor, .int .i64 N.upto, .slice s6 N.rows.length c6] 39)).heap[px + 1]? = some (.cells #[.int .i64 N.err, .int .i64 N.hor, .int .i64 N.upto, .slice s6 N.rows.length c6] 39 (0, 0)) := nblk_at (by rw [hq]; simp)
        have hfx : Fr [] w6 ((w6.alloc (.cells #[.string A.f, .string A.t, .int .i64 A.next, .bool A.once, .bool A.dead] 25)).alloc (.cells #[.int .i64 N.err, .int .i64 N.hor, .int .i64 N.upto, .slice s6 N.rows.length c6] 39)) := ((Fr.refl [] w6).alloc _).alloc _
        rw [← hq]
        clear hq
        generalize ((w6.alloc (.cells #[.string A.f, .string A.t, .int .i64 A.next, .bool A.once, .bool A.dead] 25)).alloc (.cells #[.int .i64 N.err, .int .i64 N.hor, .int .i64 N.upto, .slice s6 N.rows.length c6] 39)) = wx at hxx hyx hfx ⊢
        have HCX := Lib.hid (HF6.out.trans hfx (by simp))
        have HCW := Lib.hid (HF5.out.trans HCX.out (by simp))
        obtain ⟨a0, a1, a2, a3, a4, _⟩ := cells5 (HCW.out.keep HX.out (by simp))
        have Aa0 := fun n : After [] wx => n.cell a0 (by simp)
        have Aa1 := fun n : After [] wx => n.cell a1 (by simp)
        have Aa2 := fun n : After [] wx => n.cell a2 (by simp)
        have Aa3 := fun n : After [] wx => n.cell a3 (by simp)
        have Aa4 := fun n : After [] wx => n.cell a4 (by simp)
        obtain ⟨c0, c1, c2, _⟩ := cells3 (HCW.out.keep HH.out (by simp))
        have Ac0 := fun n : After [] wx => n.cell c0 (by simp)
        have Ac1 := fun n : After [] wx => n.cell c1 (by simp)
        have Ac2 := fun n : After [] wx => n.cell c2 (by simp)
        obtain ⟨d0, d1, d2, d3, d4, _⟩ := cells5 (HCX.out.keep HQ.out (by simp))
        have Ad0 := fun n : After [] wx => n.cell d0 (by simp)
        have Ad1 := fun n : After [] wx => n.cell d1 (by simp)
        have Ad2 := fun n : After [] wx => n.cell d2 (by simp)
        have Ad3 := fun n : After [] wx => n.cell d3 (by simp)
        have Ad4 := fun n : After [] wx => n.cell d4 (by simp)
        obtain ⟨m0, m1, m2, m3, _⟩ := cells4 (HCX.out.keep HNB.out (by simp))
        have Am0 := fun n : After [] wx => n.cell m0 (by simp)
        have Am1 := fun n : After [] wx => n.cell m1 (by simp)
        have Am2 := fun n : After [] wx => n.cell m2 (by simp)
        have Am3 := fun n : After [] wx => n.cell m3 (by simp)
        obtain ⟨x0, x1, x2, x3, x4, _⟩ := cells5 hxx
        have Ax0 := fun n : After [] wx => n.cell x0 (by simp)
        have Ax1 := fun n : After [] wx => n.cell x1 (by simp)
        have Ax2 := fun n : After [] wx => n.cell x2 (by simp)
        have Ax3 := fun n : After [] wx => n.cell x3 (by simp)
        have Ax4 := fun n : After [] wx => n.cell x4 (by simp)
        obtain ⟨y0, y1, y2, y3, _⟩ := cells4 hyx
        have Ay0 := fun n : After [] wx => n.cell y0 (by simp)
        have Ay1 := fun n : After [] wx => n.cell y1 (by simp)
        have Ay2 := fun n : After [] wx => n.cell y2 (by simp)
        have Ay3 := fun n : After [] wx => n.cell y3 (by simp)
        have qe := fun W => run_eql_rc A W
        have HRE := Lib.hid fun W => cu_real A W
        unfold Cu.val at HRE
        have HTL := Lib.hid fun W s c => cu_told N s N.rows.length c W
        have HSM := Lib.hid fun W s s' c c' (h1 : RowsIn W (.slice s N.rows.length c) N.rows) (h2 : RowsIn W (.slice s' N.rows.length c') N.rows) => rcu_same N _ _ W h1 h2
        unfold ntV at HTL HSM
        have R1 := Lib.hid (HR5.out.keep0 HCX.out)
        have R2 := Lib.hid (HR6.out.keep0 hfx)
        have HFZ := Lib.hid (HF.out.trans HCW.out (by simp))
        clear hxx hyx hfx
        refine wp_region_after [] (by kernel_rfl) (by kernel_rfl) ?_
        repeat (go_big_quiet_step (first
          | (go_at_call 12; exact After.quiet (HRE.out _))
          | (go_at_call 14; exact After.quiet (HTL.out _ _ _))
          | (go_at_call 13; exact After.quiet (HSM.out _ _ _ _ _ (R1.out.keep0 (After.fr _)) (R2.out.keep0 (After.fr _))))
          | (go_at_call 10; exact After.quiet (HMA.out _))
          | (go_at_call 15; exact After.quiet (HWI.out _))
          | (go_at_call 16; exact After.quiet (HWR.out _))))
        refine wpQuiet_nil ?_
        rintro _ ⟨nq, rfl⟩
        go_wp2_with fail
        go_ret
        exact ⟨rfl, (HFZ.out.trans nq.fr (by simp)).below (Nat.le_refl _) (by simp)⟩

set_option maxRecDepth 100000 in
theorem contract (H : Type) (enc : TypeId × Value → H) (W : World) (base : Nat) (args : Array Value) (ds gs : List (DataW H)) (before : List MemPlace)
    (hval0 : ∀ (j : Nat) t v, Try.f3.params[j]? = some t → args[j]? = some v → Value.okWide Try.prog W .any base t v)
    (hW : DataW.Whole enc Try.prog Try.f3.params.toList Rows.cursorDeliversSpec.vars false W args.toList ds gs before) :
    Calls Try.prog 3 args W fun e W' => ∃ v, e = .returned v ∧ Rows.cursorDeliversSpec.post enc Try.prog Try.f3 false true false false W args v W' := by
  have hval : ∀ (j : Nat) t v, Try.f3.params[j]? = some t → args[j]? = some v → Value.okWide Try.prog W .any base t v := hval0
  have hW' := hW
  obtain ⟨p, q, hA0, hV, rfl, hfz, hnd⟩ := hW
  have hA : DataW.TrodAll enc Try.prog W 0 (fun _ => true) true Try.f3.params.toList args.toList ds p := hA0
  rw [Try.params3] at hA hval
  obtain ⟨v0, vs0, d0, ds0, p0, q0, hargs, rfl, rfl, h0, r0⟩ := trodAll_cons hA
  obtain ⟨v1, vs1, d1, ds1, p1, q1, rfl, rfl, rfl, h1, r1⟩ := trodAll_cons r0
  obtain ⟨v2, vs2, d2, ds2, p2, q2, rfl, rfl, rfl, h2, r2⟩ := trodAll_cons r1
  obtain ⟨rfl, rfl, rfl⟩ := trodAll_nil r2
  obtain rfl : args = #[v0, v1, v2] := by cases args; simp_all
  obtain ⟨rfl, rfl⟩ := trodVars_none hV
  have k0 := h0
  have lt0 : ∀ x ∈ p0, x.block < W.heap.size := by obtain ⟨m, hm⟩ := k0; exact DataW.trod_lt m _ _ _ hm
  have k1 := h1
  have lt1 : ∀ x ∈ p1, x.block < W.heap.size := by obtain ⟨m, hm⟩ := k1; exact DataW.trod_lt m _ _ _ hm
  have k2 := h2
  have lt2 : ∀ x ∈ p2, x.block < W.heap.size := by obtain ⟨m, hm⟩ := k2; exact DataW.trod_lt m _ _ _ hm
  obtain ⟨c, rfl, fc, tc, nc⟩ := open_cu (hval 0 25 v0 rfl rfl) h0
  obtain ⟨hs, hr, hh, rfl, wr, wh⟩ := open_head (hval 1 27 v1 rfl rfl) h1
  obtain ⟨rows, hrows⟩ := open_rows (hval 2 28 v2 rfl rfl) h2
  clear hA0 hval0 hval
  refine (walk c hs hr hh v2 rows W nc wr wh hrows).mono fun e W' ⟨he, bel⟩ => ?_
  subst he
  exact ⟨_, rfl, _, _, _, [], _, [], hW', trodAll_mk1 (shut_bool Try.underlying4 _), (trodAll_cons_mk (Below.trod laid_prog (by kernel_rfl) (of_decide_eq_true (by kernel_rfl)) k0 bel lt0) (trodAll_cons_mk (Below.trod laid_prog (by kernel_rfl) (of_decide_eq_true (by kernel_rfl)) k1 bel lt1) (trodAll_cons_mk (Below.trod laid_prog (by kernel_rfl) (of_decide_eq_true (by kernel_rfl)) k2 bel lt2) trodAll_mk0))), rfl, bel.frame _, fun h => by cases h⟩

set_option maxRecDepth 100000 in
theorem lifted (os : Os) (started : os.Started) (H : Type) (enc : TypeId × Value → H) :
    ReturnsInHanded {} Try.checked os 3 .any (Rows.cursorDeliversSpec.pre6 enc Try.prog Try.f3 Rows.cursorDeliversRow.domain false) (Rows.cursorDeliversSpec.post enc Try.prog Try.f3 false true false false) := by
  refine returnsInHanded_of_change (C := Try.checked) own_prog started (by kernel_rfl) Try.func3
    (ChangeSpec.witness6 (enc := enc) (C := Try.checked) false ⟨#[], #[.agg #[.string ⟨#[]⟩, .string ⟨#[]⟩, .int .i64 0, .bool false, .bool false], .agg #[.int .i64 0, .int .i64 0, .int .i64 0], .slice none 0 0], []⟩ 8 (by kernel_rfl) (by kernel_rfl) (by kernel_rfl) (by kernel_rfl)) ?_
  intro W base args ds gs before hval hW _ _
  exact contract H enc W base args ds gs before hval hW

theorem proved : Rows.CursorDeliversSaid :=
  OpenClaim.holds_of_wide 3 Try.f3 rfl rfl rfl rfl rfl rfl rfl ⟨rfl, rfl, rfl, rfl, rfl⟩ rfl rfl rfl rfl rfl (by kernel_rfl) Try.func3 (by kernel_rfl)
    (of_decide_eq_true (by kernel_rfl)) (by unfold Func.isWrapper; first | (rw [if_pos (by decide +kernel)]; kernel_rfl) | (rw [if_neg (by decide +kernel)]; exact ⟨rfl, rfl⟩))
    (fun os started H enc _ => lifted os started H enc)

end Go.Proofs.Ytmbfcdoemcffpaa.lawCursorDelivers
