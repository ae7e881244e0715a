/- ARGUMENTS OF THE LAWS OF front: heads, opened -/
import Derived.Test.YtmipllkgioakoaaFrAw
import Derived.Test.YtmipllkgioakoaaTxLaw
import Derived.Test.YtmipllkgioakoaaEvMap
namespace Go.Proofs.Ytmipllkgioakoaa
open Go.ChangeShapes Go.WideShapes Go.ChangeAt Go.RowKit Go.Deep
set_option linter.unusedVariables false
set_option linter.unusedSimpArgs false

/-- what an int is -/
abbrev IsI (n : Int) : Prop := -9223372036854775808 ≤ n ∧ n < 9223372036854775808
theorem isI_of {n : Int} (h : (Lit.int .i64 n).wf = true) : IsI n := by
  have m1 : IntKind.i64.min = -9223372036854775808 := by decide
  have m2 : IntKind.i64.max = 9223372036854775807 := by decide
  have h' : IntKind.i64.min ≤ n ∧ n ≤ IntKind.i64.max := by simpa [Lit.wf] using h
  omega
section
variable {H : Type} {enc : TypeId × Value → H} {w : World} {base : Nat} {spare : Nat → Bool} {held : Bool}
theorem fhd_cells : Try.prog.cellsOf 30 = 3 := by kernel_rfl
set_option maxRecDepth 100000 in
theorem open_fhd {v : Value} {d : DataW H} {p : List MemPlace} {r : Reach} {b0 : Nat} (hv : Value.okWide Try.prog w r b0 30 v) (h : DataW.Trod enc Try.prog w base spare held 30 v d p) :
    ∃ x y z : Int, v = .agg #[.int .i64 x, .int .i64 y, .int .i64 z] ∧ (IsI x ∧ IsI y ∧ IsI z) := by
  obtain ⟨c0, c1, c2, y0, y1, y2, m, rfl, rfl, rfl, h0, h1, h2⟩ := Joins.open_agg3 Try.underlying30 (by kernel_rfl) fhd_cells hv h
  obtain ⟨f, e0, _, w0⟩ := DataW.trod_int Try.underlying3 h0
  obtain ⟨t, e1, _, w1⟩ := DataW.trod_int Try.underlying3 h1
  obtain ⟨u, e2, _, w2⟩ := DataW.trod_int Try.underlying3 h2
  simp only [List.cons.injEq, and_true] at e0 e1 e2
  subst e0 e1 e2
  exact ⟨f, t, u, rfl, isI_of w0, isI_of w1, isI_of w2⟩
end
theorem two_new (w : World) (o1 o2 : Obj) : ((w.alloc o1).alloc o2).heap[w.heap.size]? = some o1 ∧ ((w.alloc o1).alloc o2).heap[w.heap.size + 1]? = some o2 ∧ Fr [] w ((w.alloc o1).alloc o2) ∧ ((w.alloc o1).alloc o2).heap.size = w.heap.size + 2 := by
  have a1 : Fr [] (w.alloc o1) ((w.alloc o1).alloc o2) := (Fr.refl [] _).alloc _
  have b1 := new_block w o1
  have b2 := new_block (w.alloc o1) o2
  simp only [World.size_alloc] at b2
  exact ⟨a1.keep b1 (by simp), b2, ((Fr.refl [] w).alloc _).alloc _, by simp⟩

/-- of a plan: its events' revision; with an error it is nothing -/
structure DecF (P : Pl) (r : Int) (n : Nat) : Prop where
  rev : ∀ (i : Nat) (e : Ev), P.rows[i]? = some e → e.rev = wrap64 (r + 1)
  quiet : P.err ≠ 0 → P.rows = [] ∧ P.ok = false ∧ P.hor = 0
  len : P.rows.length ≤ n
theorem decP_facts (q : Rq) (m : List Kv) (r h : Int) : DecF (decP q m r h) r (q.thn.length + q.els.length) := by
  rcases decP_cases q m r h with ⟨_, e⟩ | ⟨_, _, e⟩ | ⟨_, _, e⟩
  · rw [e]
    rcases chP_cases q m r h with ⟨_, e⟩ | ⟨_, _, e⟩ | ⟨_, _, e⟩
    · rw [e]; exact ⟨by simp, fun h => absurd rfl h, Nat.zero_le _⟩
    · rw [e]
      refine ⟨fun i x hx => ?_, fun h => absurd rfl h, by rw [evL_len]; exact planL_len m q⟩
      unfold evL at hx
      rw [List.getElem?_map] at hx
      cases hc : (planL m q)[i]? with
      | none => rw [hc] at hx; cases hx
      | some o => rw [hc] at hx; cases hx; rfl
    · rw [e]; exact ⟨by simp, fun _ => ⟨rfl, rfl, rfl⟩, Nat.zero_le _⟩
  · rw [e]
    unfold coP
    split
    · exact ⟨by simp, fun _ => ⟨rfl, rfl, rfl⟩, Nat.zero_le _⟩
    · exact ⟨by simp, fun h => absurd rfl h, Nat.zero_le _⟩
  · rw [e]; exact ⟨by simp, fun h => absurd rfl h, Nat.zero_le _⟩

/-- what there is of some keys, in turn -/
def inK (ks : List ByteArray) (x : Kv) : Bool := ks.any (fun k => decide (k = x.key))
theorem inK_take {ks : List ByteArray} {n : Nat} {k : ByteArray} (hk : ks[n]? = some k) (x : Kv) : inK (ks.take (n + 1)) x = (inK (ks.take n) x || decide (k = x.key)) := by
  unfold inK
  rw [List.take_add_one, hk, List.any_append]; simp
theorem filt_take {m : List Kv} {j : Nat} {x : Kv} (hx : m[j]? = some x) (p : Kv → Bool) : (m.take (j + 1)).filter p = (m.take j).filter p ++ (if p x = true then [x] else []) := by
  rw [List.take_add_one, hx, List.filter_append]
  cases hp : p x <;> simp [hp]
theorem filt_len (m : List Kv) (j : Nat) (p : Kv → Bool) : ((m.take j).filter p).length ≤ m.length := by
  refine Nat.le_trans (List.length_filter_le _ _) ?_
  rw [List.length_take]; omega
theorem getK_filt {m : List Kv} {ks : List ByteArray} {k : ByteArray} (hk : k ∈ ks) : getK k (m.filter (inK ks)) = getK k m := by
  unfold getK
  induction m with
  | nil => rfl
  | cons a r ih =>
    by_cases hp : inK ks a = true
    · rw [List.filter_cons_of_pos hp, List.find?_cons, List.find?_cons, ih]
    · rw [List.filter_cons_of_neg hp, ih, List.find?_cons_of_neg]
      intro hc
      apply hp
      unfold inK
      rw [List.any_eq_true]
      exact ⟨k, hk, by simpa using (of_decide_eq_true hc).symm⟩
theorem decP_own {q : Rq} {m : List Kv} {ks : List ByteArray} (h : KeysOk q ks) (r hh : Int) : decP q (m.filter (inK ks)) r hh = decP q m r hh := by
  obtain ⟨h1, h2⟩ := plan_ext (m := m.filter (inK ks)) (m' := m) (q := q) (fun k hk => getK_filt ((h.mem k).2 hk))
  unfold decP chP
  rw [h1, h2]
end Go.Proofs.Ytmipllkgioakoaa
