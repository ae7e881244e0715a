/- PACKAGE bst: each Step does as the plain one -/
import Derived.Test.YthiobdhdefimhaaBsStep
namespace Go.Proofs.Ythiobdhdefimhaa
open Go.RowKit
set_option linter.unusedVariables false
set_option linter.unusedSimpArgs false

theorem bt_step {X : List Nat} {w : World} {A : TA} {a : CA} {t : Tr} {c : Cl} {V : Value} {s : Stp} (h : Cf X w A a t c V) (hs : StpAt X w A a c.kd V s) (ok : StepOk t c s) (sm : Small t c) :
    Calls Try.prog 20 #[pt a.cb] w (StepPost X w A a c.kd (stepP t c s).1 (stepP t c s).2) := by
  obtain ⟨s1, s2, s3, s4⟩ := sm
  cases s with
  | desc b m =>
    obtain ⟨hm, hd⟩ := ok
    obtain ⟨p0, p1, p2, p3, rfl, v0, v1, v2, v3⟩ := hs
    refine stepF_desc p0 p1 p2 p3 h.call.cbk ?_
    cases hk : c.kd <;> cases m <;> simp only [hk, MdOk] at hm <;> rw [hk] at v3
    · exact desc_way_ins h hk b p0 p1 p2 p3 v0 v1 v2 v3 s1 s2 hd
    · exact desc_way_rem h hk b p0 p1 p2 p3 v0 v1 v2 v3 s1 s2 hd
    · exact desc_find h hk b p0 p1 p2 p3 v0 v1 v2 v3 s1 s2 hd
    · exact desc_seek h hk b p0 p1 p2 p3 v0 v1 v2 v3 s1 s2 hd
    · exact desc_left h hk b p0 p1 p2 p3 v0 v1 v2 v3 s1 s2 hd
  | beg =>
    obtain ⟨hk, hn, hd⟩ := ok
    have hv : V = begV a := hs
    subst hv
    refine stepF_beg a.b0 a.b5 a.b4 h.call.cbk ?_
    rw [hk]
    exact step_beg h hk hn s1 s2 hd
  | look =>
    obtain ⟨hk, hp, hn, hu, hh⟩ := ok
    obtain ⟨p, rfl, v⟩ := hs
    exact stepF_look p h.call.cbk (step_look h rfl hk p v s1 s2 (by omega) hp s4 hn hu hh)
  | down =>
    obtain ⟨hk, hp, hn, hd⟩ := ok
    obtain ⟨p, rfl, v⟩ := hs
    refine stepF_down p h.call.cbk ?_
    rcases hk with hk | hk
    · rw [hk]; exact step_down_ins h hk p v s1 s2 hp s4 hn hd
    · rw [hk]; exact step_down_rem h hk p v s1 s2 hp s4 hn hd
  | grow l =>
    obtain ⟨hk, hg⟩ := ok
    obtain ⟨b, rfl, v⟩ := hs
    refine stepF_grow a.b0 a.b6 a.b1 a.b4 b a.b2 a.b3 h.call.cbk ?_
    rw [hk]
    exact step_grow h hk l b v hg
  | lose l =>
    obtain ⟨hk, hg⟩ := ok
    obtain ⟨b, rfl, v⟩ := hs
    refine stepF_lose a.b4 a.b1 a.b0 a.b3 b h.call.cbk ?_
    rw [hk]
    exact step_lose h hk l b v hg
  | mark o th fl =>
    obtain ⟨o1, o2, hn⟩ := ok
    obtain ⟨p0, p1, p2, p3, T, F, rfl, v0, v1, v2, v3, hT, hF⟩ := hs
    exact stepF_mark p1 p0 p2 p3 h.call.cbk (step_mark h rfl o th fl T F p0 p1 p2 p3 v0 v1 v2 v3 hT hF s1 s2 o1 o2 hn)
  | drop o th =>
    obtain ⟨o1, o2, hn, hkid⟩ := ok
    obtain ⟨p0, p1, p2, T, rfl, v0, v1, v2, hT⟩ := hs
    exact stepF_drop p0 p1 p2 h.call.cbk (step_drop h rfl o th T p0 p1 p2 v0 v1 v2 hT s1 s2 o1 o2 hn hkid)
  | take o nx th =>
    obtain ⟨ho, hnx⟩ := ok
    obtain ⟨p0, p1, p2, p3, T, rfl, v0, v1, v2, v3, hT⟩ := hs
    exact stepF_take p0 p1 p2 p3 h.call.cbk (step_take h rfl o nx th T p0 p1 p2 p3 v0 v1 v2 v3 hT s1 s2 ho hnx)
  | fin o th =>
    obtain ⟨ho, hth⟩ := ok
    obtain ⟨p0, p1, p2, T, rfl, v0, v1, v2, hT⟩ := hs
    refine stepF_end p0 p1 p2 h.call.cbk ?_
    cases th with
    | told l =>
      rcases hth with hk | ⟨hk, hl⟩
      · rw [hk] at hT ⊢
        have hT' : T = fn 61 [a.b3, a.b1, a.b2] := hT
        subst hT'
        exact step_end_toldi h hk o l p0 p1 p2 v0 v1 v2 s1 s2 ho (by omega)
      · rw [hk] at hT ⊢
        obtain ⟨bl, rfl, vl⟩ := hT
        exact step_end_toldr h hk o l bl p0 p1 p2 v0 v1 v2 s1 s2 ho (by omega) vl hl
    | look =>
      have hT' : T = .func (.func 84) #[pt a.wb] #[] := hT
      subst hT'
      exact step_end_look h rfl o p0 p1 p2 v0 v1 v2 s1 s2 ho (by omega)
    | fail =>
      obtain ⟨hk, hp⟩ := hth
      have hT' : T = fn 70 [a.b4] := hT
      subst hT'
      rw [hk]
      exact step_end_fail h hk o p0 p1 p2 v0 v1 v2 s1 s2 ho (by omega) hp s4
/-- a call that is done, or nil -/
theorem step_done {w : World} {a : CA} {r : An} (hb : CallB w a.cb .nilFunc r) : Calls Try.prog 20 #[pt a.cb] w fun e w' => e = .returned (.bool true) ∧ w = w' := by
  unfold CallB clV at hb
  obtain ⟨c0, _⟩ := cells5 hb
  have en := eql_nil
  clear hb
  go_enter Try.func20, Try.ntmps20
  go_wp2
  go_ret
  exact ⟨rfl, rfl⟩
theorem ans_done {w : World} {a : CA} {r : An} (hb : CallB w a.cb .nilFunc r) : Calls Try.prog 19 #[pt a.cb] w fun e w' => e = .returned (.tuple #[r.agg, .bool true]) ∧ Fr [] w w' := by
  have hlt := lt_of_block hb
  unfold CallB clV at hb
  have hf : Fr [] w (w.alloc (.cells #[.bool false, .string ⟨#[]⟩, .int .u64 0, .int .i64 0] 32)) := (Fr.refl [] w).alloc _
  obtain ⟨c0, c1, c2, c3, c4, _⟩ := cells5 (hf.keep hb (by simp))
  obtain ⟨d0, d1, d2, d3, df⟩ := cells4 (new_block w (.cells #[.bool false, .string ⟨#[]⟩, .int .u64 0, .int .i64 0] 32))
  have f0 := df 0
  have f1 := df 1
  have f2 := df 2
  have f3 := df 3
  have n1 : ¬ a.cb = w.heap.size := by omega
  have n2 : ¬ w.heap.size = a.cb := by omega
  have ef := neq_fn
  have en := neq_nil
  have HF := Lib.hid hf
  clear hb hf df
  go_enter Try.func19, Try.ntmps19
  go_wp2
  refine bodyPost_ret (v := .tuple #[.agg #[.bool r.ok, .string r.key, .int .u64 r.val, .int .i64 r.err], .bool true]) (by simp [results, Try.results19, go_sem, *]) rfl ⟨rfl, ?_⟩
  exact (Fr.refl [] w).alloc _
theorem ans_not {w : World} {a : CA} {r : An} {f : Fn} {x y : Array Value} (hb : CallB w a.cb (.func f x y) r) : Calls Try.prog 19 #[pt a.cb] w fun e w' => e = .returned (.tuple #[An.no.agg, .bool false]) ∧ Fr [] w w' := by
  have hlt := lt_of_block hb
  unfold CallB clV at hb
  have hf : Fr [] w (w.alloc (.cells #[.bool false, .string ⟨#[]⟩, .int .u64 0, .int .i64 0] 32)) := (Fr.refl [] w).alloc _
  obtain ⟨c0, c1, c2, c3, c4, _⟩ := cells5 (hf.keep hb (by simp))
  obtain ⟨d0, d1, d2, d3, df⟩ := cells4 (new_block w (.cells #[.bool false, .string ⟨#[]⟩, .int .u64 0, .int .i64 0] 32))
  have f0 := df 0
  have f1 := df 1
  have f2 := df 2
  have f3 := df 3
  have n1 : ¬ a.cb = w.heap.size := by omega
  have n2 : ¬ w.heap.size = a.cb := by omega
  have ef := neq_fn
  have en := neq_nil
  have HF := Lib.hid hf
  clear hb hf df
  go_enter Try.func19, Try.ntmps19
  go_wp2
  refine bodyPost_ret (v := .tuple #[.agg #[.bool false, .string ⟨#[]⟩, .int .u64 0, .int .i64 0], .bool false]) (by simp [results, Try.results19, go_sem, *]) rfl ⟨rfl, ?_⟩
  exact (Fr.refl [] w).alloc _
end Go.Proofs.Ythiobdhdefimhaa
