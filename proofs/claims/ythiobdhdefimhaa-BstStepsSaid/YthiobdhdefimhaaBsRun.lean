/- PACKAGE bst: Run -/
import Derived.Test.YthiobdhdefimhaaBsCall
import Derived.Deep.LoopGhost
namespace Go.Proofs.Ythiobdhdefimhaa
open Go.RowKit
set_option linter.unusedVariables false
set_option linter.unusedSimpArgs false

/-- so many steps at most, each one right, lead there -/
def OkRun : Nat → Tr → Cl → Stp → Tr → Cl → Prop
  | 0, _, _, _, _, _ => False
  | n + 1, t, c, s, t', c' => StepOk t c s ∧ Small t c ∧ match (stepP t c s).2.2 with
    | none => (stepP t c s).1 = t' ∧ (stepP t c s).2.1 = c'
    | some s' => OkRun n (stepP t c s).1 (stepP t c s).2.1 s' t' c'
/-- a call on its way -/
structure Way (X : List Nat) (w0 : World) (A0 : TA) (a0 : CA) (kd : Kd) (w : World) (A : TA) (a : CA) (t : Tr) (c : Cl) (V : Value) : Prop where
  cf : Cf X w A a t c V
  kk : c.kd = kd
  ext : Ext A0 A
  pv : ∃ pv, a = { a0 with pv := pv }
  fr : Fr (Both A0 a0 kd) w0 w
  new : ∀ x ∈ Both A a kd, x ∈ Both A0 a0 kd ∨ w0.heap.size ≤ x
theorem Way.step {X : List Nat} {w0 w w' : World} {A0 A : TA} {a0 a : CA} {kd : Kd} {t t' : Tr} {c : Cl} {o : Out} {V : Value} {e : Ending} (h : Way X w0 A0 a0 kd w A a t c V) (hp : StepPost X w A a kd t' o e w') :
    ∃ A' a' V', e = .returned (.bool o.2.isNone) ∧ Way X w0 A0 a0 kd w' A' a' t' o.1 V' ∧ OutV X w' A' a' kd V' o.2 ∧ Fr (Both A a kd) w w' ∧ Ext A A' ∧ a'.cb = a.cb := by
  obtain ⟨A', a', V', he, k1, k2, k3, k4, ⟨pv, rfl⟩, k5, k6⟩ := hp
  obtain ⟨pv0, hpv⟩ := h.pv
  refine ⟨A', _, V', he, ⟨k1, k3, h.ext.trans k4, ⟨pv, by rw [hpv]⟩, h.fr.trans k5 h.new, fun x hx => ?_⟩, k2, k5, k4, rfl⟩
  rcases k6 x hx with h1 | h1
  · exact h.new x h1
  · exact Or.inr (Nat.le_trans h.fr.size h1)
def RunPost (X : List Nat) (w : World) (A : TA) (a : CA) (kd : Kd) (t' : Tr) (c' : Cl) (e : Ending) (w' : World) : Prop :=
  ∃ A' a', e = .returned c'.ans.agg ∧ Way X w A a kd w' A' a' t' c' .nilFunc
theorem Cf.lt {X : List Nat} {w : World} {A : TA} {a : CA} {t : Tr} {c : Cl} {N : Value} (h : Cf X w A a t c N) : ∀ x ∈ Both A a c.kd, x < w.heap.size := fun x hx => (List.mem_append.1 hx).elim (h.tree.toTreeB.lt x) (h.call.lt x)
theorem Way.keepR {X : List Nat} {w0 w w' : World} {A0 A : TA} {a0 a : CA} {kd : Kd} {t : Tr} {c : Cl} {V : Value} {rb : Nat} {cur : Array Value} {f : Nat × Nat} (h : Way X w0 A0 a0 kd w A a t c V) (hf : Fr [rb] w w') (hb : w.heap[rb]? = some (.cells cur 32 f)) (hout : rb ∉ Both A a kd) (h0 : w0.heap.size ≤ rb ∨ rb ∈ Both A0 a0 kd) : Way X w0 A0 a0 kd w' A a t c V := by
  have hi : Iv X w w' := hf.iv (mut_one hb (imm_ty (by decide) (by decide)))
  refine ⟨⟨h.cf.tree.keep hf hi (fun k hk hm => ?_), h.cf.call.keep hf hi (fun k hk hm => ?_), fun x hx => Nat.lt_of_lt_of_le (h.cf.xs x hx) hf.size⟩, h.kk, h.ext, h.pv, h.fr.trans hf (fun x hx => ?_), h.new⟩
  · simp only [List.mem_singleton] at hm; subst hm; exact hout (List.mem_append_left _ hk)
  · simp only [List.mem_singleton] at hm; subst hm; rw [h.kk] at hk; exact hout (List.mem_append_right _ hk)
  · simp only [List.mem_singleton] at hx; subst hx; exact h0.symm
set_option maxHeartbeats 4000000 in
theorem bt_Run {X : List Nat} {w : World} {A : TA} {a : CA} {t t' : Tr} {c c' : Cl} {V : Value} {s : Stp} {n : Nat} (h : Cf X w A a t c V) (hs : StpAt X w A a c.kd V s) (hr : OkRun n t c s t' c') :
    Calls Try.prog 9 #[pt a.cb] w (RunPost X w A a c.kd t' c') := by
  obtain ⟨kd, hkd⟩ : ∃ kd, kd = c.kd := ⟨_, rfl⟩
  rw [← hkd] at hs ⊢
  obtain ⟨wa, hwa⟩ : ∃ wa, wa = w.alloc (.cells #[.bool false, .string ⟨#[]⟩, .int .u64 0, .int .i64 0] 32) := ⟨_, rfl⟩
  have hfa : Fr [] w wa := by rw [hwa]; exact (Fr.refl [] w).alloc _
  have hrb : wa.heap[w.heap.size]? = some (.cells #[.bool false, .string ⟨#[]⟩, .int .u64 0, .int .i64 0] 32 (0, 0)) := by rw [hwa]; exact new_block w _
  have hlt := lt_of_block hrb
  have H0 : Hid (Way X wa A a kd wa A a t c V ∧ StpAt X wa A a kd V s) := Lib.hid ⟨⟨h.keep0 hfa, hkd.symm, Ext.refl A, ⟨a.pv, rfl⟩, Fr.refl _ _, fun x hx => Or.inl hx⟩, hs.keep hfa.iv0⟩
  have HRB := Lib.hid hrb
  have HOUT : Hid (∀ A1 a1, (∀ x ∈ Both A1 a1 kd, x ∈ Both A a kd ∨ wa.heap.size ≤ x) → w.heap.size ∉ Both A1 a1 kd) := Lib.hid fun A1 a1 hn hm => by
    rcases hn _ hm with h1 | h1
    · rw [hkd] at h1; exact Nat.lt_irrefl _ (h.lt _ h1)
    · omega
  have HFIN : Hid (∀ w' A' a', Way X wa A a kd w' A' a' t' c' .nilFunc → Way X w A a kd w' A' a' t' c' .nilFunc) := Lib.hid fun w' A' a' hw => ⟨hw.cf, hw.kk, hw.ext, hw.pv, (hfa.mono (by simp)).trans hw.fr (fun x hx => Or.inl hx), fun x hx => (hw.new x hx).imp id (fun h => Nat.le_trans hfa.size h)⟩
  have HR := Lib.hid hr
  have HWA := Lib.hid hwa
  clear h hs hr hwa hfa hrb hkd hlt
  go_enter Try.func9, Try.ntmps9
  go_wp2_with fail
  rw [← HWA.out]
  go_loopg [] n (fun k wr => ∃ t1 c1 s1 A1 a1 V1, Way X wa A a kd wr A1 a1 t1 c1 V1 ∧ StpAt X wr A1 a1 kd V1 s1 ∧ OkRun k t1 c1 s1 t' c' ∧ wr.heap[w.heap.size]? = some (.cells #[.bool false, .string ⟨#[]⟩, .int .u64 0, .int .i64 0] 32 (0, 0)))
  case atStart => exact ⟨t, c, s, A, a, V, H0.out.1, H0.out.2, HR.out, HRB.out⟩
  case round =>
    obtain ⟨t1, c1, s1, A1, a1, V1, hw, hst, hok, hrb⟩ := hrel
    cases gk with
    | zero => exact absurd hok id
    | succ gk =>
    obtain ⟨ok1, ok2, ok3⟩ := hok
    have hcb : a1.cb = a.cb := by obtain ⟨pv, hp⟩ := hw.pv; rw [hp]
    have hk1 := hw.kk
    subst hk1
    have HS : Hid (Calls Try.prog 20 #[pt a.cb] wr fun e w' => ∃ A' a' V', e = .returned (.bool (stepP t1 c1 s1).2.2.isNone) ∧ Way X wa A a c1.kd w' A' a' (stepP t1 c1 s1).1 (stepP t1 c1 s1).2.1 V' ∧ OutV X w' A' a' c1.kd V' (stepP t1 c1 s1).2.2 ∧ w'.heap[w.heap.size]? = some (.cells #[.bool false, .string ⟨#[]⟩, .int .u64 0, .int .i64 0] 32 (0, 0)) ∧ a'.cb = a.cb) := Lib.hid (by
      have := bt_step hw.cf hst ok1 ok2
      rw [hcb] at this
      refine this.mono fun e w' hp => ?_
      obtain ⟨A', a', V', k1, k2, k3, k4, _, k5⟩ := hw.step hp
      exact ⟨A', a', V', k1, k2, k3, k4.keep hrb (HOUT.out _ _ hw.new), by rw [k5, hcb]⟩)
    obtain ⟨t2, ht2⟩ : ∃ t2, t2 = (stepP t1 c1 s1).1 := ⟨_, rfl⟩
    obtain ⟨c2, hc2⟩ : ∃ c2, c2 = (stepP t1 c1 s1).2.1 := ⟨_, rfl⟩
    obtain ⟨o2, ho2⟩ : ∃ o2, o2 = (stepP t1 c1 s1).2.2 := ⟨_, rfl⟩
    rw [← ht2, ← hc2, ← ho2] at HS ok3
    have HO := Lib.hid ok3
    clear hw hst ok1 ok2 ok3 hcb hrb ht2 hc2 ho2 H0
    cases o2 with
    | none =>
      simp only [Option.isNone_none] at HS
      go_wp2_with (go_at_call 20; refine HS.out.mono ?_; rintro e w2 ⟨A2, a2, V2, rfl, hw2, hv2, hrb2, hcb2⟩; refine go_stop ?_)
      unfold Stop
      have hv : V2 = .nilFunc := hv2
      subst hv
      obtain ⟨rfl, rfl⟩ := HO.out
      have hcbk := hw2.cf.call.cbk
      have HAN : Hid (Calls Try.prog 19 #[pt a.cb] w2 fun e w' => e = .returned (.tuple #[c2.ans.agg, .bool true]) ∧ Fr [] w2 w') := Lib.hid (by have := ans_done hcbk; rw [hcb2] at this; exact this)
      have HW2 := Lib.hid hw2
      have HRB2 := Lib.hid hrb2
      have hrlt := lt_of_block hrb2
      clear hw2 hv2 hrb2 hcb2 hcbk
      unfold An.agg at HAN
      go_wp2_with (go_at_call 19; refine HAN.out.mono ?_; rintro e w3 ⟨rfl, hf3⟩; refine go_stop ?_)
      unfold Stop
      have HF3 := Lib.hid hf3
      have hrb3 := hf3.keep HRB2.out (by simp)
      have hsz := lt_of_block hrb3
      have hfa := (Fr.refl [] w3).alloc (.cells #[.bool c2.ans.ok, .string c2.ans.key, .int .u64 c2.ans.val, .int .i64 c2.ans.err] 32)
      obtain ⟨r0, r1, r2, r3, rf⟩ := cells4 hrb3
      obtain ⟨n0, n1, n2, n3, nf⟩ := cells4 (new_block w3 (.cells #[.bool c2.ans.ok, .string c2.ans.key, .int .u64 c2.ans.val, .int .i64 c2.ans.err] 32))
      have rf0 := rf 0
      have rf1 := rf 1
      have rf2 := rf 2
      have rf3 := rf 3
      have m1 : ¬ w.heap.size = w3.heap.size := by omega
      have m2 : ¬ w3.heap.size = w.heap.size := by omega
      have HFA := Lib.hid hfa
      clear hf3 hrb3 hfa rf nf
      go_wp2
      refine bodyPost_ret (v := .agg #[.bool c2.ans.ok, .string c2.ans.key, .int .u64 c2.ans.val, .int .i64 c2.ans.err]) (by simp [results, Try.results9, go_sem, *]) rfl ⟨A2, a2, rfl, (HFIN.out _ A2 a2 HW2.out).keepR ?_ HRB2.out (HOUT.out _ _ HW2.out.new) (Or.inl (Nat.le_refl _))⟩
      have hf30 : Fr [w.heap.size] w2 w3 := HF3.out.mono (by simp)
      exact (((((hf30.setCell (Or.inl (by simp)) _).setCell (Or.inl (by simp)) _).setCell (Or.inl (by simp)) _).setCell (Or.inl (by simp)) _).alloc _)
    | some s2 =>
      simp only [Option.isNone_some] at HS
      go_wp2_with (go_at_call 20; refine HS.out.mono ?_; rintro e w2 ⟨A2, a2, V2, rfl, hw2, hv2, hrb2, hcb2⟩; refine go_stop ?_)
      unfold Stop
      have HX := Lib.hid (show _ from ⟨t2, c2, s2, A2, a2, V2, hw2, hv2, HO.out, hrb2⟩ : ∃ t9 c9 s9 A9 a9 V9, Way X wa A a c1.kd w2 A9 a9 t9 c9 V9 ∧ StpAt X w2 A9 a9 c1.kd V9 s9 ∧ OkRun gk t9 c9 s9 t' c' ∧ w2.heap[w.heap.size]? = some (.cells #[.bool false, .string ⟨#[]⟩, .int .u64 0, .int .i64 0] 32 (0, 0)))
      clear hw2 hv2 hrb2 hcb2
      go_wp2
      go_roundg gk
      case measure => omega
      case rel => exact HX.out
end Go.Proofs.Ythiobdhdefimhaa
