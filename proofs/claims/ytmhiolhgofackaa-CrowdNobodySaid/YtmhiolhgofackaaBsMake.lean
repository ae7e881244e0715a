/- PACKAGE bst: calls that are made (written by bst_make.py)
PACKAGE bst: Insert, Delete, Find, Seek (written by bst_call.py)
PACKAGE bst: Run -/
import Derived.Test.YtmhiolhgofackaaBsStep
import Derived.Deep.LoopGhost
namespace Go.Proofs.Ytmhiolhgofackaa
open Go.RowKit
set_option linter.unusedVariables false
set_option linter.unusedSimpArgs false

/-- blocks that are made one behind the other -/
def allocs (w : World) : List Obj → World
  | [] => w
  | o :: l => allocs (w.alloc o) l
theorem allocs_fr : ∀ (l : List Obj) (w : World), Fr [] w (allocs w l)
  | [], w => Fr.refl [] w
  | o :: l, w => ((Fr.refl [] w).alloc o).trans (T := []) (allocs_fr l (w.alloc o)) (by simp)
theorem allocs_get : ∀ (l : List Obj) (w : World) (i : Nat) (o : Obj), l[i]? = some o → (allocs w l).heap[w.heap.size + i]? = some o
  | q :: l, w, 0, o, h => by
    simp at h; subst h
    exact (allocs_fr l (w.alloc q)).keep (new_block w q) (by simp)
  | q :: l, w, i + 1, o, h => by
    have := allocs_get l (w.alloc q) i o (by simpa using h)
    simp only [World.size_alloc] at this
    rwa [show w.heap.size + 1 + i = w.heap.size + (i + 1) by omega] at this
/-- what is there of a call ahead of its first step -/
structure Born (w : World) (cb bc : Nat) : Prop where
  cbk : CallB w cb .nilFunc .no
  vc : w.heap[bc]? = some (.cells #[pt cb] 28 (0, 0))
theorem Born.keep {w w' : World} {cb bc : Nat} (h : Born w cb bc) (hf : Fr [] w w') : Born w' cb bc := ⟨hf.keep h.cbk (by simp), hf.keep h.vc (by simp)⟩
def Cl.new (kd : Kd) (k : ByteArray) (v : Int) : Cl := ⟨kd, k, v, [], false, none, .no⟩
/-- what making a call's first step leaves -/
def DoPost (X : List Nat) (w : World) (A : TA) (cb bc : Nat) (t : Tr) (c : Cl) (s : Stp) (e : Ending) (w' : World) : Prop :=
  ∃ A' a V, e = .returned V ∧ a.cb = cb ∧ a.bc = bc ∧ Cf X w' A' a t c .nilFunc ∧ OutV X w' A' a c.kd V (some s) ∧ Ext A A' ∧ Fr (cb :: A.foot) w w' ∧ (∀ x ∈ A'.foot, x ∈ A.foot ∨ w.heap.size ≤ x) ∧ (∀ x ∈ a.foot c.kd, x = cb ∨ x ∈ A.foot ∨ w.heap.size ≤ x)

set_option maxHeartbeats 2000000 in
theorem mk_insert (x bc : Nat) (k : ByteArray) (v : Int) (w : World) : Calls Try.prog 28 #[pt x, .string k, .int .u64 v, (.func (.func 42) #[] #[pt bc])] w fun e w' => e = .returned (.func (.func 48) #[] #[pt (w.heap.size), pt (w.heap.size + 1 + 1 + 1 + 1 + 1 + 1), pt (w.heap.size + 1 + 1 + 1 + 1 + 1)]) ∧ w' = allocs w [.cells #[pt x] 96 (0, 0), .cells #[.string k] 9 (0, 0), .cells #[.int .u64 v] 39 (0, 0), .cells #[(.func (.func 42) #[] #[pt bc])] 57 (0, 0), .cells #[pt x, .string k, .slice none 0 0, (.func (.func 59) #[] #[pt (w.heap.size + 1), pt (w.heap.size + 1 + 1 + 1), pt (w.heap.size + 1 + 1 + 1 + 1 + 1 + 1), pt (w.heap.size + 1 + 1 + 1 + 1 + 1), pt (w.heap.size + 1 + 1 + 1 + 1 + 1 + 1 + 1 + 1)])] 114 (0, 0), .cells #[pt (w.heap.size + 1 + 1 + 1 + 1)] 111 (0, 0), .cells #[.bool false] 4 (0, 0), .cells #[(.func (.func 48) #[] #[pt (w.heap.size), pt (w.heap.size + 1 + 1 + 1 + 1 + 1 + 1), pt (w.heap.size + 1 + 1 + 1 + 1 + 1)])] 58 (0, 0), .cells #[(.func (.func 51) #[] #[pt (w.heap.size), pt (w.heap.size + 1 + 1 + 1 + 1 + 1 + 1 + 1), pt (w.heap.size + 1), pt (w.heap.size + 1 + 1 + 1 + 1 + 1), pt (w.heap.size + 1 + 1), pt (w.heap.size + 1 + 1 + 1)])] 110 (0, 0)] := by
  go_enter Try.func28, Try.ntmps28
  go_wp2
  go_ret
  exact ⟨rfl, rfl⟩
theorem do_ins {X : List Nat} {w : World} {A : TA} {t : Tr} (cb bc : Nat) (k : ByteArray) (v : Int) (h : TreeAt w A t) (hb : Born w cb bc) (hx : ∀ x ∈ X, x < w.heap.size) (hcb : bc ∉ X) :
    Calls Try.prog 28 #[pt A.tb, .string k, .int .u64 v, (.func (.func 42) #[] #[pt bc])] w (DoPost X w A cb bc t (Cl.new .ins k v) .beg) := by
  refine (mk_insert A.tb bc k v w).mono ?_
  rintro e w' ⟨rfl, rfl⟩
  obtain ⟨L, hL⟩ : ∃ L, L = ([.cells #[pt A.tb] 96 (0, 0), .cells #[.string k] 9 (0, 0), .cells #[.int .u64 v] 39 (0, 0), .cells #[(.func (.func 42) #[] #[pt bc])] 57 (0, 0), .cells #[pt A.tb, .string k, .slice none 0 0, (.func (.func 59) #[] #[pt (w.heap.size + 1), pt (w.heap.size + 1 + 1 + 1), pt (w.heap.size + 1 + 1 + 1 + 1 + 1 + 1), pt (w.heap.size + 1 + 1 + 1 + 1 + 1), pt (w.heap.size + 1 + 1 + 1 + 1 + 1 + 1 + 1 + 1)])] 114 (0, 0), .cells #[pt (w.heap.size + 1 + 1 + 1 + 1)] 111 (0, 0), .cells #[.bool false] 4 (0, 0), .cells #[(.func (.func 48) #[] #[pt (w.heap.size), pt (w.heap.size + 1 + 1 + 1 + 1 + 1 + 1), pt (w.heap.size + 1 + 1 + 1 + 1 + 1)])] 58 (0, 0), .cells #[(.func (.func 51) #[] #[pt (w.heap.size), pt (w.heap.size + 1 + 1 + 1 + 1 + 1 + 1 + 1), pt (w.heap.size + 1), pt (w.heap.size + 1 + 1 + 1 + 1 + 1), pt (w.heap.size + 1 + 1), pt (w.heap.size + 1 + 1 + 1)])] 110 (0, 0)] : List Obj) := ⟨_, rfl⟩
  rw [← hL]
  have hf := allocs_fr L w
  have g := fun i o (hi : L[i]? = some o) => allocs_get L w i o hi
  have hc := hb.keep hf
  have va : ∀ i T u, L[i]? = some (.cells #[u] T (0, 0)) → (T ∈ immT ∨ T ∈ oneT) → Va X (allocs w L) (w.heap.size + i) T u := fun i T u hi ht => ⟨g i _ hi, fun hm => by have := hx _ hm; omega, ht⟩
  refine ⟨A, ⟨cb, w.heap.size + 4, bc, w.heap.size, w.heap.size + 1, w.heap.size + 2, w.heap.size + 3, w.heap.size + 5, w.heap.size + 6, w.heap.size + 7, w.heap.size + 8, .slice none 0 0⟩, _, rfl, rfl, rfl, ⟨h.keep0 hf, ⟨⟨⟨hc.vc, hcb, by decide⟩, va 3 _ _ (by rw [hL]; rfl) (by decide), va 1 _ _ (by rw [hL]; rfl) (by decide), fun _ => va 0 _ _ (by rw [hL]; rfl) (by decide), fun _ => va 5 _ _ (by rw [hL]; rfl) (by decide), fun _ => ⟨va 2 _ _ (by rw [hL]; rfl) (by decide), va 7 _ _ (by rw [hL]; rfl) (by decide), va 8 _ _ (by rw [hL]; rfl) (by decide)⟩, (fun e => by cases e), (fun e => by cases e)⟩, hc.cbk, fun _ => ⟨g 4 _ (by rw [hL]; rfl), ⟨rfl, Or.inl ⟨rfl, rfl⟩⟩⟩, fun _ => g 6 _ (by rw [hL]; rfl), (fun e => by cases e)⟩, fun x hx' => Nat.lt_of_lt_of_le (hx x hx') hf.size⟩, rfl, Ext.refl A, hf.mono (by simp), fun x hx => Or.inl hx, fun x hx => ?_⟩
  simp [Cl.new, CA.foot, WayAt.foot, Value.ownBlock] at hx
  rcases hx with rfl | rfl | rfl
  · exact Or.inl rfl
  · exact Or.inr (Or.inr (by omega))
  · exact Or.inr (Or.inr (by omega))

theorem lt_ne {X : List Nat} {n : Nat} (hx : ∀ x ∈ X, x < n) (i : Nat) : ∀ x ∈ X, x ≠ n + i := fun x h => by have := hx x h; omega
theorem DoPost.of {X : List Nat} {w W w' : World} {A : TA} {a : CA} {kd : Kd} {cb bc : Nat} {t : Tr} {c : Cl} {s : Stp} {e : Ending} (hp : Post X W A a kd .nilFunc t (c, some s) e w') (hk : c.kd = kd) (hcb : a.cb = cb) (hbc : a.bc = bc) (hf : Fr (cb :: A.foot) w W) (hfoot : ∀ x ∈ a.foot kd, x = cb ∨ x ∈ A.foot ∨ w.heap.size ≤ x) :
    ∃ V, e = .returned V ∧ Hid (DoPost X w A cb bc t c s (.returned V) w') := by
  obtain ⟨A', a', V, rfl, k1, k2, k3, k4, ⟨pv, rfl⟩, k5, k6⟩ := hp
  refine ⟨V, rfl, Lib.hid ⟨A', { a with pv := pv }, V, rfl, hcb, hbc, k1, by rw [hk]; exact k2, k4, ?_, fun x hx => ?_, fun x hx => ?_⟩⟩
  · refine hf.trans k5 (fun x hx => ?_)
    rcases List.mem_append.1 hx with h2 | h2
    · exact Or.inl (List.mem_cons_of_mem _ h2)
    · rcases hfoot x h2 with rfl | h3 | h3
      · exact Or.inl (by simp)
      · exact Or.inl (List.mem_cons_of_mem _ h3)
      · exact Or.inr h3
  · rcases k6 x (List.mem_append_left _ hx) with h1 | h1
    · rcases List.mem_append.1 h1 with h2 | h2
      · exact Or.inl h2
      · rcases hfoot x h2 with h3 | h3 | h3
        · have h4 : a.cb = x := hcb.trans h3.symm
          refine absurd hx (k1.call.sep k1.tree _ ?_)
          exact Eq.subst (motive := fun y => y ∈ CA.foot ({ a with pv := pv } : CA) c.kd) h4 (CA.cb_in ({ a with pv := pv } : CA) c.kd)
        · exact Or.inl h3
        · exact Or.inr h3
    · exact Or.inr (Nat.le_trans hf.size h1)
  · rw [hk] at hx
    rcases k6 x (List.mem_append_right _ hx) with h1 | h1
    · rcases List.mem_append.1 h1 with h2 | h2
      · exact Or.inr (Or.inl h2)
      · exact hfoot x h2
    · exact Or.inr (Or.inr (Nat.le_trans hf.size h1))

set_option maxHeartbeats 4000000 in
theorem do_fnd {X : List Nat} {w : World} {A : TA} {t : Tr} (cb bc : Nat) (k : ByteArray) (h : TreeAt w A t) (hb : Born w cb bc) (hx : ∀ x ∈ X, x < w.heap.size) (hcb : bc ∉ X) (hno : NdOk t 2) :
    Calls Try.prog 20 #[pt A.tb, .string k, (.func (.func 42) #[] #[pt bc])] w (DoPost X w A cb bc t (Cl.new .fnd k 0) (.desc (t.toward 2 k) .find)) := by
  obtain ⟨L, hL⟩ : ∃ L, L = ([.cells #[.string k] 9 (0, 0), .cells #[(.func (.func 42) #[] #[pt bc])] 57 (0, 0)] : List Obj) := ⟨_, rfl⟩
  have hf := allocs_fr L w
  have g := fun i o (hi : L[i]? = some o) => allocs_get L w i o hi
  have hc := hb.keep hf
  have va : ∀ i T u, L[i]? = some (.cells #[u] T (0, 0)) → (T ∈ immT ∨ T ∈ oneT) → (∀ x ∈ X, x ≠ w.heap.size + i) → Va X (allocs w L) (w.heap.size + i) T u := fun i T u hi ht hxx => ⟨g i _ hi, fun hm => hxx _ hm rfl, ht⟩

  obtain ⟨a, ha⟩ : ∃ a : CA, a = ⟨cb, 0, bc, 0, w.heap.size, 0, w.heap.size + 1, 0, 0, 0, 0, .slice none 0 0⟩ := ⟨_, rfl⟩
  have hcf : Cf X (allocs w L) A a t (Cl.new .fnd k 0) .nilFunc := by
    rw [ha]
    exact ⟨h.keep0 hf, ⟨⟨⟨hc.vc, hcb, by decide⟩, va 1 _ _ (by rw [hL]; rfl) (by decide) (lt_ne hx _), va 0 _ _ (by rw [hL]; rfl) (by decide) (lt_ne hx _), fun e => absurd rfl e, (fun e => by rcases e with e | e <;> cases e), (fun e => by cases e), (fun e => by cases e), (fun e => by cases e)⟩, hc.cbk, (fun e => by rcases e with e | e <;> cases e), (fun e => by cases e), (fun e => by cases e)⟩, fun x hx' => Nat.lt_of_lt_of_le (hx x hx') hf.size⟩
  have hfc : ∀ W, Fr [] w W → Fr (cb :: A.foot) w W := fun W hW => hW.mono (by simp)
  have HTW : Hid (Calls Try.prog 43 #[A.np 2, pt a.b1] (allocs w L) fun e w1 => e = .returned (t.toward 2 k).agg ∧ ∀ W, Fr [] w1 W → Calls Try.prog 45 #[pt A.tb, (t.toward 2 k).agg, fn 43 [a.b1], fn 46 [a.b1, a.b3]] W fun e w' => ∃ V, e = .returned V ∧ Hid (DoPost X w A cb bc t (Cl.new .fnd k 0) (.desc (t.toward 2 k) .find) (.returned V) w')) := Lib.hid ((tow_find hcf (kd := .fnd) rfl 2 hno).mono (by
    rintro e w1 ⟨a', ⟨pv, rfl⟩, rfl, k1, k2, k3, k4⟩
    refine ⟨rfl, fun W hW => ?_⟩
    refine (bt_desc (a := { a with pv := pv }) (k1.keep0 hW) (kd := .fnd) rfl (t.toward 2 k) .find).mono fun e w' hp => ?_
    refine DoPost.of hp rfl (by rw [ha]) (by rw [ha]) ?_ ?_
    · have h1 : Fr (cb :: A.foot) w w1 := (hf.mono (by simp)).trans k3 (fun x hx => by rw [ha] at hx; simp [CA.foot] at hx; exact Or.inl (by simp [hx]))
      exact h1.trans (T := []) hW (by simp)
    · intro x hx
      rw [ha] at hx
      simp [CA.foot] at hx
      exact Or.inl hx))
  have htop : A.np 2 = pt (A.nb.getD 2 0) := rfl
  obtain ⟨_, _, q2, _⟩ := tree_cells (h.keep0 hf).toTreeB
  rw [(h.keep0 hf).top] at q2
  rw [htop] at q2 HTW
  have hb1 : a.b1 = w.heap.size := by rw [ha]
  have hb3 : a.b3 = w.heap.size + 1 := by rw [ha]
  rw [hb1, hb3, hL] at HTW
  rw [hL] at q2
  simp only [allocs] at HTW q2
  unfold fn Br.agg at HTW
  simp only [List.map_cons, List.map_nil] at HTW
  clear hcf ha va g hc hf hL hb1 hb3 h hb hx hcb hno htop hfc
  go_enter Try.func20, Try.ntmps20
  go_wp2_with (go_at_call 43; refine HTW.out.mono ?_; rintro e w1 ⟨rfl, hds⟩; have HDS := Lib.hid (hds _ (Fr.refl _ _)); clear hds; refine go_stop ?_)
  unfold Stop
  clear q2
  go_wp2_with (go_at_call 45; refine HDS.out.mono ?_; rintro e w2 ⟨V, rfl, HRR⟩)
  go_ret
  exact HRR.out

end Go.Proofs.Ytmhiolhgofackaa
namespace Go.Proofs.Ytmhiolhgofackaa
open Go.RowKit
set_option linter.unusedVariables false
set_option linter.unusedSimpArgs false

def MadePost (X : List Nat) (w : World) (A : TA) (t : Tr) (c : Cl) (s : Stp) (e : Ending) (w' : World) : Prop :=
  ∃ A' a V, e = .returned (pt a.cb) ∧ Cf X w' A' a t c V ∧ OutV X w' A' a c.kd V (some s) ∧ Ext A A' ∧ Fr A.foot w w' ∧ (∀ x ∈ A'.foot, x ∈ A.foot ∨ w.heap.size ≤ x) ∧ (∀ x ∈ a.foot c.kd, x ∈ A.foot ∨ w.heap.size ≤ x) ∧ w.heap.size ≤ a.cb
theorem DoPost.after0 {X : List Nat} {w W w' : World} {A : TA} {cb bc : Nat} {t : Tr} {c : Cl} {s : Stp} {e : Ending} (h : DoPost X W A cb bc t c s e w') (hf : Fr [] w W) : DoPost X w A cb bc t c s e w' := by
  obtain ⟨A', a, V, h1, h2, h3, h4, h5, h6, h7, h8, h9⟩ := h
  exact ⟨A', a, V, h1, h2, h3, h4, h5, h6, (hf.mono (by simp) : Fr (cb :: A.foot) w W).trans h7 (fun x hx => Or.inl hx), fun x hx => (h8 x hx).imp id (fun h => Nat.le_trans hf.size h), fun x hx => (h9 x hx).imp id (fun h => h.imp id (fun h => Nat.le_trans hf.size h))⟩
theorem DoPost.noted {X : List Nat} {w w' : World} {A : TA} {cb bc : Nat} {t : Tr} {c : Cl} {s : Stp} {V : Value} (h : DoPost X w A cb bc t c s (.returned V) w') {w0 : World} (hf : Fr [] w0 w) (hcb : w0.heap.size ≤ cb) :
    (∃ n, w'.cell? ⟨cb, 0, none⟩ = some n) ∧ w'.frozen? ⟨cb, 0, none⟩ = false ∧ w'.cell? ⟨bc, 0, none⟩ = some (pt cb) ∧ (w'.setCell ⟨cb, 0, none⟩ V).cell? ⟨bc, 0, none⟩ = some (pt cb) ∧ (∃ f x y, V = .func f x y) ∧ MadePost X w0 A t c s (.returned (pt cb)) (w'.setCell ⟨cb, 0, none⟩ V) := by
  obtain ⟨A', a, V', hV, rfl, rfl, hcf, hov, hext, hfr, hfA, hfa⟩ := h
  cases hV
  have hb := hcf.call.cbk
  obtain ⟨hs, hf2⟩ := hcf.call.setN V
  have hcbA : a.cb ∉ A'.foot := hcf.call.sep hcf.tree _ (CA.cb_in _ _)
  have hi : Iv X w' (w'.setCell ⟨a.cb, 0, none⟩ V) := hf2.iv (mut_one hb (imm_ty (by decide) (by decide)))
  refine ⟨⟨_, by simpa [clV] using cell_block hb 0⟩, free_block hb 0, hcf.call.ctx.vc.cell, (hcf.call.ctx.vc.keep hi).cell, StpAt.form hov, A', a, V, rfl, ⟨hcf.tree.keep hf2 hi (fun k hk' hm => ?_), hs, fun x hx => Nat.lt_of_lt_of_le (hcf.xs x hx) hf2.size⟩, StpAt.keep hi hov, hext, ?_, fun x hx => (hfA x hx).imp id (fun h => Nat.le_trans hf.size h), fun x hx => ?_, hcb⟩
  · simp only [List.mem_singleton] at hm
    subst hm
    exact hcbA hk'
  · refine ((hf.mono (by simp) : Fr A.foot w0 w).trans hfr (fun x hx => ?_)).trans hf2 (fun x hx => ?_)
    · rcases List.mem_cons.1 hx with rfl | hx
      · exact Or.inr hcb
      · exact Or.inl hx
    · simp only [List.mem_singleton] at hx
      subst hx
      exact Or.inr hcb
  · rcases hfa x hx with rfl | h1 | h1
    · exact Or.inr hcb
    · exact Or.inl h1
    · exact Or.inr (Nat.le_trans hf.size h1)
def Cl.sk (t : Tr) (k : ByteArray) : Cl := if (t.nd 2).above k then { Cl.new .sek k 0 with over := some 2 } else Cl.new .sek k 0

set_option maxRecDepth 20000 in
set_option maxHeartbeats 2000000 in
theorem fn_ins {X : List Nat} {w : World} {A : TA} {t : Tr} (cb bc s0 s1 s2 : Nat) (k : ByteArray) (v : Int) (hT : TreeAt w A t) (hB : Born w cb bc) (hx : ∀ x ∈ X, x < w.heap.size) (hbc : bc ∉ X) (h0 : w.cell? ⟨s0, 0, none⟩ = some (pt A.tb)) (h1 : w.cell? ⟨s1, 0, none⟩ = some (.string k)) (h2 : w.cell? ⟨s2, 0, none⟩ = some (.int .u64 v)) :
    Calls Try.prog 27 #[(.func (.func 42) #[] #[pt bc]), pt s0, pt s1, pt s2] w (DoPost X w A cb bc t (Cl.new .ins k v) .beg) := by
  have HDO : Hid (Calls Try.prog 28 #[pt A.tb, .string k, .int .u64 v, (.func (.func 42) #[] #[pt bc])] w.drew (DoPost X w A cb bc t (Cl.new .ins k v) .beg)) := Lib.hid (by
    have hW : Fr [] w w.drew := (Fr.refl [] w).drew
    have hxW : ∀ x ∈ X, x < w.drew.heap.size := hx
    exact (do_ins cb bc k v (hT.keep0 hW) (hB.keep hW) hxW hbc).mono fun e w' hp => hp.after0 hW)
  have HDR : Hid (∀ e w', (DoPost X w A cb bc t (Cl.new .ins k v) .beg) e w' → ∃ V, e = .returned V ∧ Hid ((DoPost X w A cb bc t (Cl.new .ins k v) .beg) (.returned V) w')) := Lib.hid (by
    intro e w' hp
    skip
    obtain ⟨A', a, V, rfl, h⟩ := hp
    exact ⟨V, rfl, Lib.hid ⟨A', a, V, rfl, h⟩⟩)
  clear hT hB hx hbc
  go_enter Try.func27, Try.ntmps27
  go_upto_region 1 with fail
  go_still_tail 6, (by kernel_rfl)
  go_wp2_with (go_at_call 28; refine HDO.out.mono ?_; rintro e w2 hp; obtain ⟨V, rfl, HRR⟩ := HDR.out _ _ hp; clear hp)
  go_ret
  exact HRR.out

set_option maxRecDepth 20000 in
set_option maxHeartbeats 4000000 in
theorem call_ins {X : List Nat} {w : World} {A : TA} {t : Tr} (s0 s1 s2 : Nat) (k : ByteArray) (v : Int) (hT : TreeAt w A t) (hx : ∀ x ∈ X, x < w.heap.size) (h0 : w.cell? ⟨s0, 0, none⟩ = some (pt A.tb)) (h1 : w.cell? ⟨s1, 0, none⟩ = some (.string k)) (h2 : w.cell? ⟨s2, 0, none⟩ = some (.int .u64 v)) :
    Calls Try.prog 18 #[pt A.tb, .func (.func 27) #[] #[pt s0, pt s1, pt s2]] w (MadePost X w A t (Cl.new .ins k v) .beg) := by
  obtain ⟨wa, hwa⟩ : ∃ wa, wa = (w.alloc (.cells #[.nilFunc, .bool false, .string ⟨#[]⟩, .int .u64 0, .int .i64 0] 103)).alloc (.cells #[pt w.heap.size] 28) := ⟨_, rfl⟩
  have hf : Fr [] w wa := by rw [hwa]; exact ((Fr.refl [] w).alloc _).alloc _
  have hb : Born wa w.heap.size (w.heap.size + 1) := by
    rw [hwa]
    exact ⟨((Fr.refl [] _).alloc _).keep (new_block w _) (by simp), new_block2 w _ _⟩
  obtain ⟨cb, hcb⟩ : ∃ cb, cb = w.heap.size := ⟨_, rfl⟩
  obtain ⟨bc, hbc⟩ : ∃ bc, bc = w.heap.size + 1 := ⟨_, rfl⟩
  rw [← hbc, ← hcb] at hb
  have hDO : ∀ W, Fr [] wa W → Calls Try.prog 27 #[(.func (.func 42) #[] #[pt bc]), pt s0, pt s1, pt s2] W fun e w' => ∃ V, e = .returned V ∧ (∃ n, w'.cell? ⟨cb, 0, none⟩ = some n) ∧ w'.frozen? ⟨cb, 0, none⟩ = false ∧ w'.cell? ⟨bc, 0, none⟩ = some (pt cb) ∧ (w'.setCell ⟨cb, 0, none⟩ V).cell? ⟨bc, 0, none⟩ = some (pt cb) ∧ (∃ f x y, V = .func f x y) ∧ (MadePost X w A t (Cl.new .ins k v) .beg) (.returned (pt cb)) (w'.setCell ⟨cb, 0, none⟩ V) := fun W hW => by
    have hfW : Fr [] w W := hf.trans hW (by simp)
    refine (fn_ins (X := X) cb bc s0 s1 s2 k v (hT.keep0 hfW) (hb.keep hW) (fun x h => Nat.lt_of_lt_of_le (hx x h) hfW.size) (fun hm => by have := hx _ hm; omega)  (hfW.cell h0 (by simp)) (hfW.cell h1 (by simp)) (hfW.cell h2 (by simp))).mono fun e w' hp => ?_
    skip
    obtain ⟨V, he, hp'⟩ : ∃ V, e = .returned V ∧ DoPost X W A cb bc t (Cl.new .ins k v) .beg (.returned V) w' := by
      obtain ⟨A', a, V, rfl, h⟩ := hp
      exact ⟨V, rfl, A', a, V, rfl, h⟩
    subst he
    obtain ⟨k1, k2, k3, k4, k5, k6⟩ := hp'.noted hfW (by omega)
    exact ⟨V, rfl, k1, k2, k3, k4, k5, k6⟩
  have HDO := Lib.hid hDO
  have v5 := cell_block hb.vc 0
  simp at v5
  have HWA := Lib.hid hwa
  have HCB := Lib.hid hcb
  have HBC := Lib.hid hbc
  clear hT hx h0 h1 h2 hf hb hwa hcb hbc hDO
  go_enter Try.func18, Try.ntmps18
  go_upto_region 4 with fail
  rw [← HWA.out, ← HBC.out, ← HCB.out]
  go_region_held3 (fun W => W.cell? ⟨bc, 0, none⟩ = some (pt cb)) (go_keep)
    ((go_at_call 27; refine (HDO.out _ (Fr.refl [] wa).drew).mono ?_; rintro e w2 ⟨V, rfl, ⟨n, c0⟩, f0, v5, v6, ⟨f, x, y, rfl⟩, hm⟩
      have HM := Lib.hid hm
      clear hm))
  all_goals go_wp2
  all_goals go_ret
  all_goals exact HM.out

set_option maxHeartbeats 4000000 in
theorem bt_Insert {X : List Nat} {w : World} {A : TA} {t : Tr} (k : ByteArray) (v : Int) (hT : TreeAt w A t) (hx : ∀ x ∈ X, x < w.heap.size) :
    Calls Try.prog 14 #[pt A.tb, .string k, .int .u64 v] w (MadePost X w A t (Cl.new .ins k v) .beg) := by
  obtain ⟨wa, hwa⟩ : ∃ wa, wa = (((w.alloc (.cells #[pt A.tb] 24)).alloc (.cells #[.string k] 9)).alloc (.cells #[.int .u64 v] 39)) := ⟨_, rfl⟩
  have hf : Fr [] w wa := by rw [hwa]; exact ((((Fr.refl [] w).alloc _).alloc _).alloc _)
  have b0 : wa.heap[w.heap.size]? = some (.cells #[pt A.tb] 24 (0, 0)) := by
    rw [hwa]; exact (((Fr.refl [] _).alloc _).alloc _).keep (new_block w _) (by simp)
  have b1 : wa.heap[w.heap.size + 1]? = some (.cells #[.string k] 9 (0, 0)) := by
    rw [hwa]; exact ((Fr.refl [] _).alloc _).keep (new_block2 w _ _) (by simp)
  have b2 : wa.heap[w.heap.size + 1 + 1]? = some (.cells #[.int .u64 v] 39 (0, 0)) := by
    rw [hwa]; simpa using new_block2 (w.alloc (.cells #[pt A.tb] 24)) (.cells #[.string k] 9) (.cells #[.int .u64 v] 39)
  have HCL : Hid (Calls Try.prog 18 #[pt A.tb, .func (.func 27) #[] #[pt w.heap.size, pt (w.heap.size + 1), pt (w.heap.size + 1 + 1)]] wa fun e w' => ∃ p, e = .returned (pt p) ∧ Hid ((MadePost X w A t (Cl.new .ins k v) .beg) (.returned (pt p)) w')) := Lib.hid ((call_ins (X := X) w.heap.size (w.heap.size + 1) (w.heap.size + 1 + 1) k v (hT.keep0 hf) (fun x h => Nat.lt_of_lt_of_le (hx x h) hf.size)  (by simpa using cell_block b0 0) (by simpa using cell_block b1 0) (by simpa using cell_block b2 0)).mono (by
    intro e w' hp
    skip
    obtain ⟨A', a, V, rfl, k1, k2, k3, k4, k5, k6, k7⟩ := hp
    have hs := hf.size
    exact ⟨a.cb, rfl, Lib.hid ⟨A', a, V, rfl, k1, k2, k3, (hf.mono (by simp) : Fr A.foot w wa).trans k4 (fun x hx => Or.inl hx), fun x hx => (k5 x hx).imp id (fun h => by omega), fun x hx => (k6 x hx).imp id (fun h => by omega), by omega⟩⟩))
  obtain ⟨q0, q1⟩ : True ∧ True := ⟨trivial, trivial⟩
  have c0 := cell_block b0 0
  simp at c0
  have HWA := Lib.hid hwa
  clear hT hx hf b0 b1 b2 hwa
  go_enter Try.func14, Try.ntmps14
  go_upto_region 1 with fail
  rw [← HWA.out]
  go_wp2_with (go_at_call 18; refine HCL.out.mono ?_; rintro e w2 ⟨p, rfl, HRR⟩)
  go_ret
  exact HRR.out

set_option maxRecDepth 20000 in
set_option maxHeartbeats 2000000 in
theorem fn_fnd {X : List Nat} {w : World} {A : TA} {t : Tr} (cb bc s0 s1 : Nat) (k : ByteArray) (hT : TreeAt w A t) (hB : Born w cb bc) (hx : ∀ x ∈ X, x < w.heap.size) (hbc : bc ∉ X) (hno : NdOk t 2) (h0 : w.cell? ⟨s0, 0, none⟩ = some (pt A.tb)) (h1 : w.cell? ⟨s1, 0, none⟩ = some (.string k)) :
    Calls Try.prog 19 #[(.func (.func 42) #[] #[pt bc]), pt s0, pt s1] w (DoPost X w A cb bc t (Cl.new .fnd k 0) (.desc (t.toward 2 k) .find)) := by
  have HDO : Hid (Calls Try.prog 20 #[pt A.tb, .string k, (.func (.func 42) #[] #[pt bc])] w.drew (DoPost X w A cb bc t (Cl.new .fnd k 0) (.desc (t.toward 2 k) .find))) := Lib.hid (by
    have hW : Fr [] w w.drew := (Fr.refl [] w).drew
    have hxW : ∀ x ∈ X, x < w.drew.heap.size := hx
    exact (do_fnd cb bc k (hT.keep0 hW) (hB.keep hW) hxW hbc hno).mono fun e w' hp => hp.after0 hW)
  have HDR : Hid (∀ e w', (DoPost X w A cb bc t (Cl.new .fnd k 0) (.desc (t.toward 2 k) .find)) e w' → ∃ V, e = .returned V ∧ Hid ((DoPost X w A cb bc t (Cl.new .fnd k 0) (.desc (t.toward 2 k) .find)) (.returned V) w')) := Lib.hid (by
    intro e w' hp
    skip
    obtain ⟨A', a, V, rfl, h⟩ := hp
    exact ⟨V, rfl, Lib.hid ⟨A', a, V, rfl, h⟩⟩)
  clear hT hB hx hbc hno
  go_enter Try.func19, Try.ntmps19
  go_upto_region 1 with fail
  go_still_tail 5, (by kernel_rfl)
  go_wp2_with (go_at_call 20; refine HDO.out.mono ?_; rintro e w2 hp; obtain ⟨V, rfl, HRR⟩ := HDR.out _ _ hp; clear hp)
  go_ret
  exact HRR.out

set_option maxRecDepth 20000 in
set_option maxHeartbeats 4000000 in
theorem call_fnd {X : List Nat} {w : World} {A : TA} {t : Tr} (s0 s1 : Nat) (k : ByteArray) (hT : TreeAt w A t) (hx : ∀ x ∈ X, x < w.heap.size) (hno : NdOk t 2) (h0 : w.cell? ⟨s0, 0, none⟩ = some (pt A.tb)) (h1 : w.cell? ⟨s1, 0, none⟩ = some (.string k)) :
    Calls Try.prog 18 #[pt A.tb, .func (.func 19) #[] #[pt s0, pt s1]] w (MadePost X w A t (Cl.new .fnd k 0) (.desc (t.toward 2 k) .find)) := by
  obtain ⟨wa, hwa⟩ : ∃ wa, wa = (w.alloc (.cells #[.nilFunc, .bool false, .string ⟨#[]⟩, .int .u64 0, .int .i64 0] 103)).alloc (.cells #[pt w.heap.size] 28) := ⟨_, rfl⟩
  have hf : Fr [] w wa := by rw [hwa]; exact ((Fr.refl [] w).alloc _).alloc _
  have hb : Born wa w.heap.size (w.heap.size + 1) := by
    rw [hwa]
    exact ⟨((Fr.refl [] _).alloc _).keep (new_block w _) (by simp), new_block2 w _ _⟩
  obtain ⟨cb, hcb⟩ : ∃ cb, cb = w.heap.size := ⟨_, rfl⟩
  obtain ⟨bc, hbc⟩ : ∃ bc, bc = w.heap.size + 1 := ⟨_, rfl⟩
  rw [← hbc, ← hcb] at hb
  have hDO : ∀ W, Fr [] wa W → Calls Try.prog 19 #[(.func (.func 42) #[] #[pt bc]), pt s0, pt s1] W fun e w' => ∃ V, e = .returned V ∧ (∃ n, w'.cell? ⟨cb, 0, none⟩ = some n) ∧ w'.frozen? ⟨cb, 0, none⟩ = false ∧ w'.cell? ⟨bc, 0, none⟩ = some (pt cb) ∧ (w'.setCell ⟨cb, 0, none⟩ V).cell? ⟨bc, 0, none⟩ = some (pt cb) ∧ (∃ f x y, V = .func f x y) ∧ (MadePost X w A t (Cl.new .fnd k 0) (.desc (t.toward 2 k) .find)) (.returned (pt cb)) (w'.setCell ⟨cb, 0, none⟩ V) := fun W hW => by
    have hfW : Fr [] w W := hf.trans hW (by simp)
    refine (fn_fnd (X := X) cb bc s0 s1 k (hT.keep0 hfW) (hb.keep hW) (fun x h => Nat.lt_of_lt_of_le (hx x h) hfW.size) (fun hm => by have := hx _ hm; omega) hno (hfW.cell h0 (by simp)) (hfW.cell h1 (by simp))).mono fun e w' hp => ?_
    skip
    obtain ⟨V, he, hp'⟩ : ∃ V, e = .returned V ∧ DoPost X W A cb bc t (Cl.new .fnd k 0) (.desc (t.toward 2 k) .find) (.returned V) w' := by
      obtain ⟨A', a, V, rfl, h⟩ := hp
      exact ⟨V, rfl, A', a, V, rfl, h⟩
    subst he
    obtain ⟨k1, k2, k3, k4, k5, k6⟩ := hp'.noted hfW (by omega)
    exact ⟨V, rfl, k1, k2, k3, k4, k5, k6⟩
  have HDO := Lib.hid hDO
  have v5 := cell_block hb.vc 0
  simp at v5
  have HWA := Lib.hid hwa
  have HCB := Lib.hid hcb
  have HBC := Lib.hid hbc
  clear hT hx h0 h1 hf hb hwa hcb hbc hDO hno
  go_enter Try.func18, Try.ntmps18
  go_upto_region 4 with fail
  rw [← HWA.out, ← HBC.out, ← HCB.out]
  go_region_held3 (fun W => W.cell? ⟨bc, 0, none⟩ = some (pt cb)) (go_keep)
    ((go_at_call 19; refine (HDO.out _ (Fr.refl [] wa).drew).mono ?_; rintro e w2 ⟨V, rfl, ⟨n, c0⟩, f0, v5, v6, ⟨f, x, y, rfl⟩, hm⟩
      have HM := Lib.hid hm
      clear hm))
  all_goals go_wp2
  all_goals go_ret
  all_goals exact HM.out

set_option maxHeartbeats 4000000 in
theorem bt_Find {X : List Nat} {w : World} {A : TA} {t : Tr} (k : ByteArray) (hT : TreeAt w A t) (hx : ∀ x ∈ X, x < w.heap.size) (hno : NdOk t 2) :
    Calls Try.prog 7 #[pt A.tb, .string k] w (MadePost X w A t (Cl.new .fnd k 0) (.desc (t.toward 2 k) .find)) := by
  obtain ⟨wa, hwa⟩ : ∃ wa, wa = ((w.alloc (.cells #[pt A.tb] 24)).alloc (.cells #[.string k] 9)) := ⟨_, rfl⟩
  have hf : Fr [] w wa := by rw [hwa]; exact (((Fr.refl [] w).alloc _).alloc _)
  have b0 : wa.heap[w.heap.size]? = some (.cells #[pt A.tb] 24 (0, 0)) := by
    rw [hwa]; exact ((Fr.refl [] _).alloc _).keep (new_block w _) (by simp)
  have b1 : wa.heap[w.heap.size + 1]? = some (.cells #[.string k] 9 (0, 0)) := by
    rw [hwa]; exact new_block2 w _ _
  have HCL : Hid (Calls Try.prog 18 #[pt A.tb, .func (.func 19) #[] #[pt w.heap.size, pt (w.heap.size + 1)]] wa fun e w' => ∃ p, e = .returned (pt p) ∧ Hid ((MadePost X w A t (Cl.new .fnd k 0) (.desc (t.toward 2 k) .find)) (.returned (pt p)) w')) := Lib.hid ((call_fnd (X := X) w.heap.size (w.heap.size + 1) k (hT.keep0 hf) (fun x h => Nat.lt_of_lt_of_le (hx x h) hf.size) hno (by simpa using cell_block b0 0) (by simpa using cell_block b1 0)).mono (by
    intro e w' hp
    skip
    obtain ⟨A', a, V, rfl, k1, k2, k3, k4, k5, k6, k7⟩ := hp
    have hs := hf.size
    exact ⟨a.cb, rfl, Lib.hid ⟨A', a, V, rfl, k1, k2, k3, (hf.mono (by simp) : Fr A.foot w wa).trans k4 (fun x hx => Or.inl hx), fun x hx => (k5 x hx).imp id (fun h => by omega), fun x hx => (k6 x hx).imp id (fun h => by omega), by omega⟩⟩))
  obtain ⟨q0, q1⟩ : True ∧ True := ⟨trivial, trivial⟩
  have c0 := cell_block b0 0
  simp at c0
  have HWA := Lib.hid hwa
  clear hT hx hf b0 b1 hwa hno
  go_enter Try.func7, Try.ntmps7
  go_upto_region 1 with fail
  rw [← HWA.out]
  go_wp2_with (go_at_call 18; refine HCL.out.mono ?_; rintro e w2 ⟨p, rfl, HRR⟩)
  go_ret
  exact HRR.out

end Go.Proofs.Ytmhiolhgofackaa
namespace Go.Proofs.Ytmhiolhgofackaa
open Go.RowKit
set_option linter.unusedVariables false
set_option linter.unusedSimpArgs false

/-- so many steps at most, each one right, lead there -/
def OkRun : Nat → Tr → Cl → Stp → Tr → Cl → Prop
  | 0, _, _, _, _, _ => False
  | n + 1, t, c, s, t', c' => StepOk t c s ∧ Small t c ∧ match (stepP t c s).2.2 with
    | none => (stepP t c s).1 = t' ∧ (stepP t c s).2.1 = c'
    | some s' => OkRun n (stepP t c s).1 (stepP t c s).2.1 s' t' c'
/-- a call on its way -/
structure Way (X : List Nat) (w0 : World) (A0 : TA) (a0 : CA) (kd : Kd) (w : World) (A : TA) (a : CA) (t : Tr) (c : Cl) (V : Value) : Prop where
  cf : Cf X w A a t c V
  kk : c.kd = kd
  ext : Ext A0 A
  pv : ∃ pv, a = { a0 with pv := pv }
  fr : Fr (Both A0 a0 kd) w0 w
  new : ∀ x ∈ Both A a kd, x ∈ Both A0 a0 kd ∨ w0.heap.size ≤ x
theorem Way.step {X : List Nat} {w0 w w' : World} {A0 A : TA} {a0 a : CA} {kd : Kd} {t t' : Tr} {c : Cl} {o : Out} {V : Value} {e : Ending} (h : Way X w0 A0 a0 kd w A a t c V) (hp : StepPost X w A a kd t' o e w') :
    ∃ A' a' V', e = .returned (.bool o.2.isNone) ∧ Way X w0 A0 a0 kd w' A' a' t' o.1 V' ∧ OutV X w' A' a' kd V' o.2 ∧ Fr (Both A a kd) w w' ∧ Ext A A' ∧ a'.cb = a.cb := by
  obtain ⟨A', a', V', he, k1, k2, k3, k4, ⟨pv, rfl⟩, k5, k6⟩ := hp
  obtain ⟨pv0, hpv⟩ := h.pv
  refine ⟨A', _, V', he, ⟨k1, k3, h.ext.trans k4, ⟨pv, by rw [hpv]⟩, h.fr.trans k5 h.new, fun x hx => ?_⟩, k2, k5, k4, rfl⟩
  rcases k6 x hx with h1 | h1
  · exact h.new x h1
  · exact Or.inr (Nat.le_trans h.fr.size h1)
def RunPost (X : List Nat) (w : World) (A : TA) (a : CA) (kd : Kd) (t' : Tr) (c' : Cl) (e : Ending) (w' : World) : Prop :=
  ∃ A' a', e = .returned c'.ans.agg ∧ Way X w A a kd w' A' a' t' c' .nilFunc
theorem Cf.lt {X : List Nat} {w : World} {A : TA} {a : CA} {t : Tr} {c : Cl} {N : Value} (h : Cf X w A a t c N) : ∀ x ∈ Both A a c.kd, x < w.heap.size := fun x hx => (List.mem_append.1 hx).elim (h.tree.toTreeB.lt x) (h.call.lt x)
theorem Way.keepR {X : List Nat} {w0 w w' : World} {A0 A : TA} {a0 a : CA} {kd : Kd} {t : Tr} {c : Cl} {V : Value} {rb : Nat} {cur : Array Value} {f : Nat × Nat} (h : Way X w0 A0 a0 kd w A a t c V) (hf : Fr [rb] w w') (hb : w.heap[rb]? = some (.cells cur 71 f)) (hout : rb ∉ Both A a kd) (h0 : w0.heap.size ≤ rb ∨ rb ∈ Both A0 a0 kd) : Way X w0 A0 a0 kd w' A a t c V := by
  have hi : Iv X w w' := hf.iv (mut_one hb (imm_ty (by decide) (by decide)))
  refine ⟨⟨h.cf.tree.keep hf hi (fun k hk hm => ?_), h.cf.call.keep hf hi (fun k hk hm => ?_), fun x hx => Nat.lt_of_lt_of_le (h.cf.xs x hx) hf.size⟩, h.kk, h.ext, h.pv, h.fr.trans hf (fun x hx => ?_), h.new⟩
  · simp only [List.mem_singleton] at hm; subst hm; exact hout (List.mem_append_left _ hk)
  · simp only [List.mem_singleton] at hm; subst hm; rw [h.kk] at hk; exact hout (List.mem_append_right _ hk)
  · simp only [List.mem_singleton] at hx; subst hx; exact h0.symm
end Go.Proofs.Ytmhiolhgofackaa
