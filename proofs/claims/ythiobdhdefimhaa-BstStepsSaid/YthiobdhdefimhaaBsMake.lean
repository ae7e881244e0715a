/- PACKAGE bst: calls that are made (written by bst_make.py) -/
import Derived.Test.YthiobdhdefimhaaBsSim
namespace Go.Proofs.Ythiobdhdefimhaa
open Go.RowKit
set_option linter.unusedVariables false
set_option linter.unusedSimpArgs false

/-- blocks that are made one behind the other -/
def allocs (w : World) : List Obj → World
  | [] => w
  | o :: l => allocs (w.alloc o) l
theorem allocs_fr : ∀ (l : List Obj) (w : World), Fr [] w (allocs w l)
  | [], w => Fr.refl [] w
  | o :: l, w => ((Fr.refl [] w).alloc o).trans (T := []) (allocs_fr l (w.alloc o)) (by simp)
theorem allocs_get : ∀ (l : List Obj) (w : World) (i : Nat) (o : Obj), l[i]? = some o → (allocs w l).heap[w.heap.size + i]? = some o
  | q :: l, w, 0, o, h => by
    simp at h; subst h
    exact (allocs_fr l (w.alloc q)).keep (new_block w q) (by simp)
  | q :: l, w, i + 1, o, h => by
    have := allocs_get l (w.alloc q) i o (by simpa using h)
    simp only [World.size_alloc] at this
    rwa [show w.heap.size + 1 + i = w.heap.size + (i + 1) by omega] at this
/-- what is there of a call ahead of its first step -/
structure Born (w : World) (cb bc : Nat) : Prop where
  cbk : CallB w cb .nilFunc .no
  vc : w.heap[bc]? = some (.cells #[pt cb] 34 (0, 0))
theorem Born.keep {w w' : World} {cb bc : Nat} (h : Born w cb bc) (hf : Fr [] w w') : Born w' cb bc := ⟨hf.keep h.cbk (by simp), hf.keep h.vc (by simp)⟩
def Cl.new (kd : Kd) (k : ByteArray) (v : Int) : Cl := ⟨kd, k, v, [], false, none, .no⟩
/-- what making a call's first step leaves -/
def DoPost (X : List Nat) (w : World) (A : TA) (cb bc : Nat) (t : Tr) (c : Cl) (s : Stp) (e : Ending) (w' : World) : Prop :=
  ∃ A' a V, e = .returned V ∧ a.cb = cb ∧ a.bc = bc ∧ Cf X w' A' a t c .nilFunc ∧ OutV X w' A' a c.kd V (some s) ∧ Ext A A' ∧ Fr (cb :: A.foot) w w' ∧ (∀ x ∈ A'.foot, x ∈ A.foot ∨ w.heap.size ≤ x) ∧ (∀ x ∈ a.foot c.kd, x = cb ∨ x ∈ A.foot ∨ w.heap.size ≤ x)

set_option maxHeartbeats 2000000 in
theorem mk_insert (x bc : Nat) (k : ByteArray) (v : Int) (w : World) : Calls Try.prog 33 #[pt x, .string k, .int .u64 v, (.func (.func 43) #[] #[pt bc])] w fun e w' => e = .returned (.func (.func 51) #[] #[pt (w.heap.size), pt (w.heap.size + 1 + 1 + 1 + 1 + 1 + 1), pt (w.heap.size + 1 + 1 + 1 + 1 + 1)]) ∧ w' = allocs w [.cells #[pt x] 87 (0, 0), .cells #[.string k] 9 (0, 0), .cells #[.int .u64 v] 29 (0, 0), .cells #[(.func (.func 43) #[] #[pt bc])] 79 (0, 0), .cells #[pt x, .string k, .slice none 0 0, (.func (.func 62) #[] #[pt (w.heap.size + 1), pt (w.heap.size + 1 + 1 + 1), pt (w.heap.size + 1 + 1 + 1 + 1 + 1 + 1), pt (w.heap.size + 1 + 1 + 1 + 1 + 1), pt (w.heap.size + 1 + 1 + 1 + 1 + 1 + 1 + 1 + 1)])] 107 (0, 0), .cells #[pt (w.heap.size + 1 + 1 + 1 + 1)] 104 (0, 0), .cells #[.bool false] 4 (0, 0), .cells #[(.func (.func 51) #[] #[pt (w.heap.size), pt (w.heap.size + 1 + 1 + 1 + 1 + 1 + 1), pt (w.heap.size + 1 + 1 + 1 + 1 + 1)])] 80 (0, 0), .cells #[(.func (.func 54) #[] #[pt (w.heap.size), pt (w.heap.size + 1 + 1 + 1 + 1 + 1 + 1 + 1), pt (w.heap.size + 1), pt (w.heap.size + 1 + 1 + 1 + 1 + 1), pt (w.heap.size + 1 + 1), pt (w.heap.size + 1 + 1 + 1)])] 102 (0, 0)] := by
  go_enter Try.func33, Try.ntmps33
  go_wp2
  go_ret
  exact ⟨rfl, rfl⟩
theorem do_ins {X : List Nat} {w : World} {A : TA} {t : Tr} (cb bc : Nat) (k : ByteArray) (v : Int) (h : TreeAt w A t) (hb : Born w cb bc) (hx : ∀ x ∈ X, x < w.heap.size) (hcb : bc ∉ X) :
    Calls Try.prog 33 #[pt A.tb, .string k, .int .u64 v, (.func (.func 43) #[] #[pt bc])] w (DoPost X w A cb bc t (Cl.new .ins k v) .beg) := by
  refine (mk_insert A.tb bc k v w).mono ?_
  rintro e w' ⟨rfl, rfl⟩
  obtain ⟨L, hL⟩ : ∃ L, L = ([.cells #[pt A.tb] 87 (0, 0), .cells #[.string k] 9 (0, 0), .cells #[.int .u64 v] 29 (0, 0), .cells #[(.func (.func 43) #[] #[pt bc])] 79 (0, 0), .cells #[pt A.tb, .string k, .slice none 0 0, (.func (.func 62) #[] #[pt (w.heap.size + 1), pt (w.heap.size + 1 + 1 + 1), pt (w.heap.size + 1 + 1 + 1 + 1 + 1 + 1), pt (w.heap.size + 1 + 1 + 1 + 1 + 1), pt (w.heap.size + 1 + 1 + 1 + 1 + 1 + 1 + 1 + 1)])] 107 (0, 0), .cells #[pt (w.heap.size + 1 + 1 + 1 + 1)] 104 (0, 0), .cells #[.bool false] 4 (0, 0), .cells #[(.func (.func 51) #[] #[pt (w.heap.size), pt (w.heap.size + 1 + 1 + 1 + 1 + 1 + 1), pt (w.heap.size + 1 + 1 + 1 + 1 + 1)])] 80 (0, 0), .cells #[(.func (.func 54) #[] #[pt (w.heap.size), pt (w.heap.size + 1 + 1 + 1 + 1 + 1 + 1 + 1), pt (w.heap.size + 1), pt (w.heap.size + 1 + 1 + 1 + 1 + 1), pt (w.heap.size + 1 + 1), pt (w.heap.size + 1 + 1 + 1)])] 102 (0, 0)] : List Obj) := ⟨_, rfl⟩
  rw [← hL]
  have hf := allocs_fr L w
  have g := fun i o (hi : L[i]? = some o) => allocs_get L w i o hi
  have hc := hb.keep hf
  have va : ∀ i T u, L[i]? = some (.cells #[u] T (0, 0)) → (T ∈ immT ∨ T ∈ oneT) → Va X (allocs w L) (w.heap.size + i) T u := fun i T u hi ht => ⟨g i _ hi, fun hm => by have := hx _ hm; omega, ht⟩
  refine ⟨A, ⟨cb, w.heap.size + 4, bc, w.heap.size, w.heap.size + 1, w.heap.size + 2, w.heap.size + 3, w.heap.size + 5, w.heap.size + 6, w.heap.size + 7, w.heap.size + 8, .slice none 0 0⟩, _, rfl, rfl, rfl, ⟨h.keep0 hf, ⟨⟨⟨hc.vc, hcb, by decide⟩, va 3 _ _ (by rw [hL]; rfl) (by decide), va 1 _ _ (by rw [hL]; rfl) (by decide), fun _ => va 0 _ _ (by rw [hL]; rfl) (by decide), fun _ => va 5 _ _ (by rw [hL]; rfl) (by decide), fun _ => ⟨va 2 _ _ (by rw [hL]; rfl) (by decide), va 7 _ _ (by rw [hL]; rfl) (by decide), va 8 _ _ (by rw [hL]; rfl) (by decide)⟩, (fun e => by cases e), (fun e => by cases e)⟩, hc.cbk, fun _ => ⟨g 4 _ (by rw [hL]; rfl), ⟨rfl, Or.inl ⟨rfl, rfl⟩⟩⟩, fun _ => g 6 _ (by rw [hL]; rfl), (fun e => by cases e)⟩, fun x hx' => Nat.lt_of_lt_of_le (hx x hx') hf.size⟩, rfl, Ext.refl A, hf.mono (by simp), fun x hx => Or.inl hx, fun x hx => ?_⟩
  simp [Cl.new, CA.foot, WayAt.foot, Value.ownBlock] at hx
  rcases hx with rfl | rfl | rfl
  · exact Or.inl rfl
  · exact Or.inr (Or.inr (by omega))
  · exact Or.inr (Or.inr (by omega))

theorem lt_ne {X : List Nat} {n : Nat} (hx : ∀ x ∈ X, x < n) (i : Nat) : ∀ x ∈ X, x ≠ n + i := fun x h => by have := hx x h; omega
set_option maxHeartbeats 4000000 in
theorem do_rem {X : List Nat} {w : World} {A : TA} {t : Tr} (cb bc : Nat) (k : ByteArray) (h : TreeAt w A t) (hb : Born w cb bc) (hx : ∀ x ∈ X, x < w.heap.size) (hcb : bc ∉ X) (hno : NdOk t 2) :
    Calls Try.prog 37 #[pt A.tb, .string k, (.func (.func 43) #[] #[pt bc])] w (DoPost X w A cb bc t (Cl.new .rem k 0).start (.desc (t.toward 2 k) .way)) := by
  obtain ⟨L, hL⟩ : ∃ L, L = ([.cells #[pt A.tb] 87 (0, 0), .cells #[.string k] 9 (0, 0), .cells #[(.func (.func 43) #[] #[pt bc])] 79 (0, 0), .cells #[pt A.tb, .string k, .slice none 0 0, (.func (.func 71) #[] #[pt (w.heap.size + 1), pt (w.heap.size + 1 + 1), pt (w.heap.size + 1 + 1 + 1 + 1), pt (w.heap.size + 1 + 1 + 1 + 1 + 1)])] 107 (0, 0), .cells #[pt (w.heap.size + 1 + 1 + 1)] 104 (0, 0), .cells #[(.func (.func 66) #[] #[pt (w.heap.size + 1 + 1 + 1 + 1), pt (w.heap.size + 1), pt (w.heap.size), pt (w.heap.size + 1 + 1)])] 102 (0, 0)] : List Obj) := ⟨_, rfl⟩
  have hf := allocs_fr L w
  have g := fun i o (hi : L[i]? = some o) => allocs_get L w i o hi
  have hc := hb.keep hf
  have va : ∀ i T u, L[i]? = some (.cells #[u] T (0, 0)) → (T ∈ immT ∨ T ∈ oneT) → (∀ x ∈ X, x ≠ w.heap.size + i) → Va X (allocs w L) (w.heap.size + i) T u := fun i T u hi ht hxx => ⟨g i _ hi, fun hm => hxx _ hm rfl, ht⟩

  obtain ⟨a, ha⟩ : ∃ a : CA, a = ⟨cb, w.heap.size + 3, bc, w.heap.size, w.heap.size + 1, 0, w.heap.size + 2, w.heap.size + 4, 0, 0, w.heap.size + 5, .slice none 0 0⟩ := ⟨_, rfl⟩
  have hcf : Cf X (allocs w L) A a t (Cl.new .rem k 0) .nilFunc := by
    rw [ha]
    exact ⟨h.keep0 hf, ⟨⟨⟨hc.vc, hcb, by decide⟩, va 2 _ _ (by rw [hL]; rfl) (by decide) (lt_ne hx _), va 1 _ _ (by rw [hL]; rfl) (by decide) (lt_ne hx _), fun _ => va 0 _ _ (by rw [hL]; rfl) (by decide) (lt_ne hx _), fun _ => va 4 _ _ (by rw [hL]; rfl) (by decide) (lt_ne hx _), (fun e => by cases e), fun _ => va 5 _ _ (by rw [hL]; rfl) (by decide) (lt_ne hx _), (fun e => by cases e)⟩, hc.cbk, fun _ => ⟨g 3 _ (by rw [hL]; rfl), ⟨rfl, Or.inl ⟨rfl, rfl⟩⟩⟩, (fun e => by cases e), (fun e => by cases e)⟩, fun x hx' => Nat.lt_of_lt_of_le (hx x hx') hf.size⟩
  have hbg := bt_begin hcf (kd := .rem) rfl (Or.inr rfl) hno
  have hpost : ∀ e w', Post X (allocs w L) A a .rem .nilFunc t ((Cl.new .rem k 0).start, some (.desc (t.toward 2 k) .way)) e w' → ∃ V, e = .returned V ∧ Hid (DoPost X w A cb bc t (Cl.new .rem k 0).start (.desc (t.toward 2 k) .way) (.returned V) w') := by
    rintro e w' ⟨A', a', V, rfl, k1, k2, k3, k4, ⟨pv, rfl⟩, k5, k6⟩
    have hbig : ∀ x ∈ a.foot .rem, x = cb ∨ w.heap.size ≤ x := by
      intro x hx
      rw [ha] at hx
      simp [CA.foot, WayAt.foot, Value.ownBlock] at hx
      rcases hx with rfl | rfl
      · exact Or.inl rfl
      · exact Or.inr (by omega)
    refine ⟨V, rfl, Lib.hid ⟨A', { a with pv := pv }, V, rfl, by rw [ha], by rw [ha], k1, k2, k4, ?_, fun x hx => ?_, fun x hx => ?_⟩⟩
    · refine (hf.mono (by simp) : Fr (cb :: A.foot) w (allocs w L)).trans k5 (fun x hx => ?_)
      rcases List.mem_append.1 hx with h2 | h2
      · exact Or.inl (List.mem_cons_of_mem _ h2)
      · rcases hbig x h2 with rfl | h3
        · exact Or.inl (by simp)
        · exact Or.inr h3
    · rcases k6 x (List.mem_append_left _ hx) with h1 | h1
      · rcases List.mem_append.1 h1 with h2 | h2
        · exact Or.inl h2
        · rcases hbig x h2 with rfl | h3
          · refine absurd hx (k1.call.sep k1.tree _ ?_)
            have h1 : a.cb = x := by rw [ha]
            exact Eq.subst (motive := fun y => y ∈ CA.foot ({ a with pv := pv } : CA) .rem) h1 (CA.cb_in ({ a with pv := pv } : CA) .rem)
          · exact Or.inr h3
      · exact Or.inr (Nat.le_trans hf.size h1)
    · rcases k6 x (List.mem_append_right _ hx) with h1 | h1
      · rcases List.mem_append.1 h1 with h2 | h2
        · exact Or.inr (Or.inl h2)
        · exact (hbig x h2).imp id Or.inr
      · exact Or.inr (Or.inr (Nat.le_trans hf.size h1))
  have hwb : a.wb = w.heap.size + 3 := by rw [ha]
  rw [hwb] at hbg
  rw [hL] at hbg hpost
  simp only [allocs] at hbg hpost
  have HBG := Lib.hid hbg
  have HPO := Lib.hid hpost
  clear hbg hpost hcf ha va g hc hf hL hwb h hb hx hcb hno
  go_enter Try.func37, Try.ntmps37
  go_wp2_with (go_at_call 53; refine HBG.out.mono ?_; rintro e w2 hp2; obtain ⟨V, rfl, HRR⟩ := HPO.out _ _ hp2; clear hp2)
  go_ret
  exact HRR.out

theorem DoPost.of {X : List Nat} {w W w' : World} {A : TA} {a : CA} {kd : Kd} {cb bc : Nat} {t : Tr} {c : Cl} {s : Stp} {e : Ending} (hp : Post X W A a kd .nilFunc t (c, some s) e w') (hk : c.kd = kd) (hcb : a.cb = cb) (hbc : a.bc = bc) (hf : Fr (cb :: A.foot) w W) (hfoot : ∀ x ∈ a.foot kd, x = cb ∨ x ∈ A.foot ∨ w.heap.size ≤ x) :
    ∃ V, e = .returned V ∧ Hid (DoPost X w A cb bc t c s (.returned V) w') := by
  obtain ⟨A', a', V, rfl, k1, k2, k3, k4, ⟨pv, rfl⟩, k5, k6⟩ := hp
  refine ⟨V, rfl, Lib.hid ⟨A', { a with pv := pv }, V, rfl, hcb, hbc, k1, by rw [hk]; exact k2, k4, ?_, fun x hx => ?_, fun x hx => ?_⟩⟩
  · refine hf.trans k5 (fun x hx => ?_)
    rcases List.mem_append.1 hx with h2 | h2
    · exact Or.inl (List.mem_cons_of_mem _ h2)
    · rcases hfoot x h2 with rfl | h3 | h3
      · exact Or.inl (by simp)
      · exact Or.inl (List.mem_cons_of_mem _ h3)
      · exact Or.inr h3
  · rcases k6 x (List.mem_append_left _ hx) with h1 | h1
    · rcases List.mem_append.1 h1 with h2 | h2
      · exact Or.inl h2
      · rcases hfoot x h2 with h3 | h3 | h3
        · have h4 : a.cb = x := hcb.trans h3.symm
          refine absurd hx (k1.call.sep k1.tree _ ?_)
          exact Eq.subst (motive := fun y => y ∈ CA.foot ({ a with pv := pv } : CA) c.kd) h4 (CA.cb_in ({ a with pv := pv } : CA) c.kd)
        · exact Or.inl h3
        · exact Or.inr h3
    · exact Or.inr (Nat.le_trans hf.size h1)
  · rw [hk] at hx
    rcases k6 x (List.mem_append_right _ hx) with h1 | h1
    · rcases List.mem_append.1 h1 with h2 | h2
      · exact Or.inr (Or.inl h2)
      · exact hfoot x h2
    · exact Or.inr (Or.inr (Nat.le_trans hf.size h1))

set_option maxHeartbeats 4000000 in
theorem do_fnd {X : List Nat} {w : World} {A : TA} {t : Tr} (cb bc : Nat) (k : ByteArray) (h : TreeAt w A t) (hb : Born w cb bc) (hx : ∀ x ∈ X, x < w.heap.size) (hcb : bc ∉ X) (hno : NdOk t 2) :
    Calls Try.prog 35 #[pt A.tb, .string k, (.func (.func 43) #[] #[pt bc])] w (DoPost X w A cb bc t (Cl.new .fnd k 0) (.desc (t.toward 2 k) .find)) := by
  obtain ⟨L, hL⟩ : ∃ L, L = ([.cells #[.string k] 9 (0, 0), .cells #[(.func (.func 43) #[] #[pt bc])] 79 (0, 0)] : List Obj) := ⟨_, rfl⟩
  have hf := allocs_fr L w
  have g := fun i o (hi : L[i]? = some o) => allocs_get L w i o hi
  have hc := hb.keep hf
  have va : ∀ i T u, L[i]? = some (.cells #[u] T (0, 0)) → (T ∈ immT ∨ T ∈ oneT) → (∀ x ∈ X, x ≠ w.heap.size + i) → Va X (allocs w L) (w.heap.size + i) T u := fun i T u hi ht hxx => ⟨g i _ hi, fun hm => hxx _ hm rfl, ht⟩

  obtain ⟨a, ha⟩ : ∃ a : CA, a = ⟨cb, 0, bc, 0, w.heap.size, 0, w.heap.size + 1, 0, 0, 0, 0, .slice none 0 0⟩ := ⟨_, rfl⟩
  have hcf : Cf X (allocs w L) A a t (Cl.new .fnd k 0) .nilFunc := by
    rw [ha]
    exact ⟨h.keep0 hf, ⟨⟨⟨hc.vc, hcb, by decide⟩, va 1 _ _ (by rw [hL]; rfl) (by decide) (lt_ne hx _), va 0 _ _ (by rw [hL]; rfl) (by decide) (lt_ne hx _), fun e => absurd rfl e, (fun e => by rcases e with e | e <;> cases e), (fun e => by cases e), (fun e => by cases e), (fun e => by cases e)⟩, hc.cbk, (fun e => by rcases e with e | e <;> cases e), (fun e => by cases e), (fun e => by cases e)⟩, fun x hx' => Nat.lt_of_lt_of_le (hx x hx') hf.size⟩
  have hfc : ∀ W, Fr [] w W → Fr (cb :: A.foot) w W := fun W hW => hW.mono (by simp)
  have HTW : Hid (Calls Try.prog 64 #[A.np 2, pt a.b1] (allocs w L) fun e w1 => e = .returned (t.toward 2 k).agg ∧ ∀ W, Fr [] w1 W → Calls Try.prog 48 #[pt A.tb, (t.toward 2 k).agg, fn 64 [a.b1], fn 65 [a.b1, a.b3]] W fun e w' => ∃ V, e = .returned V ∧ Hid (DoPost X w A cb bc t (Cl.new .fnd k 0) (.desc (t.toward 2 k) .find) (.returned V) w')) := Lib.hid ((tow_find hcf (kd := .fnd) rfl 2 hno).mono (by
    rintro e w1 ⟨a', ⟨pv, rfl⟩, rfl, k1, k2, k3, k4⟩
    refine ⟨rfl, fun W hW => ?_⟩
    refine (bt_desc (a := { a with pv := pv }) (k1.keep0 hW) (kd := .fnd) rfl (t.toward 2 k) .find).mono fun e w' hp => ?_
    refine DoPost.of hp rfl (by rw [ha]) (by rw [ha]) ?_ ?_
    · have h1 : Fr (cb :: A.foot) w w1 := (hf.mono (by simp)).trans k3 (fun x hx => by rw [ha] at hx; simp [CA.foot] at hx; exact Or.inl (by simp [hx]))
      exact h1.trans (T := []) hW (by simp)
    · intro x hx
      rw [ha] at hx
      simp [CA.foot] at hx
      exact Or.inl hx))
  have htop : A.np 2 = pt (A.nb.getD 2 0) := rfl
  obtain ⟨_, _, q2, _⟩ := tree_cells (h.keep0 hf).toTreeB
  rw [(h.keep0 hf).top] at q2
  rw [htop] at q2 HTW
  have hb1 : a.b1 = w.heap.size := by rw [ha]
  have hb3 : a.b3 = w.heap.size + 1 := by rw [ha]
  rw [hb1, hb3, hL] at HTW
  rw [hL] at q2
  simp only [allocs] at HTW q2
  unfold fn Br.agg at HTW
  simp only [List.map_cons, List.map_nil] at HTW
  clear hcf ha va g hc hf hL hb1 hb3 h hb hx hcb hno htop hfc
  go_enter Try.func35, Try.ntmps35
  go_wp2_with (go_at_call 64; refine HTW.out.mono ?_; rintro e w1 ⟨rfl, hds⟩; have HDS := Lib.hid (hds _ (Fr.refl _ _)); clear hds; refine go_stop ?_)
  unfold Stop
  clear q2
  go_wp2_with (go_at_call 48; refine HDS.out.mono ?_; rintro e w2 ⟨V, rfl, HRR⟩)
  go_ret
  exact HRR.out

set_option maxHeartbeats 4000000 in
theorem do_sek {X : List Nat} {w : World} {A : TA} {t : Tr} (cb bc : Nat) (k : ByteArray) (h : TreeAt w A t) (hb : Born w cb bc) (hx : ∀ x ∈ X, x < w.heap.size) (hcb : bc ∉ X) (hno : NdOk t 2) :
    Calls Try.prog 31 #[pt A.tb, .string k, (.func (.func 43) #[] #[pt bc])] w (DoPost ((w.heap.size + 3) :: X) w A cb bc t (if (t.nd 2).above k then { Cl.new .sek k 0 with over := some 2 } else Cl.new .sek k 0) (.desc (t.toward 2 k) .seek)) := by
  obtain ⟨L, hL⟩ : ∃ L, L = ([.cells #[pt A.tb] 87 (0, 0), .cells #[.string k] 9 (0, 0), .cells #[(.func (.func 43) #[] #[pt bc])] 79 (0, 0), .cells #[.pointer none] 63 (0, 0), .cells #[(.func (.func 47) #[] #[pt (w.heap.size + 1 + 1)])] 102 (0, 0)] : List Obj) := ⟨_, rfl⟩
  have hf := allocs_fr L w
  have g := fun i o (hi : L[i]? = some o) => allocs_get L w i o hi
  have hc := hb.keep hf
  have va : ∀ i T u, L[i]? = some (.cells #[u] T (0, 0)) → (T ∈ immT ∨ T ∈ oneT) → (∀ x ∈ ((w.heap.size + 3) :: X), x ≠ w.heap.size + i) → Va ((w.heap.size + 3) :: X) (allocs w L) (w.heap.size + i) T u := fun i T u hi ht hxx => ⟨g i _ hi, fun hm => hxx _ hm rfl, ht⟩

  have hbc := lt_of_block hb.vc
  have hxx : ∀ i, i ≠ 3 → ∀ x ∈ (w.heap.size + 3) :: X, x ≠ w.heap.size + i := fun i hi x hm => by
    rcases List.mem_cons.1 hm with rfl | hm
    · omega
    · have := hx x hm; omega
  obtain ⟨a, ha⟩ : ∃ a : CA, a = ⟨cb, 0, bc, w.heap.size, w.heap.size + 1, 0, w.heap.size + 2, 0, w.heap.size + 3, 0, w.heap.size + 4, .slice none 0 0⟩ := ⟨_, rfl⟩
  have hcf : Cf ((w.heap.size + 3) :: X) (allocs w L) A a t (Cl.new .sek k 0) .nilFunc := by
    rw [ha]
    refine ⟨h.keep0 hf, ⟨⟨⟨hc.vc, fun hm => ?_, by decide⟩, va 2 _ _ (by rw [hL]; rfl) (by decide) (hxx 2 (by decide)), va 1 _ _ (by rw [hL]; rfl) (by decide) (hxx 1 (by decide)), fun _ => va 0 _ _ (by rw [hL]; rfl) (by decide) (hxx 0 (by decide)), (fun e => by rcases e with e | e <;> cases e), (fun e => by cases e), (fun e => by cases e), fun _ => va 4 _ _ (by rw [hL]; rfl) (by decide) (hxx 4 (by decide))⟩, hc.cbk, (fun e => by rcases e with e | e <;> cases e), (fun e => by cases e), fun _ => ⟨g 3 _ (by rw [hL]; rfl), by simp⟩⟩, fun x hx' => ?_⟩
    · rcases List.mem_cons.1 hm with h1 | h1
      · dsimp only at h1; omega
      · exact hcb h1
    · have h5 := lt_of_block (g 3 _ (by rw [hL]; rfl))
      rcases List.mem_cons.1 hx' with rfl | h1
      · exact h5
      · exact Nat.lt_of_lt_of_le (hx x h1) hf.size
  have hto : (Cl.toward t (Cl.new .sek k 0) 2 .seek).1 = (if (t.nd 2).above k then { Cl.new .sek k 0 with over := some 2 } else Cl.new .sek k 0) := rfl
  have hkd : (if (t.nd 2).above k then { Cl.new .sek k 0 with over := some 2 } else Cl.new .sek k 0 : Cl).kd = .sek := by split <;> rfl
  obtain ⟨c1, hc1⟩ : ∃ c1 : Cl, c1 = (if (t.nd 2).above k then { Cl.new .sek k 0 with over := some 2 } else Cl.new .sek k 0) := ⟨_, rfl⟩
  rw [← hc1] at hto hkd ⊢
  have hb1 : a.b1 = w.heap.size + 1 := by rw [ha]
  have hb3 : a.b3 = w.heap.size + 2 := by rw [ha]
  have hb0 : a.b0 = w.heap.size := by rw [ha]
  have hb5 : a.b5 = w.heap.size + 3 := by rw [ha]
  have hb7 : a.b7 = w.heap.size + 4 := by rw [ha]
  have htop : A.np 2 = pt (A.nb.getD 2 0) := rfl
  have HTW : Hid (∀ W0, Fr [] (allocs w L) W0 → Calls Try.prog 44 #[A.np 2, pt a.b1, pt a.b5] W0 fun e w1 => e = .returned (t.toward 2 k).agg ∧ w1.cell? ⟨a.b0, 0, none⟩ = some (pt A.tb) ∧ w1.cell? ⟨A.tb, 2, none⟩ = some (pt (A.nb.getD 2 0)) ∧ ∀ W, Fr [] w1 W → Calls Try.prog 48 #[pt A.tb, (t.toward 2 k).agg, fn 44 [a.b1, a.b5], fn 49 [a.b1, a.b7, a.b0, a.b5]] W fun e w' => (∃ V, e = .returned V ∧ Hid (DoPost ((w.heap.size + 3) :: X) w A cb bc t c1 (.desc (t.toward 2 k) .seek) (.returned V) w')) ∧ w'.cell? ⟨a.b0, 0, none⟩ = some (pt A.tb) ∧ w'.cell? ⟨A.tb, 2, none⟩ = some (pt (A.nb.getD 2 0))) := Lib.hid fun W0 hW0 => ((tow_seek (hcf.keep0 hW0) rfl 2 hno).mono (by
    rintro e w1 ⟨a', ⟨pv, rfl⟩, rfl, k1, k2, k3, k4⟩
    rw [hto] at k1
    have cells : ∀ W, Cf ((w.heap.size + 3) :: X) W A { a with pv := pv } t c1 .nilFunc → W.cell? ⟨a.b0, 0, none⟩ = some (pt A.tb) ∧ W.cell? ⟨A.tb, 2, none⟩ = some (pt (A.nb.getD 2 0)) := fun W hW => by
      obtain ⟨_, _, y2, _⟩ := tree_cells hW.tree.toTreeB
      rw [hW.tree.top, htop] at y2
      exact ⟨(hW.call.ctx.vx (by rw [hkd]; decide)).cell, y2⟩
    refine ⟨rfl, (cells _ k1).1, (cells _ k1).2, fun W hW => ?_⟩
    refine (bt_desc0 (a := { a with pv := pv }) (k1.keep0 hW) (kd := .sek) hkd (t.toward 2 k) .seek).mono fun e w' hp => ?_
    refine ⟨DoPost.of hp.1 hkd (by rw [ha]) (by rw [ha]) ?_ ?_, cells _ ((k1.keep0 hW).keep0 hp.2)⟩
    · have h0 : Fr [] w W0 := hf.trans hW0 (by simp)
      have h1 : Fr (cb :: A.foot) w w1 := (h0.mono (by simp)).trans k3 (fun x hx => by rw [ha] at hx; simp [CA.foot] at hx; rcases hx with rfl | rfl; exact Or.inl (by simp); exact Or.inr (by omega))
      exact h1.trans (T := []) hW (by simp)
    · intro x hx
      rw [ha] at hx
      simp [CA.foot] at hx
      rcases hx with rfl | rfl
      · exact Or.inl rfl
      · exact Or.inr (Or.inr (by omega))))
  obtain ⟨_, _, q2, _⟩ := tree_cells (h.keep0 hf).toTreeB
  rw [(h.keep0 hf).top] at q2
  rw [htop] at q2 HTW
  have v0 := (hcf.call.ctx.vx (by intro e; cases e)).cell
  rw [hb0, hb1, hb5, hb7] at HTW
  rw [hb0] at v0
  obtain ⟨w1, hw1⟩ : ∃ w1, w1 = allocs w L := ⟨_, rfl⟩
  rw [← hw1] at HTW q2 v0
  have HW1 : Hid (w1 = allocs w ([.cells #[pt A.tb] 87 (0, 0), .cells #[.string k] 9 (0, 0), .cells #[(.func (.func 43) #[] #[pt bc])] 79 (0, 0), .cells #[.pointer none] 63 (0, 0), .cells #[(.func (.func 47) #[] #[pt (w.heap.size + 1 + 1)])] 102 (0, 0)] : List Obj)) := Lib.hid (by rw [hw1, hL])
  have hwe := HW1.out
  simp only [allocs] at hwe
  have HWE := Lib.hid hwe
  unfold fn Br.agg at HTW
  simp only [List.map_cons, List.map_nil] at HTW
  clear hcf ha va g hc hf hL hb0 hb1 hb3 hb5 hb7 h hb hx hcb hno htop hxx hto hkd hc1 hw1 HW1 hwe
  go_enter Try.func31, Try.ntmps31
  go_upto_region 4 with fail
  try rw [← HWE.out]
  go_region_held3 (fun W => W.cell? ⟨w.heap.size, 0, none⟩ = some (pt A.tb) ∧ W.cell? ⟨A.tb, 2, none⟩ = some (pt (A.nb.getD 2 0))) (go_keep)
    (first
      | (go_at_call 44; refine (HTW.out _ (Fr.refl [] w1).drew).mono ?_; rintro e w2 ⟨rfl, x0, x2, hds⟩
         have HDS := Lib.hid hds
         clear hds)
      | (go_at_call 48; refine (HDS.out _ (by first | exact Fr.refl [] _ | exact (Fr.refl [] _).drew)).mono ?_; rintro e w4 ⟨⟨V, rfl, HRR⟩, x0, x2⟩))
  all_goals go_wp2
  all_goals go_ret
  all_goals exact HRR.out
end Go.Proofs.Ythiobdhdefimhaa
